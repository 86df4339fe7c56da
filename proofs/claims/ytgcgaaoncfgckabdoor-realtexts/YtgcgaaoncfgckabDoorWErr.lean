/- The walks of the library's public ParseUint at base sixteen and ParseInt at base ten: at every text they answer. -/
import Derived.Test.YtgcgaaoncfgckabDoorWUint
import Derived.Test.YtgcgaaoncfgckabDoorShelf2
import Derived.Shelf.Strconv.ErrVarParseInt
import Derived.Lib.SmallJoins
import Derived.Lib.AtoiErrMem
namespace Go.Proofs.YtgcgaaoncfgckabDoor
open Go.RowKit

/-- the library's two errors lie as their initialisers lay them: each is some error -/
def Sen (w : World) : Prop := (∃ tp p, w.var? Tryd.prog "strconv.ErrSyntax" = some #[.iface tp p]) ∧ (∃ tq q, w.var? Tryd.prog "strconv.ErrRange" = some #[.iface tq q])

theorem gSyn : Tryd.prog.globalNamed "strconv.ErrSyntax" = some 2 := by kernel_rfl
theorem gRan : Tryd.prog.globalNamed "strconv.ErrRange" = some 3 := by kernel_rfl

theorem sen_on {w w' : World} (h : Sen w) (hb : Below w.heap.size w w') : Sen w' := by
  obtain ⟨⟨tp, p, h1⟩, ⟨tq, q, h2⟩⟩ := h
  exact ⟨⟨tp, p, Joins.var_stays gSyn h1 hb (Nat.le_refl _)⟩, ⟨tq, q, Joins.var_stays gRan h2 hb (Nat.le_refl _)⟩⟩

/-- an error, or none -/
def ErrOut (v : Value) : Prop := v = .nilIface ∨ ∃ N, v = .iface 77 (.pointer (some ⟨N, 0, none⟩))

theorem toError_any (fn s : ByteArray) (base bits : Int) (er : Value) (he : er = .iface 74 (.int .i64 1) ∨ er = .iface 74 (.int .i64 2)) (w : World) (hlim : s.size ≤ 281474976710656) (hs : Sen w) :
    Calls Tryd.prog 33 #[.string fn, .string s, .int .i64 base, .int .i64 bits, er] w fun e w' => ∃ N, e = .returned (.iface 77 (.pointer (some ⟨N, 0, none⟩))) ∧ Below w.heap.size w w' := by
  obtain ⟨⟨tp, p, h1⟩, ⟨tq, q, h2⟩⟩ := hs
  rcases he with rfl | rfl
  · have hv : w.cell? ⟨3, 0, none⟩ = some (.iface tq q) := by
      have := World.var?_cell gRan h2 0
      simpa using this
    refine (Tryd.strconv_toError_range fn s base bits (.iface tq q) w hlim hv (.inr ⟨tq, q, rfl⟩)).mono ?_
    rintro e w' ⟨N, rfl, _, _, hb⟩
    exact ⟨N, rfl, hb⟩
  · have hv : w.cell? ⟨2, 0, none⟩ = some (.iface tp p) := by
      have := World.var?_cell gSyn h1 0
      simpa using this
    refine (Tryd.strconv_toError_syntax fn s base bits (.iface tp p) w hlim hv (.inr ⟨tp, p, rfl⟩)).mono ?_
    rintro e w' ⟨N, rfl, _, _, hb⟩
    exact ⟨N, rfl, hb⟩

theorem inParseUint_all (t : ByteArray) (hmax : t.size ≤ 9223372036854775806) (w : World) :
    Calls Tryd.prog 32 #[.string t, .int .i64 16, .int .i64 64] w fun e w' =>
      ∃ (v : Int) (er : Value), e = .returned (.tuple #[.int .u64 v, er]) ∧ 0 ≤ v ∧ v < 18446744073709551616 ∧ ErrIn er ∧ (∀ u : Nat, u < 18446744073709551616 → t.data.toList = Hex.digits u 16 → v = (u : Int) ∧ er = .nilIface) ∧ Below w.heap.size w w' := by
  by_cases h0 : t.size = 0
  · have ht : t = ⟨#[]⟩ := by
      obtain ⟨⟨l⟩⟩ := t
      cases l with
      | nil => rfl
      | cons _ _ => simp [ByteArray.size] at h0
    subst ht
    refine (inParseUint_empty w).mono ?_
    rintro e w' ⟨rfl, rfl⟩
    exact ⟨0, _, rfl, by omega, by omega, .inr (.inr rfl), fun u _ hb => absurd hb.symm (digits_ne_nil u), Below.refl _ _⟩
  · refine (inParseUint_16 t h0 hmax w).mono ?_
    rintro e w' ⟨⟨v, er, rfl, h1, h2, h3, h4⟩, rfl⟩
    exact ⟨v, er, rfl, h1, h2, h3, h4, Lib.bytesWorld_below w 5 t⟩

set_option maxHeartbeats 1000000 in
theorem parseUint_16 (t : ByteArray) (hlim : t.size ≤ 281474976710656) (w : World) (hs : Sen w) :
    Calls Tryd.prog 25 #[.string t, .int .i64 16, .int .i64 64] w fun e w' =>
      ∃ (v : Int) (er : Value), e = .returned (.tuple #[.int .u64 v, er]) ∧ 0 ≤ v ∧ v < 18446744073709551616 ∧ ErrOut er ∧ (∀ u : Nat, u < 18446744073709551616 → t.data.toList = Hex.digits u 16 → v = (u : Int) ∧ er = .nilIface) ∧ Below w.heap.size w w' := by
  have HS := Lib.hid hs
  have HL := Lib.hid hlim
  have II := Lib.hid (inParseUint_all t (by omega))
  clear hs hlim
  go_enter Tryd.func25, Tryd.ntmps25
  go_wp2_with fail
  refine (II.out _).mono ?_
  rintro e w1 ⟨v, er, rfl, h1, h2, h3, h4, hb⟩
  have HB := Lib.hid hb
  clear hb
  rcases h3 with rfl | rfl | rfl
  · have H4 : Hid (∀ u : Nat, u < 18446744073709551616 → t.data.toList = Hex.digits u 16 → v = (u : Int)) := fun u hu hb => (h4 u hu hb).1
    clear h4
    go_wp2
    go_ret2
    exact ⟨v, _, rfl, h1, h2, .inl rfl, fun u hu hb => ⟨H4.out u hu hb, rfl⟩, HB.out⟩
  · have H4 : Hid (∀ u : Nat, u < 18446744073709551616 → t.data.toList = Hex.digits u 16 → False) := fun u hu hb => by
      have := (h4 u hu hb).2
      cases this
    clear h4
    go_wp2_with fail
    refine (toError_any _ _ _ _ _ (.inl rfl) _ HL.out (sen_on HS.out HB.out)).mono ?_
    rintro e w2 ⟨N, rfl, hb2⟩
    have HB2 := Lib.hid hb2
    clear hb2
    go_wp2
    go_ret2
    exact ⟨v, _, rfl, h1, h2, .inr ⟨N, rfl⟩, fun u hu hb => (H4.out u hu hb).elim, HB.out.trans (HB2.out.mono HB.out.size)⟩
  · have H4 : Hid (∀ u : Nat, u < 18446744073709551616 → t.data.toList = Hex.digits u 16 → False) := fun u hu hb => by
      have := (h4 u hu hb).2
      cases this
    clear h4
    go_wp2_with fail
    refine (toError_any _ _ _ _ _ (.inr rfl) _ HL.out (sen_on HS.out HB.out)).mono ?_
    rintro e w2 ⟨N, rfl, hb2⟩
    have HB2 := Lib.hid hb2
    clear hb2
    go_wp2
    go_ret2
    exact ⟨v, _, rfl, h1, h2, .inr ⟨N, rfl⟩, fun u hu hb => (H4.out u hu hb).elim, HB.out.trans (HB2.out.mono HB.out.size)⟩

/-- ParseInt at base ten and 64 bits, at every text -/
theorem parseInt_any (s : ByteArray) (hlim : s.size ≤ 281474976710656) (w : World) (hs : Sen w) :
    Calls Tryd.prog 26 #[.string s, .int .i64 10, .int .i64 64] w fun e w' =>
      ∃ (v : Int) (er : Value), e = .returned (.tuple #[.int .i64 v, er]) ∧ ErrOut er ∧ (∀ n : Int, Lib.parseIntB 64 s.data.toList = .ok n → v = n ∧ er = .nilIface) ∧ Below w.heap.size w w' := by
  obtain ⟨⟨tp, p, h1⟩, ⟨tq, q, h2⟩⟩ := hs
  cases h : Lib.parseIntB 64 s.data.toList
  · rename_i n
    refine (Tryd.strconv_ParseInt_10_at64_ok s (by omega) n h w).mono ?_
    rintro e w' ⟨rfl, hg⟩
    refine ⟨n, _, rfl, .inl rfl, fun m hm => ⟨by cases hm; rfl, rfl⟩, ?_⟩
    rcases hg with rfl | ⟨t, rfl⟩
    · exact Below.refl _ _
    · exact Lib.bytesWorld_below w 5 t
  · have c : Calls Tryd.prog 26 #[.string s, .int .i64 10, .int .i64 64] w fun e w' => ∃ N, e = .returned (.tuple #[.int .i64 (0), .iface 77 (.pointer (some ⟨N, 0, none⟩))]) ∧ w.heap.size ≤ N ∧ w'.heap[N]? = some (.cells #[.string ⟨#[80, 97, 114, 115, 101, 73, 110, 116]⟩, .string s, .iface tp p] 94 (0, 0)) ∧ Below w.heap.size w w' := Any.strconv_ParseInt_10_at64_syntax_var Tryd.laysC174 s hlim h tp p w h1
    refine c.mono ?_
    rintro e w' ⟨N, rfl, _, _, hb⟩
    exact ⟨0, _, rfl, .inr ⟨N, rfl⟩, (fun m hm => by cases hm), hb⟩
  · have c : Calls Tryd.prog 26 #[.string s, .int .i64 10, .int .i64 64] w fun e w' => ∃ N, e = .returned (.tuple #[.int .i64 (Lib.intSat 64 s.data.toList), .iface 77 (.pointer (some ⟨N, 0, none⟩))]) ∧ w.heap.size ≤ N ∧ w'.heap[N]? = some (.cells #[.string ⟨#[80, 97, 114, 115, 101, 73, 110, 116]⟩, .string s, .iface tq q] 94 (0, 0)) ∧ Below w.heap.size w w' := Any.strconv_ParseInt_10_at64_range_var Tryd.laysC174 s hlim h tq q w h2
    refine c.mono ?_
    rintro e w' ⟨N, rfl, _, _, hb⟩
    exact ⟨_, _, rfl, .inr ⟨N, rfl⟩, (fun m hm => by cases hm), hb⟩
end Go.Proofs.YtgcgaaoncfgckabDoor
