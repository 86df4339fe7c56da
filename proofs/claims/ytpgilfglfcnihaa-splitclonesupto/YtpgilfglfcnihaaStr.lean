/- string(b); what a call answers whose first result is a struct. -/
import Derived.Test.YtpgilfglfcnihaaFree
import Derived.Laws.BytesArg
import Derived.Laws.Rows
namespace Go.Proofs.Ytpgilfglfcnihaa
open Go.RowKit

/-- the text of some bytes -/
def textOf (l : List UInt8) : ByteArray := ⟨l.toArray⟩
theorem textOf_data (l : List UInt8) : (textOf l).data.toList = l := by simp [textOf]
theorem textOf_size (l : List UInt8) : (textOf l).size = l.length := by show l.toArray.size = _; simp
set_option maxRecDepth 100000 in
theorem conv_str {w : World} {p : Option Addr} {l : List UInt8} (h : At w p l) (c : Nat) : (convert 22 9 (.slice p l.length c)).run Try.prog w = .ok (.string (textOf l)) w := by
  have hu : Try.prog.underlying 5 = some (.int .u8) := Try.underlying5
  rcases h with rfl | ⟨b, o, rfl, hb, hc⟩
  · rw [run_convert_bytes_string w 22 9 5 _ _ c Try.underlying22 hu Try.underlying9]
    cases p with
    | none =>
      simp [Conv.bytesToString, textOf, ByteArray.empty, ByteArray.emptyWithCapacity]
      rfl
    | some a =>
      have hl : (loadCells a 0).run Try.prog w = .ok ((([] : List Int).map (Value.int .u8)).toArray) w := by
        have := run_loadCells_list (P := Try.prog) w a [] (fun j v hj => by simp at hj)
        simpa using this
      rw [List.length_nil, run_bytesToString w a 0 c [] hl]
      rfl
  · have h := run_convert_bytes_arg (P := Try.prog) w 22 5 Try.underlying22 hu b o l.length c (l.map fun x => (x.toNat : Int)) (by simp) (fun i hi => by
      rw [hc i hi]
      simp [hi]) 9 Try.underlying9
    rw [h]
    congr 2
    show (⟨_⟩ : ByteArray) = ⟨_⟩
    congr 1
    rw [List.map_map]
    congr 1
    have : (l.map ((fun n : Int => UInt8.ofNat n.toNat) ∘ fun x : UInt8 => (x.toNat : Int))) = l.map id := List.map_congr_left (fun x _ => by simp)
    rw [this, List.map_id]

theorem results_row3 {P : Program} {fn : Func} {p u v : Tmp} {ty : TypeId} (h : fn.results = #[.cell p ty, .tmp u, .tmp v]) (tmps : Array Value) (w : World) (g : Nat) (t : TypeId) (cs : Array Value) (fr : Nat × Nat) (d : TypeDesc)
    (hp : tmps.getD p undef = .pointer (some ⟨g, 0, none⟩)) (hg : w.heap[g]? = some (.cells cs t fr))
    (hu : P.underlying ty = some d) (hd : (match d with | .struct _ | .array _ _ => true | _ => false) = true) (hi : (P.info? ty).map (·.size) = some cs.size) :
    (results fn tmps).run P w = .ok (.tuple #[.agg cs, tmps.getD u undef, tmps.getD v undef]) w := by
  have hp' : tmps[p]?.getD undef = .pointer (some ⟨g, 0, none⟩) := by simpa using hp
  simp [results, h, hp', asAddr, run_loadVar_row w g t ty cs fr d hg hu hd hi]
theorem results_row2 {P : Program} {fn : Func} {p u : Tmp} {ty : TypeId} (h : fn.results = #[.cell p ty, .tmp u]) (tmps : Array Value) (w : World) (g : Nat) (t : TypeId) (cs : Array Value) (fr : Nat × Nat) (d : TypeDesc)
    (hp : tmps.getD p undef = .pointer (some ⟨g, 0, none⟩)) (hg : w.heap[g]? = some (.cells cs t fr))
    (hu : P.underlying ty = some d) (hd : (match d with | .struct _ | .array _ _ => true | _ => false) = true) (hi : (P.info? ty).map (·.size) = some cs.size) :
    (results fn tmps).run P w = .ok (.tuple #[.agg cs, tmps.getD u undef]) w := by
  have hp' : tmps[p]?.getD undef = .pointer (some ⟨g, 0, none⟩) := by simpa using hp
  simp [results, h, hp', asAddr, run_loadVar_row w g t ty cs fr d hg hu hd hi]
end Go.Proofs.Ytpgilfglfcnihaa
