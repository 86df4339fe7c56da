import Derived.Test.YtlgfdgdlaahpfaaGreatDoorProg
import Derived.Lib.Strings
import Derived.Lib.Slices
import Derived.Lib.Small
import Derived.Lib.BitFns
import Derived.Lib.Walk
set_option maxRecDepth 100000
set_option maxHeartbeats 4000000
namespace Go.Proofs.YtlgfdgdlaahpfaaGreatDoor
theorem ce(x k:Nat)(y:Int)(hx:x<18446744073709551616)(h0:0<=y)(h1:y<=255)(hy:y.toNat=x / 2 ^ k)(hk:k=0∨2 ^ k<=x):
  Lib.len8 y=(Lib.bitLen x:Int)-k∧Lib.bitLen x<=k+8∧k<=Lib.bitLen x:=by
 have e:Lib.bitLen x=k+Lib.bitLen (x / 2 ^ k):=by
  rcases hk with rfl | hk
  ·simp
  ·exact Lib.bitLen_shift k x hk hx
 have l:=Lib.bitLen_le8' y h0 h1
 rw[Lib.len8_of y h0 h1]
 rw[hy] at l ⊢
 omega
theorem ow(x:Int)(h0:0<=x)(h1:x<=18446744073709551615)(w:World):
  Calls Tryz.prog 154 #[.int .u64 x] w fun e w'=>e=.returned (.int .i64 (Lib.bitLen x.toNat:Nat))∧w'=w:=by
 go_enter Tryz.func154,Tryz.ntmps154
 go_wp2
 all_goals (go_ret;refine⟨congrArg Ending.returned (congrArg (Value.int IntKind.i64) ?_),rfl⟩)
 all_goals first
  | (obtain⟨e,l,m⟩:=ce x.toNat 56 (x / 4294967296 / 65536 / 256 % 256) (by omega) (by omega) (by omega) (by omega) (.inr (by omega));rw[e];omega)
  | (obtain⟨e,l,m⟩:=ce x.toNat 48 (x / 4294967296 / 65536 % 256) (by omega) (by omega) (by omega) (by omega) (.inr (by omega));rw[e];omega)
  | (obtain⟨e,l,m⟩:=ce x.toNat 40 (x / 4294967296 / 256 % 256) (by omega) (by omega) (by omega) (by omega) (.inr (by omega));rw[e];omega)
  | (obtain⟨e,l,m⟩:=ce x.toNat 32 (x / 4294967296 % 256) (by omega) (by omega) (by omega) (by omega) (.inr (by omega));rw[e];omega)
  | (obtain⟨e,l,m⟩:=ce x.toNat 24 (x / 65536 / 256 % 256) (by omega) (by omega) (by omega) (by omega) (.inr (by omega));rw[e];omega)
  | (obtain⟨e,l,m⟩:=ce x.toNat 16 (x / 65536 % 256) (by omega) (by omega) (by omega) (by omega) (.inr (by omega));rw[e];omega)
  | (obtain⟨e,l,m⟩:=ce x.toNat 8 (x / 256 % 256) (by omega) (by omega) (by omega) (by omega) (.inr (by omega));rw[e];omega)
  | (obtain⟨e,l,m⟩:=ce x.toNat 0 (x  % 256) (by omega) (by omega) (by omega) (by omega) (.inl rfl);rw[e];omega)
theorem oz(x:Nat)(hx:x<18446744073709551616)(w:World):
  Calls Tryz.prog 154 #[.int .u64 x] w fun e w'=>e=.returned (.int .i64 (Lib.bitLen x:Nat))∧w'=w:=by
 have:=ow (x:Int) (by omega) (by omega) w
 rwa [Int.toNat_natCast] at this
end Go.Proofs.YtlgfdgdlaahpfaaGreatDoor
