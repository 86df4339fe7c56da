import Derived.Test.YtngmnfdaedlodaaGreatDoorProg
import Derived.Lib.Strings
import Derived.Lib.Slices
import Derived.Lib.Small
import Derived.Lib.BitFns
import Derived.Lib.Walk
set_option maxRecDepth 100000
set_option maxHeartbeats 4000000
namespace Go.Proofs.YtngmnfdaedlodaaGreatDoor
theorem cL(x k:Nat)(o:Int)(E:x<18446744073709551616)(A:0<=o)(D:o<=255)(J:o.toNat=x / 2 ^ k)(y:k=0∨2 ^ k<=x):
  Lib.len8 o=(Lib.bitLen x:Int)-k∧Lib.bitLen x<=k+8∧k<=Lib.bitLen x:=by
 have e:Lib.bitLen x=k+Lib.bitLen (x / 2 ^ k):=by
  rcases y with rfl | y
  ·simp
  ·exact Lib.bitLen_shift k x y E
 have l:=Lib.bitLen_le8' o A D;rw[Lib.len8_of o A D];rw[J] at l ⊢;omega
theorem rD(x:Int)(o:0<=x)(y:x<=18446744073709551615)(w:World):
  Calls Tryz.prog 148 #[.int .u64 x] w fun e w'=>e=.returned (.int .i64 (Lib.bitLen x.toNat:Nat))∧w'=w:=by
 go_enter Tryz.func148,Tryz.ntmps148;go_wp2;all_goals (go_ret;refine⟨congrArg Ending.returned (congrArg (Value.int IntKind.i64) ?_),rfl⟩)
 all_goals first
  | (obtain⟨e,l,m⟩:=cL x.toNat 56 (x / 4294967296 / 65536 / 256 % 256) (by omega) (by omega) (by omega) (by omega) (.inr (by omega));rw[e];omega)
  | (obtain⟨e,l,m⟩:=cL x.toNat 48 (x / 4294967296 / 65536 % 256) (by omega) (by omega) (by omega) (by omega) (.inr (by omega));rw[e];omega)
  | (obtain⟨e,l,m⟩:=cL x.toNat 40 (x / 4294967296 / 256 % 256) (by omega) (by omega) (by omega) (by omega) (.inr (by omega));rw[e];omega)
  | (obtain⟨e,l,m⟩:=cL x.toNat 32 (x / 4294967296 % 256) (by omega) (by omega) (by omega) (by omega) (.inr (by omega));rw[e];omega)
  | (obtain⟨e,l,m⟩:=cL x.toNat 24 (x / 65536 / 256 % 256) (by omega) (by omega) (by omega) (by omega) (.inr (by omega));rw[e];omega)
  | (obtain⟨e,l,m⟩:=cL x.toNat 16 (x / 65536 % 256) (by omega) (by omega) (by omega) (by omega) (.inr (by omega));rw[e];omega)
  | (obtain⟨e,l,m⟩:=cL x.toNat 8 (x / 256 % 256) (by omega) (by omega) (by omega) (by omega) (.inr (by omega));rw[e];omega)
  | (obtain⟨e,l,m⟩:=cL x.toNat 0 (x  % 256) (by omega) (by omega) (by omega) (by omega) (.inl rfl);rw[e];omega)
theorem rE(x:Nat)(o:x<18446744073709551616)(w:World):
  Calls Tryz.prog 148 #[.int .u64 x] w fun e w'=>e=.returned (.int .i64 (Lib.bitLen x:Nat))∧w'=w:=by
 have:=rD (x:Int) (by omega) (by omega) w;rwa [Int.toNat_natCast] at this
end Go.Proofs.YtngmnfdaedlodaaGreatDoor
