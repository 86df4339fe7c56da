import Derived.Test.YtngmnfdaedlodaaGreatDoorB16
import Derived.Test.YtngmnfdaedlodaaGreatDoorB27
import Derived.Deep.RegionLaw
import Derived.Test.YtngmnfdaedlodaaGreatDoorB03
namespace Go.Proofs.YtngmnfdaedlodaaGreatDoor
variable{A B c:Nat}{w:World}{l:L8}{p:OA}
section
open Go.RowKit
def bI(p:OA)(n c:Nat):OA:=if c=n then p else p.map (·.add n)
theorem iF(o:IntKind)(p:OA)(len c n:Nat)(h:n<=len)(w:World):(Instr.slice 40 (.slice p len c) (some (.int o n)) none none).run Tryz.prog w=.ok (.slice (bI p n c) (len-n) (c-n)) w:=by
 have y:(sizeOf (Tryz.prog.elem 40)).run Tryz.prog w=.ok 1 w:=by kernel_rfl
 rw[run_slice_l w 40 p len c (by kernel_rfl) o (n:Int) (by omega) (by omega),y];simp[sliced,bI,Result.andThen]
theorem iP(a:Addr)(n:Nat):(a.add n).block=a.block:=by
 unfold Addr.add;split <;> rfl
theorem lP{n:Nat}(h:∀a,p=some a->a.block<A):∀a,bI p n c=some a->a.block<A:=by
 intro a o;unfold bI at o;split at o
 ·exact h a o
 ·cases p with
  |none=>cases o
  |some b=>
   simp only[Option.map_some,Option.some.injEq] at o;subst o;rw[iP];exact h b rfl
theorem pE(h:∀a,p=some a->a.block<A):∀a,io p c=some a->a.block<A:=by
 intro a o;unfold io at o;split at o
 ·exact h a o
 ·cases p with
  |none=>cases o
  |some b=>
   simp only[Option.map_some,Option.some.injEq] at o;subst o;rw[iP];exact h b rfl
theorem At.cut10(h:At w p l)(n c:Nat)(E:l.length<=c):At w (bI p n c) (l.drop n):=by
 by_cases o:l.length<=n
 ·exact .inl (List.drop_eq_nil_of_le o)
 ·obtain⟨b,D,rfl,hb,y⟩:=aP h (by omega);refine .inr ⟨b,D+n,?_,hb,dL y n⟩;unfold bI;rw[AF (by omega),Option.map_some,Lib.add_plain]
structure AtB(w:World)(B:Nat)(p:OA)(l:L8):Prop where
 at_:At w p l
 low:l≠[]->∀a,p=some a->a.block<B
theorem AtB.keep{w w':World}(h:AtB w B p l)(hb:Below B w w'):AtB w' B p l:=by
 refine⟨?_,h.low⟩;rcases h.at_ with rfl | ⟨b,D,rfl,E,o⟩
 ·exact .inl rfl
 ·refine .inr ⟨b,D,rfl,by have:=hb.size;omega,fun j y=>?_⟩;rw[World.cell?_of_block (w:=w) (hb.block b (h.low (List.ne_nil_of_length_pos (by omega)) _ rfl))];exact o j y
theorem AtB.cut(h:AtB w B p l)(n c:Nat)(o:l.length<=c):AtB w B (bI p n c) (l.drop n) :=
 ⟨h.at_.cut10 n c o,fun D=>lP (h.low (fun y=>D (by rw[y];simp)))⟩
theorem AtB.head(h:AtB w B p l)(n c:Nat):AtB w B (io p c) (l.take n) :=
 ⟨h.at_.head n c,fun y=>pE (h.low (fun o=>y (by rw[o];simp)))⟩
theorem At.atB(h:At w p l){B:Nat}(D:w.1.size<=B):AtB w B p l:=by
 refine⟨h,fun y a o=>?_⟩;rcases h with rfl | ⟨b,K,rfl,J,E⟩
 ·exact absurd rfl y
 ·injection o with o;subst o;show b<B;omega
end
section
open Go.RowKit
end
section
open Go.RowKit
def zY(w:World)(r:Blk.Res)(e:Ending)(w':World):Prop :=
 ∃q m cap,e=.returned (.tuple #[.slice q m cap,.int .i64 (r.err:Nat)])∧m=r.out.length∧Has w' w.1.size (.slice q m cap) r.out∧Below w.1.size w w'
end
section
open Go.RowKit
end
end Go.Proofs.YtngmnfdaedlodaaGreatDoor
