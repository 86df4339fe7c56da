import Derived.Test.YtbahfgdbjgkklaaGreatDoorB07
namespace Go.Proofs.YtbahfgdbjgkklaaGreatDoor
variable{B a n z:Nat}{W W' w w2:World}{l:L8}{v:Value}{q:OA}
section
open Go.RowKit
end
section
open Go.RowKit
end
section
def lY(m:Nat)(xs:L8)(n:Nat):Prop:=xs.length<=8∧n<18446744073709551616∧Sch.le 8 m=xs++Sch.le (8-xs.length) n
theorem kr{m:Nat}{xs:L8}(h:lY m xs n)(E:xs.length<8):lY m (xs++[UInt8.ofNat (n % 256)]) (n / 256):=by
 obtain⟨y,D,o⟩:=h;refine⟨by rw[List.length_append,List.length_singleton];omega,by omega,?_⟩;rw[o,List.append_assoc,List.length_append,List.length_singleton,show 8-xs.length=(8-(xs.length+1))+1 by omega,Sch.le];rfl
end
section
open Go.RowKit
end
section
open Go.RowKit
attribute [local go_sem] af
structure Apart(a z:Nat)(w2 W:World)(v:Value):Prop where
 own:∀k,v.ownBlock=some k->k<a∨z<=k
 keep:∀k,a<=k->k<z->W.1[k]?=w2.1[k]?
 size:z<=W.1.size
theorem Apart.step{v':Value}(h:Apart a z w2 W v)(y:Aside (fun k=>v.ownBlock=some k) W W')(hb:∀k,v'.ownBlock=some k->v.ownBlock=some k∨W.1.size<=k):Apart a z w2 W' v':=by
 have J:=h.size;refine⟨fun k I=>?_,fun k o D=>?_,Nat.le_trans h.size y.size⟩
 ·rcases hb k I with o | o
  ·exact h.own k o
  ·exact .inr (by omega)
 ·rw[y.block k (by omega) (fun E=>by have:=h.own k E;omega)];exact h.keep k o D
theorem Apart.on(h:Apart a z w2 W v)(hb:Below W.1.size W W'):Apart a z w2 W' v:=by
 have D:=h.size;exact⟨h.own,fun k o y=>by rw[hb.block k (by omega)];exact h.keep k o y,Nat.le_trans h.size hb.size⟩
theorem Apart.cell(h:Apart a z w2 W v){g o:Nat}{x:Value}(y:a<=g)(D:g<z)(E:w2.cell? ⟨g,o,none⟩=some x):W.cell? ⟨g,o,none⟩=some x:=by
 rw[World.cell?_of_block (w:=w2) (h.keep g y D)];exact E
theorem Apart.at(h:Apart a z w2 W v){p:OA}{l:L8}(L:∀b o,p=some ⟨b,o,none⟩->a<=b∧b<z)(K:At w2 p l):At W p l:=by
 rcases K with rfl | ⟨b,o,y,M,D⟩
 ·exact .inl rfl
 ·obtain⟨E,I⟩:=L b o y;have O:=h.size;exact .inr ⟨b,o,y,by omega,fun j J=>by rw[World.cell?_of_block (w:=w2) (h.keep b E I)];exact D j J⟩
theorem Has.place{cap:Nat}(h:Has w B (.slice q n cap) l):∀b o,q=some ⟨b,o,none⟩->B<=b∧b<w.1.size:=by
 intro b o y;subst y;exact h.lt b rfl
theorem Has.here{cap:Nat}(h:Has w B (.slice q l.length cap) l):At w q l:=by
 obtain⟨p,c,o,y,-⟩:=h.at;injection o with o;rw[o];exact y
end
end Go.Proofs.YtbahfgdbjgkklaaGreatDoor
