/- Texts joined: Ze Ab Zd. -/
import Derived.Deep.DeepCutAuto
import Derived.Test.YtejhccmclanlmaaGreatDoorK06
import Derived.Test.YtejhccmclanlmaaGreatDoorK12
set_option linter.unusedVariables false
set_option maxRecDepth 100000
namespace Go.Proofs.YtejhccmclanlmaaGreatDoor
open Go.RowKit
def InnerK (w:World) (m p:Nat) (F:Nat→List Int) (v:Nat→Value) (k:Nat):Prop:=∃ B:Nat→Nat,(∀ j,j<k→w.ownsRow (B j) 3 1 (v j) (F j).length (ivs (F j))∧∀ x,(v j).ownBlock=some x→x<B (j+1))∧(∀ j,j<k→B j≤B (j+1))∧B 0=m∧B k≤p
theorem mono_le {B:Nat→Nat} {k:Nat} (h:∀ j,j<k→B j≤B (j+1)):∀ i j,i≤j→j≤k→B i≤B j:=by
 intro i j
 induction j with
 | zero=>intro h1 _;rw [Nat.le_zero.1 h1];exact Nat.le_refl _
 | succ j ih=>
  intro h1 h2
  by_cases e:i=j+1
  ·rw [e];exact Nat.le_refl _
  ·exact Nat.le_trans (ih (by omega) (by omega)) (h j (by omega))
theorem InnerK.zero (w:World) (m p:Nat) (F:Nat→List Int) (v:Nat→Value) (h:m≤p):InnerK w m p F v 0:=⟨fun _=>m,fun j hj=>by omega,fun j hj=>by omega,rfl,h⟩
theorem InnerK.agree {w w':World} {m p:Nat} {F:Nat→List Int} {v:Nat→Value} {k:Nat} (h:InnerK w m p F v k) (hk:∀ x,m≤x→x<p→w'.heap[x]? = w.heap[x]?):InnerK w' m p F v k:=by
 obtain ⟨B,h3,h4,h5,h6⟩:=h
 refine ⟨B,fun j hj=>?_,h4,h5,h6⟩
 obtain ⟨o,u⟩:=h3 j hj
 refine ⟨owns_agree o (fun x hx=>hk x ?_ ?_),u⟩
 ·have:=owns_ge o x hx
  have:=mono_le h4 0 j (by omega) (by omega)
  omega
 ·have:=u x hx
  have:=mono_le h4 (j+1) k (by omega) (by omega)
  omega
theorem InnerK.more {w:World} {m p p':Nat} {F:Nat→List Int} {v:Nat→Value} {k:Nat} (h:InnerK w m p F v k) (hp:p≤p'):InnerK w m p' F v k:=by
 obtain ⟨B,h3,h4,h5,h6⟩:=h
 exact ⟨B,h3,h4,h5,by omega⟩
theorem InnerK.next {w:World} {m p p':Nat} {F:Nat→List Int} {v:Nat→Value} {k:Nat} {u:Value} (h:InnerK w m p F v k) (hown:w.ownsRow p 3 1 u (F k).length (ivs (F k))) (hp:p≤p') (hu:∀ x,u.ownBlock=some x→x<p'):InnerK w m p' F (fun j=>if j=k then u else v j) (k+1):=by
 obtain ⟨B,h3,h4,h5,h6⟩:=h
 refine ⟨fun j=>if j≤k then B j else p',fun j hj=>?_,fun j hj=>?_,by simp [h5],by dsimp only;rw [if_neg (by omega)];exact Nat.le_refl _⟩
 ·by_cases e:j=k
  ·subst e
   simp only [if_pos lr,if_true,if_neg (show ¬ j+1≤j by omega)]
   exact ⟨ownsx_mono hown h6,hu⟩
  ·simp only [if_neg e,if_pos (show j≤k by omega),if_pos (show j+1≤k by omega)]
   exact h3 j (by omega)
 ·by_cases e:j=k
  ·subst e
   simp only [if_pos lr,if_neg (show ¬ j+1≤j by omega)]
   omega
  ·simp only [if_pos (show j≤k by omega),if_pos (show j+1≤k by omega)]
   exact h4 j (by omega)
def RingsK (w:World) (g m p:Nat) (L:List (List Int×Int)) (k:Nat):Prop:=∃ (cs:List Value) (v:Nat→Value),RowAt w g 90 cs∧cs.length=L.length * 2∧(∀ j,j<k→cs[j * 2]? = some (v j)∧cs[j * 2+1]? = some (.int .i64 (L.getD j ([],0)).2))∧InnerK w m p (fun j=>(L.getD j ([],0)).1) v k
def ListsK (w:World) (g m p:Nat) (L:List (List Int)) (k:Nat):Prop:=∃ (cs:List Value) (v:Nat→Value),RowAt w g 23 cs∧cs.length=L.length∧(∀ j,j<k→cs[j]? = some (v j))∧InnerK w m p (fun j=>L.getD j []) v k
theorem RingsK.agree {w w':World} {g m p:Nat} {L:List (List Int×Int)} {k:Nat} (h:RingsK w g m p L k) (hk:∀ x,x=g∨m≤x∧x<p→w'.heap[x]? = w.heap[x]?):RingsK w' g m p L k:=by
 obtain ⟨cs,v,h1,h2,h3,h4⟩:=h
 exact ⟨cs,v,(hk g (.inl rfl)).trans h1,h2,h3,h4.agree (fun x a b=>hk x (.inr ⟨a,b⟩))⟩
theorem ListsK.agree {w w':World} {g m p:Nat} {L:List (List Int)} {k:Nat} (h:ListsK w g m p L k) (hk:∀ x,x=g∨m≤x∧x<p→w'.heap[x]? = w.heap[x]?):ListsK w' g m p L k:=by
 obtain ⟨cs,v,h1,h2,h3,h4⟩:=h
 exact ⟨cs,v,(hk g (.inl rfl)).trans h1,h2,h3,h4.agree (fun x a b=>hk x (.inr ⟨a,b⟩))⟩
theorem RingsK.lt {w:World} {g m p:Nat} {L:List (List Int×Int)} {k:Nat} (h:RingsK w g m p L k):g<w.heap.size:=by
 obtain ⟨cs,v,h1,_⟩:=h
 exact (Array.getElem?_eq_some_iff.1 h1).1
theorem ListsK.lt {w:World} {g m p:Nat} {L:List (List Int)} {k:Nat} (h:ListsK w g m p L k):g<w.heap.size:=by
 obtain ⟨cs,v,h1,_⟩:=h
 exact (Array.getElem?_eq_some_iff.1 h1).1
theorem RingsK.keep {w w':World} {g m p:Nat} {L:List (List Int×Int)} {k:Nat} (h:RingsK w g m p L k) (hp:p≤w.heap.size) (hb:Below w.heap.size w w'):RingsK w' g m p L k:=
 h.agree (fun x hx=>hb.block x (by have:=h.lt;rcases hx with rfl|⟨_,_⟩ <;> omega))
theorem ListsK.keep {w w':World} {g m p:Nat} {L:List (List Int)} {k:Nat} (h:ListsK w g m p L k) (hp:p≤w.heap.size) (hb:Below w.heap.size w w'):ListsK w' g m p L k:=
 h.agree (fun x hx=>hb.block x (by have:=h.lt;rcases hx with rfl|⟨_,_⟩ <;> omega))
theorem rowAt_set1 {w:World} {g:Nat} {t:TypeId} {cs:List Value} (h:RowAt w g t cs) (o:Nat) (u:Value):RowAt (w.setCell ⟨g,o,none⟩ u) g t (cs.set o u):=by
 have:=set_atx (o:=o) (v':=u) (show w.heap[g]? = _ from h)
 rw [List.setIfInBounds_toArray] at this
 exact this
theorem heap_set_ne (w:World) (g o:Nat) (u:Value) (k:Nat) (h:k≠g):(w.setCell ⟨g,o,none⟩ u).heap[k]? = w.heap[k]? := Below.heap_setCell _ _ _ k (fun e=>h e)
theorem RingsK.next {w w5:World} {g m p:Nat} {L:List (List Int×Int)} {k:Nat} {u:Value} (h:RingsK w g m p L k) (hg:g<m) (hk:k<L.length) (hp:p≤w.heap.size) (hb:Below w.heap.size w w5) (hown:w5.ownsRow p 3 1 u L[k].1.length (ivs L[k].1)) :
  RingsK ((w5.setCell ⟨g,k * 2,none⟩ u).setCell ⟨g,k * 2+1,none⟩ (.int .i64 L[k].2)) g m w5.heap.size L (k+1):=by
 obtain ⟨cs,v,h1,h2,h3,h4⟩:=h.keep hp hb
 have hs:=hb.size
 have eK:L.getD k ([],0)=L[k]:=by simp [hk]
 refine ⟨(cs.set (k * 2) u).set (k * 2+1) (.int .i64 L[k].2),fun j=>if j=k then u else v j,rowAt_set1 (rowAt_set1 h1 _ _) _ _,by simp [h2],fun j hj=>?_,?_⟩
 ·by_cases e:j=k
  ·subst e
   rw [eK]
   simp only [if_true]
   exact ⟨by rw [List.getElem?_set_ne (by omega)];exact List.getElem?_set_self (by omega),List.getElem?_set_self (by rw [List.length_set];omega)⟩
  ·simp only [if_neg e]
   have:=h3 j (by omega)
   exact ⟨by rw [List.getElem?_set_ne (by omega),List.getElem?_set_ne (by omega)];exact this.1,by rw [List.getElem?_set_ne (by omega),List.getElem?_set_ne (by omega)];exact this.2⟩
 ·have hI:=h4.next (k:=k) (u:=u) (p':=w5.heap.size) (by rw [eK];exact hown) (by omega) (fun x hx=>owns_lt hown x hx)
  refine hI.agree (fun x hx1 hx2=>?_)
  rw [heap_set_ne _ _ _ _ x (by omega),heap_set_ne _ _ _ _ x (by omega)]
theorem ListsK.next {w w5:World} {g m p:Nat} {L:List (List Int)} {k:Nat} {u:Value} (h:ListsK w g m p L k) (hg:g<m) (hk:k<L.length) (hp:p≤w.heap.size) (hb:Below w.heap.size w w5) (hown:w5.ownsRow p 3 1 u L[k].length (ivs L[k])) :
  ListsK (w5.setCell ⟨g,k,none⟩ u) g m w5.heap.size L (k+1):=by
 obtain ⟨cs,v,h1,h2,h3,h4⟩:=h.keep hp hb
 have hs:=hb.size
 have eK:L.getD k []=L[k]:=by simp [hk]
 refine ⟨cs.set k u,fun j=>if j=k then u else v j,rowAt_set1 h1 _ _,by simp [h2],fun j hj=>?_,?_⟩
 ·by_cases e:j=k
  ·subst e
   simp only [if_true]
   exact List.getElem?_set_self (by omega)
  ·simp only [if_neg e]
   rw [List.getElem?_set_ne (by omega)]
   exact h3 j (by omega)
 ·have hI:=h4.next (k:=k) (u:=u) (p':=w5.heap.size) (by rw [eK];exact hown) (by omega) (fun x hx=>owns_lt hown x hx)
  refine hI.agree (fun x hx1 hx2=>?_)
  rw [heap_set_ne _ _ _ _ x (by omega)]
theorem RingsK.rings {w:World} {g m p:Nat} {L:List (List Int×Int)} (h:RingsK w g m p L L.length):RingsIn w (some ⟨g,0,none⟩) L:=by
 obtain ⟨cs,v,h1,h2,h3,B,h4,_⟩:=h
 intro i hi
 obtain ⟨c0,c1⟩:=h3 i hi
 obtain ⟨o,_⟩:=h4 i hi
 have e:L.getD i ([],0)=L[i]:=by simp [hi]
 simp only [e] at o c1
 obtain ⟨a,c,ev,hc,hm,hI,_⟩:=owns_cells o
 refine ⟨g,0,a,c,rfl,?_,?_,intsIn_of hI,hc,by simp only [maxLen] at hm;omega⟩
 ·rw [ev] at c0
  rw [Nat.zero_add]
  exact h1.cell _ _ c0
 ·rw [Nat.zero_add]
  exact h1.cell _ _ c1
theorem ListsK.lists {w:World} {g m p:Nat} {L:List (List Int)} (h:ListsK w g m p L L.length):ListsIn w (some ⟨g,0,none⟩) L:=by
 obtain ⟨cs,v,h1,h2,h3,B,h4,_⟩:=h
 intro i hi
 have c0:=h3 i hi
 obtain ⟨o,_⟩:=h4 i hi
 have e:L.getD i []=L[i]:=by simp [hi]
 simp only [e] at o
 obtain ⟨a,c,ev,hc,hm,hI,_⟩:=owns_cells o
 refine ⟨g,0,a,c,rfl,?_,intsIn_of hI,hc,by simp only [maxLen] at hm;omega⟩
 rw [ev] at c0
 rw [Nat.zero_add]
 exact h1.cell _ _ c0
theorem RingsK.start {w:World} {n0 g m:Nat} {L:List (List Int×Int)} (h:w.heap[g]? = some (.cells (madeCells #[.slice none 0 0,.int .i64 0] (L.length * 2)) 90 (0,0))):RingsK w g m m L 0:=
 ⟨(madeCells #[.slice none 0 0,.int .i64 0] (L.length * 2)).toList,fun _=>.slice none 0 0,by simpa [RowAt] using h,by simp [size_madeCells],fun j hj=>by omega,InnerK.zero _ _ _ _ _ lr⟩
theorem ListsK.start {w:World} {g m:Nat} {L:List (List Int)} (h:w.heap[g]? = some (.cells (madeCells #[.slice none 0 0] L.length) 23 (0,0))):ListsK w g m m L 0:=
 ⟨(madeCells #[.slice none 0 0] L.length).toList,fun _=>.slice none 0 0,by simpa [RowAt] using h,by simp [size_madeCells],fun j hj=>by omega,InnerK.zero _ _ _ _ _ lr⟩
theorem far2 {w:World} {x i b o1 o2:Nat} {u v1 v2:Value} (h:w.cell? ⟨x,i,none⟩=some u) (hne:b≠x):((w.setCell ⟨b,o1,none⟩ v1).setCell ⟨b,o2,none⟩ v2).cell? ⟨x,i,none⟩=some u:=by
 rw [World.cell?_setCell_far _ _ _ _ hne,World.cell?_setCell_far _ _ _ _ hne];exact h
theorem far1 {w:World} {x i b o1:Nat} {u v1:Value} (h:w.cell? ⟨x,i,none⟩=some u) (hne:b≠x):(w.setCell ⟨b,o1,none⟩ v1).cell? ⟨x,i,none⟩=some u:=by
 rw [World.cell?_setCell_far _ _ _ _ hne];exact h
def AgreeBut (g:Nat) (w w':World):Prop:=w.heap.size≤w'.heap.size∧∀ x,x≠g→x<w.heap.size→w'.heap[x]? = w.heap[x]?
theorem AgreeBut.refl (g:Nat) (w:World):AgreeBut g w w:=⟨Nat.le_refl _,fun _ _ _=>rfl⟩
theorem AgreeBut.below {g:Nat} {w w' w'':World} (h:AgreeBut g w w') (hb:Below w'.heap.size w' w''):AgreeBut g w w'':=
 ⟨Nat.le_trans h.1 hb.size,fun x hx hl=>(hb.block x (by have:=h.1;omega)).trans (h.2 x hx hl)⟩
theorem AgreeBut.set {g:Nat} {w w':World} (h:AgreeBut g w w') (o:Nat) (u:Value):AgreeBut g w (w'.setCell ⟨g,o,none⟩ u):=
 ⟨Nat.le_trans h.1 ((Below.refl 0 w').setCell (p:=⟨g,o,none⟩) (Nat.zero_le _) u).size,fun x hx hl=>(heap_set_ne w' g o u x hx).trans (h.2 x hx hl)⟩
theorem RingsK.cellAt {w:World} {g m p:Nat} {L:List (List Int×Int)} {k:Nat} (h:RingsK w g m p L k) (i:Nat) (hi:i<L.length):(∃ u,w.cell? ⟨g,i * 2,none⟩=some u)∧(∃ u,w.cell? ⟨g,i * 2+1,none⟩=some u)∧w.frozen? ⟨g,i * 2,none⟩=false∧w.frozen? ⟨g,i * 2+1,none⟩=false:=by
 obtain ⟨cs,v,h1,h2,h3⟩:=h
 exact ⟨⟨_,h1.cell (i * 2) cs[i * 2] (by simp)⟩,⟨_,h1.cell (i * 2+1) cs[i * 2+1] (by simp)⟩,h1.frozen _,h1.frozen _⟩
theorem ListsK.cellAt {w:World} {g m p:Nat} {L:List (List Int)} {k:Nat} (h:ListsK w g m p L k) (i:Nat) (hi:i<L.length):(∃ u,w.cell? ⟨g,i,none⟩=some u)∧w.frozen? ⟨g,i,none⟩=false:=by
 obtain ⟨cs,v,h1,h2,h3⟩:=h
 exact ⟨⟨_,h1.cell i cs[i] (by simp)⟩,h1.frozen _⟩
structure DomOwn (base:Nat) (w:World) (A:DMem) (D:Dom) (gI gO m p q:Nat):Prop where
 j:w.ownsRow base 87 6 (.slice A.aJ D.jobs.length A.cJ) D.jobs.length (fJ D.jobs)
 r:w.ownsRow base 3 1 (.slice A.aR D.rel.length A.cR) D.rel.length (ivs D.rel)
 t:w.ownsRow base 3 1 (.slice A.aT D.tak.length A.cT) D.tak.length (ivs D.tak)
 e:w.ownsRow base 92 4 (.slice A.aE D.evs.length A.cE) D.evs.length (fE D.evs)
 rt:∀ x,(Value.slice A.aR D.rel.length A.cR).ownBlock=some x→(Value.slice A.aT D.tak.length A.cT).ownBlock≠some x
 i:RingsK w gI m p D.ins D.ins.length
 o:ListsK w gO p q D.out D.out.length
 aI:A.aI=some ⟨gI,0,none⟩
 aO:A.aO=some ⟨gO,0,none⟩
 cI:A.cI=D.ins.length
 cO:A.cO=D.out.length
 bI:base≤gI∧gI<m
 bO:base≤gO∧gO<m
 mp:m≤p∧p≤q∧q≤w.heap.size
 lt:∀ x,(Value.slice A.aJ D.jobs.length A.cJ).ownBlock=some x∨(Value.slice A.aR D.rel.length A.cR).ownBlock=some x∨(Value.slice A.aT D.tak.length A.cT).ownBlock=some x∨(Value.slice A.aE D.evs.length A.cE).ownBlock=some x→x<m
theorem owns_ne2 {w:World} {base e sz n g t:Nat} {v:Value} {xs:List Value} {cur:Array Value} {fz:Nat×Nat} (h:w.ownsRow base e sz v n xs) (hr:w.heap[g]? = some (.cells cur t fz)) (hne:e≠t):∀ k,v.ownBlock=some k→k≠g:=by
 intro k hk e0
 subst e0
 rcases h.2 with ⟨q,_⟩|⟨g',cap,cur',e1,e2,e3,r⟩
 ·rw [q] at hk;cases hk
 ·rw [e1] at hk
  simp only [Value.ownBlock,Option.some.injEq] at hk
  subst hk
  rw [hr] at e3
  simp at e3
  exact hne e3.2.1.symm
theorem RingsK.more {w:World} {g m p p':Nat} {L:List (List Int×Int)} {k:Nat} (h:RingsK w g m p L k) (hp:p≤p'):RingsK w g m p' L k:=by
 obtain ⟨cs,v,h1,h2,h3,h4⟩:=h
 exact ⟨cs,v,h1,h2,h3,h4.more hp⟩
theorem owns_in {w:World} {base e sz n c:Nat} {a:Option Addr} {xs:List Value} (h:w.ownsRow base e sz (.slice a n c) n xs):CellsIn w a xs∧n≤c∧n≤9223372036854775807:=by
 obtain ⟨a',c',ev,hc,hm,hI,_⟩:=owns_cells h
 cases ev
 exact ⟨hI,hc,by simp only [maxLen] at hm;omega⟩
theorem DomOwn.keep {base:Nat} {w w':World} {A:DMem} {D:Dom} {gI gO m p q:Nat} (h:DomOwn base w A D gI gO m p q) (hb:Below w.heap.size w w'):DomOwn base w' A D gI gO m p q:=
 ⟨owns_below h.j hb,owns_below h.r hb,owns_below h.t hb,owns_below h.e hb,h.rt,h.i.keep (by have:=h.mp;omega) hb,h.o.keep (by have:=h.mp;omega) hb,h.aI,h.aO,h.cI,h.cO,h.bI,h.bO,⟨h.mp.1,h.mp.2.1,Nat.le_trans h.mp.2.2 hb.size⟩,h.lt⟩
theorem DomOwn.agree {base:Nat} {w w':World} {A:DMem} {D:Dom} {gI gO m p q:Nat} (h:DomOwn base w A D gI gO m p q) (hs:w.heap.size≤w'.heap.size) (hk:∀ x,base≤x→x<w.heap.size→w'.heap[x]? = w.heap[x]?):DomOwn base w' A D gI gO m p q:=by
 have hm:=h.mp
 have hI:=h.bI
 have hO:=h.bO
 exact ⟨owns_agree h.j (fun x hx=>hk x (owns_ge h.j x hx) (owns_lt h.j x hx)),owns_agree h.r (fun x hx=>hk x (owns_ge h.r x hx) (owns_lt h.r x hx)),owns_agree h.t (fun x hx=>hk x (owns_ge h.t x hx) (owns_lt h.t x hx)),owns_agree h.e (fun x hx=>hk x (owns_ge h.e x hx) (owns_lt h.e x hx)),h.rt,
  h.i.agree (fun x hx=>hk x (by rcases hx with rfl|⟨_,_⟩ <;> omega) (by rcases hx with rfl|⟨_,_⟩ <;> omega)),h.o.agree (fun x hx=>hk x (by rcases hx with rfl|⟨_,_⟩ <;> omega) (by rcases hx with rfl|⟨_,_⟩ <;> omega)),h.aI,h.aO,h.cI,h.cO,h.bI,h.bO,⟨hm.1,hm.2.1,by omega⟩,h.lt⟩
theorem DomOwn.base {base base':Nat} {w:World} {A:DMem} {D:Dom} {gI gO m p q:Nat} (h:DomOwn base w A D gI gO m p q) (hb:base'≤base):DomOwn base' w A D gI gO m p q:=
 ⟨ownsx_mono h.j hb,ownsx_mono h.r hb,ownsx_mono h.t hb,ownsx_mono h.e hb,h.rt,h.i,h.o,h.aI,h.aO,h.cI,h.cO,⟨Nat.le_trans hb h.bI.1,h.bI.2⟩,⟨Nat.le_trans hb h.bO.1,h.bO.2⟩,h.mp,h.lt⟩
def hitA (C:Conf) (dn fr te:Int) (l:Nat) (a:ArrT):Bool:=decide (a.2=(l:Int)) && (decide (C.ow.getD l 0=dn) && (decide (fr≤a.1) && decide (a.1<te)))
def cameN (C:Conf) (arr:List ArrT) (dn fr te:Int) (l:Nat):Int:=((arr.filter (hitA C dn fr te l)).length:Nat)
def cameL (C:Conf) (arr:List ArrT) (dn fr te:Int):List Int:=(List.range C.ow.length).map (cameN C arr dn fr te)
theorem cameN_le (C:Conf) (arr:List ArrT) (dn fr te:Int) (l:Nat):0≤cameN C arr dn fr te l∧cameN C arr dn fr te l≤arr.length:=by
 unfold cameN
 have:=List.length_filter_le (hitA C dn fr te l) arr
 omega
theorem cameN_succ (C:Conf) (arr:List ArrT) (dn fr te:Int) (l k:Nat) (hk:k<arr.length):cameN C (arr.take (k+1)) dn fr te l=cameN C (arr.take k) dn fr te l+(if hitA C dn fr te l arr[k] then 1 else 0):=by
 unfold cameN
 rw [List.take_add_one,List.getElem?_eq_getElem hk,List.filter_append,List.length_append]
 simp only [Option.toList,List.filter_cons,List.filter_nil]
 split <;> simp
theorem cameL_miss (C:Conf) (arr:List ArrT) (dn fr te:Int) (k:Nat) (hk:k<arr.length) (h:∀ l,hitA C dn fr te l arr[k]=false):cameL C (arr.take (k+1)) dn fr te=cameL C (arr.take k) dn fr te:=by
 unfold cameL
 refine List.map_congr_left fun l _=>?_
 rw [cameN_succ _ _ _ _ _ _ _ hk,if_neg (by rw [h l];decide),Int.add_zero]
theorem cameL_hit (C:Conf) (arr:List ArrT) (dn fr te:Int) (k m:Nat) (hk:k<arr.length) (hm:arr[k].2=(m:Int)) (h:hitA C dn fr te m arr[k]=true):cameL C (arr.take (k+1)) dn fr te=(cameL C (arr.take k) dn fr te).set m (cameN C (arr.take k) dn fr te m+1):=by
 refine List.ext_getElem (by simp [cameL]) fun i h1 h2=>?_
 rw [List.getElem_set]
 simp only [cameL,List.getElem_map,List.getElem_range]
 rw [cameN_succ _ _ _ _ _ _ _ hk]
 by_cases e:m=i
 ·subst e
  rw [if_pos rfl,if_pos h]
 ·rw [if_neg e,if_neg]
  ·omega
  ·intro h'
   simp only [hitA,Bool.and_eq_true,decide_eq_true_eq] at h'
   omega
theorem cameL_getD (C:Conf) (arr:List ArrT) (dn fr te:Int) (m:Nat) (hm:m<C.ow.length):(ivs (cameL C arr dn fr te))[m]? = some (.int .i64 (cameN C arr dn fr te m)):=by
 simp [ivs,cameL,hm]
theorem make23_any (n:Nat) (h:n≤1000000000000) (w:World):(Instr.makeSlice 23 (.int .i64 (n:Int)) (.int .i64 (n:Int))).run Tryz.prog w=.ok (.slice (some ⟨w.heap.size,0,none⟩) n n) (w.alloc (.cells (madeCells #[.int .i64 0] n) 3)):=
 run_make_row' (P:=Tryz.prog) 23 3 (.int .i64 0) 8 Tryz.underlying23 Tryz.info3x rfl .i64 .i64 n (by omega) (by omega) w
theorem made_row (w:World) (n:Nat):RowAt (w.alloc (.cells (madeCells #[.int .i64 0] n) 3)) w.heap.size 3 (ivs (List.replicate n 0)):=by
 have e:madeCells #[.int .i64 0] n=(ivs (List.replicate n 0)).toArray:=by
  refine Array.ext (by simp [madeCells,ivs]) fun i h1 h2=>?_
  simp [madeCells,ivs,Nat.mod_one]
 rw [e]
 exact heap_alloc_new _ _
set_option maxHeartbeats 2000000 in
theorem arrived_any (C:Conf) (B:Mem) (aL:Option Addr) (L:List ArrT) (cL:Nat) (dn fr te:Int) (w:World) (hC:ConfIn w B C) (hL:SlotsIn w aL L) (hl:L.length≤9223372036854775807) (h0:ckArr C L dn fr te=0) :
  Calls Tryz.prog 59 #[cv C B,.slice aL L.length cL,.int .i64 dn,.int .i64 fr,.int .i64 te] w fun e w'=>∃ g,e=.returned (.tuple #[.slice (some ⟨g,0,none⟩) C.ow.length C.ow.length,.int .i64 0])∧RowAt w' g 3 (ivs (cameL C L dn fr te))∧w.heap.size≤g∧Below w.heap.size w w':=by
 have hparts:ckC C=0∧L.length≤40∧∀ a∈L,noLine C.ow.length a=false:=by
  unfold ckArr at h0
  split at h0
  ·omega
  ·rename_i h1
   split at h0
   ·omega
   ·split at h0
    ·omega
    ·split at h0
     ·omega
     ·split at h0
      ·omega
      ·rename_i h5
       refine ⟨by omega,by omega,fun a ha=>?_⟩
       cases hx:noLine C.ow.length a with
       | false=>rfl
       | true=>exact absurd (List.any_eq_true.2 ⟨a,ha,hx⟩) h5
 obtain ⟨hc0,h40,hlines⟩:=hparts
 have hcn:C.ow.length≤4:=by
  have:=(ck_ok hc0).2.2.1
  unfold ckCnt at this
  split at this
  ·rename_i hx;simp [inR] at hx;omega
  ·omega
 have q1:=below_new w (.cells (cl C B) 27)
 have HC:=hid (hC.keep q1)
 have HL:=hid (hL.keep q1)
 have HX:=hid (boxC_new w C B)
 have HB:=hid q1
 have HLN:=hid hlines
 have hmk:=make23_any C.ow.length (by omega)
 have H0:=hid h0
 clear q1 hC hL hlines h0 hc0
 obtain ⟨a5,a6,a7,a8,c5,c6,c7,c8⟩:=B
 dsimp only [cv,cl] at *
 go_enter Tryz.func59,Tryz.ntmps59
 go_wp2_with fail
 refine (checkArr_any C ⟨a5,a6,a7,a8,c5,c6,c7,c8⟩ aL L cL dn fr te _ HC.out HL.out hl).mono ?_
 rintro e w1 ⟨rfl,hb1⟩
 rw [H0.out]
 generalize hW:World.alloc w _=W at *
 clear hW
 have g6:=(HX.out.keep hb1).h6
 have q2:=below_new w1 (.cells (madeCells #[.int .i64 0] C.ow.length) 3)
 have HM:=hid (made_row w1 C.ow.length)
 have HB1:=hid (btrans HB.out hb1)
 have HC1:=hid (HC.out.keep hb1)
 have HL1:=hid (HL.out.keep hb1)
 have HX1:=hid (HX.out.keep hb1)
 have hw1:w.heap.size<w1.heap.size:=World.block_lt_of_cell? _ _ g6
 clear hb1 HB HC HL HX
 go_wp2
 clear hmk
 go_loopw [31] (fun i wr=>∃ k:Nat,k≤L.length∧i=.int .i64 k∧Below w1.heap.size w1 wr∧RowAt wr w1.heap.size 3 (ivs (cameL C (L.take k) dn fr te))) (fun i _=>L.length - (intOf i).toNat)
 case atStart=>
  refine ⟨0,Nat.zero_le _,rfl,q2,?_⟩
  have e:cameL C (L.take 0) dn fr te=List.replicate C.ow.length 0:=by
   refine List.ext_getElem (by simp [cameL]) fun i h1 h2=>?_
   simp [cameL,cameN]
  rw [e]
  exact HM.out
 case round=>
  obtain ⟨k,hk,rfl,hbl,hrow⟩:=hrel
  by_cases hlt:k<L.length
  ·obtain ⟨b1,o1,rfl,p0,p1⟩:=(HL1.out.keep hbl) k hlt
   have hln:=HLN.out _ (List.getElem_mem hlt)
   have HV:Hid (L[k]=L[k]):=hid rfl
   obtain ⟨v,hv⟩:∃ v,v=L[k]:=⟨_,rfl⟩
   have HV:Hid (L[k]=v):=hid hv.symm
   rw [HV.out] at p0 p1 hln
   clear hv
   obtain ⟨v0,v1⟩:=v
   simp only [noLine,Bool.not_eq_false',inR,Bool.and_eq_true,decide_eq_true_eq] at hln
   obtain ⟨m,rfl⟩:∃ m:Nat,v1=(m:Int):=⟨v1.toNat,by omega⟩
   have hmn:m<C.ow.length:=by omega
   obtain ⟨b2,o2,ea,r0⟩:=(HC1.out.keep hbl).ow m hmn
   dsimp only at ea
   subst ea
   have hk1:(k:Int)<(L.length:Int):=by omega
   have hk0:(0:Int)≤(k:Int):=by omega
   have hm1:(m:Int)<(C.ow.length:Int):=by omega
   have hm0:(0:Int)≤(m:Int):=by omega
   have x6:=(HX1.out.keep hbl).h6
   dsimp only at x6
   have q4:=below_new wr (.cells #[.int .i64 v0,.int .i64 (m:Int)] 58)
   have HQ:=hid (btrans hbl q4)
   have HR4:=hid (hrow.below q4 lr)
   have hnew:=rowAt_new2 wr wr.heap.size [.int .i64 v0,.int .i64 (m:Int)] 58 rfl
   have hsr:=hbl.size
   have z6:=bkeep q4 x6 lr
   have s0:=bkeep q4 r0 lr
   have n0:=hnew.cell 0 _ rfl
   have n1:=hnew.cell 1 _ rfl
   have y0:=HR4.out.cell m _ (cameL_getD C (L.take k) dn fr te m hmn)
   have f0:=HR4.out.frozen m
   have hcl:=cameN_le C (L.take k) dn fr te m
   have hcl2:(L.take k).length≤40:=by simp;omega
   dsimp only at p0 p1
   clear hrow hbl hnew
   go_upto_region 8 with fail
   generalize World.alloc wr _=w4 at *
   by_cases h1:C.ow[m]=dn
   ·by_cases h2:fr≤v0
    ·by_cases h3:v0<te
     ·have HE:Hid (cameL C (L.take (k+1)) dn fr te=(cameL C (L.take k) dn fr te).set m (cameN C (L.take k) dn fr te m+1)):=hid (cameL_hit C L dn fr te k m hlt (by rw [HV.out]) (by
       rw [HV.out]
       simp only [hitA,Bool.and_eq_true,decide_eq_true_eq]
       rw [show C.ow.getD m 0=C.ow[m] by simp [hmn]]
       exact ⟨trivial,h1,h2,h3⟩))
      have h1b:(C.ow[m] == dn)=true:=by simp [h1]
      have hw:IntKind.i64.wrap (cameN C (L.take k) dn fr te m+1)=cameN C (L.take k) dn fr te m+1:=by rw [IntKind.wrap_i64];omega
      clear HV
      generalize cameN C (L.take k) dn fr te m=cn at *
      go_wp2
      go_roundw
      case rel=>
       refine ⟨k+1,by omega,by go_num,HQ.out.setCell (p:=⟨w1.heap.size,m,none⟩) lr _,?_⟩
       rw [HE.out]
       have:=rowAt_set1 HR4.out m (.int .i64 (cn+1))
       rw [show (ivs (cameL C (L.take k) dn fr te)).set m (.int .i64 (cn+1))=ivs ((cameL C (L.take k) dn fr te).set m (cn+1)) by simp [ivs,List.map_set]] at this
       exact this
      case measure=>simp [intOf];omega
     ·have h3':¬ v0<te:=h3
      have HE:Hid (cameL C (L.take (k+1)) dn fr te=cameL C (L.take k) dn fr te):=hid (cameL_miss C L dn fr te k hlt fun l=>by
       rw [HV.out]
       simp only [hitA,Bool.and_eq_false_iff,decide_eq_false_iff_not]
       by_cases e:(m:Int)=(l:Int)
       ·obtain rfl:m=l:=by omega
        rw [show C.ow.getD m 0=C.ow[m] by simp [hmn]]
        omega
       ·exact .inl e)
      clear HV
      go_wp2
      go_roundw
      case rel=>exact ⟨k+1,by omega,by go_num,HQ.out,by rw [HE.out];exact HR4.out⟩
      case measure=>simp [intOf];omega
    ·have h2':¬ fr≤v0:=h2
     have HE:Hid (cameL C (L.take (k+1)) dn fr te=cameL C (L.take k) dn fr te):=hid (cameL_miss C L dn fr te k hlt fun l=>by
      rw [HV.out]
      simp only [hitA,Bool.and_eq_false_iff,decide_eq_false_iff_not]
      by_cases e:(m:Int)=(l:Int)
      ·obtain rfl:m=l:=by omega
       rw [show C.ow.getD m 0=C.ow[m] by simp [hmn]]
       omega
      ·exact .inl e)
     clear HV
     go_wp2
     go_roundw
     case rel=>exact ⟨k+1,by omega,by go_num,HQ.out,by rw [HE.out];exact HR4.out⟩
     case measure=>simp [intOf];omega
   ·have h1b:(C.ow[m] == dn)=false:=by simp [h1]
    have HE:Hid (cameL C (L.take (k+1)) dn fr te=cameL C (L.take k) dn fr te):=hid (cameL_miss C L dn fr te k hlt fun l=>by
     rw [HV.out]
     simp only [hitA,Bool.and_eq_false_iff,decide_eq_false_iff_not]
     by_cases e:(m:Int)=(l:Int)
     ·obtain rfl:m=l:=by omega
      rw [show C.ow.getD m 0=C.ow[m] by simp [hmn]]
      omega
     ·exact .inl e)
    clear HV
    go_wp2
    go_roundw
    case rel=>exact ⟨k+1,by omega,by go_num,HQ.out,by rw [HE.out];exact HR4.out⟩
    case measure=>simp [intOf];omega
  ·have hke:k=L.length:=by omega
   have hkk:¬ (k:Int)<(L.length:Int):=by omega
   have HR:=hid hrow
   have HF:=hid (btrans HB1.out hbl)
   clear hrow hbl
   go_wp2
   go_ret2
   refine ⟨w1.heap.size,rfl,?_,by omega,HF.out⟩
   have:=HR.out
   rw [hke,List.take_length] at this
   exact this
set_option maxHeartbeats 4000000 in
theorem cloneD_any (D:Dom) (A:DMem) (w:World) (hD:DomIn w A D) (hl:D.jobs.length≤1000000000000∧D.rel.length≤1000000000000∧D.tak.length≤1000000000000∧D.evs.length≤1000000000000) (hI:D.ins.length≤1000000000000) (hO:D.out.length≤1000000000000) (hi:∀ r∈D.ins,r.1.length≤1000000000000) (ho:∀ r∈D.out,r.length≤1000000000000) :
  Calls Tryz.prog 68 #[dv D A] w fun e w'=>∃ A' gI gO m p q,e=.returned (dv D A')∧DomOwn w.heap.size w' A' D gI gO m p q∧Below w.heap.size w w':=by
 have hmk87:=make87_any D.ins.length (by omega)
 have hmk83:=make83_any D.out.length (by omega)
 have HL:=hid hl
 have Hi:=hid hi
 have Ho:=hid ho
 clear hl hi ho
 obtain ⟨aJ,aR,aI,aT,aO,aE,cJ,cR,cI,cT,cO,cE⟩:=A
 have q1:=below_new w (.cells (dl D ⟨aJ,aR,aI,aT,aO,aE,cJ,cR,cI,cT,cO,cE⟩) 46)
 have q2:=below_new (w.alloc (.cells (dl D ⟨aJ,aR,aI,aT,aO,aE,cJ,cR,cI,cT,cO,cE⟩) 46)) (.cells #[.slice none 0 0,.slice none 0 0,.int .i64 0,.slice none 0 0,.slice none 0 0,.slice none 0 0,.slice none 0 0] 46)
 have HD:=hid (((hD.keep q1).keep q2).keep (Below.refl _ _).drew)
 have HR:=hid (((rowAt_new2 w w.heap.size (dl D ⟨aJ,aR,aI,aT,aO,aE,cJ,cR,cI,cT,cO,cE⟩).toList 46 rfl).below q2 lr).below (Below.refl _ _).drew lr)
 have HB:=hid (btrans q1 q2)
 have HRB:=hid ((rowAt_new2 (w.alloc (.cells (dl D ⟨aJ,aR,aI,aT,aO,aE,cJ,cR,cI,cT,cO,cE⟩) 46)) (w.heap.size+1) [.slice none 0 0,.slice none 0 0,.int .i64 0,.slice none 0 0,.slice none 0 0,.slice none 0 0,.slice none 0 0] 46 (by simp)).below (Below.refl _ _).drew lr)
 have HW2:Hid (w.heap.size+2≤(World.drew ((w.alloc (.cells (dl D ⟨aJ,aR,aI,aT,aO,aE,cJ,cR,cI,cT,cO,cE⟩) 46)).alloc (.cells #[.slice none 0 0,.slice none 0 0,.int .i64 0,.slice none 0 0,.slice none 0 0,.slice none 0 0,.slice none 0 0] 46))).heap.size):=hid (by simp)
 have HDW:=hid (Below.refl ((w.alloc (.cells (dl D ⟨aJ,aR,aI,aT,aO,aE,cJ,cR,cI,cT,cO,cE⟩) 46)).alloc (.cells #[.slice none 0 0,.slice none 0 0,.int .i64 0,.slice none 0 0,.slice none 0 0,.slice none 0 0,.slice none 0 0] 46)).heap.size ((w.alloc (.cells (dl D ⟨aJ,aR,aI,aT,aO,aE,cJ,cR,cI,cT,cO,cE⟩) 46)).alloc (.cells #[.slice none 0 0,.slice none 0 0,.int .i64 0,.slice none 0 0,.slice none 0 0,.slice none 0 0,.slice none 0 0] 46))).drew
 clear q1 q2 hD
 dsimp only [dv,dl] at *
 go_enter Tryz.func68,Tryz.ntmps68
 go_wp2
 refine wp_region_any (by kernel_rfl) ?_
 change wpAny _ _ _ _ _ _ _ (World.drew _)
 generalize hW:World.drew (World.alloc (World.alloc w _) _)=W at *
 have HS:Hid (∀ wx,Below W.heap.size W wx→∀ i v,(dl D ⟨aJ,aR,aI,aT,aO,aE,cJ,cR,cI,cT,cO,cE⟩).toList[i]? = some v→wx.cell? ⟨w.heap.size,i,none⟩=some v):=hid fun wx hb i v hv=>(HR.out.below hb lr).cell i v hv
 refine wpAny_inv (fun l a w'=>∃ x,a=AF D ⟨aJ,aR,aI,aT,aO,aE,cJ,cR,cI,cT,cO,cE⟩ w.heap.size (w.heap.size+1) x∧(RP D ⟨aJ,aR,aI,aT,aO,aE,cJ,cR,cI,cT,cO,cE⟩ W w.heap.size l x w'∨((∀ i,i<25→l.getD i false=true)∧∃ g,DC D W x w' g))) (by kernel_rfl) ?step ?fin _ _ _ _ rfl (by decide) ?start
 case start=>exact ⟨fun _=>undef,rfl,.inl ⟨rfl,Below.refl _ _,rfl,fun h=>absurd h (by decide),fun h=>absurd h (by decide),fun i h=>absurd h (by simp [Array.getD_eq_getD_getElem?,Array.getElem?_replicate];split <;> simp)⟩⟩
 case step=>
  intro l a w1 i o h ho hl hdep K' hK
  have hi:i<25:=by
   have:=(Array.getElem?_eq_some_iff.1 ho).1
   simpa using this
  obtain ⟨x,rfl,h|⟨h,_⟩⟩:=h
  case inr=>rw [h i hi] at hl;cases hl
  have hcs:i=0∨i=1∨i=2∨i=3∨i=4∨i=5∨i=6∨i=7∨i=8∨i=9∨i=10∨i=11∨i=12∨i=13∨i=14∨i=15∨i=16∨i=17∨i=18∨i=19∨i=20∨i=21∨i=22∨i=23∨i=24:=by omega
  rcases hcs with rfl|rfl|rfl|rfl|rfl|rfl|rfl|rfl|rfl|rfl|rfl|rfl|rfl|rfl|rfl|rfl|rfl|rfl|rfl|rfl|rfl|rfl|rfl|rfl|rfl
  ·simp only [List.getElem?_toArray,List.getElem?_cons_zero,Option.some.injEq] at ho
   subst ho
   clear hdep
   simp only [AF]
   go_simp
   exact hK.out _ _ ⟨upd x 8 (.pointer (some ⟨w.heap.size,0,none⟩)),rfl,.inl (rp_next 0 _ h (by decide) hl (Below.refl _ _) rfl (fun e=>absurd e (by decide)) (fun e=>absurd e (by decide)))⟩
  ·simp only [List.getElem?_toArray,List.getElem?_cons_zero,List.getElem?_cons_succ,Option.some.injEq] at ho
   subst ho
   have hd0:=dep_of hdep 0 (by kernel_rfl)
   have f0:x 8=.pointer (some ⟨w.heap.size,0,none⟩):=h.fc 0 hd0
   clear hdep
   have c1:=HS.out _ h.b 0 _ rfl
   simp only [AF,f0]
   go_simp
   exact hK.out _ _ ⟨upd x 9 (.slice aJ D.jobs.length cJ),(by simp only [AF,upd,reduceIte,Nat.reduceEqDiff,f0]),.inl (rp_next 1 _ h (by decide) hl (Below.refl _ _) rfl (fun e=>absurd e (by decide)) (fun e=>absurd e (by decide)))⟩
  ·simp only [List.getElem?_toArray,List.getElem?_cons_zero,List.getElem?_cons_succ,Option.some.injEq] at ho
   subst ho
   have hd1:=dep_of hdep 1 (by kernel_rfl)
   have f1:x 9=.slice aJ D.jobs.length cJ:=h.fc 1 hd1
   clear hdep
   simp only [AF,f1]
   go_simp
   refine (clone123_any aJ D.jobs cJ _ (HD.out.jobs.keep h.b) HL.out.1).mono ?_
   rintro e w2 ⟨v,rfl,hown,hb⟩
   have hsz:=h.b.size
   exact hK.out _ _ ⟨upd x 10 v,(by simp only [AF,upd,reduceIte,Nat.reduceEqDiff,f1]),.inl (rp_next 2 _ h (by decide) hl hb (ownsx_mono hown hsz) (fun e=>absurd e (by decide)) (fun e=>absurd e (by decide)))⟩
  ·simp only [List.getElem?_toArray,List.getElem?_cons_zero,List.getElem?_cons_succ,Option.some.injEq] at ho
   subst ho
   clear hdep
   simp only [AF]
   go_simp
   exact hK.out _ _ ⟨upd x 11 (.pointer (some ⟨w.heap.size,1,none⟩)),rfl,.inl (rp_next 3 _ h (by decide) hl (Below.refl _ _) rfl (fun e=>absurd e (by decide)) (fun e=>absurd e (by decide)))⟩
  ·simp only [List.getElem?_toArray,List.getElem?_cons_zero,List.getElem?_cons_succ,Option.some.injEq] at ho
   subst ho
   have hd3:=dep_of hdep 3 (by kernel_rfl)
   have f3:x 11=.pointer (some ⟨w.heap.size,1,none⟩):=h.fc 3 hd3
   clear hdep
   have c4:=HS.out _ h.b 1 _ rfl
   simp only [AF,f3]
   go_simp
   exact hK.out _ _ ⟨upd x 12 (.slice aR D.rel.length cR),(by simp only [AF,upd,reduceIte,Nat.reduceEqDiff,f3]),.inl (rp_next 4 _ h (by decide) hl (Below.refl _ _) rfl (fun e=>absurd e (by decide)) (fun e=>absurd e (by decide)))⟩
  ·simp only [List.getElem?_toArray,List.getElem?_cons_zero,List.getElem?_cons_succ,Option.some.injEq] at ho
   subst ho
   have hd4:=dep_of hdep 4 (by kernel_rfl)
   have f4:x 12=.slice aR D.rel.length cR:=h.fc 4 hd4
   clear hdep
   simp only [AF,f4]
   go_simp
   refine (clone87b_any aR D.rel cR _ (HD.out.rel.keep h.b) HL.out.2.1).mono ?_
   rintro e w2 ⟨v,rfl,hown,hb⟩
   have hsz:=h.b.size
   exact hK.out _ _ ⟨upd x 13 v,(by simp only [AF,upd,reduceIte,Nat.reduceEqDiff,f4]),.inl (rp_next 5 _ h (by decide) hl hb (ownsx_mono hown hsz) (fun e=>absurd e (by decide)) (fun e=>absurd e (by decide)))⟩
  ·simp only [List.getElem?_toArray,List.getElem?_cons_zero,List.getElem?_cons_succ,Option.some.injEq] at ho
   subst ho
   clear hdep
   simp only [AF]
   go_simp
   exact hK.out _ _ ⟨upd x 14 (.pointer (some ⟨w.heap.size,2,none⟩)),rfl,.inl (rp_next 6 _ h (by decide) hl (Below.refl _ _) rfl (fun e=>absurd e (by decide)) (fun e=>absurd e (by decide)))⟩
  ·simp only [List.getElem?_toArray,List.getElem?_cons_zero,List.getElem?_cons_succ,Option.some.injEq] at ho
   subst ho
   have hd6:=dep_of hdep 6 (by kernel_rfl)
   have f6:x 14=.pointer (some ⟨w.heap.size,2,none⟩):=h.fc 6 hd6
   clear hdep
   have c7:=HS.out _ h.b 2 _ rfl
   simp only [AF,f6]
   go_simp
   exact hK.out _ _ ⟨upd x 15 (.int .i64 D.nxt),(by simp only [AF,upd,reduceIte,Nat.reduceEqDiff,f6]),.inl (rp_next 7 _ h (by decide) hl (Below.refl _ _) rfl (fun e=>absurd e (by decide)) (fun e=>absurd e (by decide)))⟩
  ·simp only [List.getElem?_toArray,List.getElem?_cons_zero,List.getElem?_cons_succ,Option.some.injEq] at ho
   subst ho
   clear hdep
   simp only [AF]
   go_simp
   exact hK.out _ _ ⟨upd x 16 (.pointer (some ⟨w.heap.size,3,none⟩)),rfl,.inl (rp_next 8 _ h (by decide) hl (Below.refl _ _) rfl (fun e=>absurd e (by decide)) (fun e=>absurd e (by decide)))⟩
  ·simp only [List.getElem?_toArray,List.getElem?_cons_zero,List.getElem?_cons_succ,Option.some.injEq] at ho
   subst ho
   have hd8:=dep_of hdep 8 (by kernel_rfl)
   have f8:x 16=.pointer (some ⟨w.heap.size,3,none⟩):=h.fc 8 hd8
   clear hdep
   have c9:=HS.out _ h.b 3 _ rfl
   simp only [AF,f8]
   go_simp
   exact hK.out _ _ ⟨upd x 17 (.slice aI D.ins.length cI),(by simp only [AF,upd,reduceIte,Nat.reduceEqDiff,f8]),.inl (rp_next 9 _ h (by decide) hl (Below.refl _ _) rfl (fun e=>absurd e (by decide)) (fun e=>absurd e (by decide)))⟩
  ·simp only [List.getElem?_toArray,List.getElem?_cons_zero,List.getElem?_cons_succ,Option.some.injEq] at ho
   subst ho
   have hd9:=dep_of hdep 9 (by kernel_rfl)
   have f9:x 17=.slice aI D.ins.length cI:=h.fc 9 hd9
   clear hdep
   simp only [AF,f9]
   go_simp
   exact hK.out _ _ ⟨upd x 18 (.int .i64 D.ins.length),(by simp only [AF,upd,reduceIte,Nat.reduceEqDiff,f9]),.inl (rp_next 10 _ h (by decide) hl (Below.refl _ _) rfl (fun e=>absurd e (by decide)) (fun e=>absurd e (by decide)))⟩
  ·simp only [List.getElem?_toArray,List.getElem?_cons_zero,List.getElem?_cons_succ,Option.some.injEq] at ho
   subst ho
   have hd10:=dep_of hdep 10 (by kernel_rfl)
   have f10:x 18=.int .i64 D.ins.length:=h.fc 10 hd10
   clear hdep
   simp only [AF,f10]
   go_simp
   have hsz:=h.b.size
   exact hK.out _ _ ⟨upd x 19 (.slice (some ⟨w1.heap.size,0,none⟩) D.ins.length D.ins.length),(by simp only [AF,upd,reduceIte,Nat.reduceEqDiff,f10]),.inl (rp_next 11 _ h (by decide) hl (below_new _ _) ⟨_,rfl,hsz,heap_alloc_new _ _⟩ (fun e=>absurd e (by decide)) (fun e=>absurd e (by decide)))⟩
  ·simp only [List.getElem?_toArray,List.getElem?_cons_zero,List.getElem?_cons_succ,Option.some.injEq] at ho
   subst ho
   clear hdep
   simp only [AF]
   go_simp
   exact hK.out _ _ ⟨upd x 20 (.pointer (some ⟨w.heap.size,4,none⟩)),rfl,.inl (rp_next 12 _ h (by decide) hl (Below.refl _ _) rfl (fun e=>absurd e (by decide)) (fun e=>absurd e (by decide)))⟩
  ·simp only [List.getElem?_toArray,List.getElem?_cons_zero,List.getElem?_cons_succ,Option.some.injEq] at ho
   subst ho
   have hd12:=dep_of hdep 12 (by kernel_rfl)
   have f12:x 20=.pointer (some ⟨w.heap.size,4,none⟩):=h.fc 12 hd12
   clear hdep
   have c13:=HS.out _ h.b 4 _ rfl
   simp only [AF,f12]
   go_simp
   exact hK.out _ _ ⟨upd x 21 (.slice aT D.tak.length cT),(by simp only [AF,upd,reduceIte,Nat.reduceEqDiff,f12]),.inl (rp_next 13 _ h (by decide) hl (Below.refl _ _) rfl (fun e=>absurd e (by decide)) (fun e=>absurd e (by decide)))⟩
  ·simp only [List.getElem?_toArray,List.getElem?_cons_zero,List.getElem?_cons_succ,Option.some.injEq] at ho
   subst ho
   have hd13:=dep_of hdep 13 (by kernel_rfl)
   have hd5:=dep_of hdep 5 (by kernel_rfl)
   have f13:x 21=.slice aT D.tak.length cT:=h.fc 13 hd13
   clear hdep
   simp only [AF,f13]
   go_simp
   refine (clone87b_any aT D.tak cT _ (HD.out.tak.keep h.b) HL.out.2.2.1).mono ?_
   rintro e w2 ⟨v,rfl,hown,hb⟩
   have hsz:=h.b.size
   have hlt:=owns_lt (h.fc 5 hd5)
   exact hK.out _ _ ⟨upd x 22 v,(by simp only [AF,upd,reduceIte,Nat.reduceEqDiff,f13]),.inl (rp_next 14 _ h (by decide) hl hb ⟨ownsx_mono hown hsz,fun g hg hg2=>absurd (hlt g hg) (by have:=(owns_ge hown g hg2);omega)⟩ (fun _=>hd5) (fun e=>absurd e (by decide)))⟩
  ·simp only [List.getElem?_toArray,List.getElem?_cons_zero,List.getElem?_cons_succ,Option.some.injEq] at ho
   subst ho
   clear hdep
   simp only [AF]
   go_simp
   exact hK.out _ _ ⟨upd x 23 (.pointer (some ⟨w.heap.size,5,none⟩)),rfl,.inl (rp_next 15 _ h (by decide) hl (Below.refl _ _) rfl (fun e=>absurd e (by decide)) (fun e=>absurd e (by decide)))⟩
  ·simp only [List.getElem?_toArray,List.getElem?_cons_zero,List.getElem?_cons_succ,Option.some.injEq] at ho
   subst ho
   have hd15:=dep_of hdep 15 (by kernel_rfl)
   have f15:x 23=.pointer (some ⟨w.heap.size,5,none⟩):=h.fc 15 hd15
   clear hdep
   have c16:=HS.out _ h.b 5 _ rfl
   simp only [AF,f15]
   go_simp
   exact hK.out _ _ ⟨upd x 24 (.slice aO D.out.length cO),(by simp only [AF,upd,reduceIte,Nat.reduceEqDiff,f15]),.inl (rp_next 16 _ h (by decide) hl (Below.refl _ _) rfl (fun e=>absurd e (by decide)) (fun e=>absurd e (by decide)))⟩
  ·simp only [List.getElem?_toArray,List.getElem?_cons_zero,List.getElem?_cons_succ,Option.some.injEq] at ho
   subst ho
   have hd16:=dep_of hdep 16 (by kernel_rfl)
   have f16:x 24=.slice aO D.out.length cO:=h.fc 16 hd16
   clear hdep
   simp only [AF,f16]
   go_simp
   exact hK.out _ _ ⟨upd x 25 (.int .i64 D.out.length),(by simp only [AF,upd,reduceIte,Nat.reduceEqDiff,f16]),.inl (rp_next 17 _ h (by decide) hl (Below.refl _ _) rfl (fun e=>absurd e (by decide)) (fun e=>absurd e (by decide)))⟩
  ·simp only [List.getElem?_toArray,List.getElem?_cons_zero,List.getElem?_cons_succ,Option.some.injEq] at ho
   subst ho
   have hd17:=dep_of hdep 17 (by kernel_rfl)
   have f17:x 25=.int .i64 D.out.length:=h.fc 17 hd17
   clear hdep
   simp only [AF,f17]
   go_simp
   have hsz:=h.b.size
   exact hK.out _ _ ⟨upd x 26 (.slice (some ⟨w1.heap.size,0,none⟩) D.out.length D.out.length),(by simp only [AF,upd,reduceIte,Nat.reduceEqDiff,f17]),.inl (rp_next 18 _ h (by decide) hl (below_new _ _) ⟨_,rfl,hsz,heap_alloc_new _ _⟩ (fun e=>absurd e (by decide)) (fun e=>absurd e (by decide)))⟩
  ·simp only [List.getElem?_toArray,List.getElem?_cons_zero,List.getElem?_cons_succ,Option.some.injEq] at ho
   subst ho
   clear hdep
   simp only [AF]
   go_simp
   exact hK.out _ _ ⟨upd x 27 (.pointer (some ⟨w.heap.size,6,none⟩)),rfl,.inl (rp_next 19 _ h (by decide) hl (Below.refl _ _) rfl (fun e=>absurd e (by decide)) (fun e=>absurd e (by decide)))⟩
  ·simp only [List.getElem?_toArray,List.getElem?_cons_zero,List.getElem?_cons_succ,Option.some.injEq] at ho
   subst ho
   have hd19:=dep_of hdep 19 (by kernel_rfl)
   have f19:x 27=.pointer (some ⟨w.heap.size,6,none⟩):=h.fc 19 hd19
   clear hdep
   have c20:=HS.out _ h.b 6 _ rfl
   simp only [AF,f19]
   go_simp
   exact hK.out _ _ ⟨upd x 28 (.slice aE D.evs.length cE),(by simp only [AF,upd,reduceIte,Nat.reduceEqDiff,f19]),.inl (rp_next 20 _ h (by decide) hl (Below.refl _ _) rfl (fun e=>absurd e (by decide)) (fun e=>absurd e (by decide)))⟩
  ·simp only [List.getElem?_toArray,List.getElem?_cons_zero,List.getElem?_cons_succ,Option.some.injEq] at ho
   subst ho
   have hd20:=dep_of hdep 20 (by kernel_rfl)
   have f20:x 28=.slice aE D.evs.length cE:=h.fc 20 hd20
   clear hdep
   simp only [AF,f20]
   go_simp
   refine (clone124_any aE D.evs cE _ (HD.out.evs.keep h.b) HL.out.2.2.2).mono ?_
   rintro e w2 ⟨v,rfl,hown,hb⟩
   have hsz:=h.b.size
   exact hK.out _ _ ⟨upd x 29 v,(by simp only [AF,upd,reduceIte,Nat.reduceEqDiff,f20]),.inl (rp_next 21 _ h (by decide) hl hb (ownsx_mono hown hsz) (fun e=>absurd e (by decide)) (fun e=>absurd e (by decide)))⟩
  ·simp only [List.getElem?_toArray,List.getElem?_cons_zero,List.getElem?_cons_succ,Option.some.injEq] at ho
   subst ho
   have hd2:=dep_of hdep 2 (by kernel_rfl)
   have hd5:=dep_of hdep 5 (by kernel_rfl)
   have hd7:=dep_of hdep 7 (by kernel_rfl)
   have hd11:=dep_of hdep 11 (by kernel_rfl)
   have hd14:=dep_of hdep 14 (by kernel_rfl)
   have hd18:=dep_of hdep 18 (by kernel_rfl)
   have hd21:=dep_of hdep 21 (by kernel_rfl)
   have f7:x 15=.int .i64 D.nxt:=h.fc 7 hd7
   clear hdep
   obtain ⟨b1,k1,e1,_⟩:=owns_cells (h.fc 2 hd2)
   obtain ⟨b2,k2,e2,_⟩:=owns_cells (h.fc 5 hd5)
   obtain ⟨b3,e3,_⟩:=h.fc 11 hd11
   obtain ⟨b4,k4,e4,_⟩:=owns_cells (h.fc 14 hd14).1
   obtain ⟨b5,e5,_⟩:=h.fc 18 hd18
   obtain ⟨b6,k6,e6,_⟩:=owns_cells (h.fc 21 hd21)
   have E1:=hid e1
   have E2:=hid e2
   have E3:=hid e3
   have E4:=hid e4
   have E5:=hid e5
   have E6:=hid e6
   simp only [AF,f7,e1,e2,e3,e4,e5,e6]
   clear e1 e2 e3 e4 e5 e6
   have HH:=hid h
   have HD2:=hid hd2
   have HD5:=hid hd5
   have HD11:=hid hd11
   have HD14:=hid hd14
   have HD18:=hid hd18
   have HD21:=hid hd21
   have HF7:=hid f7
   have HLL:=hid hl
   rw [if_pos (by rfl)]
   refine step_run (v:=.agg #[.slice b1 D.jobs.length k1,.slice b2 D.rel.length k2,.int .i64 D.nxt,.slice (some ⟨b3,0,none⟩) D.ins.length D.ins.length,.slice b4 D.tak.length k4,.slice (some ⟨b5,0,none⟩) D.out.length D.out.length,.slice b6 D.evs.length k6]) (by kernel_rfl) ?_
   refine hK.out _ _ ⟨upd x 30 (.agg #[.slice b1 D.jobs.length k1,.slice b2 D.rel.length k2,.int .i64 D.nxt,.slice (some ⟨b3,0,none⟩) D.ins.length D.ins.length,.slice b4 D.tak.length k4,.slice (some ⟨b5,0,none⟩) D.out.length D.out.length,.slice b6 D.evs.length k6]),?_,.inl (rp_next 22 _ HH.out (by decide) HLL.out (Below.refl _ _) ?_ (fun e=>absurd e (by decide)) (fun _=>⟨HD2.out,HD5.out,HD11.out,HD14.out,HD18.out,HD21.out⟩))⟩
   ·simp only [Act.put,List.setIfInBounds_toArray,List.set_cons_zero,List.set_cons_succ,AF,upd,HF7.out,E1.out,E2.out,E3.out,E4.out,E5.out,E6.out,reduceIte,Nat.reduceEqDiff]
   ·show upd x 30 _ 30=.agg #[x 10,x 13,_,x 19,x 22,x 26,x 29]
    rw [E1.out,E2.out,E3.out,E4.out,E5.out,E6.out]
    rfl
  ·simp only [List.getElem?_toArray,List.getElem?_cons_zero,List.getElem?_cons_succ,Option.some.injEq] at ho
   subst ho
   clear hdep
   simp only [AF]
   go_simp
   have hsz:=h.b.size
   exact hK.out _ _ ⟨upd x 3 (.pointer (some ⟨w1.heap.size,0,none⟩)),rfl,.inl (rp_next 23 _ h (by decide) hl (below_new _ _) ⟨_,rfl,hsz,heap_alloc_new _ _⟩ (fun e=>absurd e (by decide)) (fun e=>absurd e (by decide)))⟩
  ·simp only [List.getElem?_toArray,List.getElem?_cons_zero,List.getElem?_cons_succ,Option.some.injEq] at ho
   subst ho
   have hd22:=dep_of hdep 22 (by kernel_rfl)
   have hd23:=dep_of hdep 23 (by kernel_rfl)
   obtain ⟨hd2,hd5,hd11,hd14,hd18,hd21⟩:=h.l22 hd22
   have e0:x 30=.agg #[x 10,x 13,.int .i64 D.nxt,x 19,x 22,x 26,x 29]:=h.fc 22 hd22
   obtain ⟨g,eg,hg,hrow⟩:=h.fc 23 hd23
   obtain ⟨b1,k1,e1,_⟩:=owns_cells (h.fc 2 hd2)
   obtain ⟨b2,k2,e2,_⟩:=owns_cells (h.fc 5 hd5)
   obtain ⟨b3,e3,_⟩:=h.fc 11 hd11
   obtain ⟨b4,k4,e4,_⟩:=owns_cells (h.fc 14 hd14).1
   obtain ⟨b5,e5,_⟩:=h.fc 18 hd18
   obtain ⟨b6,k6,e6,_⟩:=owns_cells (h.fc 21 hd21)
   have HH:=hid h
   have HD2:=hid hd2
   have HD5:=hid hd5
   have HD11:=hid hd11
   have HD14:=hid hd14
   have HD18:=hid hd18
   have HD21:=hid hd21
   have E1:=hid e1
   have E2:=hid e2
   have E3:=hid e3
   have E4:=hid e4
   have E5:=hid e5
   have E6:=hid e6
   have EG:=hid eg
   have HG:=hid hg
   have E0:=hid e0
   have HROW:=hid hrow
   have HALL:Hid (∀ i,i<25→(l.setIfInBounds 24 true).getD i false=true):=hid (all_set (all_of HH.out hdep))
   rw [e1,e2,e3,e4,e5,e6] at e0
   simp only [AF,e0,eg]
   clear h hd2 hd5 hd11 hd14 hd18 hd21 hd22 hd23 hl hdep e0 e1 e2 e3 e4 e5 e6 eg hg hrow hmk87 hmk83 hI hO
   rw [if_pos (by rfl)]
   refine wp_store_mid 46 _ _ rfl g 0 #[.slice b1 D.jobs.length k1,.slice b2 D.rel.length k2,.int .i64 D.nxt,.slice (some ⟨b3,0,none⟩) D.ins.length D.ins.length,.slice b4 D.tak.length k4,.slice (some ⟨b5,0,none⟩) D.out.length D.out.length,.slice b6 D.evs.length k6] (by rfl) (by rfl) (show w1.there g 0 7 from there_row HROW.out) (by kernel_rfl) (by kernel_rfl) ?_
   have hn:=fun k (hk:k≠g)=>heap_setCells_ne g [.slice b1 D.jobs.length k1,.slice b2 D.rel.length k2,.int .i64 D.nxt,.slice (some ⟨b3,0,none⟩) D.ins.length D.ins.length,.slice b4 D.tak.length k4,.slice (some ⟨b5,0,none⟩) D.out.length D.out.length,.slice b6 D.evs.length k6] 0 w1 k hk
   have F2:World.ownsRow _ _ _ _ (x 10) _ _:=HH.out.fc 2 HD2.out
   have F5:World.ownsRow _ _ _ _ (x 13) _ _:=HH.out.fc 5 HD5.out
   have F14:=HH.out.fc 14 HD14.out
   have F21:World.ownsRow _ _ _ _ (x 29) _ _:=HH.out.fc 21 HD21.out
   have F11:Made2 _ _ (x 19) _:=HH.out.fc 11 HD11.out
   have F18:Made1 _ _ (x 26) _:=HH.out.fc 18 HD18.out
   refine hK.out _ _ ⟨x,?_,.inr ⟨HALL.out,g,?_⟩⟩
   ·simp only [Act.put,AF,E0.out,E1.out,E2.out,E3.out,E4.out,E5.out,E6.out,EG.out]
   ·refine ⟨below_setCellsx HH.out.b g HG.out _ _,EG.out,HG.out,?_,owns_agree F2 (fun k hk=>hn k (owns_ne F2 HROW.out (by decide) k hk)),owns_agree F5 (fun k hk=>hn k (owns_ne F5 HROW.out (by decide) k hk)),?_,owns_agree F14.1 (fun k hk=>hn k (owns_ne F14.1 HROW.out (by decide) k hk)),F14.2,?_,owns_agree F21 (fun k hk=>hn k (owns_ne F21 HROW.out (by decide) k hk))⟩
    ·rw [E1.out,E2.out,E3.out,E4.out,E5.out,E6.out]
     exact row_setCells _ [] _ w1 HROW.out rfl
    ·obtain ⟨k,q1,q2,q3⟩:=F11
     exact ⟨k,q1,q2,by rw [hn k (fun e=>by subst e;rw [show w1.heap[k]? = _ from HROW.out] at q3;simp at q3)];exact q3⟩
    ·obtain ⟨k,q1,q2,q3⟩:=F18
     exact ⟨k,q1,q2,by rw [hn k (fun e=>by subst e;rw [show w1.heap[k]? = _ from HROW.out] at q3;simp at q3)];exact q3⟩
 case fin=>
  rintro l a w1 ⟨x,rfl,h|⟨_,g,h⟩⟩ hall
  ·have:=hall 24 (by decide)
   rw [h.st] at this
   cases this
  obtain ⟨b1,k1,e1,-⟩:=owns_cells h.j
  obtain ⟨b2,k2,e2,-⟩:=owns_cells h.r
  obtain ⟨b3,e3,hb3,hr3⟩:=h.i
  obtain ⟨b4,k4,e4,-⟩:=owns_cells h.t
  obtain ⟨b5,e5,hb5,hr5⟩:=h.o
  obtain ⟨b6,k6,e6,-⟩:=owns_cells h.ev
  have HB1:=hid h.b
  have HJ:=hid h.j
  have HR1:=hid h.r
  have HT:=hid h.t
  have HE:=hid h.ev
  have HRT:=hid h.rt
  have HBX:=hid h.box
  have HG:=hid h.hg
  have e0:=h.e
  rw [e1] at HJ
  rw [e2] at HR1 HRT
  rw [e4] at HT HRT
  rw [e6] at HE
  rw [e1,e2,e3,e4,e5,e6] at HBX
  have HI3:=hid hr3
  have HO5:=hid hr5
  have H3:=hid hb3
  have H5:=hid hb5
  have HA:=hid HS.out
  clear h hr3 hr5 hb3 hb5
  simp only [AF,e0,e1,e2,e3,e4,e5,e6]
  clear e0 e1 e2 e3 e4 e5 e6 hmk87 hmk83 HR
  have c3:=HS.out _ HB1.out 3 _ rfl
  have c5:=HS.out _ HB1.out 5 _ rfl
  have hsz1:=HB1.out.size
  have hgI:b3<w1.heap.size:=(Array.getElem?_eq_some_iff.1 HI3.out).1
  have hgO:b5<w1.heap.size:=(Array.getElem?_eq_some_iff.1 HO5.out).1
  have hgg:g≠b3:=fun e=>by
   have h1:=HBX.out
   rw [e] at h1
   have h2:=HI3.out
   rw [show w1.heap[b3]? = _ from h1] at h2
   simp at h2
  have HC5:=hid c5
  clear c5
  dsimp only [List.getElem?_cons_zero] at *
  go_wp2
  clear c3
  go_loopw [34] (fun i wr=>∃ k p:Nat,k≤D.ins.length∧i=.int .i64 k∧Below W.heap.size W wr∧AgreeBut b3 w1 wr∧RingsK wr b3 w1.heap.size p D.ins k∧p≤wr.heap.size) (fun i _=>D.ins.length - (intOf i).toNat)
  case atStart=>exact ⟨0,w1.heap.size,Nat.zero_le _,rfl,HB1.out,AgreeBut.refl _ _,RingsK.start (n0:=0) HI3.out,Nat.le_refl _⟩
  case round=>
   obtain ⟨k,p,hk,rfl,hbl,hag,hrk,hp⟩:=hrel
   have HRK:=hid hrk
   have HAG:=hid hag
   clear hrk hag
   by_cases hlt:k<D.ins.length
   ·obtain ⟨b',o',a2,cap2,ea,hc0,hc1,hIs,hcap,hlen⟩:=HD.out.ins k hlt
    have ea':aI=some ⟨b',o',none⟩:=ea
    rw [ea']
    replace hc0:=bkeep hbl hc0 lr
    replace hc1:=bkeep hbl hc1 lr
    have q4:=below_new wr (.cells #[.slice a2 D.ins[k].1.length cap2,.int .i64 D.ins[k].2] 90)
    have HI4:=hid ((hIs.keep hbl).keep q4)
    have R4:=hid (rowAt_new2 wr wr.heap.size [.slice a2 D.ins[k].1.length cap2,.int .i64 D.ins[k].2] 90 rfl)
    have hq3:RowAt wr g 46 _:=(HAG.out.2 g hgg (Array.getElem?_eq_some_iff.1 HBX.out).1).trans HBX.out
    have RB4:=hid (hq3.below q4 lr)
    have HQ4:=hid q4
    have hk4:(k:Int)<(D.ins.length:Int):=by omega
    have hk0:(0:Int)≤(k:Int):=by omega
    have HLN:=hid (Hi.out _ (List.getElem_mem hlt))
    clear q4 hq3 hIs
    have hN1:b3≠g:=Ne.symm hgg
    have hN2:b3≠wr.heap.size:=by have:=HAG.out.1;omega
    go_wp2
    clear hc0 hc1
    generalize World.alloc wr _=w4 at *
    have HSX:Hid (∀ wx,Below w4.heap.size w4 wx→wx.cell? ⟨g,3,none⟩=some (.slice (some ⟨b3,0,none⟩) D.ins.length D.ins.length)∧wx.cell? ⟨wr.heap.size,0,none⟩=some (.slice a2 D.ins[k].1.length cap2)∧wx.cell? ⟨wr.heap.size,1,none⟩=some (.int .i64 D.ins[k].2)):=hid fun wx hb=>⟨(RB4.out.below hb lr).cell 3 _ rfl,(R4.out.below hb lr).cell 0 _ rfl,(R4.out.below hb lr).cell 1 _ rfl⟩
    go_region_held3 (fun w'=>w'.cell? ⟨g,3,none⟩=some (.slice (some ⟨b3,0,none⟩) D.ins.length D.ins.length)∧w'.cell? ⟨wr.heap.size,0,none⟩=some (.slice a2 D.ins[k].1.length cap2)∧w'.cell? ⟨wr.heap.size,1,none⟩=some (.int .i64 D.ins[k].2))
     (first|exact HSX.out _ (Below.refl _ _).drew|exact HSX.out _ (btrans (Below.refl _ _).drew hb5)|exact ⟨far2 (HSX.out _ (btrans (Below.refl _ _).drew hb5)).1 hN1,far2 (HSX.out _ (btrans (Below.refl _ _).drew hb5)).2.1 hN2,far2 (HSX.out _ (btrans (Below.refl _ _).drew hb5)).2.2 hN2⟩|go_keep)
     (first|(go_at_call 97;refine (clone87b_any a2 D.ins[k].1 cap2 _ (by exact HI4.out) HLN.out).mono ?_;rintro e w5 ⟨v5,rfl,hown5,hb5⟩;obtain ⟨a5,cp5,rfl,-⟩:=owns_cells hown5;obtain ⟨⟨u0,hu0⟩,⟨u1,hu1⟩,hz0,hz1⟩:=(HRK.out.keep hp (btrans HQ4.out (btrans (Below.refl _ _).drew hb5))).cellAt k hlt))
    have HREL:Hid (Below W.heap.size W ((w5.setCell ⟨b3,k * 2,none⟩ (.slice a5 D.ins[k].1.length cp5)).setCell ⟨b3,k * 2+1,none⟩ (.int .i64 D.ins[k].2))∧AgreeBut b3 w1 ((w5.setCell ⟨b3,k * 2,none⟩ (.slice a5 D.ins[k].1.length cp5)).setCell ⟨b3,k * 2+1,none⟩ (.int .i64 D.ins[k].2))∧RingsK ((w5.setCell ⟨b3,k * 2,none⟩ (.slice a5 D.ins[k].1.length cp5)).setCell ⟨b3,k * 2+1,none⟩ (.int .i64 D.ins[k].2)) b3 w1.heap.size w5.heap.size D.ins (k+1)∧w5.heap.size≤((w5.setCell ⟨b3,k * 2,none⟩ (.slice a5 D.ins[k].1.length cp5)).setCell ⟨b3,k * 2+1,none⟩ (.int .i64 D.ins[k].2)).heap.size):=by
     have q5:=btrans HQ4.out (btrans (Below.refl _ _).drew hb5)
     have q45:=HQ4.out.size
     refine hid ⟨((btrans hbl q5).setCell (p:=⟨b3,k * 2,none⟩) H3.out _).setCell (p:=⟨b3,k * 2+1,none⟩) H3.out _,((HAG.out.below q5).set _ _).set _ _,HRK.out.next hgI hlt hp q5 (ownsx_mono hown5 (by have:=HQ4.out.size;simp only [World.drew] at *;omega)),by simp⟩
    clear HSX HI4 R4 RB4 HQ4 hu0 hu1 hz0 hz1 hown5 hb5 HRK HAG hbl HLN
    go_wp2
    go_roundw
    case rel=>exact ⟨k+1,w5.heap.size,by omega,by go_num,HREL.out.1,HREL.out.2.1,HREL.out.2.2.1,HREL.out.2.2.2⟩
    case measure=>simp [intOf];omega
   ·have hkn:k=D.ins.length:=by omega
    subst hkn
    obtain ⟨W1,rfl⟩:∃ x,x=wr:=⟨_,rfl⟩
    have c5:=HS.out _ hbl 5 _ rfl
    have hgIO:b5≠b3:=fun e=>by
     have h1:=HO5.out
     rw [e] at h1
     have h2:=HI3.out
     rw [h1] at h2
     simp at h2
    have hgO2:g≠b5:=fun e=>by
     have h1:=HBX.out
     rw [e] at h1
     have h2:=HO5.out
     rw [show w1.heap[b5]? = _ from h1] at h2
     simp at h2
    have HBL:=hid hbl
    have HP:=hid hp
    have hszW:=HAG.out.1
    have HO51:=hid ((HAG.out.2 b5 hgIO hgO).trans HO5.out)
    have HBX1:Hid (RowAt W1 g 46 _):=hid ((HAG.out.2 g hgg (Array.getElem?_eq_some_iff.1 HBX.out).1).trans HBX.out)
    go_wp2
    clear c5 hbl hp
    go_loopw [53] (fun i wr=>∃ k r:Nat,k≤D.out.length∧i=.int .i64 k∧Below W.heap.size W wr∧AgreeBut b5 W1 wr∧ListsK wr b5 W1.heap.size r D.out k∧r≤wr.heap.size∧W1.heap.size≤r) (fun i _=>D.out.length - (intOf i).toNat)
    case atStart=>exact ⟨0,W1.heap.size,Nat.zero_le _,rfl,HBL.out,AgreeBut.refl _ _,ListsK.start HO51.out,Nat.le_refl _,Nat.le_refl _⟩
    case round=>
     obtain ⟨k,r,hk,rfl,hbl,hag,hrk,hp,hpr⟩:=hrel
     have HRK2:=hid hrk
     have HAG2:=hid hag
     clear hrk hag
     by_cases hlt:k<D.out.length
     ·obtain ⟨b',o',a2,cap2,ea,hc0,hIs,hcap,hlen⟩:=HD.out.out k hlt
      have ea':aO=some ⟨b',o',none⟩:=ea
      rw [ea']
      replace hc0:=bkeep hbl hc0 lr
      have HI4:=hid (hIs.keep hbl)
      have hq3:RowAt wr g 46 _:=(HAG2.out.2 g hgO2 (Array.getElem?_eq_some_iff.1 HBX1.out).1).trans HBX1.out
      have RB4:=hid hq3
      have hk4:(k:Int)<(D.out.length:Int):=by omega
      have hk0:(0:Int)≤(k:Int):=by omega
      have HLN:=hid (Ho.out _ (List.getElem_mem hlt))
      clear hq3 hIs
      have hN1:b5≠g:=Ne.symm hgO2
      go_wp2
      clear hc0
      have HSX:Hid (∀ wx,Below wr.heap.size wr wx→wx.cell? ⟨g,5,none⟩=some (.slice (some ⟨b5,0,none⟩) D.out.length D.out.length)):=hid fun wx hb=>(RB4.out.below hb lr).cell 5 _ rfl
      go_region_held3 (fun w'=>w'.cell? ⟨g,5,none⟩=some (.slice (some ⟨b5,0,none⟩) D.out.length D.out.length))
       (first|exact HSX.out _ (Below.refl _ _).drew|exact HSX.out _ (btrans (Below.refl _ _).drew hb5)|exact far1 (HSX.out _ (btrans (Below.refl _ _).drew hb5)) hN1|go_keep)
       (first|(go_at_call 97;refine (clone87b_any a2 D.out[k] cap2 _ (by exact HI4.out) HLN.out).mono ?_;rintro e w5 ⟨v5,rfl,hown5,hb5⟩;obtain ⟨a5,cp5,rfl,-⟩:=owns_cells hown5;obtain ⟨⟨u0,hu0⟩,hz0⟩:=(HRK2.out.keep hp (btrans (Below.refl _ _).drew hb5)).cellAt k hlt))
      have HREL:Hid (Below W.heap.size W (w5.setCell ⟨b5,k,none⟩ (.slice a5 D.out[k].length cp5))∧AgreeBut b5 W1 (w5.setCell ⟨b5,k,none⟩ (.slice a5 D.out[k].length cp5))∧ListsK (w5.setCell ⟨b5,k,none⟩ (.slice a5 D.out[k].length cp5)) b5 W1.heap.size w5.heap.size D.out (k+1)∧w5.heap.size≤(w5.setCell ⟨b5,k,none⟩ (.slice a5 D.out[k].length cp5)).heap.size∧W1.heap.size≤w5.heap.size):=by
       have q5:Below wr.heap.size wr w5:=btrans (Below.refl _ _).drew hb5
       have q6:=q5.size
       refine hid ⟨(btrans hbl q5).setCell (p:=⟨b5,k,none⟩) H5.out _,(HAG2.out.below q5).set _ _,HRK2.out.next (by omega) hlt hp q5 (ownsx_mono hown5 (by simpa using hp)),by simp,by omega⟩
      clear HSX HI4 RB4 hu0 hz0 hown5 hb5 HRK2 HAG2 hbl HLN
      go_wp2
      go_roundw
      case rel=>exact ⟨k+1,w5.heap.size,by omega,by go_num,HREL.out.1,HREL.out.2.1,HREL.out.2.2.1,HREL.out.2.2.2.1,HREL.out.2.2.2.2⟩
      case measure=>simp [intOf];omega
     ·have hkn:k=D.out.length:=by omega
      subst hkn
      have hq3:RowAt wr g 46 _:=(HAG2.out.2 g hgO2 (Array.getElem?_eq_some_iff.1 HBX1.out).1).trans HBX1.out
      have d0:=hq3.cell 0 _ rfl
      have d1:=hq3.cell 1 _ rfl
      have d2:=hq3.cell 2 _ rfl
      have d3:=hq3.cell 3 _ rfl
      have d4:=hq3.cell 4 _ rfl
      have d5:=hq3.cell 5 _ rfl
      have d6:=hq3.cell 6 _ rfl
      have hrb:=(HRB.out.below hbl lr)
      have z0:=hrb.frozen 0
      have z1:=hrb.frozen 1
      have z2:=hrb.frozen 2
      have z3:=hrb.frozen 3
      have z4:=hrb.frozen 4
      have z5:=hrb.frozen 5
      have z6:=hrb.frozen 6
      have y0:=hrb.cell 0 _ rfl
      have y1:=hrb.cell 1 _ rfl
      have y2:=hrb.cell 2 _ rfl
      have y3:=hrb.cell 3 _ rfl
      have y4:=hrb.cell 4 _ rfl
      have y5:=hrb.cell 5 _ rfl
      have y6:=hrb.cell 6 _ rfl
      have hW2:w.heap.size+2≤W.heap.size:=HW2.out
      have HFIN:Hid (DomOwn W.heap.size wr ⟨b1,b2,some ⟨b3,0,none⟩,b4,some ⟨b5,0,none⟩,b6,k1,k2,D.ins.length,k4,D.out.length,k6⟩ D b3 b5 w1.heap.size W1.heap.size r):=by
       have ag:∀ {x},x≠b3→x≠b5→x<w1.heap.size→wr.heap[x]? = w1.heap[x]? := fun h3 h5 hl=>(HAG2.out.2 _ h5 (by omega)).trans (HAG.out.2 _ h3 hl)
       have ow:∀ {e sz n:Nat} {v:Value} {xs:List Value},w1.ownsRow W.heap.size e sz v n xs→e≠90→e≠23→wr.ownsRow W.heap.size e sz v n xs:=fun o n1 n2=>owns_agree o (fun x hx=>ag (owns_ne2 o HI3.out n1 x hx) (owns_ne2 o HO5.out n2 x hx) (owns_lt o x hx))
       refine hid ⟨ow HJ.out (by decide) (by decide),ow HR1.out (by decide) (by decide),ow HT.out (by decide) (by decide),ow HE.out (by decide) (by decide),HRT.out,?_,HRK2.out,rfl,rfl,rfl,rfl,⟨H3.out,hgI⟩,⟨H5.out,hgO⟩,⟨hszW,hpr,hp⟩,?_⟩
       ·exact (HRK.out.more HP.out).agree (fun x hx=>HAG2.out.2 x (by rcases hx with rfl|⟨q1,q2⟩ <;> omega) (by rcases hx with rfl|⟨q1,q2⟩ <;> omega))
       ·rintro x (hx|hx|hx|hx)
        ·exact owns_lt HJ.out x hx
        ·exact owns_lt HR1.out x hx
        ·exact owns_lt HT.out x hx
        ·exact owns_lt HE.out x hx
      have HBF:=hid (btrans HB.out (btrans (HDW.out) hbl))
      have HRF:Hid (RowAt (wr.setCells (w.heap.size+1) 0 [.slice b1 D.jobs.length k1,.slice b2 D.rel.length k2,.int .i64 D.nxt,.slice (some ⟨b3,0,none⟩) D.ins.length D.ins.length,.slice b4 D.tak.length k4,.slice (some ⟨b5,0,none⟩) D.out.length D.out.length,.slice b6 D.evs.length k6]) (w.heap.size+1) 46 [.slice b1 D.jobs.length k1,.slice b2 D.rel.length k2,.int .i64 D.nxt,.slice (some ⟨b3,0,none⟩) D.ins.length D.ins.length,.slice b4 D.tak.length k4,.slice (some ⟨b5,0,none⟩) D.out.length D.out.length,.slice b6 D.evs.length k6]):=hid (row_setCells _ [] _ wr hrb rfl)
      have HFW:Hid (DomOwn w.heap.size (wr.setCells (w.heap.size+1) 0 [.slice b1 D.jobs.length k1,.slice b2 D.rel.length k2,.int .i64 D.nxt,.slice (some ⟨b3,0,none⟩) D.ins.length D.ins.length,.slice b4 D.tak.length k4,.slice (some ⟨b5,0,none⟩) D.out.length D.out.length,.slice b6 D.evs.length k6]) ⟨b1,b2,some ⟨b3,0,none⟩,b4,some ⟨b5,0,none⟩,b6,k1,k2,D.ins.length,k4,D.out.length,k6⟩ D b3 b5 w1.heap.size W1.heap.size r):=hid ((HFIN.out.agree (by simp [World.setCells]) (fun x h1 h2=>heap_setCells_ne _ _ _ _ x (by omega))).base (by omega))
      have HBW:Hid (Below w.heap.size w (wr.setCells (w.heap.size+1) 0 [.slice b1 D.jobs.length k1,.slice b2 D.rel.length k2,.int .i64 D.nxt,.slice (some ⟨b3,0,none⟩) D.ins.length D.ins.length,.slice b4 D.tak.length k4,.slice (some ⟨b5,0,none⟩) D.out.length D.out.length,.slice b6 D.evs.length k6])):=hid (below_setCellsx HBF.out _ (by omega) _ _)
      clear hq3 hrb
      go_wp2
      change bodyPost _ _ _ _ _ (wr.setCells (w.heap.size+1) 0 [.slice b1 D.jobs.length k1,.slice b2 D.rel.length k2,.int .i64 D.nxt,.slice (some ⟨b3,0,none⟩) D.ins.length D.ins.length,.slice b4 D.tak.length k4,.slice (some ⟨b5,0,none⟩) D.out.length D.out.length,.slice b6 D.evs.length k6])
      clear d0 d1 d2 d3 d4 d5 d6 z0 z1 z2 z3 z4 z5 z6 y0 y1 y2 y3 y4 y5 y6
      generalize wr.setCells (w.heap.size+1) 0 [.slice b1 D.jobs.length k1,.slice b2 D.rel.length k2,.int .i64 D.nxt,.slice (some ⟨b3,0,none⟩) D.ins.length D.ins.length,.slice b4 D.tak.length k4,.slice (some ⟨b5,0,none⟩) D.out.length D.out.length,.slice b6 D.evs.length k6]=wf at *
      have d0:=HRF.out.cell 0 _ rfl
      have d1:=HRF.out.cell 1 _ rfl
      have d2:=HRF.out.cell 2 _ rfl
      have d3:=HRF.out.cell 3 _ rfl
      have d4:=HRF.out.cell 4 _ rfl
      have d5:=HRF.out.cell 5 _ rfl
      have d6:=HRF.out.cell 6 _ rfl
      exact bodyPost_ret (v:=.agg #[.slice b1 D.jobs.length k1,.slice b2 D.rel.length k2,.int .i64 D.nxt,.slice (some ⟨b3,0,none⟩) D.ins.length D.ins.length,.slice b4 D.tak.length k4,.slice (some ⟨b5,0,none⟩) D.out.length D.out.length,.slice b6 D.evs.length k6]) (by simp [results,Tryz.results68,go_sem,d0,d1,d2,d3,d4,d5,d6]) rfl ⟨⟨b1,b2,some ⟨b3,0,none⟩,b4,some ⟨b5,0,none⟩,b6,k1,k2,D.ins.length,k4,D.out.length,k6⟩,b3,b5,w1.heap.size,W1.heap.size,r,rfl,HFW.out,HBW.out⟩
end Go.Proofs.YtejhccmclanlmaaGreatDoor
