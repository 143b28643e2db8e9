/- Ze Ab Zd -/
import Derived.Deep.DeepCutAuto
import Derived.Test.YtejhccmclanlmaaGreatDoorV10
set_option linter.all false
set_option maxRecDepth 100000
set_option maxHeartbeats 8000000
namespace Go.Proofs.YtejhccmclanlmaaGreatDoor
open Go.RowKit Go.Proofs.Tryz
variable {D:Dom} {L:List (List Int×Int)} {xs:List Value} {b g gI gO k m n o1 p p' q sz x:Nat} {u v1:Value} {w w' w5:World} {A:Yk}
def Zap (w:World) (m p:Nat) (F:Nat→List Int) (v:Nat→Value) (k:Nat):Prop:=∃ B:Nat→Nat,(∀ j,j<k→w.ownsRow (B j) 3 1 (v j) (F j).length (ivs (F j))∧∀ x,(v j).ownBlock=some x→x<B (j+1))∧(∀ j,j<k→B j≤B (j+1))∧B 0=m∧B k≤p
theorem Zce {B:Nat→Nat} (h:∀ j,j<k→B j≤B (j+1)):∀ i j,i≤j→j≤k→B i≤B j:=by
 intro i j
 induction j with
 | zero=>intro h1 _;rw [Nat.le_zero.1 h1];exact lr
 | succ j ih=>
  intro h1 h2;by_cases e:i=j+1
  ·rw [e];exact lr
  ·exact Nat.le_trans (ih (by omega) (by omega)) (h j (by omega))
theorem Zap.zero (w:World) (m p:Nat) (F:Nat→List Int) (v:Nat→Value) (h:m≤p):Zap w m p F v 0:=⟨fun _=>m,fun j hj=>by omega,fun j hj=>by omega,rfl,h⟩
theorem Zap.agree {F:Nat→List Int} {v:Nat→Value} (h:Zap w m p F v k) (hk:∀ x,m≤x→x<p→w'.heap[x]? = w.heap[x]?):Zap w' m p F v k:=by
 obtain ⟨B,h3,h4,h5,h6⟩:=h;refine ⟨B,fun j hj=>?_,h4,h5,h6⟩;obtain ⟨o,u⟩:=h3 j hj;refine ⟨Zi o (fun x hx=>hk x ?_ ?_),u⟩
 ·have:=Zv o x hx
  have:=Zce h4 0 j (by omega) (by omega)
  omega
 ·have:=u x hx
  have:=Zce h4 (j+1) k (by omega) (by omega)
  omega
theorem Zap.more {F:Nat→List Int} {v:Nat→Value} (h:Zap w m p F v k) (hp:p≤p'):Zap w m p' F v k:=by
 obtain ⟨B,h3,h4,h5,h6⟩:=h;exact ⟨B,h3,h4,h5,by omega⟩
theorem Zap.next {F:Nat→List Int} {v:Nat→Value} (h:Zap w m p F v k) (hown:w.ownsRow p 3 1 u (F k).length (ivs (F k))) (hp:p≤p') (hu:∀ x,u.ownBlock=some x→x<p'):Zap w m p' F (fun j=>if j=k then u else v j) (k+1):=by
 obtain ⟨B,h3,h4,h5,h6⟩:=h;refine ⟨fun j=>if j≤k then B j else p',fun j hj=>?_,fun j hj=>?_,by simp [h5],by dsimp only;rw [if_neg (by omega)];exact lr⟩
 ·by_cases e:j=k
  ·subst e
   simp only [if_pos lr,if_true,if_neg (show ¬ j+1≤j by omega)];exact ⟨Ys hown h6,hu⟩
  ·simp only [if_neg e,if_pos (show j≤k by omega),if_pos (show j+1≤k by omega)]
   exact h3 j (by omega)
 ·by_cases e:j=k
  ·subst e
   simp only [if_pos lr,if_neg (show ¬ j+1≤j by omega)];omega
  ·simp only [if_pos (show j≤k by omega),if_pos (show j+1≤k by omega)]
   exact h4 j (by omega)
def Qw (w:World) (g m p:Nat) (L:List (List Int×Int)) (k:Nat):Prop:=∃ (cs:List Value) (v:Nat→Value),Zf w g 90 cs∧cs.length=L.length*2∧(∀ j,j<k→cs[j*2]? = some (v j)∧cs[j*2+1]? = some (.int .i64 (L.getD j ([],0)).2))∧Zap w m p (fun j=>(L.getD j ([],0)).1) v k
def Je (w:World) (g m p:Nat) (L:List (List Int)) (k:Nat):Prop:=∃ (cs:List Value) (v:Nat→Value),Zf w g 23 cs∧cs.length=L.length∧(∀ j,j<k→cs[j]? = some (v j))∧Zap w m p (fun j=>L.getD j []) v k
theorem Qw.agree (h:Qw w g m p L k) (hk:∀ x,x=g∨m≤x∧x<p→w'.heap[x]? = w.heap[x]?):Qw w' g m p L k:=by
 obtain ⟨cs,v,h1,h2,h3,h4⟩:=h;exact ⟨cs,v,(hk g (.inl rfl)).trans h1,h2,h3,h4.agree (fun x a b=>hk x (.inr ⟨a,b⟩))⟩
theorem Je.agree {L:List (List Int)} (h:Je w g m p L k) (hk:∀ x,x=g∨m≤x∧x<p→w'.heap[x]? = w.heap[x]?):Je w' g m p L k:=by
 obtain ⟨cs,v,h1,h2,h3,h4⟩:=h;exact ⟨cs,v,(hk g (.inl rfl)).trans h1,h2,h3,h4.agree (fun x a b=>hk x (.inr ⟨a,b⟩))⟩
theorem Qw.lt (h:Qw w g m p L k):g<w.heap.size:=by
 obtain ⟨cs,v,h1,_⟩:=h;exact (Array.getElem?_eq_some_iff.1 h1).1
theorem Je.lt {L:List (List Int)} (h:Je w g m p L k):g<w.heap.size:=by
 obtain ⟨cs,v,h1,_⟩:=h;exact (Array.getElem?_eq_some_iff.1 h1).1
theorem Qw.keep (h:Qw w g m p L k) (hp:p≤w.heap.size) (hb:Below w.heap.size w w'):Qw w' g m p L k:=
 h.agree (fun x hx=>hb.block x (by have:=h.lt;rcases hx with rfl|⟨_,_⟩<;>omega))
theorem Je.keep {L:List (List Int)} (h:Je w g m p L k) (hp:p≤w.heap.size) (hb:Below w.heap.size w w'):Je w' g m p L k:=
 h.agree (fun x hx=>hb.block x (by have:=h.lt;rcases hx with rfl|⟨_,_⟩<;>omega))
theorem Ze {t:TypeId} {cs:List Value} (h:Zf w g t cs) (o:Nat) (u:Value):Zf (w.setCell ⟨g,o,none⟩ u) g t (cs.set o u):=by
 have:=Zjr (o:=o) (v':=u) (show w.heap[g]? = _ from h)
 rw [List.setIfInBounds_toArray] at this;exact this
theorem Zd (w:World) (g o:Nat) (u:Value) (k:Nat) (h:k≠g):(w.setCell ⟨g,o,none⟩ u).heap[k]? = w.heap[k]? := Below.heap_setCell _ _ _ k (fun e=>h e)
theorem Qw.next (h:Qw w g m p L k) (hg:g<m) (hk:k<L.length) (hp:p≤w.heap.size) (hb:Below w.heap.size w w5) (hown:w5.ownsRow p 3 1 u L[k].1.length (ivs L[k].1)):
  Qw ((w5.setCell ⟨g,k*2,none⟩ u).setCell ⟨g,k*2+1,none⟩ (.int .i64 L[k].2)) g m w5.heap.size L (k+1):=by
 obtain ⟨cs,v,h1,h2,h3,h4⟩:=h.keep hp hb;have hs:=hb.size;have eK:L.getD k ([],0)=L[k]:=by simp [hk]
 refine ⟨(cs.set (k*2) u).set (k*2+1) (.int .i64 L[k].2),fun j=>if j=k then u else v j,Ze (Ze h1 _ _) _ _,by simp [h2],fun j hj=>?_,?_⟩
 ·by_cases e:j=k
  ·subst e
   rw [eK];simp only [if_true];exact ⟨by rw [List.getElem?_set_ne (by omega)];exact List.getElem?_set_self (by omega),List.getElem?_set_self (by rw [List.length_set];omega)⟩
  ·simp only [if_neg e]
   have:=h3 j (by omega)
   exact ⟨by rw [List.getElem?_set_ne (by omega),List.getElem?_set_ne (by omega)];exact this.1,by rw [List.getElem?_set_ne (by omega),List.getElem?_set_ne (by omega)];exact this.2⟩
 ·have hI:=h4.next (k:=k) (u:=u) (p':=w5.heap.size) (by rw [eK];exact hown) (by omega) (fun x hx=>Zt hown x hx)
  refine hI.agree (fun x hx1 hx2=>?_);rw [Zd _ _ _ _ x (by omega),Zd _ _ _ _ x (by omega)]
theorem Je.next {L:List (List Int)} (h:Je w g m p L k) (hg:g<m) (hk:k<L.length) (hp:p≤w.heap.size) (hb:Below w.heap.size w w5) (hown:w5.ownsRow p 3 1 u L[k].length (ivs L[k])):
  Je (w5.setCell ⟨g,k,none⟩ u) g m w5.heap.size L (k+1):=by
 obtain ⟨cs,v,h1,h2,h3,h4⟩:=h.keep hp hb;have hs:=hb.size;have eK:L.getD k []=L[k]:=by simp [hk]
 refine ⟨cs.set k u,fun j=>if j=k then u else v j,Ze h1 _ _,by simp [h2],fun j hj=>?_,?_⟩
 ·by_cases e:j=k
  ·subst e
   simp only [if_true];exact List.getElem?_set_self (by omega)
  ·simp only [if_neg e]
   rw [List.getElem?_set_ne (by omega)];exact h3 j (by omega)
 ·have hI:=h4.next (k:=k) (u:=u) (p':=w5.heap.size) (by rw [eK];exact hown) (by omega) (fun x hx=>Zt hown x hx)
  refine hI.agree (fun x hx1 hx2=>?_);rw [Zd _ _ _ _ x (by omega)]
theorem Qw.rings (h:Qw w g m p L L.length):Za7 w (some ⟨g,0,none⟩) L:=by
 obtain ⟨cs,v,h1,h2,h3,B,h4,_⟩:=h;intro i hi;obtain ⟨c0,c1⟩:=h3 i hi;obtain ⟨o,_⟩:=h4 i hi;have e:L.getD i ([],0)=L[i]:=by simp [hi]
 simp only [e] at o c1;obtain ⟨a,c,ev,hc,hm,hI,_⟩:=Zu o;refine ⟨g,0,a,c,rfl,?_,?_,Yc hI,hc,by simp only [maxLen] at hm;omega⟩
 ·rw [ev] at c0
  rw [Nat.zero_add];exact h1.cell _ _ c0
 ·rw [Nat.zero_add]
  exact h1.cell _ _ c1
theorem Je.lists {L:List (List Int)} (h:Je w g m p L L.length):Jq w (some ⟨g,0,none⟩) L:=by
 obtain ⟨cs,v,h1,h2,h3,B,h4,_⟩:=h;intro i hi;have c0:=h3 i hi;obtain ⟨o,_⟩:=h4 i hi;have e:L.getD i []=L[i]:=by simp [hi]
 simp only [e] at o;obtain ⟨a,c,ev,hc,hm,hI,_⟩:=Zu o;refine ⟨g,0,a,c,rfl,?_,Yc hI,hc,by simp only [maxLen] at hm;omega⟩;rw [ev] at c0;rw [Nat.zero_add];exact h1.cell _ _ c0
theorem Qw.start {n0:Nat} (h:w.heap[g]? = some (.cells (madeCells #[.slice none 0 0,.int .i64 0] (L.length*2)) 90 (0,0))):Qw w g m m L 0:=
 ⟨(madeCells #[.slice none 0 0,.int .i64 0] (L.length*2)).toList,fun _=>.slice none 0 0,by simpa [Zf] using h,by simp [size_madeCells],fun j hj=>by omega,Zap.zero _ _ _ _ _ lr⟩
theorem Je.start {L:List (List Int)} (h:w.heap[g]? = some (.cells (madeCells #[.slice none 0 0] L.length) 23 (0,0))):Je w g m m L 0:=
 ⟨(madeCells #[.slice none 0 0] L.length).toList,fun _=>.slice none 0 0,by simpa [Zf] using h,by simp [size_madeCells],fun j hj=>by omega,Zap.zero _ _ _ _ _ lr⟩
theorem Yai {i o2:Nat} {v2:Value} (h:w.cell? ⟨x,i,none⟩=some u) (hne:b≠x):((w.setCell ⟨b,o1,none⟩ v1).setCell ⟨b,o2,none⟩ v2).cell? ⟨x,i,none⟩=some u:=by
 rw [World.cell?_setCell_far _ _ _ _ hne,World.cell?_setCell_far _ _ _ _ hne];exact h
theorem Yak {i:Nat} (h:w.cell? ⟨x,i,none⟩=some u) (hne:b≠x):(w.setCell ⟨b,o1,none⟩ v1).cell? ⟨x,i,none⟩=some u:=by
 rw [World.cell?_setCell_far _ _ _ _ hne];exact h
def Q7 (g:Nat) (w w':World):Prop:=w.heap.size≤w'.heap.size∧∀ x,x≠g→x<w.heap.size→w'.heap[x]? = w.heap[x]?
theorem Q7.refl (g:Nat) (w:World):Q7 g w w:=⟨lr,fun _ _ _=>rfl⟩
theorem Q7.below {w'':World} (h:Q7 g w w') (hb:Below w'.heap.size w' w''):Q7 g w w'':=
 ⟨Nat.le_trans h.1 hb.size,fun x hx hl=>(hb.block x (by have:=h.1;omega)).trans (h.2 x hx hl)⟩
theorem Q7.set (h:Q7 g w w') (o:Nat) (u:Value):Q7 g w (w'.setCell ⟨g,o,none⟩ u):=
 ⟨Nat.le_trans h.1 ((Below.refl 0 w').setCell (p:=⟨g,o,none⟩) zl u).size,fun x hx hl=>(Zd w' g o u x hx).trans (h.2 x hx hl)⟩
theorem Qw.cellAt (h:Qw w g m p L k) (i:Nat) (hi:i<L.length):(∃ u,w.cell? ⟨g,i*2,none⟩=some u)∧(∃ u,w.cell? ⟨g,i*2+1,none⟩=some u)∧w.frozen? ⟨g,i*2,none⟩=false∧w.frozen? ⟨g,i*2+1,none⟩=false:=by
 obtain ⟨cs,v,h1,h2,h3⟩:=h;exact ⟨⟨_,h1.cell (i*2) cs[i*2] (by simp)⟩,⟨_,h1.cell (i*2+1) cs[i*2+1] (by simp)⟩,h1.frozen _,h1.frozen _⟩
theorem Je.cellAt {L:List (List Int)} (h:Je w g m p L k) (i:Nat) (hi:i<L.length):(∃ u,w.cell? ⟨g,i,none⟩=some u)∧w.frozen? ⟨g,i,none⟩=false:=by
 obtain ⟨cs,v,h1,h2,h3⟩:=h;exact ⟨⟨_,h1.cell i cs[i] (by simp)⟩,h1.frozen _⟩
structure Qu (base:Nat) (w:World) (A:Yk) (D:Dom) (gI gO m p q:Nat):Prop where
 j:w.ownsRow base 87 6 (.slice A.aJ D.jobs.length A.cJ) D.jobs.length (fJ D.jobs)
 r:w.ownsRow base 3 1 (.slice A.aR D.rel.length A.cR) D.rel.length (ivs D.rel)
 t:w.ownsRow base 3 1 (.slice A.aT D.tak.length A.cT) D.tak.length (ivs D.tak)
 e:w.ownsRow base 92 4 (.slice A.aE D.evs.length A.cE) D.evs.length (fE D.evs)
 rt:∀ x,(Value.slice A.aR D.rel.length A.cR).ownBlock=some x→(Value.slice A.aT D.tak.length A.cT).ownBlock≠some x
 i:Qw w gI m p D.ins D.ins.length
 o:Je w gO p q D.out D.out.length
 aI:A.aI=some ⟨gI,0,none⟩
 aO:A.aO=some ⟨gO,0,none⟩
 cI:A.cI=D.ins.length
 cO:A.cO=D.out.length
 bI:base≤gI∧gI<m
 bO:base≤gO∧gO<m
 mp:m≤p∧p≤q∧q≤w.heap.size
 lt:∀ x,(Value.slice A.aJ D.jobs.length A.cJ).ownBlock=some x∨(Value.slice A.aR D.rel.length A.cR).ownBlock=some x∨(Value.slice A.aT D.tak.length A.cT).ownBlock=some x∨(Value.slice A.aE D.evs.length A.cE).ownBlock=some x→x<m
theorem Zbl {base e t:Nat} {v:Value} {cur:Array Value} {fz:Nat×Nat} (h:w.ownsRow base e sz v n xs) (hr:w.heap[g]? = some (.cells cur t fz)) (hne:e≠t):∀ k,v.ownBlock=some k→k≠g:=by
 intro k hk e0;subst e0;rcases h.2 with ⟨q,_⟩|⟨g',a1,a0,e1,e2,e3,r⟩
 ·rw [q] at hk;cases hk
 ·rw [e1] at hk
  simp only [Value.ownBlock,Option.some.injEq] at hk;subst hk;rw [hr] at e3;simp at e3;exact hne e3.2.1.symm
theorem Qw.more (h:Qw w g m p L k) (hp:p≤p'):Qw w g m p' L k:=by
 obtain ⟨cs,v,h1,h2,h3,h4⟩:=h;exact ⟨cs,v,h1,h2,h3,h4.more hp⟩
theorem Zz {base e c:Nat} {a:Option Addr} (h:w.ownsRow base e sz (.slice a n c) n xs):Q9 w a xs∧n≤c∧n≤9223372036854775807:=by
 obtain ⟨a',c',ev,hc,hm,hI,_⟩:=Zu h;cases ev;exact ⟨hI,hc,by simp only [maxLen] at hm;omega⟩
theorem Qu.keep {base:Nat} (h:Qu base w A D gI gO m p q) (hb:Below w.heap.size w w'):Qu base w' A D gI gO m p q:=
 ⟨Zy h.j hb,Zy h.r hb,Zy h.t hb,Zy h.e hb,h.rt,h.i.keep (by have:=h.mp;omega) hb,h.o.keep (by have:=h.mp;omega) hb,h.aI,h.aO,h.cI,h.cO,h.bI,h.bO,⟨h.mp.1,h.mp.2.1,Nat.le_trans h.mp.2.2 hb.size⟩,h.lt⟩
theorem Qu.agree {base:Nat} (h:Qu base w A D gI gO m p q) (hs:w.heap.size≤w'.heap.size) (hk:∀ x,base≤x→x<w.heap.size→w'.heap[x]? = w.heap[x]?):Qu base w' A D gI gO m p q:=by
 have hm:=h.mp;have hI:=h.bI;have hO:=h.bO;exact ⟨Zi h.j (fun x hx=>hk x (Zv h.j x hx) (Zt h.j x hx)),Zi h.r (fun x hx=>hk x (Zv h.r x hx) (Zt h.r x hx)),Zi h.t (fun x hx=>hk x (Zv h.t x hx) (Zt h.t x hx)),Zi h.e (fun x hx=>hk x (Zv h.e x hx) (Zt h.e x hx)),h.rt,
  h.i.agree (fun x hx=>hk x (by rcases hx with rfl|⟨_,_⟩<;>omega) (by rcases hx with rfl|⟨_,_⟩<;>omega)),h.o.agree (fun x hx=>hk x (by rcases hx with rfl|⟨_,_⟩<;>omega) (by rcases hx with rfl|⟨_,_⟩<;>omega)),h.aI,h.aO,h.cI,h.cO,h.bI,h.bO,⟨hm.1,hm.2.1,by omega⟩,h.lt⟩
theorem Qu.base {base base':Nat} (h:Qu base w A D gI gO m p q) (hb:base'≤base):Qu base' w A D gI gO m p q:=
 ⟨Ys h.j hb,Ys h.r hb,Ys h.t hb,Ys h.e hb,h.rt,h.i,h.o,h.aI,h.aO,h.cI,h.cO,⟨Nat.le_trans hb h.bI.1,h.bI.2⟩,⟨Nat.le_trans hb h.bO.1,h.bO.2⟩,h.mp,h.lt⟩
def Zqe (C:Zm) (dn fr te:Int) (l:Nat) (a:Zar):Bool:=decide (a.2=(l:Int))&&(decide (C.ow.getD l 0=dn)&&(decide (fr≤a.1)&&decide (a.1<te)))
def Jl (C:Zm) (arr:List Zar) (dn fr te:Int) (l:Nat):Int:=((arr.filter (Zqe C dn fr te l)).length:Nat)
def Qy (C:Zm) (arr:List Zar) (dn fr te:Int):List Int:=(List.range C.ow.length).map (Jl C arr dn fr te)
theorem Zn5 (C:Zm) (arr:List Zar) (dn fr te:Int) (l:Nat):0≤Jl C arr dn fr te l∧Jl C arr dn fr te l≤arr.length:=by
 unfold Jl
 have:=List.length_filter_le (Zqe C dn fr te l) arr
 omega
theorem Zh5 (C:Zm) (arr:List Zar) (dn fr te:Int) (l k:Nat) (hk:k<arr.length):Jl C (arr.take (k+1)) dn fr te l=Jl C (arr.take k) dn fr te l+(if Zqe C dn fr te l arr[k] then 1 else 0):=by
 unfold Jl;rw [List.take_add_one,List.getElem?_eq_getElem hk,List.filter_append,List.length_append];simp only [Option.toList,List.filter_cons,List.filter_nil]
 split<;>simp
theorem Zff (C:Zm) (arr:List Zar) (dn fr te:Int) (k:Nat) (hk:k<arr.length) (h:∀ l,Zqe C dn fr te l arr[k]=false):Qy C (arr.take (k+1)) dn fr te=Qy C (arr.take k) dn fr te:=by
 unfold Qy;refine List.map_congr_left fun l _=>?_
 rw [Zh5 _ _ _ _ _ _ _ hk,if_neg (by rw [h l];decide),Int.add_zero]
theorem Zs1 (C:Zm) (arr:List Zar) (dn fr te:Int) (k m:Nat) (hk:k<arr.length) (hm:arr[k].2=(m:Int)) (h:Zqe C dn fr te m arr[k]=true):Qy C (arr.take (k+1)) dn fr te=(Qy C (arr.take k) dn fr te).set m (Jl C (arr.take k) dn fr te m+1):=by
 refine List.ext_getElem (by simp [Qy]) fun i h1 h2=>?_
 rw [List.getElem_set];simp only [Qy,List.getElem_map,List.getElem_range];rw [Zh5 _ _ _ _ _ _ _ hk];by_cases e:m=i
 ·subst e
  rw [if_pos rfl,if_pos h]
 ·rw [if_neg e,if_neg]
  ·omega
  ·intro h'
   simp only [Zqe,Bool.and_eq_true,decide_eq_true_eq] at h';omega
theorem Zpk (C:Zm) (arr:List Zar) (dn fr te:Int) (m:Nat) (hm:m<C.ow.length):(ivs (Qy C arr dn fr te))[m]? = some (.int .i64 (Jl C arr dn fr te m)):=by
 simp [ivs,Qy,hm]
theorem Zh9 (n:Nat) (h:n≤1000000000000) (w:World):(Instr.makeSlice 23 (.int .i64 (n:Int)) (.int .i64 (n:Int))).run prog w=.ok (.slice (some ⟨w.heap.size,0,none⟩) n n) (w.alloc (.cells (madeCells #[.int .i64 0] n) 3)):=
 run_make_row' (P:=prog) 23 3 (.int .i64 0) 8 underlying23 Tryz.info3x rfl .i64 .i64 n (by omega) (by omega) w
theorem Zi4 (w:World) (n:Nat):Zf (w.alloc (.cells (madeCells #[.int .i64 0] n) 3)) w.heap.size 3 (ivs (List.replicate n 0)):=by
 have e:madeCells #[.int .i64 0] n=(ivs (List.replicate n 0)).toArray:=by
  refine Array.ext (by simp [madeCells,ivs]) fun i h1 h2=>?_
  simp [madeCells,ivs,Nat.mod_one]
 rw [e];exact heap_alloc_new _ _
theorem Zf5 (C:Zm) (B:Mem) (aL:Option Addr) (L:List Zar) (cL:Nat) (dn fr te:Int) (w:World) (hC:Z1 w B C) (hL:Qs w aL L) (hl:L.length≤9223372036854775807) (h0:Yv C L dn fr te=0):
  Calls prog 59 #[cv C B,.slice aL L.length cL,.int .i64 dn,.int .i64 fr,.int .i64 te] w fun e w'=>∃ g,e=.returned (.tuple #[.slice (some ⟨g,0,none⟩) C.ow.length C.ow.length,.int .i64 0])∧Zf w' g 3 (ivs (Qy C L dn fr te))∧w.heap.size≤g∧Below w.heap.size w w':=by
 have a3:ckC C=0∧L.length≤40∧∀ a∈L,Zao C.ow.length a=false:=by
  unfold Yv at h0
  split at h0
  ·omega
  ·rename_i h1
   split at h0
   ·omega
   ·split at h0
    ·omega
    ·split at h0
     ·omega
     ·split at h0
      ·omega
      ·rename_i h5
       refine ⟨by omega,by omega,fun a ha=>?_⟩
       cases hx:Zao C.ow.length a with
       | false=>rfl
       | true=>exact absurd (List.any_eq_true.2 ⟨a,ha,hx⟩) h5
 obtain ⟨ac,an,a0⟩:=a3;have ao:C.ow.length≤4:=by
  have:=(Zcr ac).2.2.1
  unfold Zc0 at this
  split at this
  ·rename_i hx;simp [inR] at hx;omega
  ·omega
 have q1:=Za w (.cells (cl C B) 27);have HC:=hid (hC.keep q1);have HL:=hid (hL.keep q1);have HX:=hid (Yq w C B);have HB:=hid q1;have ae:=hid a0;have af:=Zh9 C.ow.length (by omega);have H0:=hid h0;clear q1 hC hL a0 h0 ac;obtain ⟨a5,a6,a7,a8,c5,c6,c7,c8⟩:=B;dsimp only [cv,cl] at *
 go_enter func59,ntmps59;go_wp2_with fail;refine (Zfm C ⟨a5,a6,a7,a8,c5,c6,c7,c8⟩ aL L cL dn fr te _ HC HL hl).mono ?_;rintro e w1 ⟨rfl,a4⟩;rw [H0.out];generalize hW:World.alloc w _=W at *
 clear hW;have g6:=(HX.out.keep a4).h6;have q2:=Za w1 (.cells (madeCells #[.int .i64 0] C.ow.length) 3);have HM:=hid (Zi4 w1 C.ow.length);have ag:=hid (Zb HB a4);have ah:=hid (HC.out.keep a4);have ai:=hid (HL.out.keep a4);have aj:=hid (HX.out.keep a4);have ap:w.heap.size<w1.heap.size:=World.block_lt_of_cell? _ _ g6;clear a4 HB HC HL HX;go_wp2;clear af;go_loopw [31] (fun i wr=>∃ k:Nat,k≤L.length∧i=.int .i64 k∧Below w1.heap.size w1 wr∧Zf wr w1.heap.size 3 (ivs (Qy C (L.take k) dn fr te))) (fun i _=>L.length-(intOf i).toNat)
 case atStart=>
  refine ⟨0,zl,rfl,q2,?_⟩;have e:Qy C (L.take 0) dn fr te=List.replicate C.ow.length 0:=by
   refine List.ext_getElem (by simp [Qy]) fun i h1 h2=>?_
   simp [Qy,Jl]
  rw [e];exact HM.out
 case round=>
  obtain ⟨k,hk,rfl,a2,a1⟩:=hrel;by_cases hlt:k<L.length
  ·obtain ⟨b1,o1,rfl,p0,p1⟩:=(ai.out.keep a2) k hlt
   have ad:=ae.out _ (List.getElem_mem hlt);have HV:Hid (L[k]=L[k]):=hid rfl;obtain ⟨v,hv⟩:∃ v,v=L[k]:=⟨_,rfl⟩
   have HV:Hid (L[k]=v):=hid hv.symm;rw [HV.out] at p0 p1 ad;clear hv;obtain ⟨v0,v1⟩:=v;simp only [Zao,Bool.not_eq_false',inR,Bool.and_eq_true,decide_eq_true_eq] at ad;obtain ⟨m,rfl⟩:∃ m:Nat,v1=(m:Int):=⟨v1.toNat,by omega⟩
   have a9:m<C.ow.length:=by omega
   obtain ⟨b2,o2,ea,r0⟩:=(ah.out.keep a2).ow m a9;dsimp only at ea;subst ea;have aq:(k:Int)<(L.length:Int):=by omega
   have ar:(0:Int)≤(k:Int):=by omega
   have au:(m:Int)<(C.ow.length:Int):=by omega
   have aw:(0:Int)≤(m:Int):=by omega
   have x6:=(aj.out.keep a2).h6;dsimp only at x6;have q4:=Za wr (.cells #[.int .i64 v0,.int .i64 (m:Int)] 58);have HQ:=hid (Zb a2 q4);have aa:=hid (a1.below q4 lr);have ab:=Zc wr wr.heap.size [.int .i64 v0,.int .i64 (m:Int)] 58 rfl;have ax:=a2.size;have z6:=Zg q4 x6 lr;have s0:=Zg q4 r0 lr;obtain ⟨n0,n1⟩:=ab.q2 rfl rfl;have y0:=aa.out.cell m _ (Zpk C (L.take k) dn fr te m a9);have f0:=aa.out.frozen m;have ay:=Zn5 C (L.take k) dn fr te m;have ak:(L.take k).length≤40:=by simp;omega
   dsimp only at p0 p1;clear a1 a2 ab;go_upto_region 8 with fail;generalize World.alloc wr _=w4 at *
   by_cases h1:C.ow[m]=dn
   ·by_cases h2:fr≤v0
    ·by_cases h3:v0<te
     ·have HE:Hid (Qy C (L.take (k+1)) dn fr te=(Qy C (L.take k) dn fr te).set m (Jl C (L.take k) dn fr te m+1)):=hid (Zs1 C L dn fr te k m hlt (by rw [HV.out]) (by
       rw [HV.out];simp only [Zqe,Bool.and_eq_true,decide_eq_true_eq];rw [show C.ow.getD m 0=C.ow[m] by simp [a9]];exact ⟨trivial,h1,h2,h3⟩))
      have al:(C.ow[m]==dn)=true:=by simp [h1]
      have hw:IntKind.i64.wrap (Jl C (L.take k) dn fr te m+1)=Jl C (L.take k) dn fr te m+1:=by rw [IntKind.wrap_i64];omega
      clear HV;generalize Jl C (L.take k) dn fr te m=cn at *
      go_wp2;go_roundw
      case rel=>
       refine ⟨k+1,by omega,by go_num,HQ.out.setCell (p:=⟨w1.heap.size,m,none⟩) lr _,?_⟩;rw [HE.out]
       have:=Ze aa.out m (.int .i64 (cn+1))
       rw [show (ivs (Qy C (L.take k) dn fr te)).set m (.int .i64 (cn+1))=ivs ((Qy C (L.take k) dn fr te).set m (cn+1)) by simp [ivs,List.map_set]] at this;exact this
      case measure=>simp [intOf];omega
     ·have az:¬ v0<te:=h3
      have HE:Hid (Qy C (L.take (k+1)) dn fr te=Qy C (L.take k) dn fr te):=hid (Zff C L dn fr te k hlt fun l=>by
       rw [HV.out];simp only [Zqe,Bool.and_eq_false_iff,decide_eq_false_iff_not];by_cases e:(m:Int)=(l:Int)
       ·obtain rfl:m=l:=by omega
        rw [show C.ow.getD m 0=C.ow[m] by simp [a9]];omega
       ·exact .inl e)
      clear HV;go_wp2;go_roundw
      case rel=>exact ⟨k+1,by omega,by go_num,HQ.out,by rw [HE.out];exact aa.out⟩
      case measure=>simp [intOf];omega
    ·have b0:¬ fr≤v0:=h2
     have HE:Hid (Qy C (L.take (k+1)) dn fr te=Qy C (L.take k) dn fr te):=hid (Zff C L dn fr te k hlt fun l=>by
      rw [HV.out];simp only [Zqe,Bool.and_eq_false_iff,decide_eq_false_iff_not];by_cases e:(m:Int)=(l:Int)
      ·obtain rfl:m=l:=by omega
       rw [show C.ow.getD m 0=C.ow[m] by simp [a9]];omega
      ·exact .inl e)
     clear HV;go_wp2;go_roundw
     case rel=>exact ⟨k+1,by omega,by go_num,HQ.out,by rw [HE.out];exact aa.out⟩
     case measure=>simp [intOf];omega
   ·have al:(C.ow[m]==dn)=false:=by simp [h1]
    have HE:Hid (Qy C (L.take (k+1)) dn fr te=Qy C (L.take k) dn fr te):=hid (Zff C L dn fr te k hlt fun l=>by
     rw [HV.out];simp only [Zqe,Bool.and_eq_false_iff,decide_eq_false_iff_not];by_cases e:(m:Int)=(l:Int)
     ·obtain rfl:m=l:=by omega
      rw [show C.ow.getD m 0=C.ow[m] by simp [a9]];omega
     ·exact .inl e)
    clear HV;go_wp2;go_roundw
    case rel=>exact ⟨k+1,by omega,by go_num,HQ.out,by rw [HE.out];exact aa.out⟩
    case measure=>simp [intOf];omega
  ·have am:k=L.length:=by omega
   have b3:¬ (k:Int)<(L.length:Int):=by omega
   have HR:=hid a1;have HF:=hid (Zb ag a2);clear a1 a2;go_wp2;go_ret2;refine ⟨w1.heap.size,rfl,?_,by omega,HF.out⟩
   have:=HR.out
   rw [am,List.take_length] at this;exact this
theorem Zda (D:Dom) (A:Yk) (w:World) (hD:Yz w A D) (hl:D.jobs.length≤1000000000000∧D.rel.length≤1000000000000∧D.tak.length≤1000000000000∧D.evs.length≤1000000000000) (hI:D.ins.length≤1000000000000) (hO:D.out.length≤1000000000000) (hi:∀ r∈D.ins,r.1.length≤1000000000000) (ho:∀ r∈D.out,r.length≤1000000000000):
  Calls prog 68 #[dv D A] w fun e w'=>∃ A' gI gO m p q,e=.returned (dv D A')∧Qu w.heap.size w' A' D gI gO m p q∧Below w.heap.size w w':=by
 have ao:=Ziw D.ins.length (by omega);have ap:=Zfa D.out.length (by omega);have HL:=hid hl;have Hi:=hid hi;have Ho:=hid ho;clear hl hi ho;obtain ⟨aJ,aR,aI,aT,aO,aE,cJ,cR,cI,cT,cO,cE⟩:=A;have q1:=Za w (.cells (dl D ⟨aJ,aR,aI,aT,aO,aE,cJ,cR,cI,cT,cO,cE⟩) 46);have q2:=Za (w.alloc (.cells (dl D ⟨aJ,aR,aI,aT,aO,aE,cJ,cR,cI,cT,cO,cE⟩) 46)) (.cells #[.slice none 0 0,.slice none 0 0,.int .i64 0,.slice none 0 0,.slice none 0 0,.slice none 0 0,.slice none 0 0] 46);have HD:=hid (((hD.keep q1).keep q2).keep br.drew);have HR:=hid (((Zc w w.heap.size (dl D ⟨aJ,aR,aI,aT,aO,aE,cJ,cR,cI,cT,cO,cE⟩).toList 46 rfl).below q2 lr).below br.drew lr);have HB:=hid (Zb q1 q2);have dd:=hid ((Zc (w.alloc (.cells (dl D ⟨aJ,aR,aI,aT,aO,aE,cJ,cR,cI,cT,cO,cE⟩) 46)) (w.heap.size+1) [.slice none 0 0,.slice none 0 0,.int .i64 0,.slice none 0 0,.slice none 0 0,.slice none 0 0,.slice none 0 0] 46 (by simp)).below br.drew lr);have de:Hid (w.heap.size+2≤(World.drew ((w.alloc (.cells (dl D ⟨aJ,aR,aI,aT,aO,aE,cJ,cR,cI,cT,cO,cE⟩) 46)).alloc (.cells #[.slice none 0 0,.slice none 0 0,.int .i64 0,.slice none 0 0,.slice none 0 0,.slice none 0 0,.slice none 0 0] 46))).heap.size):=hid (by simp);have df:=hid (Below.refl ((w.alloc (.cells (dl D ⟨aJ,aR,aI,aT,aO,aE,cJ,cR,cI,cT,cO,cE⟩) 46)).alloc (.cells #[.slice none 0 0,.slice none 0 0,.int .i64 0,.slice none 0 0,.slice none 0 0,.slice none 0 0,.slice none 0 0] 46)).heap.size ((w.alloc (.cells (dl D ⟨aJ,aR,aI,aT,aO,aE,cJ,cR,cI,cT,cO,cE⟩) 46)).alloc (.cells #[.slice none 0 0,.slice none 0 0,.int .i64 0,.slice none 0 0,.slice none 0 0,.slice none 0 0,.slice none 0 0] 46))).drew;clear q1 q2 hD;dsimp only [dv,dl] at *
 go_enter func68,ntmps68;go_wp2;refine wp_region_any (by kernel_rfl) ?_;change wpAny _ _ _ _ _ _ _ (World.drew _);generalize hW:World.drew (World.alloc (World.alloc w _) _)=W at *
 have HS:Hid (∀ wx,Below W.heap.size W wx→∀ i v,(dl D ⟨aJ,aR,aI,aT,aO,aE,cJ,cR,cI,cT,cO,cE⟩).toList[i]? = some v→wx.cell? ⟨w.heap.size,i,none⟩=some v):=hid fun wx hb i v hv=>(HR.out.below hb lr).cell i v hv
 refine Zg4 (fun l a w'=>∃ x,a=AF D ⟨aJ,aR,aI,aT,aO,aE,cJ,cR,cI,cT,cO,cE⟩ w.heap.size (w.heap.size+1) x∧(RP D ⟨aJ,aR,aI,aT,aO,aE,cJ,cR,cI,cT,cO,cE⟩ W w.heap.size l x w'∨((∀ i,i<25→l.getD i false=true)∧∃ g,DC D W x w' g))) (by kernel_rfl) ?step ?fin _ _ _ _ rfl (by decide) ?start
 case start=>exact ⟨fun _=>undef,rfl,.inl ⟨rfl,br,rfl,fun h=>absurd h (by decide),fun h=>absurd h (by decide),fun i h=>absurd h (by simp [Array.getD_eq_getD_getElem?,Array.getElem?_replicate];split<;>simp)⟩⟩
 case step=>
  intro l a w1 i o h ho hl a0 K' hK;have hi:i<25:=by
   have:=(Array.getElem?_eq_some_iff.1 ho).1
   simpa using this
  obtain ⟨x,rfl,h|⟨h,_⟩⟩:=h
  case inr=>rw [h i hi] at hl;cases hl
  have dg:i=0∨i=1∨i=2∨i=3∨i=4∨i=5∨i=6∨i=7∨i=8∨i=9∨i=10∨i=11∨i=12∨i=13∨i=14∨i=15∨i=16∨i=17∨i=18∨i=19∨i=20∨i=21∨i=22∨i=23∨i=24:=by omega
  rcases dg with rfl|rfl|rfl|rfl|rfl|rfl|rfl|rfl|rfl|rfl|rfl|rfl|rfl|rfl|rfl|rfl|rfl|rfl|rfl|rfl|rfl|rfl|rfl|rfl|rfl
  ·simp only [xJ1,xJ2,xJ4] at ho
   subst ho;clear a0;simp only [AF];go_simp;exact hK.out _ _ ⟨upd x 8 (.pointer (some ⟨w.heap.size,0,none⟩)),rfl,.inl (Qa 0 _ h (by decide) hl br rfl (fun e=>absurd e (by decide)) (fun e=>absurd e (by decide)))⟩
  ·simp only [xJ1,xJ2,xJ3,xJ4] at ho
   subst ho;have dh:=Zn a0 0 (by kernel_rfl);have f0:x 8=.pointer (some ⟨w.heap.size,0,none⟩):=h.fc 0 dh;clear a0;have c1:=HS.out _ h.b 0 _ rfl;simp only [AF,f0];go_simp;exact hK.out _ _ ⟨upd x 9 (.slice aJ D.jobs.length cJ),(by simp only [AF,upd,reduceIte,Nat.reduceEqDiff,f0]),.inl (Qa 1 _ h (by decide) hl br rfl (fun e=>absurd e (by decide)) (fun e=>absurd e (by decide)))⟩
  ·simp only [xJ1,xJ2,xJ3,xJ4] at ho
   subst ho;have di:=Zn a0 1 (by kernel_rfl);have f1:x 9=.slice aJ D.jobs.length cJ:=h.fc 1 di;clear a0;simp only [AF,f1];go_simp;refine (Zlj aJ D.jobs cJ _ (HD.out.jobs.keep h.b) HL.out.1).mono ?_;rintro e w2 ⟨v,rfl,a4,hb⟩;have aa:=h.b.size;exact hK.out _ _ ⟨upd x 10 v,(by simp only [AF,upd,reduceIte,Nat.reduceEqDiff,f1]),.inl (Qa 2 _ h (by decide) hl hb (Ys a4 aa) (fun e=>absurd e (by decide)) (fun e=>absurd e (by decide)))⟩
  ·simp only [xJ1,xJ2,xJ3,xJ4] at ho
   subst ho;clear a0;simp only [AF];go_simp;exact hK.out _ _ ⟨upd x 11 (.pointer (some ⟨w.heap.size,1,none⟩)),rfl,.inl (Qa 3 _ h (by decide) hl br rfl (fun e=>absurd e (by decide)) (fun e=>absurd e (by decide)))⟩
  ·simp only [xJ1,xJ2,xJ3,xJ4] at ho
   subst ho;have dj:=Zn a0 3 (by kernel_rfl);have f3:x 11=.pointer (some ⟨w.heap.size,1,none⟩):=h.fc 3 dj;clear a0;have c4:=HS.out _ h.b 1 _ rfl;simp only [AF,f3];go_simp;exact hK.out _ _ ⟨upd x 12 (.slice aR D.rel.length cR),(by simp only [AF,upd,reduceIte,Nat.reduceEqDiff,f3]),.inl (Qa 4 _ h (by decide) hl br rfl (fun e=>absurd e (by decide)) (fun e=>absurd e (by decide)))⟩
  ·simp only [xJ1,xJ2,xJ3,xJ4] at ho
   subst ho;have dk:=Zn a0 4 (by kernel_rfl);have f4:x 12=.slice aR D.rel.length cR:=h.fc 4 dk;clear a0;simp only [AF,f4];go_simp;refine (Zbh aR D.rel cR _ (HD.out.rel.keep h.b) HL.out.2.1).mono ?_;rintro e w2 ⟨v,rfl,a4,hb⟩;have aa:=h.b.size;exact hK.out _ _ ⟨upd x 13 v,(by simp only [AF,upd,reduceIte,Nat.reduceEqDiff,f4]),.inl (Qa 5 _ h (by decide) hl hb (Ys a4 aa) (fun e=>absurd e (by decide)) (fun e=>absurd e (by decide)))⟩
  ·simp only [xJ1,xJ2,xJ3,xJ4] at ho
   subst ho;clear a0;simp only [AF];go_simp;exact hK.out _ _ ⟨upd x 14 (.pointer (some ⟨w.heap.size,2,none⟩)),rfl,.inl (Qa 6 _ h (by decide) hl br rfl (fun e=>absurd e (by decide)) (fun e=>absurd e (by decide)))⟩
  ·simp only [xJ1,xJ2,xJ3,xJ4] at ho
   subst ho;have dm:=Zn a0 6 (by kernel_rfl);have f6:x 14=.pointer (some ⟨w.heap.size,2,none⟩):=h.fc 6 dm;clear a0;have c7:=HS.out _ h.b 2 _ rfl;simp only [AF,f6];go_simp;exact hK.out _ _ ⟨upd x 15 (.int .i64 D.nxt),(by simp only [AF,upd,reduceIte,Nat.reduceEqDiff,f6]),.inl (Qa 7 _ h (by decide) hl br rfl (fun e=>absurd e (by decide)) (fun e=>absurd e (by decide)))⟩
  ·simp only [xJ1,xJ2,xJ3,xJ4] at ho
   subst ho;clear a0;simp only [AF];go_simp;exact hK.out _ _ ⟨upd x 16 (.pointer (some ⟨w.heap.size,3,none⟩)),rfl,.inl (Qa 8 _ h (by decide) hl br rfl (fun e=>absurd e (by decide)) (fun e=>absurd e (by decide)))⟩
  ·simp only [xJ1,xJ2,xJ3,xJ4] at ho
   subst ho;have dn:=Zn a0 8 (by kernel_rfl);have f8:x 16=.pointer (some ⟨w.heap.size,3,none⟩):=h.fc 8 dn;clear a0;have c9:=HS.out _ h.b 3 _ rfl;simp only [AF,f8];go_simp;exact hK.out _ _ ⟨upd x 17 (.slice aI D.ins.length cI),(by simp only [AF,upd,reduceIte,Nat.reduceEqDiff,f8]),.inl (Qa 9 _ h (by decide) hl br rfl (fun e=>absurd e (by decide)) (fun e=>absurd e (by decide)))⟩
  ·simp only [xJ1,xJ2,xJ3,xJ4] at ho
   subst ho;have dp:=Zn a0 9 (by kernel_rfl);have f9:x 17=.slice aI D.ins.length cI:=h.fc 9 dp;clear a0;simp only [AF,f9];go_simp;exact hK.out _ _ ⟨upd x 18 (.int .i64 D.ins.length),(by simp only [AF,upd,reduceIte,Nat.reduceEqDiff,f9]),.inl (Qa 10 _ h (by decide) hl br rfl (fun e=>absurd e (by decide)) (fun e=>absurd e (by decide)))⟩
  ·simp only [xJ1,xJ2,xJ3,xJ4] at ho
   subst ho;have bo:=Zn a0 10 (by kernel_rfl);have cq:x 18=.int .i64 D.ins.length:=h.fc 10 bo;clear a0;simp only [AF,cq];go_simp;have aa:=h.b.size;exact hK.out _ _ ⟨upd x 19 (.slice (some ⟨w1.heap.size,0,none⟩) D.ins.length D.ins.length),(by simp only [AF,upd,reduceIte,Nat.reduceEqDiff,cq]),.inl (Qa 11 _ h (by decide) hl (Za _ _) ⟨_,rfl,aa,heap_alloc_new _ _⟩ (fun e=>absurd e (by decide)) (fun e=>absurd e (by decide)))⟩
  ·simp only [xJ1,xJ2,xJ3,xJ4] at ho
   subst ho;clear a0;simp only [AF];go_simp;exact hK.out _ _ ⟨upd x 20 (.pointer (some ⟨w.heap.size,4,none⟩)),rfl,.inl (Qa 12 _ h (by decide) hl br rfl (fun e=>absurd e (by decide)) (fun e=>absurd e (by decide)))⟩
  ·simp only [xJ1,xJ2,xJ3,xJ4] at ho
   subst ho;have bp:=Zn a0 12 (by kernel_rfl);have cr:x 20=.pointer (some ⟨w.heap.size,4,none⟩):=h.fc 12 bp;clear a0;have fh:=HS.out _ h.b 4 _ rfl;simp only [AF,cr];go_simp;exact hK.out _ _ ⟨upd x 21 (.slice aT D.tak.length cT),(by simp only [AF,upd,reduceIte,Nat.reduceEqDiff,cr]),.inl (Qa 13 _ h (by decide) hl br rfl (fun e=>absurd e (by decide)) (fun e=>absurd e (by decide)))⟩
  ·simp only [xJ1,xJ2,xJ3,xJ4] at ho
   subst ho;have bq:=Zn a0 13 (by kernel_rfl);have ak:=Zn a0 5 (by kernel_rfl);have cs:x 21=.slice aT D.tak.length cT:=h.fc 13 bq;clear a0;simp only [AF,cs];go_simp;refine (Zbh aT D.tak cT _ (HD.out.tak.keep h.b) HL.out.2.2.1).mono ?_;rintro e w2 ⟨v,rfl,a4,hb⟩;have aa:=h.b.size;have ah:=Zt (h.fc 5 ak);exact hK.out _ _ ⟨upd x 22 v,(by simp only [AF,upd,reduceIte,Nat.reduceEqDiff,cs]),.inl (Qa 14 _ h (by decide) hl hb ⟨Ys a4 aa,fun g hg hg2=>absurd (ah g hg) (by have:=(Zv a4 g hg2);omega)⟩ (fun _=>ak) (fun e=>absurd e (by decide)))⟩
  ·simp only [xJ1,xJ2,xJ3,xJ4] at ho
   subst ho;clear a0;simp only [AF];go_simp;exact hK.out _ _ ⟨upd x 23 (.pointer (some ⟨w.heap.size,5,none⟩)),rfl,.inl (Qa 15 _ h (by decide) hl br rfl (fun e=>absurd e (by decide)) (fun e=>absurd e (by decide)))⟩
  ·simp only [xJ1,xJ2,xJ3,xJ4] at ho
   subst ho;have bs:=Zn a0 15 (by kernel_rfl);have ct:x 23=.pointer (some ⟨w.heap.size,5,none⟩):=h.fc 15 bs;clear a0;have fi:=HS.out _ h.b 5 _ rfl;simp only [AF,ct];go_simp;exact hK.out _ _ ⟨upd x 24 (.slice aO D.out.length cO),(by simp only [AF,upd,reduceIte,Nat.reduceEqDiff,ct]),.inl (Qa 16 _ h (by decide) hl br rfl (fun e=>absurd e (by decide)) (fun e=>absurd e (by decide)))⟩
  ·simp only [xJ1,xJ2,xJ3,xJ4] at ho
   subst ho;have bt:=Zn a0 16 (by kernel_rfl);have cu:x 24=.slice aO D.out.length cO:=h.fc 16 bt;clear a0;simp only [AF,cu];go_simp;exact hK.out _ _ ⟨upd x 25 (.int .i64 D.out.length),(by simp only [AF,upd,reduceIte,Nat.reduceEqDiff,cu]),.inl (Qa 17 _ h (by decide) hl br rfl (fun e=>absurd e (by decide)) (fun e=>absurd e (by decide)))⟩
  ·simp only [xJ1,xJ2,xJ3,xJ4] at ho
   subst ho;have bu:=Zn a0 17 (by kernel_rfl);have cw:x 25=.int .i64 D.out.length:=h.fc 17 bu;clear a0;simp only [AF,cw];go_simp;have aa:=h.b.size;exact hK.out _ _ ⟨upd x 26 (.slice (some ⟨w1.heap.size,0,none⟩) D.out.length D.out.length),(by simp only [AF,upd,reduceIte,Nat.reduceEqDiff,cw]),.inl (Qa 18 _ h (by decide) hl (Za _ _) ⟨_,rfl,aa,heap_alloc_new _ _⟩ (fun e=>absurd e (by decide)) (fun e=>absurd e (by decide)))⟩
  ·simp only [xJ1,xJ2,xJ3,xJ4] at ho
   subst ho;clear a0;simp only [AF];go_simp;exact hK.out _ _ ⟨upd x 27 (.pointer (some ⟨w.heap.size,6,none⟩)),rfl,.inl (Qa 19 _ h (by decide) hl br rfl (fun e=>absurd e (by decide)) (fun e=>absurd e (by decide)))⟩
  ·simp only [xJ1,xJ2,xJ3,xJ4] at ho
   subst ho;have bv:=Zn a0 19 (by kernel_rfl);have cx:x 27=.pointer (some ⟨w.heap.size,6,none⟩):=h.fc 19 bv;clear a0;have fj:=HS.out _ h.b 6 _ rfl;simp only [AF,cx];go_simp;exact hK.out _ _ ⟨upd x 28 (.slice aE D.evs.length cE),(by simp only [AF,upd,reduceIte,Nat.reduceEqDiff,cx]),.inl (Qa 20 _ h (by decide) hl br rfl (fun e=>absurd e (by decide)) (fun e=>absurd e (by decide)))⟩
  ·simp only [xJ1,xJ2,xJ3,xJ4] at ho
   subst ho;have bw:=Zn a0 20 (by kernel_rfl);have cy:x 28=.slice aE D.evs.length cE:=h.fc 20 bw;clear a0;simp only [AF,cy];go_simp;refine (Zko aE D.evs cE _ (HD.out.evs.keep h.b) HL.out.2.2.2).mono ?_;rintro e w2 ⟨v,rfl,a4,hb⟩;have aa:=h.b.size;exact hK.out _ _ ⟨upd x 29 v,(by simp only [AF,upd,reduceIte,Nat.reduceEqDiff,cy]),.inl (Qa 21 _ h (by decide) hl hb (Ys a4 aa) (fun e=>absurd e (by decide)) (fun e=>absurd e (by decide)))⟩
  ·simp only [xJ1,xJ2,xJ3,xJ4] at ho
   subst ho;have b9:=Zn a0 2 (by kernel_rfl);have ak:=Zn a0 5 (by kernel_rfl);have dq:=Zn a0 7 (by kernel_rfl);have ab:=Zn a0 11 (by kernel_rfl);have ac:=Zn a0 14 (by kernel_rfl);have ad:=Zn a0 18 (by kernel_rfl);have ae:=Zn a0 21 (by kernel_rfl);have f7:x 15=.int .i64 D.nxt:=h.fc 7 dq;clear a0;obtain ⟨b1,k1,e1,_⟩:=Zu (h.fc 2 b9);obtain ⟨b2,k2,e2,_⟩:=Zu (h.fc 5 ak);obtain ⟨b3,e3,_⟩:=h.fc 11 ab;obtain ⟨b4,k4,e4,_⟩:=Zu (h.fc 14 ac).1;obtain ⟨b5,e5,_⟩:=h.fc 18 ad;obtain ⟨b6,k6,e6,_⟩:=Zu (h.fc 21 ae);have E1:=hid e1;have E2:=hid e2;have E3:=hid e3;have E4:=hid e4;have E5:=hid e5;have E6:=hid e6;simp only [AF,f7,e1,e2,e3,e4,e5,e6];clear e1 e2 e3 e4 e5 e6;have HH:=hid h;have bx:=hid b9;have bz:=hid ak;have au:=hid ab;have aw:=hid ac;have ax:=hid ad;have ay:=hid ae;have dr:=hid f7;have ds:=hid hl;rw [if_pos (by rfl)];refine Zfw (v:=.agg #[.slice b1 D.jobs.length k1,.slice b2 D.rel.length k2,.int .i64 D.nxt,.slice (some ⟨b3,0,none⟩) D.ins.length D.ins.length,.slice b4 D.tak.length k4,.slice (some ⟨b5,0,none⟩) D.out.length D.out.length,.slice b6 D.evs.length k6]) (by kernel_rfl) ?_;refine hK.out _ _ ⟨upd x 30 (.agg #[.slice b1 D.jobs.length k1,.slice b2 D.rel.length k2,.int .i64 D.nxt,.slice (some ⟨b3,0,none⟩) D.ins.length D.ins.length,.slice b4 D.tak.length k4,.slice (some ⟨b5,0,none⟩) D.out.length D.out.length,.slice b6 D.evs.length k6]),?_,.inl (Qa 22 _ HH (by decide) ds br ?_ (fun e=>absurd e (by decide)) (fun _=>⟨bx.out,bz.out,au.out,aw.out,ax.out,ay.out⟩))⟩
   ·simp only [Act.put,List.setIfInBounds_toArray,List.set_cons_zero,List.set_cons_succ,AF,upd,dr.out,E1.out,E2.out,E3.out,E4.out,E5.out,E6.out,reduceIte,Nat.reduceEqDiff]
   ·show upd x 30 _ 30=.agg #[x 10,x 13,_,x 19,x 22,x 26,x 29]
    rw [E1.out,E2.out,E3.out,E4.out,E5.out,E6.out];rfl
  ·simp only [xJ1,xJ2,xJ3,xJ4] at ho
   subst ho;clear a0;simp only [AF];go_simp;have aa:=h.b.size;exact hK.out _ _ ⟨upd x 3 (.pointer (some ⟨w1.heap.size,0,none⟩)),rfl,.inl (Qa 23 _ h (by decide) hl (Za _ _) ⟨_,rfl,aa,heap_alloc_new _ _⟩ (fun e=>absurd e (by decide)) (fun e=>absurd e (by decide)))⟩
  ·simp only [xJ1,xJ2,xJ3,xJ4] at ho
   subst ho;have az:=Zn a0 22 (by kernel_rfl);have ba:=Zn a0 23 (by kernel_rfl);obtain ⟨b9,ak,ab,ac,ad,ae⟩:=h.l22 az;have e0:x 30=.agg #[x 10,x 13,.int .i64 D.nxt,x 19,x 22,x 26,x 29]:=h.fc 22 az;obtain ⟨g,eg,hg,bb⟩:=h.fc 23 ba;obtain ⟨b1,k1,e1,_⟩:=Zu (h.fc 2 b9);obtain ⟨b2,k2,e2,_⟩:=Zu (h.fc 5 ak);obtain ⟨b3,e3,_⟩:=h.fc 11 ab;obtain ⟨b4,k4,e4,_⟩:=Zu (h.fc 14 ac).1;obtain ⟨b5,e5,_⟩:=h.fc 18 ad;obtain ⟨b6,k6,e6,_⟩:=Zu (h.fc 21 ae);have HH:=hid h;have bx:=hid b9;have bz:=hid ak;have au:=hid ab;have aw:=hid ac;have ax:=hid ad;have ay:=hid ae;have E1:=hid e1;have E2:=hid e2;have E3:=hid e3;have E4:=hid e4;have E5:=hid e5;have E6:=hid e6;have EG:=hid eg;have HG:=hid hg;have E0:=hid e0;have a6:=hid bb;have c0:Hid (∀ i,i<25→(l.setIfInBounds 24 true).getD i false=true):=hid (Zw5 (Zxy HH a0));rw [e1,e2,e3,e4,e5,e6] at e0;simp only [AF,e0,eg];clear h b9 ak ab ac ad ae az ba hl a0 e0 e1 e2 e3 e4 e5 e6 eg hg bb ao ap hI hO;rw [if_pos (by rfl)];refine wp_store_mid 46 _ _ rfl g 0 #[.slice b1 D.jobs.length k1,.slice b2 D.rel.length k2,.int .i64 D.nxt,.slice (some ⟨b3,0,none⟩) D.ins.length D.ins.length,.slice b4 D.tak.length k4,.slice (some ⟨b5,0,none⟩) D.out.length D.out.length,.slice b6 D.evs.length k6] (by rfl) (by rfl) (show w1.there g 0 7 from Zc1 a6) (by kernel_rfl) (by kernel_rfl) ?_;have hn:=fun k (hk:k≠g)=>Y6 g [.slice b1 D.jobs.length k1,.slice b2 D.rel.length k2,.int .i64 D.nxt,.slice (some ⟨b3,0,none⟩) D.ins.length D.ins.length,.slice b4 D.tak.length k4,.slice (some ⟨b5,0,none⟩) D.out.length D.out.length,.slice b6 D.evs.length k6] 0 w1 k hk
   have F2:World.ownsRow _ _ _ _ (x 10) _ _:=HH.out.fc 2 bx.out;have F5:World.ownsRow _ _ _ _ (x 13) _ _:=HH.out.fc 5 bz.out;have c2:=HH.out.fc 14 aw.out;have cz:World.ownsRow _ _ _ _ (x 29) _ _:=HH.out.fc 21 ay.out;have dt:Zet _ _ (x 19) _:=HH.out.fc 11 au.out;have du:Zfb _ _ (x 26) _:=HH.out.fc 18 ax.out;refine hK.out _ _ ⟨x,?_,.inr ⟨c0.out,g,?_⟩⟩
   ·simp only [Act.put,AF,E0.out,E1.out,E2.out,E3.out,E4.out,E5.out,E6.out,EG.out]
   ·refine ⟨Qq HH.out.b g HG _ _,EG.out,HG.out,?_,Zi F2 (fun k hk=>hn k (Yi F2 a6 (by decide) k hk)),Zi F5 (fun k hk=>hn k (Yi F5 a6 (by decide) k hk)),?_,Zi c2.1 (fun k hk=>hn k (Yi c2.1 a6 (by decide) k hk)),c2.2,?_,Zi cz (fun k hk=>hn k (Yi cz a6 (by decide) k hk))⟩
    ·rw [E1.out,E2.out,E3.out,E4.out,E5.out,E6.out]
     exact Jc _ [] _ w1 a6.out rfl
    ·obtain ⟨k,q1,q2,q3⟩:=dt
     exact ⟨k,q1,q2,by rw [hn k (fun e=>by subst e;rw [show w1.heap[k]? = _ from a6.out] at q3;simp at q3)];exact q3⟩
    ·obtain ⟨k,q1,q2,q3⟩:=du
     exact ⟨k,q1,q2,by rw [hn k (fun e=>by subst e;rw [show w1.heap[k]? = _ from a6.out] at q3;simp at q3)];exact q3⟩
 case fin=>
  rintro l a w1 ⟨x,rfl,h|⟨_,g,h⟩⟩ c6
  ·have:=c6 24 (by decide)
   rw [h.st] at this;cases this
  obtain ⟨b1,k1,e1,-⟩:=Zu h.j;obtain ⟨b2,k2,e2,-⟩:=Zu h.r;obtain ⟨b3,e3,d7,d8⟩:=h.i;obtain ⟨b4,k4,e4,-⟩:=Zu h.t;obtain ⟨b5,e5,a7,d9⟩:=h.o;obtain ⟨b6,k6,e6,-⟩:=Zu h.ev;have bm:=hid h.b;have HJ:=hid h.j;have c8:=hid h.r;have HT:=hid h.t;have HE:=hid h.ev;have ca:=hid h.rt;have b0:=hid h.box;have HG:=hid h.hg;have e0:=h.e;rw [e1] at HJ;rw [e2] at c8 ca;rw [e4] at HT ca;rw [e6] at HE;rw [e1,e2,e3,e4,e5,e6] at b0;have bc:=hid d8;have bd:=hid d9;have H3:=hid d7;have H5:=hid a7;have HA:=hid HS.out;clear h d8 d9 d7 a7;simp only [AF,e0,e1,e2,e3,e4,e5,e6];clear e0 e1 e2 e3 e4 e5 e6 ao ap HR;have c3:=HS.out _ bm.out 3 _ rfl;have c5:=HS.out _ bm.out 5 _ rfl;have dw:=bm.out.size;have da:b3<w1.heap.size:=(Array.getElem?_eq_some_iff.1 bc).1;have db:b5<w1.heap.size:=(Array.getElem?_eq_some_iff.1 bd).1;have cb:g≠b3:=fun e=>by
   have h1:=b0.out;rw [e] at h1;have h2:=bc.out;rw [show w1.heap[b3]? = _ from h1] at h2;simp at h2
  have fk:=hid c5;clear c5;dsimp only [List.getElem?_cons_zero] at *
  go_wp2;clear c3;go_loopw [34] (fun i wr=>∃ k p:Nat,k≤D.ins.length∧i=.int .i64 k∧Below W.heap.size W wr∧Q7 b3 w1 wr∧Qw wr b3 w1.heap.size p D.ins k∧p≤wr.heap.size) (fun i _=>D.ins.length-(intOf i).toNat)
  case atStart=>exact ⟨0,w1.heap.size,zl,rfl,bm.out,Q7.refl _ _,Qw.start (n0:=0) bc,lr⟩
  case round=>
   obtain ⟨k,p,hk,rfl,a8,be,bf,hp⟩:=hrel;have bn:=hid bf;have aq:=hid be;clear bf be;by_cases ah:k<D.ins.length
   ·obtain ⟨b',o',a2,a9,ea,b7,cc,bg,cd,ce⟩:=HD.out.ins k ah
    have cf:aI=some ⟨b',o',none⟩:=ea;rw [cf];replace b7:=Zg a8 b7 lr;replace cc:=Zg a8 cc lr;have q4:=Za wr (.cells #[.slice a2 D.ins[k].1.length a9,.int .i64 D.ins[k].2] 90);have bh:=hid ((bg.keep a8).keep q4);have R4:=hid (Zc wr wr.heap.size [.slice a2 D.ins[k].1.length a9,.int .i64 D.ins[k].2] 90 rfl);have ar:Zf wr g 46 _:=(aq.out.2 g cb (Array.getElem?_eq_some_iff.1 b0).1).trans b0.out;have bi:=hid (ar.below q4 lr);have bj:=hid q4;have dx:(k:Int)<(D.ins.length:Int):=by omega
    have dy:(0:Int)≤(k:Int):=by omega
    have bk:=hid (Hi.out _ (List.getElem_mem ah));clear q4 ar bg;have cg:b3≠g:=Ne.symm cb;have dc:b3≠wr.heap.size:=by have:=aq.out.1;omega
    go_wp2;clear b7 cc;generalize World.alloc wr _=w4 at *
    have ai:Hid (∀ wx,Below w4.heap.size w4 wx→wx.cell? ⟨g,3,none⟩=some (.slice (some ⟨b3,0,none⟩) D.ins.length D.ins.length)∧wx.cell? ⟨wr.heap.size,0,none⟩=some (.slice a2 D.ins[k].1.length a9)∧wx.cell? ⟨wr.heap.size,1,none⟩=some (.int .i64 D.ins[k].2)):=hid fun wx hb=>⟨(bi.out.below hb lr).cell 3 _ rfl,(R4.out.below hb lr).cell 0 _ rfl,(R4.out.below hb lr).cell 1 _ rfl⟩
    go_region_held3 (fun w'=>w'.cell? ⟨g,3,none⟩=some (.slice (some ⟨b3,0,none⟩) D.ins.length D.ins.length)∧w'.cell? ⟨wr.heap.size,0,none⟩=some (.slice a2 D.ins[k].1.length a9)∧w'.cell? ⟨wr.heap.size,1,none⟩=some (.int .i64 D.ins[k].2))
     (first|exact ai.out _ br.drew|exact ai.out _ (Zb br.drew a7)|exact ⟨Yai (ai.out _ (Zb br.drew a7)).1 cg,Yai (ai.out _ (Zb br.drew a7)).2.1 dc,Yai (ai.out _ (Zb br.drew a7)).2.2 dc⟩|go_keep)
     (first|(go_at_call 97;refine (Zbh a2 D.ins[k].1 a9 _ (by exact bh.out) bk).mono ?_;rintro e w5 ⟨v5,rfl,a1,a7⟩;obtain ⟨a5,al,rfl,-⟩:=Zu a1;obtain ⟨⟨u0,ch⟩,⟨u1,dz⟩,ci,f2⟩:=(bn.out.keep hp (Zb bj (Zb br.drew a7))).cellAt k ah))
    have a3:Hid (Below W.heap.size W ((w5.setCell ⟨b3,k*2,none⟩ (.slice a5 D.ins[k].1.length al)).setCell ⟨b3,k*2+1,none⟩ (.int .i64 D.ins[k].2))∧Q7 b3 w1 ((w5.setCell ⟨b3,k*2,none⟩ (.slice a5 D.ins[k].1.length al)).setCell ⟨b3,k*2+1,none⟩ (.int .i64 D.ins[k].2))∧Qw ((w5.setCell ⟨b3,k*2,none⟩ (.slice a5 D.ins[k].1.length al)).setCell ⟨b3,k*2+1,none⟩ (.int .i64 D.ins[k].2)) b3 w1.heap.size w5.heap.size D.ins (k+1)∧w5.heap.size≤((w5.setCell ⟨b3,k*2,none⟩ (.slice a5 D.ins[k].1.length al)).setCell ⟨b3,k*2+1,none⟩ (.int .i64 D.ins[k].2)).heap.size):=by
     have q5:=Zb bj.out (Zb br.drew a7);have fl:=bj.out.size;refine hid ⟨((Zb a8 q5).setCell (p:=⟨b3,k*2,none⟩) H3.out _).setCell (p:=⟨b3,k*2+1,none⟩) H3.out _,((aq.out.below q5).set _ _).set _ _,bn.out.next da ah hp q5 (Ys a1 (by have:=bj.out.size;simp only [World.drew] at *;omega)),by simp⟩
    clear ai bh R4 bi bj ch dz ci f2 a1 a7 bn aq a8 bk;go_wp2;go_roundw
    case rel=>exact ⟨k+1,w5.heap.size,by omega,by go_num,a3.out.1,a3.out.2.1,a3.out.2.2.1,a3.out.2.2.2⟩
    case measure=>simp [intOf];omega
   ·have cj:k=D.ins.length:=by omega
    subst cj;obtain ⟨W1,rfl⟩:∃ x,x=wr:=⟨_,rfl⟩
    have c5:=HS.out _ a8 5 _ rfl;have cm:b5≠b3:=fun e=>by
     have h1:=bd.out;rw [e] at h1;have h2:=bc.out;rw [h1] at h2;simp at h2
    have b8:g≠b5:=fun e=>by
     have h1:=b0.out;rw [e] at h1;have h2:=bd.out;rw [show w1.heap[b5]? = _ from h1] at h2;simp at h2
    have f5:=hid a8;have HP:=hid hp;have cn:=aq.out.1;have co:=hid ((aq.out.2 b5 cm db).trans bd);have am:Hid (Zf W1 g 46 _):=hid ((aq.out.2 g cb (Array.getElem?_eq_some_iff.1 b0).1).trans b0);go_wp2;clear c5 a8 hp;go_loopw [53] (fun i wr=>∃ k r:Nat,k≤D.out.length∧i=.int .i64 k∧Below W.heap.size W wr∧Q7 b5 W1 wr∧Je wr b5 W1.heap.size r D.out k∧r≤wr.heap.size∧W1.heap.size≤r) (fun i _=>D.out.length-(intOf i).toNat)
    case atStart=>exact ⟨0,W1.heap.size,zl,rfl,f5.out,Q7.refl _ _,Je.start co,lr,lr⟩
    case round=>
     obtain ⟨k,r,hk,rfl,a8,be,bf,hp,fa⟩:=hrel;have an:=hid bf;have af:=hid be;clear bf be;by_cases ah:k<D.out.length
     ·obtain ⟨b',o',a2,a9,ea,b7,bg,cd,ce⟩:=HD.out.out k ah
      have cf:aO=some ⟨b',o',none⟩:=ea;rw [cf];replace b7:=Zg a8 b7 lr;have bh:=hid (bg.keep a8);have ar:Zf wr g 46 _:=(af.out.2 g b8 (Array.getElem?_eq_some_iff.1 am).1).trans am.out;have bi:=hid ar;have dx:(k:Int)<(D.out.length:Int):=by omega
      have dy:(0:Int)≤(k:Int):=by omega
      have bk:=hid (Ho.out _ (List.getElem_mem ah));clear ar bg;have cg:b5≠g:=Ne.symm b8;go_wp2;clear b7;have ai:Hid (∀ wx,Below wr.heap.size wr wx→wx.cell? ⟨g,5,none⟩=some (.slice (some ⟨b5,0,none⟩) D.out.length D.out.length)):=hid fun wx hb=>(bi.out.below hb lr).cell 5 _ rfl
      go_region_held3 (fun w'=>w'.cell? ⟨g,5,none⟩=some (.slice (some ⟨b5,0,none⟩) D.out.length D.out.length))
       (first|exact ai.out _ br.drew|exact ai.out _ (Zb br.drew a7)|exact Yak (ai.out _ (Zb br.drew a7)) cg|go_keep)
       (first|(go_at_call 97;refine (Zbh a2 D.out[k] a9 _ (by exact bh.out) bk).mono ?_;rintro e w5 ⟨v5,rfl,a1,a7⟩;obtain ⟨a5,al,rfl,-⟩:=Zu a1;obtain ⟨⟨u0,ch⟩,ci⟩:=(an.out.keep hp (Zb br.drew a7)).cellAt k ah))
      have a3:Hid (Below W.heap.size W (w5.setCell ⟨b5,k,none⟩ (.slice a5 D.out[k].length al))∧Q7 b5 W1 (w5.setCell ⟨b5,k,none⟩ (.slice a5 D.out[k].length al))∧Je (w5.setCell ⟨b5,k,none⟩ (.slice a5 D.out[k].length al)) b5 W1.heap.size w5.heap.size D.out (k+1)∧w5.heap.size≤(w5.setCell ⟨b5,k,none⟩ (.slice a5 D.out[k].length al)).heap.size∧W1.heap.size≤w5.heap.size):=by
       have q5:Below wr.heap.size wr w5:=Zb br.drew a7;have q6:=q5.size;refine hid ⟨(Zb a8 q5).setCell (p:=⟨b5,k,none⟩) H5.out _,(af.out.below q5).set _ _,an.out.next (by omega) ah hp q5 (Ys a1 (by simpa using hp)),by simp,by omega⟩
      clear ai bh bi ch ci a1 a7 an af a8 bk;go_wp2;go_roundw
      case rel=>exact ⟨k+1,w5.heap.size,by omega,by go_num,a3.out.1,a3.out.2.1,a3.out.2.2.1,a3.out.2.2.2.1,a3.out.2.2.2.2⟩
      case measure=>simp [intOf];omega
     ·have cj:k=D.out.length:=by omega
      subst cj;have ar:Zf wr g 46 _:=(af.out.2 g b8 (Array.getElem?_eq_some_iff.1 am).1).trans am.out;obtain ⟨d0,d1,d2,d3,d4,d5,d6⟩:=ar.q7 rfl rfl rfl rfl rfl rfl rfl;have aj:=(dd.out.below a8 lr)
      have z0:=aj.frozen 0;have z1:=aj.frozen 1;have z2:=aj.frozen 2;have z3:=aj.frozen 3;have z4:=aj.frozen 4;have z5:=aj.frozen 5;have z6:=aj.frozen 6;obtain ⟨y0,y1,y2,y3,y4,y5,y6⟩:=aj.q7 rfl rfl rfl rfl rfl rfl rfl;have fm:w.heap.size+2≤W.heap.size:=de.out;have cp:Hid (Qu W.heap.size wr ⟨b1,b2,some ⟨b3,0,none⟩,b4,some ⟨b5,0,none⟩,b6,k1,k2,D.ins.length,k4,D.out.length,k6⟩ D b3 b5 w1.heap.size W1.heap.size r):=by
       have ag:∀ {x},x≠b3→x≠b5→x<w1.heap.size→wr.heap[x]? = w1.heap[x]? := fun h3 h5 hl=>(af.out.2 _ h5 (by omega)).trans (aq.out.2 _ h3 hl)
       have ow:∀ {e sz n:Nat} {v:Value} {xs:List Value},w1.ownsRow W.heap.size e sz v n xs→e≠90→e≠23→wr.ownsRow W.heap.size e sz v n xs:=fun o n1 n2=>Zi o (fun x hx=>ag (Zbl o bc n1 x hx) (Zbl o bd n2 x hx) (Zt o x hx))
       refine hid ⟨ow HJ (by decide) (by decide),ow c8 (by decide) (by decide),ow HT (by decide) (by decide),ow HE (by decide) (by decide),ca.out,?_,an.out,rfl,rfl,rfl,rfl,⟨H3.out,da⟩,⟨H5.out,db⟩,⟨cn,fa,hp⟩,?_⟩
       ·exact (bn.out.more HP).agree (fun x hx=>af.out.2 x (by rcases hx with rfl|⟨q1,q2⟩<;>omega) (by rcases hx with rfl|⟨q1,q2⟩<;>omega))
       ·rintro x (hx|hx|hx|hx)
        ·exact Zt HJ.out x hx
        ·exact Zt c8.out x hx
        ·exact Zt HT.out x hx
        ·exact Zt HE.out x hx
      have fb:=hid (Zb HB (Zb (df.out) a8));have fd:Hid (Zf (wr.setCells (w.heap.size+1) 0 [.slice b1 D.jobs.length k1,.slice b2 D.rel.length k2,.int .i64 D.nxt,.slice (some ⟨b3,0,none⟩) D.ins.length D.ins.length,.slice b4 D.tak.length k4,.slice (some ⟨b5,0,none⟩) D.out.length D.out.length,.slice b6 D.evs.length k6]) (w.heap.size+1) 46 [.slice b1 D.jobs.length k1,.slice b2 D.rel.length k2,.int .i64 D.nxt,.slice (some ⟨b3,0,none⟩) D.ins.length D.ins.length,.slice b4 D.tak.length k4,.slice (some ⟨b5,0,none⟩) D.out.length D.out.length,.slice b6 D.evs.length k6]):=hid (Jc _ [] _ wr aj rfl);have ff:Hid (Qu w.heap.size (wr.setCells (w.heap.size+1) 0 [.slice b1 D.jobs.length k1,.slice b2 D.rel.length k2,.int .i64 D.nxt,.slice (some ⟨b3,0,none⟩) D.ins.length D.ins.length,.slice b4 D.tak.length k4,.slice (some ⟨b5,0,none⟩) D.out.length D.out.length,.slice b6 D.evs.length k6]) ⟨b1,b2,some ⟨b3,0,none⟩,b4,some ⟨b5,0,none⟩,b6,k1,k2,D.ins.length,k4,D.out.length,k6⟩ D b3 b5 w1.heap.size W1.heap.size r):=hid ((cp.out.agree (by simp [World.setCells]) (fun x h1 h2=>Y6 _ _ _ _ x (by omega))).base (by omega));have fg:Hid (Below w.heap.size w (wr.setCells (w.heap.size+1) 0 [.slice b1 D.jobs.length k1,.slice b2 D.rel.length k2,.int .i64 D.nxt,.slice (some ⟨b3,0,none⟩) D.ins.length D.ins.length,.slice b4 D.tak.length k4,.slice (some ⟨b5,0,none⟩) D.out.length D.out.length,.slice b6 D.evs.length k6])):=hid (Qq fb _ (by omega) _ _);clear ar aj;go_wp2;change bodyPost _ _ _ _ _ (wr.setCells (w.heap.size+1) 0 [.slice b1 D.jobs.length k1,.slice b2 D.rel.length k2,.int .i64 D.nxt,.slice (some ⟨b3,0,none⟩) D.ins.length D.ins.length,.slice b4 D.tak.length k4,.slice (some ⟨b5,0,none⟩) D.out.length D.out.length,.slice b6 D.evs.length k6]);clear d0 d1 d2 d3 d4 d5 d6 z0 z1 z2 z3 z4 z5 z6 y0 y1 y2 y3 y4 y5 y6;generalize wr.setCells (w.heap.size+1) 0 [.slice b1 D.jobs.length k1,.slice b2 D.rel.length k2,.int .i64 D.nxt,.slice (some ⟨b3,0,none⟩) D.ins.length D.ins.length,.slice b4 D.tak.length k4,.slice (some ⟨b5,0,none⟩) D.out.length D.out.length,.slice b6 D.evs.length k6]=wf at *
      obtain ⟨d0,d1,d2,d3,d4,d5,d6⟩:=fd.out.q7 rfl rfl rfl rfl rfl rfl rfl;exact bodyPost_ret (v:=.agg #[.slice b1 D.jobs.length k1,.slice b2 D.rel.length k2,.int .i64 D.nxt,.slice (some ⟨b3,0,none⟩) D.ins.length D.ins.length,.slice b4 D.tak.length k4,.slice (some ⟨b5,0,none⟩) D.out.length D.out.length,.slice b6 D.evs.length k6]) (by simp [results,results68,go_sem,d0,d1,d2,d3,d4,d5,d6]) rfl ⟨⟨b1,b2,some ⟨b3,0,none⟩,b4,some ⟨b5,0,none⟩,b6,k1,k2,D.ins.length,k4,D.out.length,k6⟩,b3,b5,w1.heap.size,W1.heap.size,r,rfl,ff.out,fg.out⟩
end Go.Proofs.YtejhccmclanlmaaGreatDoor
