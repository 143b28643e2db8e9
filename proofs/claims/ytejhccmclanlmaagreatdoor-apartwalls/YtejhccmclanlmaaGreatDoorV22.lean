/- Wa Wb We Wx -/
import Derived.Test.YtejhccmclanlmaaGreatDoorV19
set_option linter.all false
set_option maxRecDepth 100000
set_option maxHeartbeats 8000000
namespace Go.Proofs.YtejhccmclanlmaaGreatDoor
open Go.RowKit Go.Proofs.Tryz
variable {b c c' g l n x:Nat} {o:Obj} {a a':Option Addr} {v:Value} {w w1:World}
def Zo7 (own:Nat→Nat) (w:World) (P:Nat→World→Prop):Prop:=∀ l (w':World),(∀ x,x<w.heap.size→own x=l→w'.heap[x]? = w.heap[x]?)→P l w'
theorem Zo7.at {own:Nat→Nat} {P:Nat→World→Prop} (h:Zo7 own w P) (l:Nat):P l w:=h l w (fun _ _ _=>rfl)
def Zqd (n l:Nat) (own:Nat→Nat):Nat→Nat:=fun x=>if n≤x then l else own x
theorem Zw {own:Nat→Nat} (h:x<n):Zqd n l own x=own x:=by unfold Zqd;rw [if_neg (by omega)]
theorem Zja {own:Nat→Nat} (h:n≤x):Zqd n l own x=l:=by unfold Zqd;rw [if_pos h]
theorem Zo7.next {own:Nat→Nat} {P P':Nat→World→Prop} (h:Zo7 own w P) (l:Nat) (hsz:w.heap.size≤w1.heap.size) (hs:∀ x,x<w.heap.size→own x≠l→w1.heap[x]? = w.heap[x]?)
  (hl:∀ w':World,(∀ x,x<w1.heap.size→(own x=l∨w.heap.size≤x)→w'.heap[x]? = w1.heap[x]?)→P' l w') (he:∀ k,k≠l→P' k=P k):Zo7 (Zqd w.heap.size l own) w1 P':=by
 intro k w' hk;by_cases e:k=l
 ·subst e
  refine hl w' (fun x hx ho=>hk x hx ?_);by_cases hx2:w.heap.size≤x
  ·exact Zja hx2
  ·rw [Zw (by omega)]
   rcases ho with ho|ho
   ·exact ho
   ·omega
 ·rw [he k e]
  refine h k w' (fun x hx ho=>?_);rw [hk x (by omega) (by rw [Zw hx];exact ho)];exact hs x hx (by omega)
structure PS where
 rb:Nat
 gI:Nat
 gO:Nat
 base:Nat
 R:List Value
 cI:List Value
 cO:List Value
 vJ:Value
 vE:Value
 J:List J6
 E:List EvT
 aK:Option Addr
 K:List (List (Int×Bool))
 V:Nat→Value
 F:Nat→List Int
 fr:List (Nat×Obj)
def PS.P (s:PS):Nat→World→Prop
 | 0=>fun w=>∀ p∈s.fr,w.heap[p.1]? = some p.2
 | 1=>fun w=>Zf w s.rb 152 s.R
 | 2=>fun w=>w.ownsRow s.base 87 6 s.vJ s.J.length (fJ s.J)
 | 3=>fun w=>w.ownsRow s.base 92 4 s.vE s.E.length (fE s.E)
 | 4=>fun w=>Zf w s.gI 90 s.cI
 | 5=>fun w=>Zf w s.gO 23 s.cO
 | 6=>fun w=>Z8 w s.aK s.K
 | n+7=>fun w=>w.ownsRow s.base 3 1 (s.V n) (s.F n).length (ivs (s.F n))
structure PO (own:Nat→Nat) (w:World) (s:PS):Prop where
 ps:Zo7 own w s.P
 bw:s.base≤w.heap.size
 o0:∀ x,own x≠0→s.base≤x
 l1:own s.rb=1
 l2:∀ x,s.vJ.ownBlock=some x→own x=2
 l3:∀ x,s.vE.ownBlock=some x→own x=3
 l4:own s.gI=4
 l5:own s.gO=5
 l7:∀ k x,(s.V k).ownBlock=some x→own x=k+7
 lf:∀ p∈s.fr,own p.1=0
def PX (w:World) (s:PS):Prop:=∃ own,PO own w s
section
variable {w w1:World} {s:PS}
theorem PX.row (h:PX w s):Zf w s.rb 152 s.R:=by obtain ⟨o,h⟩:=h;exact h.ps.at 1
theorem PX.jobs (h:PX w s):w.ownsRow s.base 87 6 s.vJ s.J.length (fJ s.J):=by obtain ⟨o,h⟩:=h;exact h.ps.at 2
theorem PX.evs (h:PX w s):w.ownsRow s.base 92 4 s.vE s.E.length (fE s.E):=by obtain ⟨o,h⟩:=h;exact h.ps.at 3
theorem PX.inr (h:PX w s):Zf w s.gI 90 s.cI:=by obtain ⟨o,h⟩:=h;exact h.ps.at 4
theorem PX.outr (h:PX w s):Zf w s.gO 23 s.cO:=by obtain ⟨o,h⟩:=h;exact h.ps.at 5
theorem PX.cache (h:PX w s):Z8 w s.aK s.K:=by obtain ⟨o,h⟩:=h;exact h.ps.at 6
theorem PX.ints (h:PX w s) (n:Nat):w.ownsRow s.base 3 1 (s.V n) (s.F n).length (ivs (s.F n)):=by obtain ⟨o,h⟩:=h;exact h.ps.at (n+7)
theorem PX.rb_ge (h:PX w s):s.base≤s.rb:=by obtain ⟨o,h⟩:=h;exact h.o0 _ (by rw [h.l1];decide)
theorem PX.gI_ge (h:PX w s):s.base≤s.gI:=by obtain ⟨o,h⟩:=h;exact h.o0 _ (by rw [h.l4];decide)
theorem PX.gO_ge (h:PX w s):s.base≤s.gO:=by obtain ⟨o,h⟩:=h;exact h.o0 _ (by rw [h.l5];decide)
theorem PX.ne_ints (h:PX w s) (k x:Nat) (hx:(s.V k).ownBlock=some x):x≠s.rb∧x≠s.gI∧x≠s.gO:=by
 obtain ⟨o,h⟩:=h
 have:=h.l7 k x hx
 refine ⟨fun e=>?_,fun e=>?_,fun e=>?_⟩<;>subst e
 ·rw [h.l1] at this;omega
 ·rw [h.l4] at this;omega
 ·rw [h.l5] at this;omega
theorem PX.below (h:PX w s) (hb:Below w.heap.size w w1):PX w1 s:=by
 obtain ⟨o,h⟩:=h;exact ⟨o,⟨fun l w' hw'=>h.ps l w' (fun x hx ho=>(hw' x (Nat.lt_of_lt_of_le hx hb.size) ho).trans (hb.block x hx)),Nat.le_trans h.bw hb.size,h.o0,h.l1,h.l2,h.l3,h.l4,h.l5,h.l7,h.lf⟩⟩
theorem Zju {s:PS} (h:s.P 0 w) (p:Nat×Obj) (hp:p∈s.fr):p.1<w.heap.size:=(Array.getElem?_eq_some_iff.1 (h p hp)).1
theorem Yt {t:Nat} {L:List Value} (h:Zf w g t L):g<w.heap.size:=h.lt
theorem PX.setRow (h:PX w s) (i:Nat) (v:Value):PX (w.setCell ⟨s.rb,i,none⟩ v) {s with R:=s.R.set i v}:=by
 have hr:=h.row;obtain ⟨o,h⟩:=h;have hz:w.heap.size≤(w.setCell ⟨s.rb,i,none⟩ v).heap.size:=by simp
 refine ⟨Zqd w.heap.size 1 o,⟨h.ps.next 1 hz (fun x hx ho=>Zd _ _ _ _ x (fun e=>ho (by rw [e,h.l1]))) (fun w' hw'=>?_) (fun k hk=>?_),Nat.le_trans h.bw hz,fun x hx=>?_,?_,fun x hx=>?_,fun x hx=>?_,?_,?_,fun k x hx=>?_,fun p hp=>?_⟩⟩
 ·show Zf w' s.rb 152 (s.R.set i v)
  exact (hw' s.rb (by simpa using hr.lt) (.inl h.l1)).trans (Ze hr i v)
 ·match k,hk with
  | 0,_=>rfl
  | 1,hk=>exact absurd rfl hk
  | 2,_=>rfl
  | 3,_=>rfl
  | 4,_=>rfl
  | 5,_=>rfl
  | 6,_=>rfl
  | n+7,_=>rfl
 ·by_cases e:w.heap.size≤x
  ·exact Nat.le_trans h.bw e
  ·rw [Zw (by omega)] at hx;exact h.o0 x hx
 ·rw [Zw hr.lt];exact h.l1
 ·rw [Zw (Zt (h.ps.at 2) x hx)];exact h.l2 x hx
 ·rw [Zw (Zt (h.ps.at 3) x hx)];exact h.l3 x hx
 ·rw [Zw (Yt (h.ps.at 4))];exact h.l4
 ·rw [Zw (Yt (h.ps.at 5))];exact h.l5
 ·rw [Zw (Zt (h.ps.at (k+7)) x hx)];exact h.l7 k x hx
 ·rw [Zw (Zju (h.ps.at 0) p hp)];exact h.lf p hp
theorem PX.setIn (h:PX w s) (i:Nat) (v:Value):PX (w.setCell ⟨s.gI,i,none⟩ v) {s with cI:=s.cI.set i v}:=by
 have hr:=h.inr;obtain ⟨o,h⟩:=h;have hz:w.heap.size≤(w.setCell ⟨s.gI,i,none⟩ v).heap.size:=by simp
 refine ⟨Zqd w.heap.size 4 o,⟨h.ps.next 4 hz (fun x hx ho=>Zd _ _ _ _ x (fun e=>ho (by rw [e,h.l4]))) (fun w' hw'=>?_) (fun k hk=>?_),Nat.le_trans h.bw hz,fun x hx=>?_,?_,fun x hx=>?_,fun x hx=>?_,?_,?_,fun k x hx=>?_,fun p hp=>?_⟩⟩
 ·show Zf w' s.gI 90 (s.cI.set i v)
  exact (hw' s.gI (by simpa using hr.lt) (.inl h.l4)).trans (Ze hr i v)
 ·match k,hk with
  | 0,_=>rfl
  | 4,hk=>exact absurd rfl hk
  | 2,_=>rfl
  | 3,_=>rfl
  | 1,_=>rfl
  | 5,_=>rfl
  | 6,_=>rfl
  | n+7,_=>rfl
 ·by_cases e:w.heap.size≤x
  ·exact Nat.le_trans h.bw e
  ·rw [Zw (by omega)] at hx;exact h.o0 x hx
 ·rw [Zw (Yt (h.ps.at 1))];exact h.l1
 ·rw [Zw (Zt (h.ps.at 2) x hx)];exact h.l2 x hx
 ·rw [Zw (Zt (h.ps.at 3) x hx)];exact h.l3 x hx
 ·rw [Zw hr.lt];exact h.l4
 ·rw [Zw (Yt (h.ps.at 5))];exact h.l5
 ·rw [Zw (Zt (h.ps.at (k+7)) x hx)];exact h.l7 k x hx
 ·rw [Zw (Zju (h.ps.at 0) p hp)];exact h.lf p hp
theorem PX.setOut (h:PX w s) (i:Nat) (v:Value):PX (w.setCell ⟨s.gO,i,none⟩ v) {s with cO:=s.cO.set i v}:=by
 have hr:=h.outr;obtain ⟨o,h⟩:=h;have hz:w.heap.size≤(w.setCell ⟨s.gO,i,none⟩ v).heap.size:=by simp
 refine ⟨Zqd w.heap.size 5 o,⟨h.ps.next 5 hz (fun x hx ho=>Zd _ _ _ _ x (fun e=>ho (by rw [e,h.l5]))) (fun w' hw'=>?_) (fun k hk=>?_),Nat.le_trans h.bw hz,fun x hx=>?_,?_,fun x hx=>?_,fun x hx=>?_,?_,?_,fun k x hx=>?_,fun p hp=>?_⟩⟩
 ·show Zf w' s.gO 23 (s.cO.set i v)
  exact (hw' s.gO (by simpa using hr.lt) (.inl h.l5)).trans (Ze hr i v)
 ·match k,hk with
  | 0,_=>rfl
  | 5,hk=>exact absurd rfl hk
  | 2,_=>rfl
  | 3,_=>rfl
  | 1,_=>rfl
  | 4,_=>rfl
  | 6,_=>rfl
  | n+7,_=>rfl
 ·by_cases e:w.heap.size≤x
  ·exact Nat.le_trans h.bw e
  ·rw [Zw (by omega)] at hx;exact h.o0 x hx
 ·rw [Zw (Yt (h.ps.at 1))];exact h.l1
 ·rw [Zw (Zt (h.ps.at 2) x hx)];exact h.l2 x hx
 ·rw [Zw (Zt (h.ps.at 3) x hx)];exact h.l3 x hx
 ·rw [Zw (Yt (h.ps.at 4))];exact h.l4
 ·rw [Zw hr.lt];exact h.l5
 ·rw [Zw (Zt (h.ps.at (k+7)) x hx)];exact h.l7 k x hx
 ·rw [Zw (Zju (h.ps.at 0) p hp)];exact h.lf p hp
theorem PX.newJ (h:PX w s) (hsz:w.heap.size≤w1.heap.size) (hg:∀ x,x<w.heap.size→s.vJ.ownBlock≠some x→w1.heap[x]? = w.heap[x]?) {J:List J6} (ho:w1.ownsRow s.base 87 6 v J.length (fJ J)) (hat:∀ x,v.ownBlock=some x→s.vJ.ownBlock=some x∨w.heap.size≤x):PX w1 {s with vJ:=v,J:=J}:=by
 obtain ⟨o,h⟩:=h;refine ⟨Zqd w.heap.size 2 o,⟨h.ps.next 2 hsz (fun x hx ho=>hg x hx (fun e=>ho (h.l2 x e))) (fun w' hw'=>?_) (fun k hk=>?_),Nat.le_trans h.bw hsz,fun x hx=>?_,?_,fun x hx=>?_,fun x hx=>?_,?_,?_,fun k x hx=>?_,fun p hp=>?_⟩⟩
 ·show w'.ownsRow s.base 87 6 v J.length (fJ J)
  exact Zi ho (fun x hx=>hw' x (Zt ho x hx) (by rcases hat x hx with h'|h';exact .inl (h.l2 x h');exact .inr h'))
 ·match k,hk with
  | 0,_=>rfl
  | 2,hk=>exact absurd rfl hk
  | 1,_=>rfl
  | 3,_=>rfl
  | 4,_=>rfl
  | 5,_=>rfl
  | 6,_=>rfl
  | n+7,_=>rfl
 ·by_cases e:w.heap.size≤x
  ·exact Nat.le_trans h.bw e
  ·rw [Zw (by omega)] at hx;exact h.o0 x hx
 ·rw [Zw (Yt (h.ps.at 1))];exact h.l1
 ·rcases hat x hx with h'|h'
  ·rw [Zw (Zt (h.ps.at 2) x h')];exact h.l2 x h'
  ·exact Zja h'
 ·rw [Zw (Zt (h.ps.at 3) x hx)];exact h.l3 x hx
 ·rw [Zw (Yt (h.ps.at 4))];exact h.l4
 ·rw [Zw (Yt (h.ps.at 5))];exact h.l5
 ·rw [Zw (Zt (h.ps.at (k+7)) x hx)];exact h.l7 k x hx
 ·rw [Zw (Zju (h.ps.at 0) p hp)];exact h.lf p hp
theorem PX.newE (h:PX w s) (hsz:w.heap.size≤w1.heap.size) (hg:∀ x,x<w.heap.size→s.vE.ownBlock≠some x→w1.heap[x]? = w.heap[x]?) {E:List EvT} (ho:w1.ownsRow s.base 92 4 v E.length (fE E)) (hat:∀ x,v.ownBlock=some x→s.vE.ownBlock=some x∨w.heap.size≤x):PX w1 {s with vE:=v,E:=E}:=by
 obtain ⟨o,h⟩:=h;refine ⟨Zqd w.heap.size 3 o,⟨h.ps.next 3 hsz (fun x hx ho=>hg x hx (fun e=>ho (h.l3 x e))) (fun w' hw'=>?_) (fun k hk=>?_),Nat.le_trans h.bw hsz,fun x hx=>?_,?_,fun x hx=>?_,fun x hx=>?_,?_,?_,fun k x hx=>?_,fun p hp=>?_⟩⟩
 ·show w'.ownsRow s.base 92 4 v E.length (fE E)
  exact Zi ho (fun x hx=>hw' x (Zt ho x hx) (by rcases hat x hx with h'|h';exact .inl (h.l3 x h');exact .inr h'))
 ·match k,hk with
  | 0,_=>rfl
  | 3,hk=>exact absurd rfl hk
  | 1,_=>rfl
  | 2,_=>rfl
  | 4,_=>rfl
  | 5,_=>rfl
  | 6,_=>rfl
  | n+7,_=>rfl
 ·by_cases e:w.heap.size≤x
  ·exact Nat.le_trans h.bw e
  ·rw [Zw (by omega)] at hx;exact h.o0 x hx
 ·rw [Zw (Yt (h.ps.at 1))];exact h.l1
 ·rw [Zw (Zt (h.ps.at 2) x hx)];exact h.l2 x hx
 ·rcases hat x hx with h'|h'
  ·rw [Zw (Zt (h.ps.at 3) x h')];exact h.l3 x h'
  ·exact Zja h'
 ·rw [Zw (Yt (h.ps.at 4))];exact h.l4
 ·rw [Zw (Yt (h.ps.at 5))];exact h.l5
 ·rw [Zw (Zt (h.ps.at (k+7)) x hx)];exact h.l7 k x hx
 ·rw [Zw (Zju (h.ps.at 0) p hp)];exact h.lf p hp
theorem PX.newF (h:PX w s) (n:Nat) (hsz:w.heap.size≤w1.heap.size) (hg:∀ x,x<w.heap.size→(s.V n).ownBlock≠some x→w1.heap[x]? = w.heap[x]?) {L:List Int} (ho:w1.ownsRow s.base 3 1 v L.length (ivs L)) (hat:∀ x,v.ownBlock=some x→(s.V n).ownBlock=some x∨w.heap.size≤x):PX w1 {s with V:=fun k=>if k=n then v else s.V k,F:=fun k=>if k=n then L else s.F k}:=by
 obtain ⟨o,h⟩:=h;refine ⟨Zqd w.heap.size (n+7) o,⟨h.ps.next (n+7) hsz (fun x hx ho=>hg x hx (fun e=>ho (h.l7 n x e))) (fun w' hw'=>?_) (fun k hk=>?_),Nat.le_trans h.bw hsz,fun x hx=>?_,?_,fun x hx=>?_,fun x hx=>?_,?_,?_,fun k x hx=>?_,fun p hp=>?_⟩⟩
 ·show w'.ownsRow s.base 3 1 (if n=n then v else s.V n) (if n=n then L else s.F n).length (ivs (if n=n then L else s.F n))
  simp only [if_true];exact Zi ho (fun x hx=>hw' x (Zt ho x hx) (by rcases hat x hx with h'|h';exact .inl (h.l7 n x h');exact .inr h'))
 ·match k,hk with
  | 0,_=>rfl
  | 1,_=>rfl
  | 2,_=>rfl
  | 3,_=>rfl
  | 4,_=>rfl
  | 5,_=>rfl
  | 6,_=>rfl
  | m+7,hk=>
   have:m≠n:=fun e=>hk (by rw [e])
   show (fun w:World=>w.ownsRow s.base 3 1 (if m=n then v else s.V m) (if m=n then L else s.F m).length (ivs (if m=n then L else s.F m)))=_
   simp only [if_neg this];rfl
 ·by_cases e:w.heap.size≤x
  ·exact Nat.le_trans h.bw e
  ·rw [Zw (by omega)] at hx;exact h.o0 x hx
 ·rw [Zw (Yt (h.ps.at 1))];exact h.l1
 ·rw [Zw (Zt (h.ps.at 2) x hx)];exact h.l2 x hx
 ·rw [Zw (Zt (h.ps.at 3) x hx)];exact h.l3 x hx
 ·rw [Zw (Yt (h.ps.at 4))];exact h.l4
 ·rw [Zw (Yt (h.ps.at 5))];exact h.l5
 ·dsimp only at hx
  by_cases e:k=n
  ·subst e
   rw [if_pos rfl] at hx;rcases hat x hx with h'|h'
   ·rw [Zw (Zt (h.ps.at (k+7)) x h')];exact h.l7 k x h'
   ·exact Zja h'
  ·rw [if_neg e] at hx
   rw [Zw (Zt (h.ps.at (k+7)) x hx)];exact h.l7 k x hx
 ·rw [Zw (Zju (h.ps.at 0) p hp)];exact h.lf p hp
theorem PX.newK (h:PX w s) (hb:Below w.heap.size w w1) {K:List (List (Int×Bool))} (hK:∀ w':World,(∀ x,x<w1.heap.size→w.heap.size≤x→w'.heap[x]? = w1.heap[x]?)→Z8 w' a K):PX w1 {s with aK:=a,K:=K}:=by
 obtain ⟨o,h⟩:=h;refine ⟨Zqd w.heap.size 6 o,⟨h.ps.next 6 hb.size (fun x hx ho=>hb.block x hx) (fun w' hw'=>?_) (fun k hk=>?_),Nat.le_trans h.bw hb.size,fun x hx=>?_,?_,fun x hx=>?_,fun x hx=>?_,?_,?_,fun k x hx=>?_,fun p hp=>?_⟩⟩
 ·exact hK w' (fun x hx h1=>hw' x hx (.inr h1))
 ·match k,hk with
  | 0,_=>rfl
  | 6,hk=>exact absurd rfl hk
  | 1,_=>rfl
  | 2,_=>rfl
  | 4,_=>rfl
  | 5,_=>rfl
  | 3,_=>rfl
  | n+7,_=>rfl
 ·by_cases e:w.heap.size≤x
  ·exact Nat.le_trans h.bw e
  ·rw [Zw (by omega)] at hx;exact h.o0 x hx
 ·rw [Zw (Yt (h.ps.at 1))];exact h.l1
 ·rw [Zw (Zt (h.ps.at 2) x hx)];exact h.l2 x hx
 ·rw [Zw (Zt (h.ps.at 3) x hx)];exact h.l3 x hx
 ·rw [Zw (Yt (h.ps.at 4))];exact h.l4
 ·rw [Zw (Yt (h.ps.at 5))];exact h.l5
 ·rw [Zw (Zt (h.ps.at (k+7)) x hx)];exact h.l7 k x hx
 ·rw [Zw (Zju (h.ps.at 0) p hp)];exact h.lf p hp
end
theorem PX.push {s:PS} (h:PX w s) (o:Obj):PX (w.alloc o) {s with fr:=(w.heap.size,o)::s.fr}:=by
 obtain ⟨a2,h⟩:=h;have a3:(w.alloc o).heap.size=w.heap.size+1:=by simp
 have a4:∀ x,x<w.heap.size→(w.alloc o).heap[x]? = w.heap[x]? := fun x hx=>Below.heap_alloc w o x hx
 let own':Nat→Nat:=fun x=>if x<w.heap.size then a2 x else 0
 have a1:∀ {x},x<w.heap.size→own' x=a2 x:=fun hx=>if_pos hx
 refine ⟨own',⟨fun l w' hw'=>?_,by rw [a3];exact Nat.le_succ_of_le h.bw,fun x hx=>?_,?_,fun x hx=>?_,fun x hx=>?_,?_,?_,fun k x hx=>?_,fun p hp=>?_⟩⟩
 ·have a0:s.P l w':=h.ps l w' (fun x hx hl=>(hw' x (by omega) (by rw [a1 hx];exact hl)).trans (a4 x hx))
  match l,hw',a0 with
  | 0,hw',a0=>
   intro p hp;rcases List.mem_cons.1 hp with rfl|hp
   ·exact (hw' w.heap.size (by omega) (if_neg (Nat.lt_irrefl _))).trans (heap_alloc_new w o)
   ·exact a0 p hp
  | 1,_,a0=>exact a0
  | 2,_,a0=>exact a0
  | 3,_,a0=>exact a0
  | 4,_,a0=>exact a0
  | 5,_,a0=>exact a0
  | 6,_,a0=>exact a0
  | n+7,_,a0=>exact a0
 ·by_cases e:x<w.heap.size
  ·rw [a1 e] at hx;exact h.o0 x hx
  ·exact absurd (if_neg e) hx
 ·rw [a1 (Yt (h.ps.at 1))];exact h.l1
 ·rw [a1 (Zt (h.ps.at 2) x hx)];exact h.l2 x hx
 ·rw [a1 (Zt (h.ps.at 3) x hx)];exact h.l3 x hx
 ·rw [a1 (Yt (h.ps.at 4))];exact h.l4
 ·rw [a1 (Yt (h.ps.at 5))];exact h.l5
 ·rw [a1 (Zt (h.ps.at (k+7)) x hx)];exact h.l7 k x hx
 ·rcases List.mem_cons.1 hp with rfl|hp
  ·exact if_neg (Nat.lt_irrefl _)
  ·rw [a1 (Zju (h.ps.at 0) p hp)];exact h.lf p hp
theorem PX.fewer {s:PS} (h:PX w s) {fr:List (Nat×Obj)} (hf:∀ p∈fr,p∈s.fr):PX w {s with fr:=fr}:=by
 obtain ⟨a1,h⟩:=h;refine ⟨a1,⟨fun l w' hw'=>?_,h.bw,h.o0,h.l1,h.l2,h.l3,h.l4,h.l5,h.l7,fun p hp=>h.lf p (hf p hp)⟩⟩;have a0:=h.ps l w' hw'
 match l,a0 with
 | 0,a0=>exact fun p hp=>a0 p (hf p hp)
 | 1,a0=>exact a0
 | 2,a0=>exact a0
 | 3,a0=>exact a0
 | 4,a0=>exact a0
 | 5,a0=>exact a0
 | 6,a0=>exact a0
 | n+7,a0=>exact a0
theorem PX.frame {s:PS} (h:PX w s):∀ p∈s.fr,w.heap[p.1]? = some p.2:=by obtain ⟨o,h⟩:=h;exact h.ps.at 0
theorem Zrj {w':World} {g0:Nat} {C:List (List (Int×Bool))} (h:Zbo w g0 C C.length) (hn:n≤g0) (h3:∀ ls∈C,ls.length≤3) (hk:∀ x,x<w.heap.size→n≤x→w'.heap[x]? = w.heap[x]?):Z8 w' (some ⟨g0,0,none⟩) C:=by
 refine Jm (k:=C.length) ?_ lr h3;obtain ⟨L,G,cp,h1,h2,h4,h5⟩:=h;exact ⟨L,G,cp,(hk g0 h1.lt hn).trans h1,h2,fun j hj hl=>⟨(h4 j hj hl).1,Zi (h4 j hj hl).2 (fun x hx=>hk x (Zt (h4 j hj hl).2 x hx) (by have:=Zv (h4 j hj hl).2 x hx;omega))⟩,h5⟩
structure RM where
 A:Yk
 V:Nat→Value
 gI:Nat
 gO:Nat
 aK:Option Addr
 cK:Nat
structure RC where
 w0:World
 rb:Nat
 C:Zm
 B:Mem
 dn:Int
 L:List Qg
 aL:Option Addr
 cL:Nat
 tq:Int
 fr:List (Nat×Obj)
def fI (D:Dom):Nat→List Int:=fun k=>if k=0 then D.rel else if k=1 then D.tak else if k%2=0 then (D.ins.getD (k/2-1) ([],0)).1 else D.out.getD (k/2-1) []
theorem Zvc (D:Dom) (i:Nat):fI D (2*i+2)=(D.ins.getD i ([],0)).1:=by
 unfold fI;rw [if_neg (by omega),if_neg (by omega),if_pos (by omega)];congr 2;omega
theorem Zn8 (D:Dom) (i:Nat):fI D (2*i+3)=D.out.getD i []:=by
 unfold fI;rw [if_neg (by omega),if_neg (by omega),if_neg (by omega)];congr 1;omega
def inC (V:Nat→Value) (I:List (List Int×Int)):List Value:=(List.range I.length).flatMap fun i=>[V (2*i+2),.int .i64 (I.getD i ([],0)).2]
def Zkg (V:Nat→Value) (n:Nat):List Value:=(List.range n).map fun i=>V (2*i+3)
theorem Zfi (V:Nat→Value) (I:List (List Int×Int)) (i:Nat) (h:i<I.length):(inC V I)[i*2]? = some (V (2*i+2))∧(inC V I)[i*2+1]? = some (.int .i64 I[i].2):=by
 have h0:=Zav (fun i=>[V (2*i+2),Value.int .i64 (I.getD i ([],0)).2]) 2 (fun _=>rfl) (List.range I.length) i 0 (by simpa using h) (by omega);have h1:=Zav (fun i=>[V (2*i+2),Value.int .i64 (I.getD i ([],0)).2]) 2 (fun _=>rfl) (List.range I.length) i 1 (by simpa using h) (by omega);unfold inC;refine ⟨?_,?_⟩
 ·rw [Nat.add_zero] at h0
  rw [h0];simp
 ·rw [h1]
  simp [h]
theorem Zdn (V:Nat→Value) (n i:Nat) (h:i<n):(Zkg V n)[i]? = some (V (2*i+3)):=by simp [Zkg,h]
abbrev rl (X:RC) (M:RM) (D:Dom) (K:KT) (now:Int):List Value:=[.slice M.A.aJ D.jobs.length M.A.cJ,.slice M.A.aR D.rel.length M.A.cR,.int .i64 D.nxt,.slice M.A.aI D.ins.length M.A.cI,.slice M.A.aT D.tak.length M.A.cT,.slice M.A.aO D.out.length M.A.cO,.slice M.A.aE D.evs.length M.A.cE,.int .i64 X.C.s,.int .i64 X.C.w,.int .i64 X.C.d,.int .i64 X.C.p,.int .i64 X.C.q,.slice X.B.a5 X.C.sl.length X.B.c5,.slice X.B.a6 X.C.ow.length X.B.c6,.slice X.B.a7 X.C.ch.length X.B.c7,.slice X.B.a8 X.C.ta.length X.B.c8,.int .i64 X.dn,.slice M.aK K.length M.cK,.slice X.aL X.L.length X.cL,.int .i64 now,.int .i64 X.tq]
abbrev Zpf (X:RC) (M:RM) (D:Dom) (K:KT) (now:Int):PS:=⟨X.rb,M.gI,M.gO,X.w0.heap.size,rl X M D K now,inC M.V D.ins,Zkg M.V D.out.length,.slice M.A.aJ D.jobs.length M.A.cJ,.slice M.A.aE D.evs.length M.A.cE,D.jobs,D.evs,M.aK,K,M.V,fI D,X.fr⟩
structure RO (X:RC) (w:World) (M:RM) (D:Dom) (K:KT) (now:Int):Prop where
 ag:Below X.w0.heap.size X.w0 w
 px:PX w (Zpf X M D K now)
 aI:M.A.aI=some ⟨M.gI,0,none⟩
 aO:M.A.aO=some ⟨M.gO,0,none⟩
 v0:M.V 0=.slice M.A.aR D.rel.length M.A.cR
 v1:M.V 1=.slice M.A.aT D.tak.length M.A.cT
 con:Z1 X.w0 X.B X.C
 act:Yn X.w0 X.aL X.L
 lL:X.L.length≤1000
 lI:D.ins.length≤1000
 lO:D.out.length≤1000
section
variable {X:RC} {w w1:World} {M:RM} {D:Dom} {K:KT} {now:Int}
theorem RO.row (h:RO X w M D K now):Zf w X.rb 152 (rl X M D K now):=h.px.row
theorem RO.below (h:RO X w M D K now) (hb:Below w.heap.size w w1):RO X w1 M D K now:=
 ⟨h.ag.trans (hb.mono h.ag.size),h.px.below hb,h.aI,h.aO,h.v0,h.v1,h.con,h.act,h.lL,h.lI,h.lO⟩
theorem RO.confIn (h:RO X w M D K now):Z1 w X.B X.C:=h.con.keep h.ag
theorem RO.acts (h:RO X w M D K now):Yn w X.aL X.L:=h.act.keep h.ag
theorem RO.relOwn (h:RO X w M D K now):w.ownsRow X.w0.heap.size 3 1 (.slice M.A.aR D.rel.length M.A.cR) D.rel.length (ivs D.rel):=by
 have:=h.px.ints 0
 dsimp only at this;rw [h.v0] at this;exact this
theorem RO.takOwn (h:RO X w M D K now):w.ownsRow X.w0.heap.size 3 1 (.slice M.A.aT D.tak.length M.A.cT) D.tak.length (ivs D.tak):=by
 have:=h.px.ints 1
 dsimp only at this;rw [h.v1] at this;exact this
theorem RO.ringAt (h:RO X w M D K now) (i:Nat) (hi:i<D.ins.length):∃ a c,M.V (2*i+2)=.slice a D.ins[i].1.length c∧w.cell? ⟨M.gI,i*2,none⟩=some (.slice a D.ins[i].1.length c)∧w.cell? ⟨M.gI,i*2+1,none⟩=some (.int .i64 D.ins[i].2)∧Z4 w a D.ins[i].1∧D.ins[i].1.length≤c∧D.ins[i].1.length≤9223372036854775807:=by
 obtain ⟨c0,c1⟩:=Zfi M.V D.ins i hi;have o:=h.px.ints (2*i+2);dsimp only at o;rw [Zvc,show D.ins.getD i ([],0)=D.ins[i] by simp [hi]] at o;obtain ⟨a,c,ev,hc,hm,hI,_⟩:=Zu o;refine ⟨a,c,ev,?_,?_,Yc hI,hc,by simp only [maxLen] at hm;omega⟩
 ·rw [← ev];exact h.px.inr.cell _ _ c0
 ·exact h.px.inr.cell _ _ c1
theorem RO.outAt (h:RO X w M D K now) (i:Nat) (hi:i<D.out.length):w.cell? ⟨M.gO,i,none⟩=some (M.V (2*i+3))∧w.ownsRow X.w0.heap.size 3 1 (M.V (2*i+3)) D.out[i].length (ivs D.out[i]):=by
 have o:=h.px.ints (2*i+3);dsimp only at o;rw [Zn8,show D.out.getD i []=D.out[i] by simp [hi]] at o;exact ⟨h.px.outr.cell _ _ (Zdn M.V _ i hi),o⟩
abbrev RC.more (X:RC) (b:Nat) (o:Obj):RC:=⟨X.w0,X.rb,X.C,X.B,X.dn,X.L,X.aL,X.cL,X.tq,(b,o)::X.fr⟩
theorem RO.push (h:RO X w M D K now) (o:Obj):RO (X.more w.heap.size o) (w.alloc o) M D K now:=
 ⟨h.ag.alloc h.ag.size o,h.px.push o,h.aI,h.aO,h.v0,h.v1,h.con,h.act,h.lL,h.lI,h.lO⟩
theorem RO.pop (h:RO (X.more b o) w M D K now):RO X w M D K now:=
 ⟨h.ag,h.px.fewer (fr:=X.fr) (fun p hp=>List.mem_cons_of_mem _ hp),h.aI,h.aO,h.v0,h.v1,h.con,h.act,h.lL,h.lI,h.lO⟩
theorem RO.top (h:RO (X.more b o) w M D K now):w.heap[b]? = some o:=h.px.frame (b,o) (List.mem_cons_self ..)
theorem RO.topRow {t:TypeId} {l:List Value} (h:RO (X.more b (.cells l.toArray t)) w M D K now):Zf w b t l:=h.top
theorem RO.dom (h:RO X w M D K now):Yz w M.A D:=by
 have j:=Zz h.px.jobs;have e:=Zz h.px.evs;have r:=Zz h.relOwn;have t:=Zz h.takOwn;have hI:=h.lI;have hO:=h.lO;refine ⟨Za5 j.1,Yc r.1,?_,Yc t.1,?_,Zb4 e.1,j.2.2,r.2.2,by omega,t.2.2,by omega,e.2.2⟩
 ·intro i hi
  obtain ⟨a,c,_,h1,h2,h3,h4,h5⟩:=h.ringAt i hi;exact ⟨M.gI,0,a,c,h.aI,by rw [Nat.zero_add];exact h1,by rw [Nat.zero_add];exact h2,h3,h4,h5⟩
 ·intro i hi
  obtain ⟨h1,o⟩:=h.outAt i hi;obtain ⟨a,c,ev,hc,hm,hI,_⟩:=Zu o;exact ⟨M.gO,0,a,c,h.aO,by rw [Nat.zero_add,← ev];exact h1,Yc hI,hc,by simp only [maxLen] at hm;omega⟩
end
def Zd2 (C:Zm) (dn:Int) (D:Dom) (K:KT) (L:List Qg) (fr tq:Int):Int:=
 if ckD C dn D≠0 then ckD C dn D else if ck K≠0 then ck K else if Zdj L≠0 then Zdj L else if fr<0∨tq<fr∨100000<tq then 3 else 0
def Zht (C:Zm) (dn:Int) (a:Qg):Bool:=
 if a.1=4 then decide (a.2.1<(C.ch.length:Int))&&decide ((C.ch.getD a.2.1.toNat (0,0,0)).1=dn)
 else if a.1=5 then decide (a.2.1<(C.ch.length:Int))&&decide ((C.ch.getD a.2.1.toNat (0,0,0)).2.1=dn)
 else if a.1=7 then decide (a.2.1<(C.ow.length:Int))&&decide (C.ow.getD a.2.1.toNat 0=dn)
 else true
def Y7 (D:Dom) (e:EvT):Dom:=⟨D.jobs,D.rel,D.nxt,D.ins,D.tak,D.out,D.evs++[e]⟩
def jat (D:Dom) (k:Nat):J6:=D.jobs.getD k (0,0,0,0,false,false)
def Zzu (j:J6):J6:=(j.1,j.2.1,j.2.2.1,j.2.2.2.1,true,j.2.2.2.2.2)
def Zna (j:J6) (c:Int):J6:=(j.1,j.2.1,j.2.2.1,j.2.2.2.1+c,j.2.2.2.2.1,j.2.2.2.2.2)
def Zs8 (D:Dom) (k:Nat) (j:J6):Dom:=⟨D.jobs.set k j,D.rel,D.nxt,D.ins,D.tak,D.out,D.evs⟩
def Zp (D:Dom) (now:Int) (k:Nat):Dom:=if (jat D k).2.2.2.2.1 then D else Zs8 (Y7 D (now,3,(jat D k).1,(jat D k).2.1)) k (Zzu (jat D k))
def Yp (D:Dom) (k:Nat) (c:Int):Dom:=Zs8 D k (Zna (jat D k) c)
def Zjj (D:Dom) (c:Nat) (v:Int):Dom:=⟨D.jobs,D.rel,D.nxt,D.ins,D.tak,D.out.set c (D.out.getD c []++[v]),D.evs⟩
def Zrf (C:Zm) (D:Dom) (c:Nat):List Int×Int:=(Zgw (D.ins.getD c ([],0)).1 (D.ins.getD c ([],0)).2 (C.ch.getD c (0,0,0)).2.2,Zjg (D.ins.getD c ([],0)).1 (D.ins.getD c ([],0)).2 (C.ch.getD c (0,0,0)).2.2)
def Zds (C:Zm) (D:Dom) (c:Nat):Dom:=⟨D.jobs,D.rel,D.nxt,D.ins.set c (Zrf C D c),D.tak,D.out,D.evs⟩
def Zlb (C:Zm) (D:Dom) (c:Nat):Int:=Zhk (D.ins.getD c ([],0)).1 (D.ins.getD c ([],0)).2 (C.ch.getD c (0,0,0)).2.2
def Znq (D:Dom) (c:Nat):Dom:=⟨D.jobs,D.rel,D.nxt,D.ins,D.tak.set c 0,D.out,D.evs⟩
def Zae (C:Zm) (dn:Int) (D:Dom) (now:Int) (a:Qg) (cost:Int):Dom:=
 if Zht C dn a=false then Y7 D (now,12,D.nxt,0)
 else if a.1=1∨a.1=2∨a.1=3 then Y7 D (now,11,cost,0)
 else if a.1=4 then Y7 (Zjj D a.2.1.toNat a.2.2) (now,9,a.2.1,0)
 else if a.1=5 then Y7 (Zds C D a.2.1.toNat) (now,8,a.2.1,Zlb C D a.2.1.toNat)
 else if a.1=6 then Y7 D (now,7,now-now.tmod C.q,0)
 else if a.1=7 then Y7 (Znq D a.2.1.toNat) (now,10,a.2.1,D.tak.getD a.2.1.toNat 0)
 else D
def Jr (D:Dom):Dom:=⟨D.jobs,D.rel,D.nxt+1,D.ins,D.tak,D.out,D.evs⟩
def Zno (D:Dom) (k:Nat):Dom:=⟨D.jobs.eraseIdx k,D.rel,D.nxt,D.ins,D.tak,D.out,D.evs⟩
def Zhd (C:Zm) (D:Dom) (now:Int) (k:Nat) (a:Qg):Dom:=
 if a.1=8 then Zno (Y7 D (now,4,(jat D k).1,(jat D k).2.1)) k
 else if (tk C (jat D k).1.toNat).2.2.1≤(jat D k).2.2.2.1 then Zno (Y7 D (now,5,(jat D k).1,(jat D k).2.1)) k
 else D
abbrev evM (M:RM) (a:Option Addr) (c:Nat):RM:=⟨⟨M.A.aJ,M.A.aR,M.A.aI,M.A.aT,M.A.aO,a,M.A.cJ,M.A.cR,M.A.cI,M.A.cT,M.A.cO,c⟩,M.V,M.gI,M.gO,M.aK,M.cK⟩
abbrev jM (M:RM) (a:Option Addr) (c:Nat):RM:=⟨⟨a,M.A.aR,M.A.aI,M.A.aT,M.A.aO,M.A.aE,c,M.A.cR,M.A.cI,M.A.cT,M.A.cO,M.A.cE⟩,M.V,M.gI,M.gO,M.aK,M.cK⟩
abbrev jrM (M:RM) (a:Option Addr) (c:Nat) (a':Option Addr) (n c':Nat):RM:=⟨⟨a,a',M.A.aI,M.A.aT,M.A.aO,M.A.aE,c,c',M.A.cI,M.A.cT,M.A.cO,M.A.cE⟩,fun k=>if k=0 then .slice a' n c' else M.V k,M.gI,M.gO,M.aK,M.cK⟩
abbrev kM (M:RM) (a:Option Addr) (c:Nat):RM:=⟨M.A,M.V,M.gI,M.gO,a,c⟩
abbrev vM (M:RM) (n:Nat) (v:Value):RM:=⟨M.A,fun k=>if k=n then v else M.V k,M.gI,M.gO,M.aK,M.cK⟩
theorem Qd {b' e sz:Nat} {xs:List Value} (h:w.ownsRow b e sz v n xs) (hb:b'≤b):w.ownsRow b' e sz v n xs:=by
 refine ⟨h.1,?_⟩;rcases h.2 with h'|⟨g,a0,a1,e1,e2,r⟩
 ·exact .inl h'
 ·exact .inr ⟨g,a0,a1,e1,by omega,r⟩
theorem PX.newJF {s:PS} (h:PX w s) (hb:Below w.heap.size w w1) {J:List J6} (ho:w1.ownsRow w.heap.size 87 6 v J.length (fJ J)) {u:Value} {L:List Int} (hu:w1.ownsRow w.heap.size 3 1 u L.length (ivs L)):
  PX w1 {s with vJ:=v,J:=J,V:=fun k=>if k=0 then u else s.V k,F:=fun k=>if k=0 then L else s.F k}:=by
 obtain ⟨o,h⟩:=h
 let o':Nat→Nat:=fun x=>if w.heap.size≤x then (if u.ownBlock=some x then 7 else 2) else o x
 have a1:∀ {x},x<w.heap.size→o' x=o x:=fun hx=>if_neg (by omega)
 have hv:∀ x,v.ownBlock=some x→o' x=2:=fun x hx=>by
  show (if w.heap.size≤x then (if u.ownBlock=some x then 7 else 2) else o x)=2
  rw [if_pos (Zv ho x hx),if_neg (Ql ho hu (by decide) x hx)]
 have a2:∀ x,u.ownBlock=some x→o' x=7:=fun x hx=>by
  show (if w.heap.size≤x then (if u.ownBlock=some x then 7 else 2) else o x)=7
  rw [if_pos (Zv hu x hx),if_pos hx]
 have a0:∀ l w',l≠2→l≠7→(∀ x,x<w1.heap.size→o' x=l→w'.heap[x]? = w1.heap[x]?)→s.P l w':=fun l w' h2 h7 hw'=>
  h.ps l w' (fun x hx hl=>(hw' x (Nat.lt_of_lt_of_le hx hb.size) (by rw [a1 hx];exact hl)).trans (hb.block x hx))
 refine ⟨o',⟨fun l w' hw'=>?_,Nat.le_trans h.bw hb.size,fun x hx=>?_,?_,hv,fun x hx=>?_,?_,?_,fun k x hx=>?_,fun p hp=>by rw [a1 (Zju (h.ps.at 0) p hp)];exact h.lf p hp⟩⟩
 ·match l,hw',a0 l w' with
  | 0,hw',a0=>exact a0 (by decide) (by decide) hw'
  | 1,hw',a0=>exact a0 (by decide) (by decide) hw'
  | 2,hw',_=>exact Zi (Qd ho h.bw) (fun x hx=>hw' x (Zt ho x hx) (hv x hx))
  | 3,hw',a0=>exact a0 (by decide) (by decide) hw'
  | 4,hw',a0=>exact a0 (by decide) (by decide) hw'
  | 5,hw',a0=>exact a0 (by decide) (by decide) hw'
  | 6,hw',a0=>exact a0 (by decide) (by decide) hw'
  | 0+7,hw',_=>exact Zi (Qd hu h.bw) (fun x hx=>hw' x (Zt hu x hx) (a2 x hx))
  | n+1+7,hw',a0=>exact a0 (by omega) (by omega) hw'
 ·by_cases e:w.heap.size≤x
  ·exact Nat.le_trans h.bw e
  ·rw [a1 (by omega)] at hx;exact h.o0 x hx
 ·rw [a1 (Yt (h.ps.at 1))];exact h.l1
 ·rw [a1 (Zt (h.ps.at 3) x hx)];exact h.l3 x hx
 ·rw [a1 (Yt (h.ps.at 4))];exact h.l4
 ·rw [a1 (Yt (h.ps.at 5))];exact h.l5
 ·dsimp only at hx
  by_cases e:k=0
  ·subst e
   rw [if_pos rfl] at hx;exact a2 x hx
  ·rw [if_neg e] at hx
   rw [a1 (Zt (h.ps.at (k+7)) x hx)];exact h.l7 k x hx
section
variable {X:RC} {w w1:World} {M:RM} {D:Dom} {K:KT} {now:Int}
theorem RO.set_ag (h:Below X.w0.heap.size X.w0 w) (g o:Nat) (u:Value) (hg:X.w0.heap.size≤g):Below X.w0.heap.size X.w0 (w.setCell ⟨g,o,none⟩ u):=h.setCell (p:=⟨g,o,none⟩) hg u
theorem RO.rb_ge (h:RO X w M D K now):X.w0.heap.size≤X.rb:=h.px.rb_ge
theorem RO.gI_ge (h:RO X w M D K now):X.w0.heap.size≤M.gI:=h.px.gI_ge
theorem RO.gO_ge (h:RO X w M D K now):X.w0.heap.size≤M.gO:=h.px.gO_ge
theorem RO.told (h:RO X w M D K now) {E:List EvT} (hg:w.grownBy w1 (Value.slice M.A.aE D.evs.length M.A.cE).ownBlock) (ho:w1.ownsRow X.w0.heap.size 92 4 (.slice a' E.length c') E.length (fE E))
  (hat:∀ x,(Value.slice a' E.length c').ownBlock=some x→(Value.slice M.A.aE D.evs.length M.A.cE).ownBlock=some x∨w.heap.size≤x) :
  RO X (w1.setCell ⟨X.rb,6,none⟩ (.slice a' E.length c')) (evM M a' c') ⟨D.jobs,D.rel,D.nxt,D.ins,D.tak,D.out,E⟩ K now:=
 ⟨RO.set_ag (h.ag.grown hg h.ag.size (fun k hk=>Zv h.px.evs k hk)) _ _ _ h.rb_ge,(h.px.newE hg.size (fun x hx hne=>hg.block x hx (fun e=>hne e.symm)) ho hat).setRow 6 _,h.aI,h.aO,h.v0,h.v1,h.con,h.act,h.lL,h.lI,h.lO⟩
theorem RO.setNow (h:RO X w M D K now) (t:Int):RO X (w.setCell ⟨X.rb,19,none⟩ (.int .i64 t)) M D K t:=
 ⟨RO.set_ag h.ag _ _ _ h.rb_ge,h.px.setRow 19 _,h.aI,h.aO,h.v0,h.v1,h.con,h.act,h.lL,h.lI,h.lO⟩
theorem RO.setNext (h:RO X w M D K now) (n:Int):RO X (w.setCell ⟨X.rb,2,none⟩ (.int .i64 n)) M ⟨D.jobs,D.rel,n,D.ins,D.tak,D.out,D.evs⟩ K now:=
 ⟨RO.set_ag h.ag _ _ _ h.rb_ge,h.px.setRow 2 _,h.aI,h.aO,h.v0,h.v1,h.con,h.act,h.lL,h.lI,h.lO⟩
theorem RO.newCache (h:RO X w M D K now) (hb:Below w.heap.size w w1) {c:Nat} {K':KT} (hK:∀ w':World,(∀ x,x<w1.heap.size→w.heap.size≤x→w'.heap[x]? = w1.heap[x]?)→Z8 w' a K'):
  RO X (w1.setCell ⟨X.rb,17,none⟩ (.slice a K'.length c)) (kM M a c) D K' now:=
 ⟨RO.set_ag (h.ag.trans (hb.mono h.ag.size)) _ _ _ h.rb_ge,(h.px.newK hb hK).setRow 17 _,h.aI,h.aO,h.v0,h.v1,h.con,h.act,h.lL,h.lI,h.lO⟩
theorem RO.newJobs (h:RO X w M D K now) {J:List J6} (hg:w.grownBy w1 (Value.slice M.A.aJ D.jobs.length M.A.cJ).ownBlock) (ho:w1.ownsRow X.w0.heap.size 87 6 (.slice a' J.length c') J.length (fJ J))
  (hat:∀ x,(Value.slice a' J.length c').ownBlock=some x→(Value.slice M.A.aJ D.jobs.length M.A.cJ).ownBlock=some x∨w.heap.size≤x) :
  RO X (w1.setCell ⟨X.rb,0,none⟩ (.slice a' J.length c')) (jM M a' c') ⟨J,D.rel,D.nxt,D.ins,D.tak,D.out,D.evs⟩ K now:=
 ⟨RO.set_ag (h.ag.grown hg h.ag.size (fun k hk=>Zv h.px.jobs k hk)) _ _ _ h.rb_ge,(h.px.newJ hg.size (fun x hx hne=>hg.block x hx (fun e=>hne e.symm)) ho hat).setRow 0 _,h.aI,h.aO,h.v0,h.v1,h.con,h.act,h.lL,h.lI,h.lO⟩
theorem RO.newJR (h:RO X w M D K now) (hb:Below w.heap.size w w1) {J:List J6} {L:List Int} (ho:w1.ownsRow w.heap.size 87 6 (.slice a J.length c) J.length (fJ J)) (hu:w1.ownsRow w.heap.size 3 1 (.slice a' L.length c') L.length (ivs L)):
  RO X ((w1.setCell ⟨X.rb,0,none⟩ (.slice a J.length c)).setCell ⟨X.rb,1,none⟩ (.slice a' L.length c')) (jrM M a c a' L.length c') ⟨J,L,D.nxt,D.ins,D.tak,D.out,D.evs⟩ K now:=by
 have hF:fI ⟨J,L,D.nxt,D.ins,D.tak,D.out,D.evs⟩=fun k=>if k=0 then L else fI D k:=by
  funext k
  unfold fI;by_cases e:k=0
  ·simp [e]
  ·simp [e]
 have hI:inC (fun k=>if k=0 then Value.slice a' L.length c' else M.V k) D.ins=inC M.V D.ins:=by
  unfold inC;simp
 have hO:Zkg (fun k=>if k=0 then Value.slice a' L.length c' else M.V k) D.out.length=Zkg M.V D.out.length:=by
  unfold Zkg;simp
 refine ⟨RO.set_ag (RO.set_ag (h.ag.trans (hb.mono h.ag.size)) _ _ _ h.rb_ge) _ _ _ h.rb_ge,?_,h.aI,h.aO,rfl,h.v1,h.con,h.act,h.lL,h.lI,h.lO⟩
 have:=((h.px.newJF hb ho hu).setRow 0 (.slice a J.length c)).setRow 1 (.slice a' L.length c')
 show PX _ ⟨X.rb,M.gI,M.gO,X.w0.heap.size,_,inC (fun k=>if k=0 then Value.slice a' L.length c' else M.V k) D.ins,Zkg (fun k=>if k=0 then Value.slice a' L.length c' else M.V k) D.out.length,_,_,_,_,_,_,_,fI ⟨J,L,D.nxt,D.ins,D.tak,D.out,D.evs⟩,_⟩
 rw [hF,hI,hO];exact this
theorem RO.setJob (h:RO X w M D K now) (hg:M.A.aJ=some ⟨g,0,none⟩) (i r:Nat) (j j':J6) (u:Value) (hi:D.jobs[i]? = some j) (hr:r<6) (hj:(jc j).set r u=jc j'):
  RO X (w.setCell ⟨g,i*6+r,none⟩ u) M (Zs8 D i j') K now:=by
 have a0:(Value.slice M.A.aJ D.jobs.length M.A.cJ).ownBlock=some g:=by rw [hg];rfl
 have hl:(D.jobs.set i j').length=D.jobs.length:=List.length_set;have ho:=h.px.jobs;dsimp only at ho;have a1:(w.setCell ⟨g,i*6+r,none⟩ u).ownsRow X.w0.heap.size 87 6 (.slice M.A.aJ D.jobs.length M.A.cJ) (D.jobs.set i j').length (fJ (D.jobs.set i j')):=by
  rw [hg] at ho ⊢;rw [hl,← Zns D.jobs i r j j' u hi hr hj];exact Zd7 ho u
 have:=h.px.newJ (w1:=w.setCell ⟨g,i*6+r,none⟩ u) (by simp) (fun x hx hne=>Zd _ _ _ _ x (fun e=>hne (by subst e;exact a0))) a1 (fun x hx=>.inl hx)
 refine ⟨RO.set_ag h.ag _ _ _ (Zv h.px.jobs g a0),?_,h.aI,h.aO,h.v0,h.v1,h.con,h.act,h.lL,h.lI,h.lO⟩;have e:Zpf X M (Zs8 D i j') K now={Zpf X M D K now with vJ:=.slice M.A.aJ D.jobs.length M.A.cJ,J:=D.jobs.set i j'}:=by
  simp only [Zpf,rl,Zs8,hl];rfl
 rw [e];exact this
theorem Zxk (V:Nat→Value) (I:List (List Int×Int)) (c:Nat) (hc:c<I.length) (v:Value) (r:List Int×Int):((inC V I).set (c*2) v).set (c*2+1) (.int .i64 r.2)=inC (fun k=>if k=2*c+2 then v else V k) (I.set c r):=by
 have hl:(inC V I).length=I.length*2:=by
  unfold inC;rw [Za4 _ 2 (fun _=>rfl)];simp
 have a0:(inC (fun k=>if k=2*c+2 then v else V k) (I.set c r)).length=I.length*2:=by
  unfold inC;rw [Za4 _ 2 (fun _=>rfl)];simp
 refine List.ext_getElem? (fun n=>?_);by_cases hn:n<I.length*2
 ·obtain ⟨i,hi,q⟩:∃ i,i<I.length∧(n=i*2∨n=i*2+1):=⟨n/2,by omega,by omega⟩
  have hs:i<(I.set c r).length:=by simpa using hi
  have a1:=Zfi V I i hi;have a2:=Zfi (fun k=>if k=2*c+2 then v else V k) (I.set c r) i hs;rcases q with rfl|rfl
  ·rw [a2.1,List.getElem?_set_ne (by omega)]
   by_cases e:i=c
   ·subst e
    rw [List.getElem?_set_self (by omega)];simp
   ·rw [List.getElem?_set_ne (by omega),a1.1,if_neg (by omega)]
  ·rw [a2.2]
   by_cases e:i=c
   ·subst e
    rw [List.getElem?_set_self (by rw [List.length_set];omega)];simp
   ·rw [List.getElem?_set_ne (by omega),List.getElem?_set_ne (by omega),a1.2]
    rw [List.getElem_set_ne (by omega)]
 ·rw [List.getElem?_eq_none (by rw [List.length_set,List.length_set,hl];omega),List.getElem?_eq_none (by rw [a0];omega)]
theorem Zts (V:Nat→Value) (n c:Nat) (v:Value):(Zkg V n).set c v=Zkg (fun k=>if k=2*c+3 then v else V k) n:=by
 refine List.ext_getElem? (fun i=>?_);by_cases hi:i<n
 ·rw [Zdn _ _ _ hi]
  by_cases e:i=c
  ·subst e
   rw [List.getElem?_set_self (by simp [Zkg,hi])];simp
  ·rw [List.getElem?_set_ne (by omega),Zdn _ _ _ hi,if_neg (by omega)]
 ·rw [List.getElem?_eq_none (by simp [Zkg];omega),List.getElem?_eq_none (by simp [Zkg];omega)]
theorem Zws (V:Nat→Value) (I:List (List Int×Int)) (c:Nat) (v:Value):inC (fun k=>if k=2*c+3 then v else V k) I=inC V I:=by
 unfold inC;congr 1
 funext i
 dsimp only;rw [if_neg (by omega)]
theorem Zwr (V:Nat→Value) (n c:Nat) (v:Value):Zkg (fun k=>if k=2*c+2 then v else V k) n=Zkg V n:=by
 unfold Zkg;congr 1
 funext i
 dsimp only;rw [if_neg (by omega)]
theorem Zge {α:Type} (L:List α) (c i:Nat) (x d:α) (hc:c<L.length):(L.set c x).getD i d=if i=c then x else L.getD i d:=by
 by_cases e:i=c
 ·subst e
  simp [hc]
 ·simp [e,List.getD_eq_getElem?_getD,List.getElem?_set_ne (fun h=>e h.symm)]
theorem RO.sent (h:RO X w M D K now) (c:Nat) (hc:c<D.out.length) {L:List Int} (hg:w.grownBy w1 (M.V (2*c+3)).ownBlock) (ho:w1.ownsRow X.w0.heap.size 3 1 v L.length (ivs L))
  (hat:∀ x,v.ownBlock=some x→(M.V (2*c+3)).ownBlock=some x∨w.heap.size≤x) :
  RO X (w1.setCell ⟨M.gO,c,none⟩ v) (vM M (2*c+3) v) ⟨D.jobs,D.rel,D.nxt,D.ins,D.tak,D.out.set c L,D.evs⟩ K now:=by
 have hF:fI ⟨D.jobs,D.rel,D.nxt,D.ins,D.tak,D.out.set c L,D.evs⟩=fun k=>if k=2*c+3 then L else fI D k:=by
  funext k
  unfold fI;dsimp only;by_cases e0:k=0
  ·simp [e0]
  by_cases e1:k=1
  ·rw [if_neg e0,if_pos e1,if_neg (by omega),if_neg e0,if_pos e1]
  by_cases e2:k%2=0
  ·rw [if_neg e0,if_neg e1,if_pos e2,if_neg (by omega),if_neg e0,if_neg e1,if_pos e2]
  rw [if_neg e0,if_neg e1,if_neg e2,if_neg e0,if_neg e1,if_neg e2,Zge _ _ _ _ _ hc];by_cases e:k=2*c+3
  ·rw [if_pos e,if_pos (by omega)]
  ·rw [if_neg e,if_neg (by omega)]
 have hl:(D.out.set c L).length=D.out.length:=List.length_set;refine ⟨RO.set_ag (h.ag.grown hg h.ag.size (fun k hk=>Zv (h.px.ints (2*c+3)) k hk)) _ _ _ h.gO_ge,?_,h.aI,h.aO,?_,?_,h.con,h.act,h.lL,h.lI,by dsimp only;rw [hl];exact h.lO⟩
 ·have:=(h.px.newF (2*c+3) hg.size (fun x hx hne=>hg.block x hx (fun e=>hne e.symm)) ho hat).setOut c v
  dsimp only at this;rw [Zts] at this;have e:Zpf X (vM M (2*c+3) v) ⟨D.jobs,D.rel,D.nxt,D.ins,D.tak,D.out.set c L,D.evs⟩ K now={Zpf X M D K now with cO:=Zkg (fun k=>if k=2*c+3 then v else M.V k) D.out.length,V:=fun k=>if k=2*c+3 then v else M.V k,F:=fun k=>if k=2*c+3 then L else fI D k}:=by
   simp only [Zpf,rl,hF,hl,Zws]
  rw [e];exact this
 ·show (if 0=2*c+3 then v else M.V 0)=_
  rw [if_neg (by omega)];exact h.v0
 ·show (if 1=2*c+3 then v else M.V 1)=_
  rw [if_neg (by omega)];exact h.v1
theorem RO.received (h:RO X w M D K now) (c:Nat) (hc:c<D.ins.length) {r:List Int×Int} (hb:Below w.heap.size w w1) (ho:w1.ownsRow w.heap.size 3 1 v r.1.length (ivs r.1)):
  RO X ((w1.setCell ⟨M.gI,c*2,none⟩ v).setCell ⟨M.gI,c*2+1,none⟩ (.int .i64 r.2)) (vM M (2*c+2) v) ⟨D.jobs,D.rel,D.nxt,D.ins.set c r,D.tak,D.out,D.evs⟩ K now:=by
 have hF:fI ⟨D.jobs,D.rel,D.nxt,D.ins.set c r,D.tak,D.out,D.evs⟩=fun k=>if k=2*c+2 then r.1 else fI D k:=by
  funext k
  unfold fI;dsimp only;by_cases e0:k=0
  ·simp [e0]
  by_cases e1:k=1
  ·rw [if_neg e0,if_pos e1,if_neg (by omega),if_neg e0,if_pos e1]
  by_cases e2:k%2=0
  ·rw [if_neg e0,if_neg e1,if_pos e2,if_neg e0,if_neg e1,if_pos e2,Zge _ _ _ _ _ hc]
   by_cases e:k=2*c+2
   ·rw [if_pos e,if_pos (by omega)]
   ·rw [if_neg e,if_neg (by omega)]
  ·rw [if_neg e0,if_neg e1,if_neg e2,if_neg (by omega),if_neg e0,if_neg e1,if_neg e2]
 have hl:(D.ins.set c r).length=D.ins.length:=List.length_set;refine ⟨RO.set_ag (RO.set_ag (h.ag.trans (hb.mono h.ag.size)) _ _ _ h.gI_ge) _ _ _ h.gI_ge,?_,h.aI,h.aO,?_,?_,h.con,h.act,h.lL,by dsimp only;rw [hl];exact h.lI,h.lO⟩
 ·have:=((h.px.newF (2*c+2) hb.size (fun x hx _=>hb.block x hx) (Qd ho h.ag.size) (fun x hx=>.inr (Zv ho x hx))).setIn (c*2) v).setIn (c*2+1) (.int .i64 r.2)
  dsimp only at this;rw [Zxk _ _ _ hc] at this;have e:Zpf X (vM M (2*c+2) v) ⟨D.jobs,D.rel,D.nxt,D.ins.set c r,D.tak,D.out,D.evs⟩ K now={Zpf X M D K now with cI:=inC (fun k=>if k=2*c+2 then v else M.V k) (D.ins.set c r),V:=fun k=>if k=2*c+2 then v else M.V k,F:=fun k=>if k=2*c+2 then r.1 else fI D k}:=by
   simp only [Zpf,rl,hF,hl,Zwr]
  rw [e];exact this
 ·show (if 0=2*c+2 then v else M.V 0)=_
  rw [if_neg (by omega)];exact h.v0
 ·show (if 1=2*c+2 then v else M.V 1)=_
  rw [if_neg (by omega)];exact h.v1
theorem RO.taken (h:RO X w M D K now) (hg:M.A.aT=some ⟨g,0,none⟩) (c:Nat) (n:Int):RO X (w.setCell ⟨g,c,none⟩ (.int .i64 n)) M ⟨D.jobs,D.rel,D.nxt,D.ins,D.tak.set c n,D.out,D.evs⟩ K now:=by
 have a0:(M.V 1).ownBlock=some g:=by rw [h.v1,hg];rfl
 have hl:(D.tak.set c n).length=D.tak.length:=List.length_set;have ho:=h.takOwn;have a1:(w.setCell ⟨g,c,none⟩ (.int .i64 n)).ownsRow X.w0.heap.size 3 1 (M.V 1) (D.tak.set c n).length (ivs (D.tak.set c n)):=by
  rw [h.v1,hl,← Zqm];rw [hg] at ho ⊢;exact Zd7 ho _
 have hF:fI ⟨D.jobs,D.rel,D.nxt,D.ins,D.tak.set c n,D.out,D.evs⟩=fun k=>if k=1 then D.tak.set c n else fI D k:=by
  funext k
  unfold fI;dsimp only;by_cases e0:k=0
  ·simp [e0]
  by_cases e1:k=1
  ·rw [if_neg e0,if_pos e1,if_pos e1]
  ·rw [if_neg e0,if_neg e1,if_neg e1,if_neg e0,if_neg e1]
 have hV:(fun k=>if k=1 then M.V 1 else M.V k)=M.V:=by
  funext k
  by_cases e:k=1
  ·rw [if_pos e,e]
  ·rw [if_neg e]
 have:=h.px.newF (w1:=w.setCell ⟨g,c,none⟩ (.int .i64 n)) 1 (by simp) (fun x hx hne=>Zd _ _ _ _ x (fun e=>hne (by subst e;exact a0))) a1 (fun x hx=>.inl hx)
 refine ⟨RO.set_ag h.ag _ _ _ (Zv (h.px.ints 1) g a0),?_,h.aI,h.aO,h.v0,?_,h.con,h.act,h.lL,h.lI,h.lO⟩
 ·dsimp only at this
  rw [hV] at this;have e:Zpf X M ⟨D.jobs,D.rel,D.nxt,D.ins,D.tak.set c n,D.out,D.evs⟩ K now={Zpf X M D K now with F:=fun k=>if k=1 then D.tak.set c n else fI D k}:=by
   simp only [Zpf,rl,hF,hl]
  rw [e];exact this
 ·dsimp only
  rw [hl];exact h.v1
end
theorem Zlu (C:Zm) (B:Mem) (dn:Int) (D:Dom) (A:Yk) (K:KT) (aK:Option Addr) (cK:Nat) (L:List Qg) (aL:Option Addr) (cL:Nat) (fr te:Int) (w:World) (hC:Z1 w B C) (hD:Yz w A D) (hK:Z8 w aK K) (hKl:List.length K≤9223372036854775807) (hL:Yn w aL L) (hLl:List.length L≤9223372036854775807):
  Calls prog 69 #[cv C B,.int .i64 dn,dv D A,.agg #[.slice aK K.length cK],.slice aL L.length cL,.int .i64 fr,.int .i64 te] w fun e w'=>e=.returned (.int .i64 (Zd2 C dn D K L fr te))∧Below w.heap.size w w':=by
 have q1:=Za w (.cells (cl C B) 27);have q2:=Za (w.alloc (.cells (cl C B) 27)) (.cells (dl D A) 46);have q3:=Za ((w.alloc (.cells (cl C B) 27)).alloc (.cells (dl D A) 46)) (.cells #[.slice aK K.length cK] 72);have hb:=Zb (Zb q1 q2) q3;have HB:=hid hb;have HC:=hid (hC.keep hb);have HD:=hid (hD.keep hb);have HK:=hid (hK.keep hb);have HL:=hid (hL.keep hb);have R3:=hid (Z5 ((w.alloc (.cells (cl C B) 27)).alloc (.cells (dl D A) 46)) (w.heap.size+1+1) [.slice aK K.length cK] 72 (by simp));clear q1 q2 q3 hb hC hD hK hL;go_enter func69,ntmps69;go_wp2_with fail;refine (Za1 D A C B dn _ HC HD).mono ?_;rintro e w1 ⟨rfl,a1⟩;generalize hW:World.alloc (World.alloc (World.alloc w _) _) _=W at *
 clear hW;have a4:=hid (Zb HB a1);have T3:=hid (R3.out.below a1 lr);have a8:=hid (HK.out.keep a1);have a9:=hid (HL.out.keep a1);clear R3 HK HL HC HD HB a1;by_cases h1:ckD C dn D=0
 case neg=>
  have HE:Hid (Zd2 C dn D K L fr te=ckD C dn D):=hid (by rw [Zd2,if_pos h1]);have hx:(ckD C dn D != 0)=true:=by simp [h1]
  clear h1;generalize ckD C dn D=q at *
  go_wp2;go_ret;exact ⟨Zh HE.out.symm,a4.out⟩
 have H1:=hid h1;rw [h1];clear h1;have c0:=T3.out.cell 0 _ rfl;go_wp2_with fail;refine (Zea aK K cK _ a8 hKl).mono ?_;rintro e w2 ⟨rfl,a5⟩;have a3:=hid (Zb a4 a5);have ad:=hid (a9.out.keep a5);clear c0 T3 a8 a9 a4 a5;by_cases h2:ck K=0
 case neg=>
  have HE:Hid (Zd2 C dn D K L fr te=ck K):=hid (by rw [Zd2,if_neg (by rw [H1.out];decide),if_pos h2]);have hx:(ck K != 0)=true:=by simp [h2]
  clear h2;generalize ck K=q at *
  go_wp2;go_ret;exact ⟨Zh HE.out.symm,a3.out⟩
 have H2:=hid h2;rw [h2];clear h2;have a6:Hid (Zd2 C dn D K L fr te=if Zdj L≠0 then Zdj L else if fr<0∨te<fr∨100000<te then 3 else 0):=hid (by rw [Zd2,if_neg (by rw [H1.out];decide),if_neg (by rw [H2.out];decide)]);by_cases h60:60<List.length L
 ·have HE:Hid (Zd2 C dn D K L fr te=2):=hid (by rw [a6.out,Zdj,if_pos h60];rfl)
  have hz:(60:Int)<(List.length L:Int):=by omega
  go_wp2;go_ret;exact ⟨Zh HE.out.symm,a3.out⟩
 have hz:(List.length L:Int)≤60:=by omega
 have HA:Hid (Zdj L=fe (List.length L) fun i=>ckA (L.getD i (0,0,0))):=hid (by rw [Zdj,if_neg h60]);clear h60;go_wp2;go_loopw [37] (fun i wr=>∃ k:Nat,k≤List.length L∧i=.int .i64 k∧Below w2.heap.size w2 wr∧∀ j,j<k→ckA (L.getD j (0,0,0))=0) (fun i _=>List.length L-(intOf i).toNat)
 case atStart=>exact ⟨0,zl,rfl,br,by omega⟩
 case round=>
  obtain ⟨k,hk,rfl,a2,aa⟩:=hrel;have a7:=hid aa;clear aa;by_cases hlt:k<List.length L
  ·obtain ⟨b1,o1,rfl,p0,p1,p2⟩:=(ad.out.keep a2) k hlt
   have HV:Hid (L.getD k (0,0,0)=L[k]):=hid (by simp [hlt]);have ah:(k:Int)<(List.length L:Int):=by omega
   have ai:(0:Int)≤(k:Int):=by omega
   generalize L[k]=a at *
   obtain ⟨ak,an,a0⟩:=a;dsimp only at *
   have HQ:=hid (Zb a2 (Za wr (.cells #[.int .i64 ak,.int .i64 an,.int .i64 a0] 63)));clear a2;go_wp2_with fail;refine (Za3 (ak,an,a0) _).mono ?_;rintro e w3 ⟨rfl,ab⟩;have ac:=hid (Zb HQ ab);clear ab HQ p0 p1 p2;by_cases h0:ckA (ak,an,a0)=0
   ·have H0:=hid h0
    rw [h0];clear h0;go_wp2;go_roundw
    case rel=>
     refine ⟨k+1,by omega,by go_num,ac.out,fun j hj=>?_⟩;by_cases e:j=k
     ·subst e;rw [HV.out];exact H0.out
     ·exact a7.out j (by omega)
    case measure=>simp [intOf];omega
   ·have ae:Hid (Zd2 C dn D K L fr te=ckA (ak,an,a0)):=hid (by
     have e1:Zdj L=ckA (ak,an,a0):=by rw [HA.out,Zbe _ k _ hlt (by rw [HV.out];exact h0) (fun j hj=>a7.out j hj),HV.out]
     rw [a6.out,e1,if_pos h0])
    have hx:(ckA (ak,an,a0) != 0)=true:=by simp [h0]
    clear h0 HV;generalize ckA (ak,an,a0)=q at *
    go_wp2;go_ret;exact ⟨Zh ae.out.symm,Zb a3 ac⟩
  ·have af:Hid (Zd2 C dn D K L fr te=if fr<0∨te<fr∨100000<te then 3 else 0):=hid (by
    have e1:Zdj L=0:=by rw [HA.out];exact Qt _ _ (fun j hj=>a7.out j (by omega))
    rw [a6.out,e1,if_neg (by decide)])
   have ag:=hid (Zb a3 a2);clear a2;go_wp2
   all_goals go_ret
   all_goals exact ⟨Zh (by rw [af.out];first|(rw [if_pos (by omega)])|(rw [if_neg (by omega)])),ag.out⟩
end Go.Proofs.YtejhccmclanlmaaGreatDoor
