/- Texts joined: Wy. -/
import Derived.Test.YtejhccmclanlmaaGreatDoorK24
set_option linter.unusedVariables false
set_option maxRecDepth 100000
namespace Go.Proofs.YtejhccmclanlmaaGreatDoor
open Go.RowKit
theorem PX.shift {w wx:World} {s:PS} (h:PX w s) (hk:∀ x,s.base≤x→(∀ p∈s.fr,p.1≠x)→wx.heap[x]? = w.heap[x]?):PX wx { s with fr:=[] }:=by
 have hrb:=h.row
 have hge:=h.rb_ge
 obtain ⟨own,h⟩:=h
 have hno:∀ x,own x≠0→∀ p∈s.fr,p.1≠x:=fun x hx p hp e=>hx (by rw [← e];exact h.lf p hp)
 have hlt:s.rb<wx.heap.size:=(Array.getElem?_eq_some_iff.1 ((hk s.rb hge (hno _ (by rw [h.l1];decide))).trans hrb)).1
 refine ⟨own,⟨fun l w' hw'=>?_,by show s.base≤_;omega,h.o0,h.l1,h.l2,h.l3,h.l4,h.l5,h.l7,fun p hp=>by simp at hp⟩⟩
 by_cases hl:l=0
 ·subst hl
  intro p hp
  simp at hp
 ·have oldP:s.P l w':=h.ps l w' (fun x hx ho=>by
   have hb:s.base≤x:=h.o0 x (by rw [ho];exact hl)
   have e:=hk x hb (hno x (by rw [ho];exact hl))
   have hx':x<wx.heap.size:=by
    rw [Array.getElem?_eq_getElem hx] at e
    exact (Array.getElem?_eq_some_iff.1 e).1
   exact (hw' x hx' ho).trans e)
  match l,hl,oldP with
  | 0,hl,_=>exact absurd rfl hl
  | 1,_,oldP=>exact oldP
  | 2,_,oldP=>exact oldP
  | 3,_,oldP=>exact oldP
  | 4,_,oldP=>exact oldP
  | 5,_,oldP=>exact oldP
  | 6,_,oldP=>exact oldP
  | n+7,_,oldP=>exact oldP
theorem RO.domAt {X:RC} {w wx:World} {M:RM} {D:Dom} {K:KT} {now:Int} (h:RO X w M D K now) (hk:∀ x,X.w0.heap.size≤x→(∀ p∈X.fr,p.1≠x)→wx.heap[x]? = w.heap[x]?):DomIn wx M.A D∧CacheIn wx M.aK K:=by
 have px:=h.px.shift hk
 have hI:=h.lI
 have hO:=h.lO
 have j:=owns_in px.jobs
 have e:=owns_in px.evs
 have r0:=px.ints 0
 have t0:=px.ints 1
 dsimp only at r0 t0
 rw [h.v0] at r0
 rw [h.v1] at t0
 have r:=owns_in r0
 have t:=owns_in t0
 refine ⟨⟨jobsIn_of j.1,intsIn_of r.1,?_,intsIn_of t.1,?_,evsIn_of e.1,j.2.2,r.2.2,by omega,t.2.2,by omega,e.2.2⟩,px.cache⟩
 ·intro i hi
  obtain ⟨c0,c1⟩:=inC_at M.V D.ins i hi
  have o:=px.ints (2 * i+2)
  dsimp only at o
  rw [fI_in,show D.ins.getD i ([],0)=D.ins[i] by simp [hi]] at o
  obtain ⟨a,c,ev,hc,hm,hI,_⟩:=owns_cells o
  refine ⟨M.gI,0,a,c,h.aI,?_,?_,intsIn_of hI,hc,by simp only [maxLen] at hm;omega⟩
  ·rw [Nat.zero_add,← ev];exact px.inr.cell _ _ c0
  ·rw [Nat.zero_add];exact px.inr.cell _ _ c1
 ·intro i hi
  have o:=px.ints (2 * i+3)
  dsimp only at o
  rw [fI_out,show D.out.getD i []=D.out[i] by simp [hi]] at o
  obtain ⟨a,c,ev,hc,hm,hI,_⟩:=owns_cells o
  exact ⟨M.gO,0,a,c,h.aO,by rw [Nat.zero_add,← ev];exact px.outr.cell _ _ (outC_at M.V _ i hi),intsIn_of hI,hc,by simp only [maxLen] at hm;omega⟩
def tyAt (w:World) (x:Nat):Nat:=match w.heap[x]? with|some (.cells _ t _)=>t|_=>0
theorem tyAt_row {w:World} {g:Nat} {t:Nat} {L:List Value} (h:RowAt w g t L):tyAt w g=t:=by unfold tyAt;rw [show w.heap[g]? = _ from h]
theorem tyAt_own {w:World} {base e sz n:Nat} {v:Value} {xs:List Value} (h:w.ownsRow base e sz v n xs) (x:Nat) (hx:v.ownBlock=some x):tyAt w x=e:=by
 obtain ⟨cur,hc⟩:=owns_heap h hx
 unfold tyAt
 rw [hc]
def ownT0 (w:World) (base:Nat) (kf:Nat→Nat):Nat→Nat:=fun x=>
 if base≤x then
  (if tyAt w x=152 then 1 else if tyAt w x=87 then 2 else if tyAt w x=92 then 3 else if tyAt w x=90 then 4 else if tyAt w x=23 then 5 else if tyAt w x=123∨tyAt w x=125 then 6 else
   if tyAt w x=3∧kf x≠0 then kf x+6 else 0)
 else 0
theorem kf_ex (V:Nat→Value) (hap:∀ i j x,(V i).ownBlock=some x→(V j).ownBlock=some x→i=j):∃ kf:Nat→Nat,∀ k x,(V k).ownBlock=some x→kf x=k+1:=by
 classical
 refine ⟨fun x=>if h:∃ k,(V k).ownBlock=some x then Classical.choose h+1 else 0,fun k x hx=>?_⟩
 have h:∃ k,(V k).ownBlock=some x:=⟨k,hx⟩
 show (if h:∃ k,(V k).ownBlock=some x then Classical.choose h+1 else 0)=k+1
 rw [dif_pos h,hap _ k x (Classical.choose_spec h) hx]
theorem PX.start {w:World} {s:PS} {g0:Nat} (hR:RowAt w s.rb 152 s.R) (hrb:s.base≤s.rb) (hJ:w.ownsRow s.base 87 6 s.vJ s.J.length (fJ s.J)) (hE:w.ownsRow s.base 92 4 s.vE s.E.length (fE s.E)) (hI:RowAt w s.gI 90 s.cI) (hgI:s.base≤s.gI) (hO:RowAt w s.gO 23 s.cO) (hgO:s.base≤s.gO)
  (hV:∀ k,w.ownsRow s.base 3 1 (s.V k) (s.F k).length (ivs (s.F k))) (hap:∀ i j x,(s.V i).ownBlock=some x→(s.V j).ownBlock=some x→i=j) (hK:OwnC w g0 s.K s.K.length) (h3:∀ ls∈s.K,ls.length≤3) (hg0:s.base≤g0) (haK:s.aK=some ⟨g0,0,none⟩)
  (hfr:∀ p∈s.fr,w.heap[p.1]? = some p.2∧(tyAt w p.1=27∨tyAt w p.1=46∨tyAt w p.1=72)):PX w s:=by
 obtain ⟨kf,hkf⟩:=kf_ex s.V hap
 have t2:∀ x,s.vJ.ownBlock=some x→ownT0 w s.base kf x=2:=fun x hx=>by
  have:=tyAt_own hJ x hx
  unfold ownT0
  rw [if_pos (owns_ge hJ x hx),if_neg (by omega),if_pos this]
 have t3:∀ x,s.vE.ownBlock=some x→ownT0 w s.base kf x=3:=fun x hx=>by
  have:=tyAt_own hE x hx
  unfold ownT0
  rw [if_pos (owns_ge hE x hx),if_neg (by omega),if_neg (by omega),if_pos this]
 have t1:ownT0 w s.base kf s.rb=1:=by
  unfold ownT0
  rw [if_pos hrb,if_pos (tyAt_row hR)]
 have t4:ownT0 w s.base kf s.gI=4:=by
  have:=tyAt_row hI
  unfold ownT0
  rw [if_pos hgI,if_neg (by omega),if_neg (by omega),if_neg (by omega),if_pos this]
 have t5:ownT0 w s.base kf s.gO=5:=by
  have:=tyAt_row hO
  unfold ownT0
  rw [if_pos hgO,if_neg (by omega),if_neg (by omega),if_neg (by omega),if_neg (by omega),if_pos this]
 have t6:∀ x,s.base≤x→(tyAt w x=123∨tyAt w x=125)→ownT0 w s.base kf x=6:=fun x hx ht=>by
  unfold ownT0
  rw [if_pos hx,if_neg (by omega),if_neg (by omega),if_neg (by omega),if_neg (by omega),if_neg (by omega),if_pos ht]
 have t7:∀ k x,(s.V k).ownBlock=some x→ownT0 w s.base kf x=k+7:=fun k x hx=>by
  have ht:=tyAt_own (hV k) x hx
  have hex:tyAt w x=3∧kf x≠0:=⟨ht,by rw [hkf k x hx];omega⟩
  unfold ownT0
  rw [if_pos (owns_ge (hV k) x hx),if_neg (by omega),if_neg (by omega),if_neg (by omega),if_neg (by omega),if_neg (by omega),if_neg (by omega),if_pos hex,hkf k x hx]
 refine ⟨ownT0 w s.base kf,⟨fun l w' hw'=>?_,by have:=hR.lt;omega,fun x hx=>?_,t1,t2,t3,t4,t5,t7,fun p hp=>?_⟩⟩
 ·match l,hw' with
  | 0,hw'=>
   intro p hp
   obtain ⟨h1,h2⟩:=hfr p hp
   rw [hw' p.1 (Array.getElem?_eq_some_iff.1 h1).1 ?_]
   ·exact h1
   ·unfold ownT0
    split
    ·rw [if_neg (by omega),if_neg (by omega),if_neg (by omega),if_neg (by omega),if_neg (by omega),if_neg (by omega),if_neg (by intro h';omega)]
    ·rfl
  | 1,hw'=>exact (hw' s.rb hR.lt t1).trans hR
  | 2,hw'=>exact owns_agree hJ (fun x hx=>hw' x (owns_lt hJ x hx) (t2 x hx))
  | 3,hw'=>exact owns_agree hE (fun x hx=>hw' x (owns_lt hE x hx) (t3 x hx))
  | 4,hw'=>exact (hw' s.gI hI.lt t4).trans hI
  | 5,hw'=>exact (hw' s.gO hO.lt t5).trans hO
  | 6,hw'=>
   show CacheIn w' s.aK s.K
   rw [haK]
   refine cacheIn_of_own (k:=s.K.length) ?_ lr h3
   obtain ⟨L,G,cp,k1,k2,k4,k5⟩:=hK
   refine ⟨L,G,cp,(hw' g0 k1.lt (t6 g0 hg0 (.inl (tyAt_row k1)))).trans k1,k2,fun j hj hl=>⟨(k4 j hj hl).1,owns_agree (k4 j hj hl).2 (fun x hx=>hw' x (owns_lt (k4 j hj hl).2 x hx) (t6 x (by have:=owns_ge (k4 j hj hl).2 x hx;omega) (.inr (tyAt_own (k4 j hj hl).2 x hx))))⟩,k5⟩
  | n+7,hw'=>exact owns_agree (hV n) (fun x hx=>hw' x (owns_lt (hV n) x hx) (t7 n x hx))
 ·by_cases hb:s.base≤x
  ·exact hb
  ·exact absurd (by unfold ownT0;rw [if_neg hb]) hx
 ·obtain ⟨h1,h2⟩:=hfr p hp
  unfold ownT0
  split
  ·rw [if_neg (by omega),if_neg (by omega),if_neg (by omega),if_neg (by omega),if_neg (by omega),if_neg (by omega),if_neg (by intro h';omega)]
  ·rfl
def vAll (A:DMem) (D:Dom) (vI vO:Nat→Value):Nat→Value:=fun k=>
 if k=0 then .slice A.aR D.rel.length A.cR else if k=1 then .slice A.aT D.tak.length A.cT
 else if k % 2=0 then (if k / 2 - 1<D.ins.length then vI (k / 2 - 1) else .slice none 0 0) else (if k / 2 - 1<D.out.length then vO (k / 2 - 1) else .slice none 0 0)
theorem vAll_in (A:DMem) (D:Dom) (vI vO:Nat→Value) (i:Nat) (h:i<D.ins.length):vAll A D vI vO (2 * i+2)=vI i:=by
 unfold vAll
 rw [if_neg (by omega),if_neg (by omega),if_pos (by omega),if_pos (by omega),show (2 * i+2) / 2 - 1=i by omega]
theorem vAll_out (A:DMem) (D:Dom) (vI vO:Nat→Value) (i:Nat) (h:i<D.out.length):vAll A D vI vO (2 * i+3)=vO i:=by
 unfold vAll
 rw [if_neg (by omega),if_neg (by omega),if_neg (by omega),if_pos (by omega),show (2 * i+3) / 2 - 1=i by omega]
theorem RO.start {X:RC} {w:World} {A:DMem} {D:Dom} {gI gO m p q g0:Nat} {K:KT} {fr0:Int} (hown:DomOwn X.w0.heap.size w A D gI gO m p q) (hrow:RowAt w X.rb 152 (rl X ⟨A,fun _=>.slice none 0 0,gI,gO,some ⟨g0,0,none⟩,K.length⟩ D K fr0)) (hrb:X.w0.heap.size≤X.rb)
  (hK:OwnC w g0 K K.length) (h3:∀ ls∈K,ls.length≤3) (hg0:X.w0.heap.size≤g0) (hag:Below X.w0.heap.size X.w0 w) (hfr:∀ p∈X.fr,w.heap[p.1]? = some p.2∧(tyAt w p.1=27∨tyAt w p.1=46∨tyAt w p.1=72))
  (con:ConfIn X.w0 X.B X.C) (act:ChansIn X.w0 X.aL X.L) (lL:X.L.length≤1000) (lI:D.ins.length≤1000) (lO:D.out.length≤1000):∃ M,RO X w M D K fr0:=by
 obtain ⟨csI,vI,rI1,rI2,rI3,BI,bI1,bI2,bI3,bI4⟩:=hown.i
 obtain ⟨csO,vO,rO1,rO2,rO3,BO,bO1,bO2,bO3,bO4⟩:=hown.o
 have moI:=mono_le bI2
 have moO:=mono_le bO2
 have hmp:=hown.mp
 have hbm:=hown.bI
 have eI:csI=inC (vAll A D vI vO) D.ins:=by
  have hl2:(inC (vAll A D vI vO) D.ins).length=D.ins.length * 2:=by
   unfold inC
   rw [flatN_len _ 2 (fun _=>rfl)]
   simp
  refine List.ext_getElem? (fun n=>?_)
  by_cases hn:n<D.ins.length * 2
  ·obtain ⟨i,hi,hq⟩:∃ i,i<D.ins.length∧(n=i * 2∨n=i * 2+1):=⟨n / 2,by omega,by omega⟩
   have a1:=rI3 i hi
   have a2:=inC_at (vAll A D vI vO) D.ins i hi
   rcases hq with rfl|rfl
   ·rw [a1.1,a2.1,vAll_in _ _ _ _ _ hi]
   ·rw [a1.2,a2.2,show D.ins.getD i ([],0)=D.ins[i] by simp [hi]]
  ·rw [List.getElem?_eq_none (by omega),List.getElem?_eq_none (by omega)]
 have eO:csO=outC (vAll A D vI vO) D.out.length:=by
  refine List.ext_getElem? (fun n=>?_)
  by_cases hn:n<D.out.length
  ·rw [rO3 n hn,outC_at _ _ _ hn,vAll_out _ _ _ _ _ hn]
  ·rw [List.getElem?_eq_none (by omega),List.getElem?_eq_none (by simp [outC];omega)]
 have hV:∀ k,w.ownsRow X.w0.heap.size 3 1 (vAll A D vI vO k) (fI D k).length (ivs (fI D k)):=fun k=>by
  by_cases e0:k=0
  ·subst e0;exact hown.r
  by_cases e1:k=1
  ·subst e1;exact hown.t
  by_cases e2:k % 2=0
  ·obtain ⟨i,rfl⟩:∃ i,k=2 * i+2:=⟨k / 2 - 1,by omega⟩
   rw [fI_in]
   by_cases hi:i<D.ins.length
   ·rw [vAll_in _ _ _ _ _ hi]
    exact owns_base (bI1 i hi).1 (by have:=moI 0 i (by omega) (by omega);omega)
   ·rw [show D.ins.getD i ([],0)=([],0) by simp [List.getD_eq_getElem?_getD,List.getElem?_eq_none (by omega:D.ins.length≤i)]]
    have:vAll A D vI vO (2 * i+2)=.slice none 0 0:=by
     unfold vAll
     rw [if_neg (by omega),if_neg (by omega),if_pos (by omega),if_neg (by omega)]
    rw [this]
    exact World.ownsRow_nil _ _ _ _
  ·obtain ⟨i,rfl⟩:∃ i,k=2 * i+3:=⟨k / 2 - 1,by omega⟩
   rw [fI_out]
   by_cases hi:i<D.out.length
   ·rw [vAll_out _ _ _ _ _ hi]
    exact owns_base (bO1 i hi).1 (by have:=moO 0 i (by omega) (by omega);omega)
   ·rw [show D.out.getD i []=[] by simp [List.getD_eq_getElem?_getD,List.getElem?_eq_none (by omega:D.out.length≤i)]]
    have:vAll A D vI vO (2 * i+3)=.slice none 0 0:=by
     unfold vAll
     rw [if_neg (by omega),if_neg (by omega),if_neg (by omega),if_neg (by omega)]
    rw [this]
    exact World.ownsRow_nil _ _ _ _
 have where_:∀ k x,(vAll A D vI vO k).ownBlock=some x→(k=0∧(Value.slice A.aR D.rel.length A.cR).ownBlock=some x∧x<m)∨(k=1∧(Value.slice A.aT D.tak.length A.cT).ownBlock=some x∧x<m)∨(∃ i,k=2 * i+2∧i<D.ins.length∧BI i≤x∧x<BI (i+1)∧m≤x∧x<p)∨(∃ i,k=2 * i+3∧i<D.out.length∧BO i≤x∧x<BO (i+1)∧p≤x):=fun k x hx=>by
  by_cases e0:k=0
  ·subst e0;exact .inl ⟨rfl,hx,hown.lt x (.inr (.inl hx))⟩
  by_cases e1:k=1
  ·subst e1;exact .inr (.inl ⟨rfl,hx,hown.lt x (.inr (.inr (.inl hx)))⟩)
  by_cases e2:k % 2=0
  ·obtain ⟨i,rfl⟩:∃ i,k=2 * i+2:=⟨k / 2 - 1,by omega⟩
   by_cases hi:i<D.ins.length
   ·rw [vAll_in _ _ _ _ _ hi] at hx
    have g1:=owns_ge (bI1 i hi).1 x hx
    have g2:=(bI1 i hi).2 x hx
    have g3:=moI 0 i (by omega) (by omega)
    have g4:=moI (i+1) D.ins.length (by omega) (by omega)
    exact .inr (.inr (.inl ⟨i,rfl,hi,g1,g2,by omega,by omega⟩))
   ·have:vAll A D vI vO (2 * i+2)=.slice none 0 0:=by
     unfold vAll
     rw [if_neg (by omega),if_neg (by omega),if_pos (by omega),if_neg (by omega)]
    rw [this] at hx
    cases hx
  ·obtain ⟨i,rfl⟩:∃ i,k=2 * i+3:=⟨k / 2 - 1,by omega⟩
   by_cases hi:i<D.out.length
   ·rw [vAll_out _ _ _ _ _ hi] at hx
    have g1:=owns_ge (bO1 i hi).1 x hx
    have g2:=(bO1 i hi).2 x hx
    have g3:=moO 0 i (by omega) (by omega)
    exact .inr (.inr (.inr ⟨i,rfl,hi,g1,g2,by omega⟩))
   ·have:vAll A D vI vO (2 * i+3)=.slice none 0 0:=by
     unfold vAll
     rw [if_neg (by omega),if_neg (by omega),if_neg (by omega),if_neg (by omega)]
    rw [this] at hx
    cases hx
 have hap:∀ i j x,(vAll A D vI vO i).ownBlock=some x→(vAll A D vI vO j).ownBlock=some x→i=j:=fun i j x h1 h2=>by
  rcases where_ i x h1 with ⟨ei,a1,a2⟩|⟨ei,a1,a2⟩|⟨a,ei,a1,a2,a3,a4,a5⟩|⟨a,ei,a1,a2,a3,a4⟩ <;> rcases where_ j x h2 with ⟨ej,b1,b2⟩|⟨ej,b1,b2⟩|⟨b,ej,b1,b2,b3,b4,b5⟩|⟨b,ej,b1,b2,b3,b4⟩
  ·omega
  ·exact absurd b1 (hown.rt x a1)
  ·omega
  ·omega
  ·exact absurd a1 (hown.rt x b1)
  ·omega
  ·omega
  ·omega
  ·omega
  ·omega
  ·rcases Nat.lt_trichotomy a b with h|h|h
   ·have:=moI (a+1) b (by omega) (by omega);omega
   ·omega
   ·have:=moI (b+1) a (by omega) (by omega);omega
  ·omega
  ·omega
  ·omega
  ·omega
  ·rcases Nat.lt_trichotomy a b with h|h|h
   ·have:=moO (a+1) b (by omega) (by omega);omega
   ·omega
   ·have:=moO (b+1) a (by omega) (by omega);omega
 rw [eI] at rI1
 rw [eO] at rO1
 refine ⟨⟨A,vAll A D vI vO,gI,gO,some ⟨g0,0,none⟩,K.length⟩,⟨hag,PX.start (g0:=g0) hrow hrb hown.j hown.e rI1 hown.bI.1 rO1 hown.bO.1 hV hap hK h3 hg0 rfl hfr,hown.aI,hown.aO,rfl,rfl,con,act,lL,lI,lO⟩⟩
def EvO (n:Nat) (w:World) (A:DMem) (D:Dom) (aK:Option Addr) (K:KT):Prop:=w.ownsRow n 92 4 (.slice A.aE D.evs.length A.cE) D.evs.length (fE D.evs)∧∀ wx:World,(∀ x,n≤x→(Value.slice A.aE D.evs.length A.cE).ownBlock≠some x→wx.heap[x]? = w.heap[x]?)→DomIn wx A ⟨D.jobs,D.rel,D.nxt,D.ins,D.tak,D.out,[]⟩∧CacheIn wx aK K
theorem RO.domE {X:RC} {w wx:World} {M:RM} {D:Dom} {K:KT} {now:Int} (h:RO X w M D K now) (hk:∀ x,X.w0.heap.size≤x→(∀ p∈X.fr,p.1≠x)→wx.heap[x]? = w.heap[x]?):EvO X.w0.heap.size wx M.A D M.aK K:=by
 have px:=h.px.shift hk
 refine ⟨px.evs,fun wy hy=>?_⟩
 obtain ⟨o,po⟩:=px
 have part:=fun l (h0:l≠0) (h3:l≠3)=>po.ps l wy (fun x hx ho=>hy x (po.o0 x (by rw [ho];exact h0)) (fun e=>h3 (by rw [← ho,po.l3 x e])))
 have hI:=h.lI
 have hO:=h.lO
 have j:=owns_in (part 2 (by decide) (by decide))
 have ints:=fun n=>part (n+7) (by omega) (by omega)
 have inr:=part 4 (by decide) (by decide)
 have outr:=part 5 (by decide) (by decide)
 have cache:=part 6 (by decide) (by decide)
 have r0:=ints 0
 have t0:=ints 1
 simp only [PS.P] at r0 t0 ints inr outr cache
 rw [h.v0] at r0
 rw [h.v1] at t0
 have r:=owns_in r0
 have t:=owns_in t0
 refine ⟨⟨jobsIn_of j.1,intsIn_of r.1,?_,intsIn_of t.1,?_,fun i hi=>absurd hi (by simp),j.2.2,r.2.2,by show D.ins.length≤_;omega,t.2.2,by show D.out.length≤_;omega,by simp⟩,cache⟩
 ·intro i hi
  obtain ⟨c0,c1⟩:=inC_at M.V D.ins i hi
  have o:=ints (2 * i+2)
  rw [fI_in,show D.ins.getD i ([],0)=D.ins[i] by simp [hi]] at o
  obtain ⟨a,c,ev,hc,hm,hI,_⟩:=owns_cells o
  refine ⟨M.gI,0,a,c,h.aI,?_,?_,intsIn_of hI,hc,by simp only [maxLen] at hm;omega⟩
  ·rw [Nat.zero_add,← ev];exact inr.cell _ _ c0
  ·rw [Nat.zero_add];exact inr.cell _ _ c1
 ·intro i hi
  have o:=ints (2 * i+3)
  rw [fI_out,show D.out.getD i []=D.out[i] by simp [hi]] at o
  obtain ⟨a,c,ev,hc,hm,hI,_⟩:=owns_cells o
  exact ⟨M.gO,0,a,c,h.aO,by rw [Nat.zero_add,← ev];exact outr.cell _ _ (outC_at M.V _ i hi),intsIn_of hI,hc,by simp only [maxLen] at hm;omega⟩
end Go.Proofs.YtejhccmclanlmaaGreatDoor
