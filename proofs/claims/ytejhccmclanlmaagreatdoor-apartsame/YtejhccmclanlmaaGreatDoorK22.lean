/- Texts joined: Fb Ha Wa Fd Af. -/
import Derived.Test.YtejhccmclanlmaaGreatDoorK07
import Derived.Test.YtejhccmclanlmaaGreatDoorK09
import Derived.Test.YtejhccmclanlmaaGreatDoorK14
import Derived.Test.YtejhccmclanlmaaGreatDoorK18
import Derived.Test.YtejhccmclanlmaaGreatDoorK21
set_option linter.unusedVariables false
set_option maxRecDepth 100000
namespace Go.Proofs.YtejhccmclanlmaaGreatDoor
open Go.RowKit
structure Keeps (X:Nat→Prop) (w0 w:World):Prop where
 os:w.os=w0.os
 tape:w.tape=w0.tape
 output:w.output=w0.output
 size:w0.heap.size≤w.heap.size
 same:∀ x,x<w0.heap.size→¬ X x→w.heap[x]? = w0.heap[x]?
theorem Keeps.refl (X:Nat→Prop) (w:World):Keeps X w w:=⟨rfl,rfl,rfl,Nat.le_refl _,fun _ _ _=>rfl⟩
theorem Keeps.below {X:Nat→Prop} {w0 w w':World} (h:Keeps X w0 w) (hb:Below w.heap.size w w'):Keeps X w0 w':=
 ⟨hb.os.trans h.os,hb.tape.trans h.tape,hb.output.trans h.output,Nat.le_trans h.size hb.size,fun x hx hn=>(hb.block x (by have:=h.size;omega)).trans (h.same x hx hn)⟩
theorem Keeps.grown {X:Nat→Prop} {w0 w w':World} {row:Option Nat} (h:Keeps X w0 w) (hg:w.grownBy w' row) (hr:∀ x,row=some x→X x∨w0.heap.size≤x):Keeps X w0 w':=
 ⟨hg.os.trans h.os,hg.tape.trans h.tape,hg.output.trans h.output,Nat.le_trans h.size hg.size,fun x hx hn=>(hg.block x (by have:=h.size;omega) (fun e=>by rcases hr x e.symm with h'|h' <;> first|exact hn h'|omega)).trans (h.same x hx hn)⟩
theorem Keeps.set {X:Nat→Prop} {w0 w:World} (h:Keeps X w0 w) {g:Nat} (hg:X g∨w0.heap.size≤g) (o:Nat) (u:Value):Keeps X w0 (w.setCell ⟨g,o,none⟩ u):=
 ⟨h.os,h.tape,h.output,Nat.le_trans h.size (by simp),fun x hx hn=>(heap_set_ne w g o u x (fun e=>by subst e;rcases hg with h'|h' <;> first|exact hn h'|omega)).trans (h.same x hx hn)⟩
theorem Keeps.to_below {X:Nat→Prop} {w0 w:World} {n:Nat} (h:Keeps X w0 w) (hn:n≤w0.heap.size) (hX:∀ x,X x→n≤x):Below n w0 w:=
 ⟨h.os,h.tape,h.output,h.size,fun x hx=>h.same x (by omega) (fun hh=>by have:=hX x hh;omega)⟩
theorem owns_set {w:World} {base e sz n cap g i:Nat} {xs:List Value} (h:w.ownsRow base e sz (.slice (some ⟨g,0,none⟩) n cap) n xs) (u:Value):(w.setCell ⟨g,i,none⟩ u).ownsRow base e sz (.slice (some ⟨g,0,none⟩) n cap) n (xs.set i u):=by
 refine ⟨by rw [List.length_set];exact h.1,?_⟩
 rcases h.2 with ⟨q,_⟩|⟨g',cap',cur,e1,e2,e3,e4,e5,e6,e7⟩
 ·cases q
 ·cases e1
  refine .inr ⟨g,cap,cur.setIfInBounds i u,rfl,e2,set_atx e3,e4,e5,by simpa using e6,?_⟩
  rw [Array.toList_setIfInBounds,List.take_set,e7]
theorem owns_heap {w:World} {base e sz n:Nat} {v:Value} {xs:List Value} (h:w.ownsRow base e sz v n xs) {k:Nat} (hk:v.ownBlock=some k):∃ cur,w.heap[k]? = some (.cells cur e (0,0)):=by
 rcases h.2 with ⟨q,_⟩|⟨g',cap',cur,e1,e2,e3,r⟩
 ·rw [q] at hk;cases hk
 ·rw [e1] at hk
  simp only [Value.ownBlock,Option.some.injEq] at hk
  subst hk
  exact ⟨cur,e3⟩
theorem owns_apart {w:World} {base e e' sz sz' n n':Nat} {v v':Value} {xs xs':List Value} (h:w.ownsRow base e sz v n xs) (h':w.ownsRow base e' sz' v' n' xs') (hne:e≠e'):∀ k,v.ownBlock=some k→v'.ownBlock≠some k:=by
 intro k hk hk'
 obtain ⟨c,h1⟩:=owns_heap h hk
 obtain ⟨c',h2⟩:=owns_heap h' hk'
 rw [h1] at h2
 simp at h2
 exact hne h2.2
theorem owns_zero {w:World} {base e sz n c:Nat} {a:Option Addr} {xs:List Value} (h:w.ownsRow base e sz (.slice a n c) n xs) (hn:0<n):∃ g,a=some ⟨g,0,none⟩∧(∃ cur,w.heap[g]? = some (.cells cur e (0,0)))∧base≤g:=by
 rcases h.2 with ⟨q,h0⟩|⟨g',cap',cur,e1,e2,e3,r⟩
 ·omega
 ·cases e1
  exact ⟨g',rfl,⟨cur,e3⟩,e2⟩
structure KO (w0:World) (X:Nat→Prop) (base kb:Nat) (w:World) (D:Dom) (A:DMem) (C:Conf) (B:Mem) (dn:Int):Prop where
 ag:Keeps X w0 w
 row:RowAt w kb 179 (kl D A C B dn)
 j:w.ownsRow base 87 6 (.slice A.aJ D.jobs.length A.cJ) D.jobs.length (fJ D.jobs)
 r:w.ownsRow base 3 1 (.slice A.aR D.rel.length A.cR) D.rel.length (ivs D.rel)
 e:w.ownsRow base 92 4 (.slice A.aE D.evs.length A.cE) D.evs.length (fE D.evs)
 jx:∀ x,(Value.slice A.aJ D.jobs.length A.cJ).ownBlock=some x→X x∨w0.heap.size≤x
 rx:∀ x,(Value.slice A.aR D.rel.length A.cR).ownBlock=some x→X x∨w0.heap.size≤x
 ex:∀ x,(Value.slice A.aE D.evs.length A.cE).ownBlock=some x→X x∨w0.heap.size≤x
 kx:X kb∨w0.heap.size≤kb
 xb:∀ x,X x→base≤x
 b0:base≤w0.heap.size
 lI:D.ins.length≤9223372036854775807
 lT:D.tak.length≤9223372036854775807
 lO:D.out.length≤9223372036854775807
 con:∀ w',Keeps X w0 w'→ConfIn w' B C
 rest:∀ w':World,(∀ x,base≤x→x<w0.heap.size→¬ X x→w'.heap[x]? = w0.heap[x]?)→IntsIn w' A.aT D.tak∧RingsIn w' A.aI D.ins∧ListsIn w' A.aO D.out
section
variable {w0 w w1:World} {X:Nat→Prop} {base kb:Nat} {D:Dom} {A:DMem} {C:Conf} {B:Mem} {dn:Int}
theorem KO.keepIn (h:KO w0 X base kb w D A C B dn):KeepIn w kb D A C B dn:=by
 have r1:=h.con w h.ag
 obtain ⟨r2,r3,r4⟩:=h.rest w (fun x _ h1 h2=>h.ag.same x h1 h2)
 exact ⟨h.row,⟨jobsIn_of (owns_in h.j).1,intsIn_of (owns_in h.r).1,r3,r2,r4,evsIn_of (owns_in h.e).1,(owns_in h.j).2.2,(owns_in h.r).2.2,h.lI,h.lT,h.lO,(owns_in h.e).2.2⟩,r1⟩
theorem KO.below (h:KO w0 X base kb w D A C B dn) (hb:Below w.heap.size w w1):KO w0 X base kb w1 D A C B dn:=
 ⟨h.ag.below hb,h.row.below hb lr,owns_below h.j hb,owns_below h.r hb,owns_below h.e hb,h.jx,h.rx,h.ex,h.kx,h.xb,h.b0,h.lI,h.lT,h.lO,h.con,h.rest⟩
theorem KO.dom (h:KO w0 X base kb w D A C B dn) (hk:∀ x,base≤x→w1.heap[x]? = w.heap[x]?):DomIn w1 A D:=by
 obtain ⟨r2,r3,r4⟩:=h.rest w1 (fun x h0 h1 h2=>(hk x h0).trans (h.ag.same x h1 h2))
 have j:=owns_in (owns_agree (w':=w1) h.j (fun x hx=>hk x (owns_ge h.j x hx)))
 have r:=owns_in (owns_agree (w':=w1) h.r (fun x hx=>hk x (owns_ge h.r x hx)))
 have e:=owns_in (owns_agree (w':=w1) h.e (fun x hx=>hk x (owns_ge h.e x hx)))
 exact ⟨jobsIn_of j.1,intsIn_of r.1,r3,r2,r4,evsIn_of e.1,j.2.2,r.2.2,h.lI,h.lT,h.lO,e.2.2⟩
theorem KO.turned (h:KO w0 X base kb w D A C B dn) {row:Option Nat} (hg:w.grownBy w1 row) (hr:∀ x,row=some x→w0.heap.size≤x∧∃ o:Obj,w.heap[x]? = some o∧o.isCells=false):KO w0 X base kb w1 D A C B dn:=by
 have ne:∀ {x:Nat} {cur:Array Value} {t:TypeId} {fz:Nat×Nat},w.heap[x]? = some (.cells cur t fz)→some x≠row:=fun hx e=>by
  obtain ⟨_,o,h1,h2⟩:=hr _ e.symm
  rw [hx] at h1
  simp only [Option.some.injEq] at h1
  subst h1
  cases h2
 have ow:∀ {e sz n:Nat} {v:Value} {xs:List Value},w.ownsRow base e sz v n xs→w1.ownsRow base e sz v n xs:=fun o=>owns_agree o (fun x hx=>by
  obtain ⟨cur,hc⟩:=owns_heap o hx
  exact hg.block x (owns_lt o x hx) (ne hc))
 exact ⟨h.ag.grown hg (fun x hx=>.inr (hr x hx).1),(hg.block kb (Array.getElem?_eq_some_iff.1 h.row).1 (ne h.row)).trans h.row,ow h.j,ow h.r,ow h.e,h.jx,h.rx,h.ex,h.kx,h.xb,h.b0,h.lI,h.lT,h.lO,h.con,h.rest⟩
theorem KO.kb_lt (h:KO w0 X base kb w D A C B dn):kb<w.heap.size:=(Array.getElem?_eq_some_iff.1 h.row).1
theorem KO.base_kb (h:KO w0 X base kb w D A C B dn):base≤kb:=by
 rcases h.kx with h'|h'
 ·exact h.xb kb h'
 ·have:=h.b0;omega
theorem KO.told (h:KO w0 X base kb w D A C B dn) {a':Option Addr} {c':Nat} {E:List EvT} (hg:w.grownBy w1 (Value.slice A.aE D.evs.length A.cE).ownBlock) (ho:w1.ownsRow base 92 4 (.slice a' E.length c') E.length (fE E))
  (hat:∀ x,(Value.slice a' E.length c').ownBlock=some x→(Value.slice A.aE D.evs.length A.cE).ownBlock=some x∨w.heap.size≤x) :
  KO w0 X base kb (w1.setCell ⟨kb,6,none⟩ (.slice a' E.length c')) ⟨D.jobs,D.rel,D.nxt,D.ins,D.tak,D.out,E⟩ ⟨A.aJ,A.aR,A.aI,A.aT,A.aO,a',A.cJ,A.cR,A.cI,A.cT,A.cO,c'⟩ C B dn:=by
 have hk1:RowAt w1 kb 179 (kl D A C B dn):=(hg.block kb h.kb_lt (fun e=>owns_ne h.e h.row (by decide) kb e.symm rfl)).trans h.row
 have j1:=owns_agree (w':=w1) h.j (fun x hx=>hg.block x (owns_lt h.j x hx) (fun e=>owns_apart h.j h.e (by decide) x hx e.symm))
 have r1:=owns_agree (w':=w1) h.r (fun x hx=>hg.block x (owns_lt h.r x hx) (fun e=>owns_apart h.r h.e (by decide) x hx e.symm))
 have hs:=h.ag.size
 refine ⟨(h.ag.grown hg h.ex).set h.kx 6 _,rowAt_set1 hk1 6 _,owns_agree j1 (fun x hx=>heap_set_ne _ _ _ _ x (owns_ne j1 hk1 (by decide) x hx)),owns_agree r1 (fun x hx=>heap_set_ne _ _ _ _ x (owns_ne r1 hk1 (by decide) x hx)),owns_agree ho (fun x hx=>heap_set_ne _ _ _ _ x (owns_ne ho hk1 (by decide) x hx)),h.jx,h.rx,fun x hx=>?_,h.kx,h.xb,h.b0,h.lI,h.lT,h.lO,h.con,h.rest⟩
 rcases hat x hx with h'|h'
 ·exact h.ex x h'
 ·exact .inr (by omega)
theorem KO.pushed (h:KO w0 X base kb w D A C B dn) {a':Option Addr} {c':Nat} {J:List JobT} (hg:w.grownBy w1 (Value.slice A.aJ D.jobs.length A.cJ).ownBlock) (ho:w1.ownsRow base 87 6 (.slice a' J.length c') J.length (fJ J))
  (hat:∀ x,(Value.slice a' J.length c').ownBlock=some x→(Value.slice A.aJ D.jobs.length A.cJ).ownBlock=some x∨w.heap.size≤x) :
  KO w0 X base kb (w1.setCell ⟨kb,0,none⟩ (.slice a' J.length c')) ⟨J,D.rel,D.nxt,D.ins,D.tak,D.out,D.evs⟩ ⟨a',A.aR,A.aI,A.aT,A.aO,A.aE,c',A.cR,A.cI,A.cT,A.cO,A.cE⟩ C B dn:=by
 have hk1:RowAt w1 kb 179 (kl D A C B dn):=(hg.block kb h.kb_lt (fun e=>owns_ne h.j h.row (by decide) kb e.symm rfl)).trans h.row
 have e1:=owns_agree (w':=w1) h.e (fun x hx=>hg.block x (owns_lt h.e x hx) (fun e=>owns_apart h.e h.j (by decide) x hx e.symm))
 have r1:=owns_agree (w':=w1) h.r (fun x hx=>hg.block x (owns_lt h.r x hx) (fun e=>owns_apart h.r h.j (by decide) x hx e.symm))
 have hs:=h.ag.size
 refine ⟨(h.ag.grown hg h.jx).set h.kx 0 _,rowAt_set1 hk1 0 _,owns_agree ho (fun x hx=>heap_set_ne _ _ _ _ x (owns_ne ho hk1 (by decide) x hx)),owns_agree r1 (fun x hx=>heap_set_ne _ _ _ _ x (owns_ne r1 hk1 (by decide) x hx)),owns_agree e1 (fun x hx=>heap_set_ne _ _ _ _ x (owns_ne e1 hk1 (by decide) x hx)),fun x hx=>?_,h.rx,h.ex,h.kx,h.xb,h.b0,h.lI,h.lT,h.lO,h.con,h.rest⟩
 rcases hat x hx with h'|h'
 ·exact h.jx x h'
 ·exact .inr (by omega)
theorem KO.start {gI gO m p q:Nat} (hown:DomOwn base w A D gI gO m p q) (hrow:RowAt w kb 179 (kl D A C B dn)) (hkb:base≤kb) (hkm:kb<m∨q≤kb) (hbw:base≤w.heap.size) (hC:∀ w',Below base w w'→ConfIn w' B C) (hI:D.ins.length≤9223372036854775807) (hO:D.out.length≤9223372036854775807) :
  KO w (fun x=>x=kb∨(Value.slice A.aJ D.jobs.length A.cJ).ownBlock=some x∨(Value.slice A.aR D.rel.length A.cR).ownBlock=some x∨(Value.slice A.aE D.evs.length A.cE).ownBlock=some x) base kb w D A C B dn:=by
 have hX:∀ x,(x=kb∨(Value.slice A.aJ D.jobs.length A.cJ).ownBlock=some x∨(Value.slice A.aR D.rel.length A.cR).ownBlock=some x∨(Value.slice A.aE D.evs.length A.cE).ownBlock=some x)→base≤x:=fun x hx=>by
  rcases hx with rfl|hx|hx|hx
  ·exact hkb
  ·exact owns_ge hown.j x hx
  ·exact owns_ge hown.r x hx
  ·exact owns_ge hown.e x hx
 have hm:=hown.mp
 have hbI:=hown.bI
 have hbO:=hown.bO
 have inner:∀ x,m≤x→x<q→¬ (x=kb∨(Value.slice A.aJ D.jobs.length A.cJ).ownBlock=some x∨(Value.slice A.aR D.rel.length A.cR).ownBlock=some x∨(Value.slice A.aE D.evs.length A.cE).ownBlock=some x):=fun x h1 h2 hx=>by
  rcases hx with rfl|hx|hx|hx
  ·omega
  ·have:=hown.lt x (.inl hx);omega
  ·have:=hown.lt x (.inr (.inl hx));omega
  ·have:=hown.lt x (.inr (.inr (.inr hx)));omega
 have outer:∀ {x:Nat} {cur:List Value} {t:TypeId},RowAt w x t cur→t≠179→t≠87→t≠3→t≠92→¬ (x=kb∨(Value.slice A.aJ D.jobs.length A.cJ).ownBlock=some x∨(Value.slice A.aR D.rel.length A.cR).ownBlock=some x∨(Value.slice A.aE D.evs.length A.cE).ownBlock=some x):=fun {x cur t} hx n1 n2 n3 n4 hh=>by
  rcases hh with rfl|hh|hh|hh
  ·have h1:w.heap[x]? = _:=hx
   have h2:w.heap[x]? = _:=hrow
   rw [h1] at h2
   simp at h2
   exact n1 h2.2
  ·exact owns_ne hown.j hx (Ne.symm n2) x hh rfl
  ·exact owns_ne hown.r hx (Ne.symm n3) x hh rfl
  ·exact owns_ne hown.e hx (Ne.symm n4) x hh rfl
 refine ⟨Keeps.refl _ _,hrow,hown.j,hown.r,hown.e,fun x hx=>.inl (.inr (.inl hx)),fun x hx=>.inl (.inr (.inr (.inl hx))),fun x hx=>.inl (.inr (.inr (.inr hx))),.inl (.inl rfl),hX,hbw,hI,(owns_in hown.t).2.2,hO,fun w' hw'=>hC w' (hw'.to_below hbw hX),fun w' hw'=>⟨?_,?_,?_⟩⟩
 ·refine intsIn_of (owns_in (owns_agree hown.t (fun x hx=>hw' x (owns_ge hown.t x hx) (owns_lt hown.t x hx) (fun hh=>?_)))).1
  rcases hh with rfl|hh|hh|hh
  ·exact owns_ne hown.t hrow (by decide) x hx rfl
  ·exact owns_apart hown.t hown.j (by decide) x hx hh
  ·exact hown.rt x hh hx
  ·exact owns_apart hown.t hown.e (by decide) x hx hh
 ·rw [hown.aI]
  refine (hown.i.agree (fun x hx=>?_)).rings
  rcases hx with rfl|⟨h1,h2⟩
  ·obtain ⟨cs,v,hr,_⟩:=hown.i
   exact hw' x (by omega) (by omega) (outer hr (by decide) (by decide) (by decide) (by decide))
  ·exact hw' x (by omega) (by omega) (inner x h1 (by omega))
 ·rw [hown.aO]
  refine (hown.o.agree (fun x hx=>?_)).lists
  rcases hx with rfl|⟨h1,h2⟩
  ·obtain ⟨cs,v,hr,_⟩:=hown.o
   exact hw' x (by omega) (by omega) (outer hr (by decide) (by decide) (by decide) (by decide))
  ·exact hw' x (by omega) (by omega) (inner x (by omega) h2)
theorem ivs_set (L:List Int) (k:Nat) (n:Int):(ivs L).set k (.int .i64 n)=ivs (L.set k n):=by
 simp [ivs,List.map_set]
theorem KO.setRel (h:KO w0 X base kb w D A C B dn) {g:Nat} (hg:A.aR=some ⟨g,0,none⟩) (k:Nat) (n:Int) :
  KO w0 X base kb (w.setCell ⟨g,k,none⟩ (.int .i64 n)) ⟨D.jobs,D.rel.set k n,D.nxt,D.ins,D.tak,D.out,D.evs⟩ A C B dn:=by
 have hb:(Value.slice A.aR D.rel.length A.cR).ownBlock=some g:=by rw [hg];rfl
 have hr:=h.r
 rw [hg] at hr
 have hl:(D.rel.set k n).length=D.rel.length:=List.length_set
 refine ⟨h.ag.set (h.rx g hb) k _,?_,owns_agree h.j (fun x hx=>heap_set_ne _ _ _ _ x (fun e=>by subst e;exact owns_apart h.j h.r (by decide) x hx hb)),?_,owns_agree h.e (fun x hx=>heap_set_ne _ _ _ _ x (fun e=>by subst e;exact owns_apart h.e h.r (by decide) x hx hb)),h.jx,?_,h.ex,h.kx,h.xb,h.b0,h.lI,h.lT,h.lO,h.con,h.rest⟩
 ·have:kl ⟨D.jobs,D.rel.set k n,D.nxt,D.ins,D.tak,D.out,D.evs⟩ A C B dn=kl D A C B dn:=by simp only [kl,hl]
  rw [this]
  exact (heap_set_ne _ _ _ _ kb (fun e=>owns_ne h.r h.row (by decide) g hb e.symm)).trans h.row
 ·have:=owns_set (i:=k) hr (.int .i64 n)
  rw [ivs_set] at this
  dsimp only
  rw [hl,hg]
  exact this
 ·dsimp only
  rw [hl]
  exact h.rx
theorem flat_set (J:List JobT) (i r:Nat) (j j':JobT) (u:Value) (hi:J[i]? = some j) (hr:r<6) (hj:(jc j).set r u=jc j'):(fJ J).set (i * 6+r) u=fJ (J.set i j'):=by
 induction J generalizing i with
 | nil=>simp at hi
 | cons x t ih=>
  cases i with
  | zero=>
   simp at hi
   subst hi
   have:fJ (x :: t)=jc x++fJ t:=rfl
   rw [this,List.set_cons_zero,show fJ (j' :: t)=jc j'++fJ t from rfl,← hj,List.set_append_left _ _ (by rw [show (jc x).length=6 from rfl];omega)]
   simp
  | succ i=>
   have h2:=ih i (by simpa using hi)
   have:fJ (x :: t)=jc x++fJ t:=rfl
   rw [this,List.set_cons_succ,show fJ (x :: t.set i j')=jc x++fJ (t.set i j') from rfl,← h2,List.set_append_right _ _ (by rw [show (jc x).length=6 from rfl];omega)]
   congr 2
   rw [show (jc x).length=6 from rfl];omega
theorem KO.setJob (h:KO w0 X base kb w D A C B dn) {g:Nat} (hg:A.aJ=some ⟨g,0,none⟩) (i:Nat) (j:JobT) (hj:D.jobs[i]? = some j) :
  KO w0 X base kb (w.setCell ⟨g,i * 6+5,none⟩ (.bool true)) ⟨D.jobs.set i (markJ j),D.rel,D.nxt,D.ins,D.tak,D.out,D.evs⟩ A C B dn:=by
 have hb:(Value.slice A.aJ D.jobs.length A.cJ).ownBlock=some g:=by rw [hg];rfl
 have hr:=h.j
 rw [hg] at hr
 have hl:(D.jobs.set i (markJ j)).length=D.jobs.length:=List.length_set
 refine ⟨h.ag.set (h.jx g hb) _ _,?_,?_,owns_agree h.r (fun x hx=>heap_set_ne _ _ _ _ x (fun e=>by subst e;exact owns_apart h.r h.j (by decide) x hx hb)),owns_agree h.e (fun x hx=>heap_set_ne _ _ _ _ x (fun e=>by subst e;exact owns_apart h.e h.j (by decide) x hx hb)),?_,h.rx,h.ex,h.kx,h.xb,h.b0,h.lI,h.lT,h.lO,h.con,h.rest⟩
 ·have:kl ⟨D.jobs.set i (markJ j),D.rel,D.nxt,D.ins,D.tak,D.out,D.evs⟩ A C B dn=kl D A C B dn:=by simp only [kl,hl]
  rw [this]
  exact (heap_set_ne _ _ _ _ kb (fun e=>owns_ne h.j h.row (by decide) g hb e.symm)).trans h.row
 ·have:=owns_set (i:=i * 6+5) hr (.bool true)
  have e5:(fJ D.jobs).set (i * 6+5) (.bool true)=fJ (D.jobs.set i (markJ j)):=flat_set D.jobs i 5 j (markJ j) _ hj (by omega) rfl
  rw [e5] at this
  dsimp only
  rw [hl,hg]
  exact this
 ·dsimp only
  rw [hl]
  exact h.jx
end
def shownD (D:Dom):Dom:=⟨D.jobs,D.rel,D.nxt,D.ins,D.tak,List.replicate D.out.length [],[]⟩
def early (x:EvT):Bool:=decide (x.2.1=2) || decide (x.2.1=6)
def tells1 (x:EvT):Bool:=(decide (7≤x.2.1) && decide (x.2.1≤12)) || decide (x.2.1=4)
def EvOk (fr tq:Int) (x:EvT):Prop:=x.1≤tq∧(fr≤x.1∨early x=true)
def EvRel (t:Int) (x:EvT):Prop:=x.1≤t∧early x=true
theorem relStep_frame (C:Conf) (k:Nat) (D:Dom):(relStep C k D).nxt=D.nxt∧(relStep C k D).ins=D.ins∧(relStep C k D).tak=D.tak∧(relStep C k D).out=D.out:=by
 unfold relStep;split <;> exact ⟨rfl,rfl,rfl,rfl⟩
theorem missStep_frame (C:Conf) (now:Int) (i:Nat) (D:Dom):(missStep C now i D).nxt=D.nxt∧(missStep C now i D).ins=D.ins∧(missStep C now i D).tak=D.tak∧(missStep C now i D).out=D.out:=by
 unfold missStep
 split
 ·exact ⟨rfl,rfl,rfl,rfl⟩
 ·split <;> exact ⟨rfl,rfl,rfl,rfl⟩
theorem relL_ind {C:Conf} {now:Int} (P:Dom→Prop) (hs:∀ k D,P D→goOn C now k D=true→P (relStep C k D)):∀ (l:List NT) (D:Dom),P D→P (relL C now l D):=by
 intro l
 induction l with
 | nil=>intro D h;exact h
 | cons x r ih=>intro D h;exact ih _ (relN_ind P (fun D h hg=>hs x.1 D h hg) _ D h)
theorem relD_ind {C:Conf} {dn now:Int} (P:Dom→Prop) (hr:∀ k D,P D→goOn C now k D=true→P (relStep C k D)) (hm:∀ i D,P D→P (missStep C now i D)) (D:Dom) (h:P D):P (relD C dn now D):=
 missN_ind C now P (fun D i h=>hm i D h) _ _ (relL_ind P hr _ D h)
theorem relD_frame (C:Conf) (dn now:Int) (D:Dom):(relD C dn now D).nxt=D.nxt∧(relD C dn now D).ins=D.ins∧(relD C dn now D).tak=D.tak∧(relD C dn now D).out=D.out:=
 relD_ind (fun D'=>D'.nxt=D.nxt∧D'.ins=D.ins∧D'.tak=D.tak∧D'.out=D.out) (fun k D' h _=>by
   have:=relStep_frame C k D'
   exact ⟨this.1.trans h.1,this.2.1.trans h.2.1,this.2.2.1.trans h.2.2.1,this.2.2.2.trans h.2.2.2⟩)
  (fun i D' h=>by
   have:=missStep_frame C now i D'
   exact ⟨this.1.trans h.1,this.2.1.trans h.2.1,this.2.2.1.trans h.2.2.1,this.2.2.2.trans h.2.2.2⟩) D ⟨rfl,rfl,rfl,rfl⟩
theorem relD_early (C:Conf) (dn now:Int) (D:Dom) (h:∀ x∈D.evs,EvRel now x):∀ x∈(relD C dn now D).evs,EvRel now x:=
 relD_ind (fun D'=>∀ x∈D'.evs,EvRel now x) (fun k D' h hg x hx=>by
   simp only [goOn,Bool.and_eq_true,decide_eq_true_eq] at hg
   unfold relStep at hx
   split at hx
   ·exact h x hx
   ·simp only [List.mem_append,List.mem_singleton] at hx
    rcases hx with hx|rfl
    ·exact h x hx
    ·exact ⟨hg.1,by simp [early]⟩)
  (fun i D' h x hx=>by
   unfold missStep at hx
   split at hx
   ·exact h x hx
   ·rename_i j hj
    split at hx
    ·rename_i hl
     simp only [late,Bool.and_eq_true,decide_eq_true_eq] at hl
     simp only [List.mem_append,List.mem_singleton] at hx
     rcases hx with hx|rfl
     ·exact h x hx
     ·exact ⟨hl.2,by simp [early]⟩
    ·exact h x hx) D h
theorem early_not {x:EvT} (h:early x=true):tells1 x=false:=by
 simp only [early,Bool.or_eq_true,decide_eq_true_eq] at h
 simp only [tells1,Bool.or_eq_false_iff,Bool.and_eq_false_iff,decide_eq_false_iff_not]
 omega
structure Win (C:Conf) (dn:Int) (D0:Dom) (fr tq:Int) (D:Dom) (now:Int):Prop where
 ck:ckD C dn (shownD D)=0
 ev:∃ E,D.evs=D0.evs++E∧(∀ e∈E,EvOk fr tq e)∧(E.countP tells1:Int)=D.nxt - D0.nxt
 lo:fr≤now
 hi:now≤tq
def relW (C:Conf) (dn t:Int) (D:Dom):Dom:=⟨(relD C dn t (shownD D)).jobs,(relD C dn t (shownD D)).rel,D.nxt,D.ins,D.tak,D.out,D.evs++(relD C dn t (shownD D)).evs⟩
theorem shown_relW (C:Conf) (dn t:Int) (D:Dom):shownD (relW C dn t D)=⟨(relD C dn t (shownD D)).jobs,(relD C dn t (shownD D)).rel,(relD C dn t (shownD D)).nxt,(relD C dn t (shownD D)).ins,(relD C dn t (shownD D)).tak,(relD C dn t (shownD D)).out,[]⟩:=by
 have h:=relD_frame C dn t (shownD D)
 rw [h.1,h.2.1,h.2.2.1,h.2.2.2]
 rfl
theorem ckD_evs (C:Conf) (dn:Int) (D:Dom) (E:List EvT):ckD C dn ⟨D.jobs,D.rel,D.nxt,D.ins,D.tak,D.out,E⟩=ckD C dn D:=rfl
theorem Win.release {C:Conf} {dn fr tq now t:Int} {D0 D:Dom} (h:Win C dn D0 fr tq D now) (ht:inR t 0 100000=true) (hto:t≤tq):Win C dn D0 fr tq (relW C dn t D) now:=by
 refine ⟨?_,?_,h.lo,h.hi⟩
 ·rw [shown_relW,ckD_evs]
  exact relD_ok h.ck ht
 ·obtain ⟨E,h1,h2,h3⟩:=h.ev
  have he:=relD_early C dn t (shownD D) (by intro x hx;simp [shownD] at hx)
  refine ⟨E++(relD C dn t (shownD D)).evs,by simp [relW,h1],fun e hm=>?_,?_⟩
  ·rcases List.mem_append.1 hm with hm|hm
   ·exact h2 e hm
   ·have:=he e hm
    exact ⟨Int.le_trans this.1 hto,.inr this.2⟩
  ·have hz:(relD C dn t (shownD D)).evs.countP tells1=0:=List.countP_eq_zero.2 fun x hx=>by simp [early_not (he x hx).2]
   rw [List.countP_append,hz]
   simpa [relW] using h3
theorem Win.idle {C:Conf} {dn fr tq now t:Int} {D0 D:Dom} (h:Win C dn D0 fr tq D now) (h1:now≤t) (h2:t≤tq):Win C dn D0 fr tq D t:=⟨h.ck,h.ev,Int.le_trans h.lo h1,h2⟩
theorem allR_set {L:List Int} {l m v:Int} (h:allR L l m=true) (i:Nat) (hv:inR v l m=true):allR (L.set i v) l m=true:=by
 refine List.all_eq_true.2 fun x hx=>?_
 rcases List.mem_or_eq_of_mem_set hx with h'|h'
 ·exact List.all_eq_true.1 h x h'
 ·rw [h'];exact hv
theorem Win.acted {C:Conf} {dn fr tq now now2:Int} {D0 D D5:Dom} (h:Win C dn D0 fr tq D now) (h1:now≤now2) (h2:now2≤tq) (hnx:D.nxt<100000)
  (hj:D5.jobs.length≤D.jobs.length) (hjs:∀ j∈D5.jobs,ckJob C dn j=0) (hrel:D5.rel=D.rel) (hn:D5.nxt=D.nxt+1) (hil:D5.ins.length=D.ins.length) (hi:ckIns C D5=0) (htl:D5.tak.length=D.tak.length) (ht:allR D5.tak 0 15=true) (hol:D5.out.length=D.out.length)
  (E:List EvT) (hE:D5.evs=D.evs++E) (hEv:∀ e∈E,EvOk fr tq e) (hc:E.countP tells1=1):Win C dn D0 fr tq D5 now2:=by
 refine ⟨?_,?_,Int.le_trans h.lo h1,h2⟩
 ·obtain ⟨c0,c1,c2,c3,c4,c5⟩:=ckD_iff.1 h.ck
  have hS:=ckShp_iff.1 c1
  have hN:=ckNums_iff.1 c2
  have hJ:=ckJobs_iff.1 c3
  simp only [shownD,List.length_replicate] at hS hN hJ
  simp only [inR,Bool.and_eq_true,decide_eq_true_eq] at hN
  refine ckD_iff.2 ⟨c0,ckShp_iff.2 ?_,ckNums_iff.2 ?_,ckJobs_iff.2 ⟨by simp only [shownD];omega,hjs⟩,hi,?_⟩
  ·simp only [shownD,List.length_replicate]
   rw [hrel,hil,hol,htl]
   exact hS
  ·simp only [shownD]
   rw [hrel,hn]
   refine ⟨hN.1,?_,ht⟩
   simp only [inR,Bool.and_eq_true,decide_eq_true_eq]
   omega
  ·unfold ckOuts
   have e1:(shownD D5).out.any long60=false:=List.any_eq_false.2 fun x hx=>by
    simp only [shownD] at hx
    rw [(List.mem_replicate.1 hx).2]
    decide
   have e2:(shownD D5).out.any bad255=false:=List.any_eq_false.2 fun x hx=>by
    simp only [shownD] at hx
    rw [(List.mem_replicate.1 hx).2]
    decide
   rw [e1,e2]
   rfl
 ·obtain ⟨E0,g1,g2,g3⟩:=h.ev
  refine ⟨E0++E,by rw [hE,g1,List.append_assoc],fun e hm=>?_,?_⟩
  ·rcases List.mem_append.1 hm with hm|hm
   ·exact g2 e hm
   ·exact hEv e hm
  ·rw [List.countP_append,hc,hn]
   omega
theorem Win.begin {C:Conf} {dn fr tq:Int} {D:Dom} (hz:ckD C dn D=0) (h:fr≤tq):Win C dn D fr tq D fr:=by
 refine ⟨?_,⟨[],by simp,by simp,by simp⟩,Int.le_refl _,h⟩
 obtain ⟨c0,c1,c2,c3,c4,c5⟩:=ckD_iff.1 hz
 refine ckD_iff.2 ⟨c0,ckShp_iff.2 ?_,c2,c3,c4,?_⟩
 ·have:=ckShp_iff.1 c1
  simpa [shownD] using this
 ·unfold ckOuts
  have e1:(shownD D).out.any long60=false:=List.any_eq_false.2 fun x hx=>by
   simp only [shownD] at hx
   rw [(List.mem_replicate.1 hx).2]
   decide
  have e2:(shownD D).out.any bad255=false:=List.any_eq_false.2 fun x hx=>by
   simp only [shownD] at hx
   rw [(List.mem_replicate.1 hx).2]
   decide
  rw [e1,e2]
  rfl
def Parts (own:Nat→Nat) (w:World) (P:Nat→World→Prop):Prop:=∀ l (w':World),(∀ x,x<w.heap.size→own x=l→w'.heap[x]? = w.heap[x]?)→P l w'
theorem Parts.at {own:Nat→Nat} {w:World} {P:Nat→World→Prop} (h:Parts own w P) (l:Nat):P l w:=h l w (fun _ _ _=>rfl)
def own2 (n l:Nat) (own:Nat→Nat):Nat→Nat:=fun x=>if n≤x then l else own x
theorem own2_lt {n l x:Nat} {own:Nat→Nat} (h:x<n):own2 n l own x=own x:=by unfold own2;rw [if_neg (by omega)]
theorem own2_ge {n l x:Nat} {own:Nat→Nat} (h:n≤x):own2 n l own x=l:=by unfold own2;rw [if_pos h]
theorem Parts.next {own:Nat→Nat} {w w1:World} {P P':Nat→World→Prop} (h:Parts own w P) (l:Nat) (hsz:w.heap.size≤w1.heap.size) (hs:∀ x,x<w.heap.size→own x≠l→w1.heap[x]? = w.heap[x]?)
  (hl:∀ w':World,(∀ x,x<w1.heap.size→(own x=l∨w.heap.size≤x)→w'.heap[x]? = w1.heap[x]?)→P' l w') (he:∀ k,k≠l→P' k=P k):Parts (own2 w.heap.size l own) w1 P':=by
 intro k w' hk
 by_cases e:k=l
 ·subst e
  refine hl w' (fun x hx ho=>hk x hx ?_)
  by_cases hx2:w.heap.size≤x
  ·exact own2_ge hx2
  ·rw [own2_lt (by omega)]
   rcases ho with ho|ho
   ·exact ho
   ·omega
 ·rw [he k e]
  refine h k w' (fun x hx ho=>?_)
  rw [hk x (by omega) (by rw [own2_lt hx];exact ho)]
  exact hs x hx (by omega)
structure PS where
 rb:Nat
 gI:Nat
 gO:Nat
 base:Nat
 R:List Value
 cI:List Value
 cO:List Value
 vJ:Value
 vE:Value
 J:List JobT
 E:List EvT
 aK:Option Addr
 K:List (List (Int×Bool))
 V:Nat→Value
 F:Nat→List Int
 fr:List (Nat×Obj)
def PS.P (s:PS):Nat→World→Prop
 | 0=>fun w=>∀ p∈s.fr,w.heap[p.1]? = some p.2
 | 1=>fun w=>RowAt w s.rb 152 s.R
 | 2=>fun w=>w.ownsRow s.base 87 6 s.vJ s.J.length (fJ s.J)
 | 3=>fun w=>w.ownsRow s.base 92 4 s.vE s.E.length (fE s.E)
 | 4=>fun w=>RowAt w s.gI 90 s.cI
 | 5=>fun w=>RowAt w s.gO 23 s.cO
 | 6=>fun w=>CacheIn w s.aK s.K
 | n+7=>fun w=>w.ownsRow s.base 3 1 (s.V n) (s.F n).length (ivs (s.F n))
structure PO (own:Nat→Nat) (w:World) (s:PS):Prop where
 ps:Parts own w s.P
 bw:s.base≤w.heap.size
 o0:∀ x,own x≠0→s.base≤x
 l1:own s.rb=1
 l2:∀ x,s.vJ.ownBlock=some x→own x=2
 l3:∀ x,s.vE.ownBlock=some x→own x=3
 l4:own s.gI=4
 l5:own s.gO=5
 l7:∀ k x,(s.V k).ownBlock=some x→own x=k+7
 lf:∀ p∈s.fr,own p.1=0
def PX (w:World) (s:PS):Prop:=∃ own,PO own w s
section
variable {w w1:World} {s:PS}
theorem PX.row (h:PX w s):RowAt w s.rb 152 s.R:=by obtain ⟨o,h⟩:=h;exact h.ps.at 1
theorem PX.jobs (h:PX w s):w.ownsRow s.base 87 6 s.vJ s.J.length (fJ s.J):=by obtain ⟨o,h⟩:=h;exact h.ps.at 2
theorem PX.evs (h:PX w s):w.ownsRow s.base 92 4 s.vE s.E.length (fE s.E):=by obtain ⟨o,h⟩:=h;exact h.ps.at 3
theorem PX.inr (h:PX w s):RowAt w s.gI 90 s.cI:=by obtain ⟨o,h⟩:=h;exact h.ps.at 4
theorem PX.outr (h:PX w s):RowAt w s.gO 23 s.cO:=by obtain ⟨o,h⟩:=h;exact h.ps.at 5
theorem PX.cache (h:PX w s):CacheIn w s.aK s.K:=by obtain ⟨o,h⟩:=h;exact h.ps.at 6
theorem PX.ints (h:PX w s) (n:Nat):w.ownsRow s.base 3 1 (s.V n) (s.F n).length (ivs (s.F n)):=by obtain ⟨o,h⟩:=h;exact h.ps.at (n+7)
theorem PX.rb_ge (h:PX w s):s.base≤s.rb:=by obtain ⟨o,h⟩:=h;exact h.o0 _ (by rw [h.l1];decide)
theorem PX.gI_ge (h:PX w s):s.base≤s.gI:=by obtain ⟨o,h⟩:=h;exact h.o0 _ (by rw [h.l4];decide)
theorem PX.gO_ge (h:PX w s):s.base≤s.gO:=by obtain ⟨o,h⟩:=h;exact h.o0 _ (by rw [h.l5];decide)
theorem PX.ne_ints (h:PX w s) (k x:Nat) (hx:(s.V k).ownBlock=some x):x≠s.rb∧x≠s.gI∧x≠s.gO:=by
 obtain ⟨o,h⟩:=h
 have:=h.l7 k x hx
 refine ⟨fun e=>?_,fun e=>?_,fun e=>?_⟩ <;> subst e
 ·rw [h.l1] at this;omega
 ·rw [h.l4] at this;omega
 ·rw [h.l5] at this;omega
theorem PX.below (h:PX w s) (hb:Below w.heap.size w w1):PX w1 s:=by
 obtain ⟨o,h⟩:=h
 exact ⟨o,⟨fun l w' hw'=>h.ps l w' (fun x hx ho=>(hw' x (Nat.lt_of_lt_of_le hx hb.size) ho).trans (hb.block x hx)),Nat.le_trans h.bw hb.size,h.o0,h.l1,h.l2,h.l3,h.l4,h.l5,h.l7,h.lf⟩⟩
theorem fr_lt {w:World} {s:PS} (h:s.P 0 w) (p:Nat×Obj) (hp:p∈s.fr):p.1<w.heap.size:=(Array.getElem?_eq_some_iff.1 (h p hp)).1
theorem rowAt_lt {w:World} {g t:Nat} {L:List Value} (h:RowAt w g t L):g<w.heap.size:=h.lt
theorem PX.setRow (h:PX w s) (i:Nat) (v:Value):PX (w.setCell ⟨s.rb,i,none⟩ v) { s with R:=s.R.set i v }:=by
 have hr:=h.row
 obtain ⟨o,h⟩:=h
 have hz:w.heap.size≤(w.setCell ⟨s.rb,i,none⟩ v).heap.size:=by simp
 refine ⟨own2 w.heap.size 1 o,⟨h.ps.next 1 hz (fun x hx ho=>heap_set_ne _ _ _ _ x (fun e=>ho (by rw [e,h.l1]))) (fun w' hw'=>?_) (fun k hk=>?_),Nat.le_trans h.bw hz,fun x hx=>?_,?_,fun x hx=>?_,fun x hx=>?_,?_,?_,fun k x hx=>?_,fun p hp=>?_⟩⟩
 ·show RowAt w' s.rb 152 (s.R.set i v)
  exact (hw' s.rb (by simpa using hr.lt) (.inl h.l1)).trans (rowAt_set1 hr i v)
 ·match k,hk with
  | 0,_=>rfl
  | 1,hk=>exact absurd rfl hk
  | 2,_=>rfl
  | 3,_=>rfl
  | 4,_=>rfl
  | 5,_=>rfl
  | 6,_=>rfl
  | n+7,_=>rfl
 ·by_cases e:w.heap.size≤x
  ·exact Nat.le_trans h.bw e
  ·rw [own2_lt (by omega)] at hx;exact h.o0 x hx
 ·rw [own2_lt hr.lt];exact h.l1
 ·rw [own2_lt (owns_lt (h.ps.at 2) x hx)];exact h.l2 x hx
 ·rw [own2_lt (owns_lt (h.ps.at 3) x hx)];exact h.l3 x hx
 ·rw [own2_lt (rowAt_lt (h.ps.at 4))];exact h.l4
 ·rw [own2_lt (rowAt_lt (h.ps.at 5))];exact h.l5
 ·rw [own2_lt (owns_lt (h.ps.at (k+7)) x hx)];exact h.l7 k x hx
 ·rw [own2_lt (fr_lt (h.ps.at 0) p hp)];exact h.lf p hp
theorem PX.setIn (h:PX w s) (i:Nat) (v:Value):PX (w.setCell ⟨s.gI,i,none⟩ v) { s with cI:=s.cI.set i v }:=by
 have hr:=h.inr
 obtain ⟨o,h⟩:=h
 have hz:w.heap.size≤(w.setCell ⟨s.gI,i,none⟩ v).heap.size:=by simp
 refine ⟨own2 w.heap.size 4 o,⟨h.ps.next 4 hz (fun x hx ho=>heap_set_ne _ _ _ _ x (fun e=>ho (by rw [e,h.l4]))) (fun w' hw'=>?_) (fun k hk=>?_),Nat.le_trans h.bw hz,fun x hx=>?_,?_,fun x hx=>?_,fun x hx=>?_,?_,?_,fun k x hx=>?_,fun p hp=>?_⟩⟩
 ·show RowAt w' s.gI 90 (s.cI.set i v)
  exact (hw' s.gI (by simpa using hr.lt) (.inl h.l4)).trans (rowAt_set1 hr i v)
 ·match k,hk with
  | 0,_=>rfl
  | 4,hk=>exact absurd rfl hk
  | 2,_=>rfl
  | 3,_=>rfl
  | 1,_=>rfl
  | 5,_=>rfl
  | 6,_=>rfl
  | n+7,_=>rfl
 ·by_cases e:w.heap.size≤x
  ·exact Nat.le_trans h.bw e
  ·rw [own2_lt (by omega)] at hx;exact h.o0 x hx
 ·rw [own2_lt (rowAt_lt (h.ps.at 1))];exact h.l1
 ·rw [own2_lt (owns_lt (h.ps.at 2) x hx)];exact h.l2 x hx
 ·rw [own2_lt (owns_lt (h.ps.at 3) x hx)];exact h.l3 x hx
 ·rw [own2_lt hr.lt];exact h.l4
 ·rw [own2_lt (rowAt_lt (h.ps.at 5))];exact h.l5
 ·rw [own2_lt (owns_lt (h.ps.at (k+7)) x hx)];exact h.l7 k x hx
 ·rw [own2_lt (fr_lt (h.ps.at 0) p hp)];exact h.lf p hp
theorem PX.setOut (h:PX w s) (i:Nat) (v:Value):PX (w.setCell ⟨s.gO,i,none⟩ v) { s with cO:=s.cO.set i v }:=by
 have hr:=h.outr
 obtain ⟨o,h⟩:=h
 have hz:w.heap.size≤(w.setCell ⟨s.gO,i,none⟩ v).heap.size:=by simp
 refine ⟨own2 w.heap.size 5 o,⟨h.ps.next 5 hz (fun x hx ho=>heap_set_ne _ _ _ _ x (fun e=>ho (by rw [e,h.l5]))) (fun w' hw'=>?_) (fun k hk=>?_),Nat.le_trans h.bw hz,fun x hx=>?_,?_,fun x hx=>?_,fun x hx=>?_,?_,?_,fun k x hx=>?_,fun p hp=>?_⟩⟩
 ·show RowAt w' s.gO 23 (s.cO.set i v)
  exact (hw' s.gO (by simpa using hr.lt) (.inl h.l5)).trans (rowAt_set1 hr i v)
 ·match k,hk with
  | 0,_=>rfl
  | 5,hk=>exact absurd rfl hk
  | 2,_=>rfl
  | 3,_=>rfl
  | 1,_=>rfl
  | 4,_=>rfl
  | 6,_=>rfl
  | n+7,_=>rfl
 ·by_cases e:w.heap.size≤x
  ·exact Nat.le_trans h.bw e
  ·rw [own2_lt (by omega)] at hx;exact h.o0 x hx
 ·rw [own2_lt (rowAt_lt (h.ps.at 1))];exact h.l1
 ·rw [own2_lt (owns_lt (h.ps.at 2) x hx)];exact h.l2 x hx
 ·rw [own2_lt (owns_lt (h.ps.at 3) x hx)];exact h.l3 x hx
 ·rw [own2_lt (rowAt_lt (h.ps.at 4))];exact h.l4
 ·rw [own2_lt hr.lt];exact h.l5
 ·rw [own2_lt (owns_lt (h.ps.at (k+7)) x hx)];exact h.l7 k x hx
 ·rw [own2_lt (fr_lt (h.ps.at 0) p hp)];exact h.lf p hp
theorem PX.newJ (h:PX w s) (hsz:w.heap.size≤w1.heap.size) (hg:∀ x,x<w.heap.size→s.vJ.ownBlock≠some x→w1.heap[x]? = w.heap[x]?) {v:Value} {J:List JobT} (ho:w1.ownsRow s.base 87 6 v J.length (fJ J)) (hat:∀ x,v.ownBlock=some x→s.vJ.ownBlock=some x∨w.heap.size≤x):PX w1 { s with vJ:=v,J:=J }:=by
 obtain ⟨o,h⟩:=h
 refine ⟨own2 w.heap.size 2 o,⟨h.ps.next 2 hsz (fun x hx ho=>hg x hx (fun e=>ho (h.l2 x e))) (fun w' hw'=>?_) (fun k hk=>?_),Nat.le_trans h.bw hsz,fun x hx=>?_,?_,fun x hx=>?_,fun x hx=>?_,?_,?_,fun k x hx=>?_,fun p hp=>?_⟩⟩
 ·show w'.ownsRow s.base 87 6 v J.length (fJ J)
  exact owns_agree ho (fun x hx=>hw' x (owns_lt ho x hx) (by rcases hat x hx with h'|h';exact .inl (h.l2 x h');exact .inr h'))
 ·match k,hk with
  | 0,_=>rfl
  | 2,hk=>exact absurd rfl hk
  | 1,_=>rfl
  | 3,_=>rfl
  | 4,_=>rfl
  | 5,_=>rfl
  | 6,_=>rfl
  | n+7,_=>rfl
 ·by_cases e:w.heap.size≤x
  ·exact Nat.le_trans h.bw e
  ·rw [own2_lt (by omega)] at hx;exact h.o0 x hx
 ·rw [own2_lt (rowAt_lt (h.ps.at 1))];exact h.l1
 ·rcases hat x hx with h'|h'
  ·rw [own2_lt (owns_lt (h.ps.at 2) x h')];exact h.l2 x h'
  ·exact own2_ge h'
 ·rw [own2_lt (owns_lt (h.ps.at 3) x hx)];exact h.l3 x hx
 ·rw [own2_lt (rowAt_lt (h.ps.at 4))];exact h.l4
 ·rw [own2_lt (rowAt_lt (h.ps.at 5))];exact h.l5
 ·rw [own2_lt (owns_lt (h.ps.at (k+7)) x hx)];exact h.l7 k x hx
 ·rw [own2_lt (fr_lt (h.ps.at 0) p hp)];exact h.lf p hp
theorem PX.newE (h:PX w s) (hsz:w.heap.size≤w1.heap.size) (hg:∀ x,x<w.heap.size→s.vE.ownBlock≠some x→w1.heap[x]? = w.heap[x]?) {v:Value} {E:List EvT} (ho:w1.ownsRow s.base 92 4 v E.length (fE E)) (hat:∀ x,v.ownBlock=some x→s.vE.ownBlock=some x∨w.heap.size≤x):PX w1 { s with vE:=v,E:=E }:=by
 obtain ⟨o,h⟩:=h
 refine ⟨own2 w.heap.size 3 o,⟨h.ps.next 3 hsz (fun x hx ho=>hg x hx (fun e=>ho (h.l3 x e))) (fun w' hw'=>?_) (fun k hk=>?_),Nat.le_trans h.bw hsz,fun x hx=>?_,?_,fun x hx=>?_,fun x hx=>?_,?_,?_,fun k x hx=>?_,fun p hp=>?_⟩⟩
 ·show w'.ownsRow s.base 92 4 v E.length (fE E)
  exact owns_agree ho (fun x hx=>hw' x (owns_lt ho x hx) (by rcases hat x hx with h'|h';exact .inl (h.l3 x h');exact .inr h'))
 ·match k,hk with
  | 0,_=>rfl
  | 3,hk=>exact absurd rfl hk
  | 1,_=>rfl
  | 2,_=>rfl
  | 4,_=>rfl
  | 5,_=>rfl
  | 6,_=>rfl
  | n+7,_=>rfl
 ·by_cases e:w.heap.size≤x
  ·exact Nat.le_trans h.bw e
  ·rw [own2_lt (by omega)] at hx;exact h.o0 x hx
 ·rw [own2_lt (rowAt_lt (h.ps.at 1))];exact h.l1
 ·rw [own2_lt (owns_lt (h.ps.at 2) x hx)];exact h.l2 x hx
 ·rcases hat x hx with h'|h'
  ·rw [own2_lt (owns_lt (h.ps.at 3) x h')];exact h.l3 x h'
  ·exact own2_ge h'
 ·rw [own2_lt (rowAt_lt (h.ps.at 4))];exact h.l4
 ·rw [own2_lt (rowAt_lt (h.ps.at 5))];exact h.l5
 ·rw [own2_lt (owns_lt (h.ps.at (k+7)) x hx)];exact h.l7 k x hx
 ·rw [own2_lt (fr_lt (h.ps.at 0) p hp)];exact h.lf p hp
theorem PX.newF (h:PX w s) (n:Nat) (hsz:w.heap.size≤w1.heap.size) (hg:∀ x,x<w.heap.size→(s.V n).ownBlock≠some x→w1.heap[x]? = w.heap[x]?) {v:Value} {L:List Int} (ho:w1.ownsRow s.base 3 1 v L.length (ivs L)) (hat:∀ x,v.ownBlock=some x→(s.V n).ownBlock=some x∨w.heap.size≤x):PX w1 { s with V:=fun k=>if k=n then v else s.V k,F:=fun k=>if k=n then L else s.F k }:=by
 obtain ⟨o,h⟩:=h
 refine ⟨own2 w.heap.size (n+7) o,⟨h.ps.next (n+7) hsz (fun x hx ho=>hg x hx (fun e=>ho (h.l7 n x e))) (fun w' hw'=>?_) (fun k hk=>?_),Nat.le_trans h.bw hsz,fun x hx=>?_,?_,fun x hx=>?_,fun x hx=>?_,?_,?_,fun k x hx=>?_,fun p hp=>?_⟩⟩
 ·show w'.ownsRow s.base 3 1 (if n=n then v else s.V n) (if n=n then L else s.F n).length (ivs (if n=n then L else s.F n))
  simp only [if_true]
  exact owns_agree ho (fun x hx=>hw' x (owns_lt ho x hx) (by rcases hat x hx with h'|h';exact .inl (h.l7 n x h');exact .inr h'))
 ·match k,hk with
  | 0,_=>rfl
  | 1,_=>rfl
  | 2,_=>rfl
  | 3,_=>rfl
  | 4,_=>rfl
  | 5,_=>rfl
  | 6,_=>rfl
  | m+7,hk=>
   have:m≠n:=fun e=>hk (by rw [e])
   show (fun w:World=>w.ownsRow s.base 3 1 (if m=n then v else s.V m) (if m=n then L else s.F m).length (ivs (if m=n then L else s.F m)))=_
   simp only [if_neg this]
   rfl
 ·by_cases e:w.heap.size≤x
  ·exact Nat.le_trans h.bw e
  ·rw [own2_lt (by omega)] at hx;exact h.o0 x hx
 ·rw [own2_lt (rowAt_lt (h.ps.at 1))];exact h.l1
 ·rw [own2_lt (owns_lt (h.ps.at 2) x hx)];exact h.l2 x hx
 ·rw [own2_lt (owns_lt (h.ps.at 3) x hx)];exact h.l3 x hx
 ·rw [own2_lt (rowAt_lt (h.ps.at 4))];exact h.l4
 ·rw [own2_lt (rowAt_lt (h.ps.at 5))];exact h.l5
 ·dsimp only at hx
  by_cases e:k=n
  ·subst e
   rw [if_pos rfl] at hx
   rcases hat x hx with h'|h'
   ·rw [own2_lt (owns_lt (h.ps.at (k+7)) x h')];exact h.l7 k x h'
   ·exact own2_ge h'
  ·rw [if_neg e] at hx
   rw [own2_lt (owns_lt (h.ps.at (k+7)) x hx)];exact h.l7 k x hx
 ·rw [own2_lt (fr_lt (h.ps.at 0) p hp)];exact h.lf p hp
theorem PX.newK (h:PX w s) (hb:Below w.heap.size w w1) {a:Option Addr} {K:List (List (Int×Bool))} (hK:∀ w':World,(∀ x,x<w1.heap.size→w.heap.size≤x→w'.heap[x]? = w1.heap[x]?)→CacheIn w' a K):PX w1 { s with aK:=a,K:=K }:=by
 obtain ⟨o,h⟩:=h
 refine ⟨own2 w.heap.size 6 o,⟨h.ps.next 6 hb.size (fun x hx ho=>hb.block x hx) (fun w' hw'=>?_) (fun k hk=>?_),Nat.le_trans h.bw hb.size,fun x hx=>?_,?_,fun x hx=>?_,fun x hx=>?_,?_,?_,fun k x hx=>?_,fun p hp=>?_⟩⟩
 ·exact hK w' (fun x hx h1=>hw' x hx (.inr h1))
 ·match k,hk with
  | 0,_=>rfl
  | 6,hk=>exact absurd rfl hk
  | 1,_=>rfl
  | 2,_=>rfl
  | 4,_=>rfl
  | 5,_=>rfl
  | 3,_=>rfl
  | n+7,_=>rfl
 ·by_cases e:w.heap.size≤x
  ·exact Nat.le_trans h.bw e
  ·rw [own2_lt (by omega)] at hx;exact h.o0 x hx
 ·rw [own2_lt (rowAt_lt (h.ps.at 1))];exact h.l1
 ·rw [own2_lt (owns_lt (h.ps.at 2) x hx)];exact h.l2 x hx
 ·rw [own2_lt (owns_lt (h.ps.at 3) x hx)];exact h.l3 x hx
 ·rw [own2_lt (rowAt_lt (h.ps.at 4))];exact h.l4
 ·rw [own2_lt (rowAt_lt (h.ps.at 5))];exact h.l5
 ·rw [own2_lt (owns_lt (h.ps.at (k+7)) x hx)];exact h.l7 k x hx
 ·rw [own2_lt (fr_lt (h.ps.at 0) p hp)];exact h.lf p hp
end
theorem PX.push {w:World} {s:PS} (h:PX w s) (o:Obj):PX (w.alloc o) { s with fr:=(w.heap.size,o) :: s.fr }:=by
 obtain ⟨own,h⟩:=h
 have hsz:(w.alloc o).heap.size=w.heap.size+1:=by simp
 have old:∀ x,x<w.heap.size→(w.alloc o).heap[x]? = w.heap[x]? := fun x hx=>Below.heap_alloc w o x hx
 let own':Nat→Nat:=fun x=>if x<w.heap.size then own x else 0
 have lt':∀ {x},x<w.heap.size→own' x=own x:=fun hx=>if_pos hx
 refine ⟨own',⟨fun l w' hw'=>?_,by rw [hsz];exact Nat.le_succ_of_le h.bw,fun x hx=>?_,?_,fun x hx=>?_,fun x hx=>?_,?_,?_,fun k x hx=>?_,fun p hp=>?_⟩⟩
 ·have oldP:s.P l w':=h.ps l w' (fun x hx hl=>(hw' x (by omega) (by rw [lt' hx];exact hl)).trans (old x hx))
  match l,hw',oldP with
  | 0,hw',oldP=>
   intro p hp
   rcases List.mem_cons.1 hp with rfl|hp
   ·exact (hw' w.heap.size (by omega) (if_neg (Nat.lt_irrefl _))).trans (heap_alloc_new w o)
   ·exact oldP p hp
  | 1,_,oldP=>exact oldP
  | 2,_,oldP=>exact oldP
  | 3,_,oldP=>exact oldP
  | 4,_,oldP=>exact oldP
  | 5,_,oldP=>exact oldP
  | 6,_,oldP=>exact oldP
  | n+7,_,oldP=>exact oldP
 ·by_cases e:x<w.heap.size
  ·rw [lt' e] at hx;exact h.o0 x hx
  ·exact absurd (if_neg e) hx
 ·rw [lt' (rowAt_lt (h.ps.at 1))];exact h.l1
 ·rw [lt' (owns_lt (h.ps.at 2) x hx)];exact h.l2 x hx
 ·rw [lt' (owns_lt (h.ps.at 3) x hx)];exact h.l3 x hx
 ·rw [lt' (rowAt_lt (h.ps.at 4))];exact h.l4
 ·rw [lt' (rowAt_lt (h.ps.at 5))];exact h.l5
 ·rw [lt' (owns_lt (h.ps.at (k+7)) x hx)];exact h.l7 k x hx
 ·rcases List.mem_cons.1 hp with rfl|hp
  ·exact if_neg (Nat.lt_irrefl _)
  ·rw [lt' (fr_lt (h.ps.at 0) p hp)];exact h.lf p hp
theorem PX.fewer {w:World} {s:PS} (h:PX w s) {fr:List (Nat×Obj)} (hf:∀ p∈fr,p∈s.fr):PX w { s with fr:=fr }:=by
 obtain ⟨own,h⟩:=h
 refine ⟨own,⟨fun l w' hw'=>?_,h.bw,h.o0,h.l1,h.l2,h.l3,h.l4,h.l5,h.l7,fun p hp=>h.lf p (hf p hp)⟩⟩
 have oldP:=h.ps l w' hw'
 match l,oldP with
 | 0,oldP=>exact fun p hp=>oldP p (hf p hp)
 | 1,oldP=>exact oldP
 | 2,oldP=>exact oldP
 | 3,oldP=>exact oldP
 | 4,oldP=>exact oldP
 | 5,oldP=>exact oldP
 | 6,oldP=>exact oldP
 | n+7,oldP=>exact oldP
theorem PX.frame {w:World} {s:PS} (h:PX w s):∀ p∈s.fr,w.heap[p.1]? = some p.2:=by obtain ⟨o,h⟩:=h;exact h.ps.at 0
theorem ownC_from {w w':World} {g0 n:Nat} {C:List (List (Int×Bool))} (h:OwnC w g0 C C.length) (hn:n≤g0) (h3:∀ ls∈C,ls.length≤3) (hk:∀ x,x<w.heap.size→n≤x→w'.heap[x]? = w.heap[x]?):CacheIn w' (some ⟨g0,0,none⟩) C:=by
 refine cacheIn_of_own (k:=C.length) ?_ lr h3
 obtain ⟨L,G,cp,h1,h2,h4,h5⟩:=h
 exact ⟨L,G,cp,(hk g0 h1.lt hn).trans h1,h2,fun j hj hl=>⟨(h4 j hj hl).1,owns_agree (h4 j hj hl).2 (fun x hx=>hk x (owns_lt (h4 j hj hl).2 x hx) (by have:=owns_ge (h4 j hj hl).2 x hx;omega))⟩,h5⟩
theorem step_appG {ops:Array Oper} {o:Oper} {a:Act} {w:World} {K:Act→World→Prop} {Q:Exit→Act→World→Prop} {E:Prop} (hgd:o.guard=none) (s x:Operand) (t e:TypeId)
  (ho:o.op=.call { callee:=.builtin .append,args:=#[s,x],argTypes:=#[t,t] }) (z:Value) (sz by_:Nat) (ht:Tryz.prog.underlying t=some (.slice e)) (hI:(Tryz.prog.info? e).map (fun i=>(i.zero,i.size,i.bytes))=some (some z,sz,by_)) (hzs:z.cells.size=sz) (hsz:0<sz)
  (base:Nat) (v:Value) (n:Nat) (xs:List Value) (hs:a.eval s=v) (hown:w.ownsRow base e sz v n xs)
  (b m c:Nat) (news:List Value) (hx:a.eval x=.slice (some ⟨b,0,none⟩) m c) (hl:news.length=m * sz) (hrow:∀ j u,news[j]? = some u→w.cell? ⟨b,j,none⟩=some u) (h1:∀ u∈news,u.oneCell'=true) (hm:0<m) (h63:n+m≤maxLen) (hbytes:(n+m) * by_≤140737488355328) (hbase:base≤w.heap.size)
  (h:∀ g cap w',w'.ownsRow base e sz (.slice (some ⟨g,0,none⟩) (n+m) cap) (n+m) (xs++news)→w.grownBy w' v.ownBlock→(v.ownBlock=some g∨g=w.heap.size)→K (a.put o.dst (.slice (some ⟨g,0,none⟩) (n+m) cap)) w') :
  if Region.wanted o (yielded ops a.tmps)=true then Oper.wp Tryz.prog o a w K Q else E:=by
 obtain ⟨i3,hi,hz,hsz',hby⟩:=infoOf hI
 refine step_append_lies w hgd s x t ho base e i3 z sz by_ ht hi hz hsz' hby hzs hsz v n xs hs hown ⟨b,0,none⟩ m c news hx hl (fun j u hu=>?_) h1 hm h63 hbytes hbase w.heap.size rfl (fun g cap w' h1 h2 h3 _=>h g cap w' h1 h2 h3)
 rw [addZ]
 exact hrow j u hu
theorem keepsOthers_below {w w':World} (h:Below w.heap.size w w'):KeepsOthers w w':=
 ⟨h.size,fun k o hk _=>(h.block k (Array.getElem?_eq_some_iff.1 hk).1).trans hk⟩
theorem keepsOthers_grown {w w':World} {row:Option Nat} (h:w.grownBy w' row) (hr:∀ x,row=some x→∃ cur t,w.heap[x]? = some (.cells cur t (0,0))):KeepsOthers w w':=
 ⟨h.size,fun k o hk ho=>(h.block k (Array.getElem?_eq_some_iff.1 hk).1 (fun e=>by
  obtain ⟨cur,t,h1⟩:=hr k e.symm
  rw [hk] at h1
  simp only [Option.some.injEq] at h1
  subst h1
  cases ho)).trans hk⟩
theorem keepsOthers_own {w w':World} {base e sz n:Nat} {v:Value} {xs:List Value} (h:w.grownBy w' v.ownBlock) (ho:w.ownsRow base e sz v n xs):KeepsOthers w w':=
 keepsOthers_grown h (fun x hx=>by obtain ⟨c,hc⟩:=owns_heap ho hx;exact ⟨c,e,hc⟩)
set_option maxHeartbeats 1000000 in
theorem tell_ok (w0:World) (X:Nat→Prop) (base kb:Nat) (D:Dom) (A:DMem) (C:Conf) (B:Mem) (dn tt kd:Int) (j:JobT) (w:World) (h:KO w0 X base kb w D A C B dn) (hl:D.evs.length≤1000000000) :
  Calls Tryz.prog 174 #[.pointer (some ⟨kb,0,none⟩),.int .i64 tt,.int .i64 kd,jv j] w fun e w'=>e=.returned (.tuple #[])∧(∃ a' c',KO w0 X base kb w' ⟨D.jobs,D.rel,D.nxt,D.ins,D.tak,D.out,D.evs++[(tt,kd,j.1,j.2.1)]⟩ ⟨A.aJ,A.aR,A.aI,A.aT,A.aO,a',A.cJ,A.cR,A.cI,A.cT,A.cO,c'⟩ C B dn)∧KeepsOthers w w':=by
 obtain ⟨j0,j1,j2,j3,j4,j5⟩:=j
 dsimp only [jv] at *
 have q1:=below_new w (.cells #[.int .i64 j0,.int .i64 j1,.int .i64 j2,.int .i64 j3,.bool j4,.bool j5] 87)
 have h1:=h.below q1
 have HB1:=hid q1
 have hbs:base≤w.heap.size:=by have:=h.base_kb;have:=h.kb_lt;omega
 clear q1 h
 have c6:=h1.row.cell 6 _ rfl
 have hbA:Below (w.alloc (.cells #[.int .i64 j0,.int .i64 j1,.int .i64 j2,.int .i64 j3,.bool j4,.bool j5] 87)).heap.size (w.alloc (.cells #[.int .i64 j0,.int .i64 j1,.int .i64 j2,.int .i64 j3,.bool j4,.bool j5] 87)) ((w.alloc (.cells #[.int .i64 j0,.int .i64 j1,.int .i64 j2,.int .i64 j3,.bool j4,.bool j5] 87)).alloc (.cells #[.int .i64 tt,.int .i64 kd,.int .i64 j0,.int .i64 j1] 92)).drew:=(below_new _ _).drew
 have HA:=hid (h1.below hbA)
 have HBA:=hid (btrans HB1.out hbA)
 have RE:Hid (RowAt ((w.alloc (.cells #[.int .i64 j0,.int .i64 j1,.int .i64 j2,.int .i64 j3,.bool j4,.bool j5] 87)).alloc (.cells #[.int .i64 tt,.int .i64 kd,.int .i64 j0,.int .i64 j1] 92)).drew (w.heap.size+1) 92 [.int .i64 tt,.int .i64 kd,.int .i64 j0,.int .i64 j1]):=hid (rowAt_new2 (w.alloc (.cells #[.int .i64 j0,.int .i64 j1,.int .i64 j2,.int .i64 j3,.bool j4,.bool j5] 87)) (w.heap.size+1) [.int .i64 tt,.int .i64 kd,.int .i64 j0,.int .i64 j1] 92 (by simp))
 have c6':∀ o,((w.alloc (.cells #[.int .i64 j0,.int .i64 j1,.int .i64 j2,.int .i64 j3,.bool j4,.bool j5] 87)).alloc o).cell? ⟨kb,6,none⟩=some (.slice A.aE D.evs.length A.cE):=fun o=>cell_old o c6
 clear hbA h1
 obtain ⟨aJ,aR,aI,aT,aO,aE,cJ,cR,cI,cT,cO,cE⟩:=A
 dsimp only at *
 go_enter Tryz.func174,Tryz.ntmps174
 go_wp2
 go_region_law (first
  | (refine step_appG (by rfl) _ _ 44 92 (by rfl) _ 4 32 Tryz.underlying44 Tryz.info92x rfl (by omega) base (.slice aE D.evs.length cE) D.evs.length (fE D.evs) (by rfl) HA.out.e (w.heap.size+1) 1 1 (fE [(tt,kd,j0,j1)]) (by rfl) rfl (fun j u hu=>RE.out.cell j u hu) (fE_one _) (by omega) (by simp [maxLen];omega) (by omega) (by simp;omega) ?_;intro g cap w4 hown4 hgrow4 hat4;have r4:RowAt w4 kb 179 _:=(hgrow4.block kb HA.out.kb_lt (fun e=>owns_ne HA.out.e HA.out.row (by decide) kb e.symm rfl)).trans HA.out.row;have e0:=r4.cell 6 _ rfl;have f0:=r4.frozen 6;have HO4:=hid hown4;have HG4:=hid hgrow4;have HT4:=hid hat4;clear hown4 hgrow4 r4 hat4))
 all_goals
  have HE:Hid (KO w0 X base kb (w4.setCell ⟨kb,6,none⟩ (.slice (some ⟨g,0,none⟩) (D.evs.length+1) cap)) ⟨D.jobs,D.rel,D.nxt,D.ins,D.tak,D.out,D.evs++[(tt,kd,j0,j1)]⟩ ⟨aJ,aR,aI,aT,aO,some ⟨g,0,none⟩,cJ,cR,cI,cT,cO,cap⟩ C B dn):=by
   have:=HA.out.told (E:=D.evs++[(tt,kd,j0,j1)]) (a':=some ⟨g,0,none⟩) (c':=cap) HG4.out (by rw [fE_app,List.length_append];exact HO4.out) (fun x hx=>by
    simp only [Value.ownBlock,Option.some.injEq] at hx
    subst hx
    rcases HT4.out with h'|h'
    ·exact .inl h'
    ·exact .inr (by omega))
   rw [List.length_append] at this
   exact hid this
  have HK:Hid (KeepsOthers w (w4.setCell ⟨kb,6,none⟩ (.slice (some ⟨g,0,none⟩) (D.evs.length+1) cap))):=hid (((keepsOthers_below HBA.out).trans (keepsOthers_own HG4.out HA.out.e)).trans (KeepsOthers.setCell _ _ _))
  clear HA HO4 HG4 HT4 c6 c6'
  go_wp2
  go_end0
  exact ⟨rfl,⟨_,_,HE.out⟩,HK.out⟩
theorem dom_told2 {T:List Int} {base:Nat} {w6 w7 wf:World} {A:DMem} {D:Dom} {gI gO m p q bx:Nat} {a7:Option Addr} {c7:Nat} {E:List EvT} (h:DomOwn base w6 A D gI gO m p q)
  (hg:w6.grownBy w7 (Value.slice A.aE D.evs.length A.cE).ownBlock) (ho:w7.ownsRow base 92 4 (.slice a7 E.length c7) E.length (fE E)) (hbx:q≤bx) (hbx2:base≤bx) (hbl:bx<w6.heap.size) {L:List Value} (hrow:RowAt w6 bx 46 L)
  (hT:wf.ownsRow base 3 1 (.slice A.aT T.length A.cT) T.length (ivs T)) (hTl:T.length=D.tak.length) (hk:∀ x,base≤x→x≠bx→some x≠(Value.slice A.aT D.tak.length A.cT).ownBlock→wf.heap[x]? = w7.heap[x]?) (hI:D.ins.length≤9223372036854775807) (hO:D.out.length≤9223372036854775807):DomIn wf { A with aE:=a7,cE:=c7 } { D with evs:=E,tak:=T }:=by
 have hm:=h.mp
 have hbI:=h.bI
 have hbO:=h.bO
 have tk2:∀ x,(Value.slice A.aT D.tak.length A.cT).ownBlock=some x→∃ cur fz,w6.heap[x]? = some (.cells cur 3 fz):=fun x hx=>by
  rcases h.t.2 with ⟨q1,_⟩|⟨g',cap,cur,e1,e2,e3,r⟩
  ·rw [q1] at hx;cases hx
  ·rw [e1] at hx
   simp [Value.ownBlock] at hx
   subst hx
   exact ⟨_,_,e3⟩
 have ag:∀ x,x<w6.heap.size→x≠bx→base≤x→some x≠(Value.slice A.aE D.evs.length A.cE).ownBlock→some x≠(Value.slice A.aT D.tak.length A.cT).ownBlock→wf.heap[x]? = w6.heap[x]? := fun x h1 h2 h3 h4 h5=>(hk x h3 h2 h5).trans (hg.block x h1 h4)
 have ow:∀ {e sz n:Nat} {v:Value} {xs:List Value},w6.ownsRow base e sz v n xs→e≠92→e≠46→(∀ x,v.ownBlock=some x→some x≠(Value.slice A.aT D.tak.length A.cT).ownBlock)→wf.ownsRow base e sz v n xs:=fun o n1 n2 n3=>owns_agree o (fun x hx=>ag x (owns_lt o x hx) (owns_ne o hrow n2 x hx) (owns_ge o x hx) (fun e=>by
  rcases h.e.2 with ⟨q1,_⟩|⟨g',cap,cur,e1,e2,e3,r⟩
  ·rw [q1] at e;cases e
  ·exact owns_ne2 o e3 n1 x hx (by rw [e1] at e;simp [Value.ownBlock] at e;exact e)) (n3 x hx))
 have hrow7:RowAt w7 bx 46 L:=(hg.block bx hbl (fun e=>by
  have:=h.lt bx (.inr (.inr (.inr e.symm)))
  omega)).trans hrow
 have o7:wf.ownsRow base 92 4 (.slice a7 E.length c7) E.length (fE E):=owns_agree ho (fun x hx=>hk x (owns_ge ho x hx) (owns_ne ho hrow7 (by decide) x hx) (fun e=>by
  obtain ⟨cur,fz,hc⟩:=tk2 x e.symm
  have hc7:w7.heap[x]? = some (.cells cur 3 fz):=(hg.block x (Array.getElem?_eq_some_iff.1 hc).1 (fun e'=>by
   rcases h.e.2 with ⟨q1,_⟩|⟨g',cap,cur',e1,e2,e3,r⟩
   ·rw [q1] at e';cases e'
   ·rw [e1] at e'
    simp [Value.ownBlock] at e'
    subst e'
    rw [hc] at e3
    simp at e3)).trans hc
  exact owns_ne2 ho hc7 (by decide) x hx rfl))
 have hneT:∀ x,x=gI∨x=gO∨m≤x→some x≠(Value.slice A.aT D.tak.length A.cT).ownBlock:=fun x hx e=>by
  obtain ⟨cur,fz,hc⟩:=tk2 x e.symm
  rcases hx with rfl|rfl|hx
  ·obtain ⟨cs,v,h1,_⟩:=h.i
   rw [show w6.heap[x]? = _ from h1] at hc
   simp at hc
  ·obtain ⟨cs,v,h1,_⟩:=h.o
   rw [show w6.heap[x]? = _ from h1] at hc
   simp at hc
  ·have:=h.lt x (.inr (.inr (.inl e.symm)))
   omega
 have hne:∀ x,x=gI∨x=gO∨m≤x→some x≠(Value.slice A.aE D.evs.length A.cE).ownBlock:=fun x hx e=>by
  rcases hx with rfl|rfl|hx
  ·obtain ⟨cs,v,h1,_⟩:=h.i
   rcases h.e.2 with ⟨q1,_⟩|⟨g',cap,cur,e1,e2,e3,r⟩
   ·rw [q1] at e;cases e
   ·rw [e1] at e
    simp [Value.ownBlock] at e
    subst e
    rw [show w6.heap[x]? = _ from h1] at e3
    simp at e3
  ·obtain ⟨cs,v,h1,_⟩:=h.o
   rcases h.e.2 with ⟨q1,_⟩|⟨g',cap,cur,e1,e2,e3,r⟩
   ·rw [q1] at e;cases e
   ·rw [e1] at e
    simp [Value.ownBlock] at e
    subst e
    rw [show w6.heap[x]? = _ from h1] at e3
    simp at e3
  ·have:=h.lt x (.inr (.inr (.inr e.symm)))
   omega
 have ri:RingsK wf gI m p D.ins D.ins.length:=h.i.agree (fun x hx=>ag x (by rcases hx with rfl|⟨_,_⟩ <;> omega) (by rcases hx with rfl|⟨_,_⟩ <;> omega) (by rcases hx with rfl|⟨_,_⟩ <;> omega) (hne x (by rcases hx with h'|⟨h1,h2⟩ <;> first|exact .inl h'|exact .inr (.inr (by omega)))) (hneT x (by rcases hx with h'|⟨h1,h2⟩ <;> first|exact .inl h'|exact .inr (.inr (by omega)))))
 have lo:ListsK wf gO p q D.out D.out.length:=h.o.agree (fun x hx=>ag x (by rcases hx with rfl|⟨_,_⟩ <;> omega) (by rcases hx with rfl|⟨_,_⟩ <;> omega) (by rcases hx with rfl|⟨_,_⟩ <;> omega) (hne x (by rcases hx with h'|⟨h1,h2⟩ <;> first|exact .inr (.inl h')|exact .inr (.inr (by omega)))) (hneT x (by rcases hx with h'|⟨h1,h2⟩ <;> first|exact .inr (.inl h')|exact .inr (.inr (by omega)))))
 have j:=owns_in (ow h.j (by decide) (by decide) (fun x hx e=>by
  obtain ⟨cur,fz,hc⟩:=tk2 x e.symm
  exact owns_ne2 h.j hc (by decide) x hx rfl))
 have r:=owns_in (ow h.r (by decide) (by decide) (fun x hx e=>h.rt x hx e.symm))
 have t:=owns_in hT
 have e:=owns_in o7
 exact ⟨jobsIn_of j.1,intsIn_of r.1,by show RingsIn wf A.aI D.ins;rw [h.aI];exact ri.rings,intsIn_of t.1,by show ListsIn wf A.aO D.out;rw [h.aO];exact lo.lists,evsIn_of e.1,j.2.2,r.2.2,hI,t.2.2,hO,e.2.2⟩
end Go.Proofs.YtejhccmclanlmaaGreatDoor
