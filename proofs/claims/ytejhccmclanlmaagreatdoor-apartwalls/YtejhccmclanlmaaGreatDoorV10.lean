/- Zb Zc Zd0 Yd Ye Yf -/
import Derived.Deep.MidRow
import Derived.RangeFuncNested
import Derived.RangeFuncBound
import Derived.RangeFuncCalls
import Derived.RangeFuncLeaves
import Derived.RangeFuncFrom
import Derived.Shelf.Abstract
import Derived.Shelf.RegionOpen
import Derived.OwnWalkIn
import Derived.TacticsInMore
import Derived.LoopNIn
import Derived.LoopIn
import Derived.Sort.QuietIn
import Derived.Sort.CutIn
import Derived.Test.YtejhccmclanlmaaGreatDoorV07
set_option linter.all false
set_option maxRecDepth 100000
set_option maxHeartbeats 8000000
namespace Go.Proofs.YtejhccmclanlmaaGreatDoor
open Go.RowKit Go.Proofs.Tryz
variable {l:Array Bool} {ops:Array Oper} {D:Dom} {L xs:List Value} {B base db g n n0:Nat} {v:Value} {W w w':World} {A:Yk}
theorem Zli (l:List Bool) (i:Nat) (h:l[i]? = some false):(l.set i true).countP (fun b=>!b)+1=l.countP (fun b=>!b):=by
 induction l generalizing i with
 | nil=>simp at h
 | cons x r ih=>
  cases i with
  | zero=>
   simp at h;subst h;simp
  | succ i=>
   have:=ih i (by simpa using h)
   simp only [List.set_cons_succ,List.countP_cons];omega
def Zzk (ops:Array Oper):Bool:=(List.range ops.size).all fun i=>((ops[i]?).map (·.after.all fun e=>decide (e.on<i))).getD true
theorem Zkz (h:Zzk ops=true) {i:Nat} {o:Oper} (ho:ops[i]? = some o):∀ e∈o.after,e.on<i:=by
 intro e he;have hi:i<ops.size:=(Array.getElem?_eq_some_iff.1 ho).1
 have:=List.all_eq_true.1 h i (List.mem_range.2 hi)
 rw [ho] at this;simp only [Option.map_some,Option.getD_some] at this;exact of_decide_eq_true (Array.all_eq_true_iff_forall_mem.1 this e he)
theorem Zir {md:Region.Mode} (hord:Zzk ops=true) (hsz:l.size=ops.size) (hr:Region.ready md ops l=[]):∀ i,i<ops.size→l.getD i false=true:=by
 intro i
 induction i using Nat.strongRecOn with
 | ind i ih=>
  intro hi
  cases hl:l.getD i false with
  | true=>rfl
  | false=>
   exfalso;have a0:i<l.size:=by omega
   have h1:l.getD i true=false:=by simpa [Array.getD_eq_getD_getElem?,a0] using hl
   obtain ⟨o,ho⟩:∃ o,ops[i]? = some o:=⟨_,Array.getElem?_eq_getElem hi⟩
   have:i∈Region.ready md ops l:=mem_ready.2 ⟨h1,o,ho,fun e he _=>ih e.on (Zkz hord ho e he) (by have:=Zkz hord ho e he;omega)⟩
   rw [hr] at this;cases this
theorem Zg4 {P:Program} {md:Region.Mode} {Q:Exit→Act→World→Prop} (R:Array Bool→Act→World→Prop) (hord:Zzk ops=true)
  (hstep:∀ (l:Array Bool) (a:Act) (w:World) (i:Nat) (o:Oper),R l a w→ops[i]? = some o→l.getD i false=false→(∀ e∈o.after,Region.binds md e=true→l.getD e.on false=true)→∀ K':Act→World→Prop,Shut (∀ a w,R (l.setIfInBounds i true) a w→K' a w)→if Region.wanted o (yielded ops a.tmps)=true then Oper.wp P o a w K' Q else K' (a.put o.dst undef) w)
  (hend:∀ (l:Array Bool) (a:Act) (w:World),R l a w→(∀ i,i<ops.size→l.getD i false=true)→Q .normal a w) :
  ∀ (fuel:Nat) (l:Array Bool) (a:Act) (w:World),l.size=ops.size→l.toList.countP (fun b=>!b)≤fuel→R l a w→wpAny P md ops Q fuel l a w:=by
 intro fuel
 induction fuel with
 | zero=>
  intro l a w a1 hc hR;have hr:Region.ready md ops l=[]:=by
   apply List.eq_nil_iff_forall_not_mem.2;intro i hi;obtain ⟨h0,o,ho,_⟩:=mem_ready.1 hi;have a0:i<l.size:=by have:=(Array.getElem?_eq_some_iff.1 ho).1;omega
   have hz:l.toList.countP (fun b=>!b)=0:=by omega
   have:=List.countP_eq_zero.1 hz l[i] (by simp)
   simp [Array.getD_eq_getD_getElem?,a0] at h0;simp [h0] at this
  exact ⟨hr,hend l a w hR (Zir hord a1 hr)⟩
 | succ fuel ih=>
  intro l a w a1 hc hR;refine ⟨fun hr=>hend l a w hR (Zir hord a1 hr),fun i hi=>?_⟩;obtain ⟨h0,o,ho,a2⟩:=mem_ready.1 hi;have a0:i<l.size:=by have:=(Array.getElem?_eq_some_iff.1 ho).1;omega
  have a3:l[i]=false:=by simpa [Array.getD_eq_getD_getElem?,a0] using h0
  have a4:l.getD i false=false:=by simp [Array.getD_eq_getD_getElem?,a0,a3]
  refine wpOp_step ho (fun K' hK=>hstep l a w i o hR ho a4 a2 K' (fun a' w' h'=>hK a' w' (ih _ a' w' (by simpa using a1) ?_ h')))
  have:=Zli l.toList i (by simp [a0,a3])
  rw [Array.toList_setIfInBounds];omega
def Zfb (n0:Nat) (w:World) (v:Value) (n:Nat):Prop:=∃ g,v=.slice (some ⟨g,0,none⟩) n n∧n0≤g∧w.heap[g]? = some (.cells (madeCells #[.slice none 0 0] n) 23 (0,0))
def Zet (n0:Nat) (w:World) (v:Value) (n:Nat):Prop:=∃ g,v=.slice (some ⟨g,0,none⟩) n n∧n0≤g∧w.heap[g]? = some (.cells (madeCells #[.slice none 0 0,.int .i64 0] (n*2)) 90 (0,0))
def Zxs (n0:Nat) (w:World) (v:Value):Prop:=∃ g,v=.pointer (some ⟨g,0,none⟩)∧n0≤g∧Zf w g 46 [.slice none 0 0,.slice none 0 0,.int .i64 0,.slice none 0 0,.slice none 0 0,.slice none 0 0,.slice none 0 0]
theorem Zfb.keep (h:Zfb n0 w v n) (hb:Below w.heap.size w w'):Zfb n0 w' v n:=by
 obtain ⟨g,e,h1,h2⟩:=h;exact ⟨g,e,h1,by rw [hb.block g (Array.getElem?_eq_some_iff.1 h2).1];exact h2⟩
theorem Zet.keep (h:Zet n0 w v n) (hb:Below w.heap.size w w'):Zet n0 w' v n:=by
 obtain ⟨g,e,h1,h2⟩:=h;exact ⟨g,e,h1,by rw [hb.block g (Array.getElem?_eq_some_iff.1 h2).1];exact h2⟩
theorem Zxs.keep (h:Zxs n0 w v) (hb:Below w.heap.size w w'):Zxs n0 w' v:=by
 obtain ⟨g,e,h1,h2⟩:=h;exact ⟨g,e,h1,h2.below hb lr⟩
def upd (x:Nat→Value) (s:Nat) (v:Value):Nat→Value:=fun t=>if t=s then v else x t
def dS:Nat→Nat
 | 0=>8
 | 1=>9
 | 2=>10
 | 3=>11
 | 4=>12
 | 5=>13
 | 6=>14
 | 7=>15
 | 8=>16
 | 9=>17
 | 10=>18
 | 11=>19
 | 12=>20
 | 13=>21
 | 14=>22
 | 15=>23
 | 16=>24
 | 17=>25
 | 18=>26
 | 19=>27
 | 20=>28
 | 21=>29
 | 22=>30
 | 23=>3
 | _=>99
def dO:Nat→List Nat
 | 14=>[5,14]
 | 22=>[2,5,11,14,18,21,22]
 | i=>[i]
def FC (D:Dom) (A:Yk) (n0 db:Nat) (i:Nat) (x:Nat→Value) (w:World):Prop:=
 match i with
 | 0=>x 8=.pointer (some ⟨db,0,none⟩)
 | 1=>x 9=.slice A.aJ D.jobs.length A.cJ
 | 2=>w.ownsRow n0 87 6 (x 10) D.jobs.length (fJ D.jobs)
 | 3=>x 11=.pointer (some ⟨db,1,none⟩)
 | 4=>x 12=.slice A.aR D.rel.length A.cR
 | 5=>w.ownsRow n0 3 1 (x 13) D.rel.length (ivs D.rel)
 | 6=>x 14=.pointer (some ⟨db,2,none⟩)
 | 7=>x 15=.int .i64 D.nxt
 | 8=>x 16=.pointer (some ⟨db,3,none⟩)
 | 9=>x 17=.slice A.aI D.ins.length A.cI
 | 10=>x 18=.int .i64 D.ins.length
 | 11=>Zet n0 w (x 19) D.ins.length
 | 12=>x 20=.pointer (some ⟨db,4,none⟩)
 | 13=>x 21=.slice A.aT D.tak.length A.cT
 | 14=>w.ownsRow n0 3 1 (x 22) D.tak.length (ivs D.tak)∧∀ g,(x 13).ownBlock=some g→(x 22).ownBlock≠some g
 | 15=>x 23=.pointer (some ⟨db,5,none⟩)
 | 16=>x 24=.slice A.aO D.out.length A.cO
 | 17=>x 25=.int .i64 D.out.length
 | 18=>Zfb n0 w (x 26) D.out.length
 | 19=>x 27=.pointer (some ⟨db,6,none⟩)
 | 20=>x 28=.slice A.aE D.evs.length A.cE
 | 21=>w.ownsRow n0 92 4 (x 29) D.evs.length (fE D.evs)
 | 22=>x 30=.agg #[x 10,x 13,.int .i64 D.nxt,x 19,x 22,x 26,x 29]
 | 23=>Zxs n0 w (x 3)
 | _=>True
def AF (D:Dom) (A:Yk) (db rb:Nat) (x:Nat→Value):Act:={tmps:=#[dv D A,.pointer (some ⟨db,0,none⟩),.pointer (some ⟨rb,0,none⟩),x 3,undef,undef,undef,undef,x 8,x 9,x 10,x 11,x 12,x 13,x 14,x 15,x 16,x 17,x 18,x 19,x 20,x 21,x 22,x 23,x 24,x 25,x 26,x 27,x 28,x 29,x 30,undef,undef,undef,undef,undef,undef,undef,undef,undef,undef,undef,undef,undef,undef,undef,undef,undef,undef,undef,undef,undef,undef,undef,undef,undef,undef,undef,undef,undef,undef,undef,undef,undef,undef,undef],defers:=[]}
theorem Zvw {x x':Nat→Value} (hb:Below w.heap.size w w') (i:Nat) (hx:∀ j∈dO i,x' (dS j)=x (dS j)) (h:FC D A n0 db i x w):FC D A n0 db i x' w':=by
 match i with
 | 0=>exact (hx 0 (by simp [dO])).trans h
 | 1=>exact (hx 1 (by simp [dO])).trans h
 | 2=>have e:x' 10=x 10:=hx 2 (by simp [dO]);show World.ownsRow _ _ _ _ (x' 10) _ _;rw [e];exact Zy h hb
 | 3=>exact (hx 3 (by simp [dO])).trans h
 | 4=>exact (hx 4 (by simp [dO])).trans h
 | 5=>have e:x' 13=x 13:=hx 5 (by simp [dO]);show World.ownsRow _ _ _ _ (x' 13) _ _;rw [e];exact Zy h hb
 | 6=>exact (hx 6 (by simp [dO])).trans h
 | 7=>exact (hx 7 (by simp [dO])).trans h
 | 8=>exact (hx 8 (by simp [dO])).trans h
 | 9=>exact (hx 9 (by simp [dO])).trans h
 | 10=>exact (hx 10 (by simp [dO])).trans h
 | 11=>have e:x' 19=x 19:=hx 11 (by simp [dO]);show Zet _ _ (x' 19) _;rw [e];exact Zet.keep h hb
 | 12=>exact (hx 12 (by simp [dO])).trans h
 | 13=>exact (hx 13 (by simp [dO])).trans h
 | 14=>
  have e:x' 22=x 22:=hx 14 (by simp [dO]);have e2:x' 13=x 13:=hx 5 (by simp [dO]);show World.ownsRow _ _ _ _ (x' 22) _ _∧∀ g,(x' 13).ownBlock=some g→(x' 22).ownBlock≠some g
  rw [e,e2];exact ⟨Zy h.1 hb,h.2⟩
 | 15=>exact (hx 15 (by simp [dO])).trans h
 | 16=>exact (hx 16 (by simp [dO])).trans h
 | 17=>exact (hx 17 (by simp [dO])).trans h
 | 18=>have e:x' 26=x 26:=hx 18 (by simp [dO]);show Zfb _ _ (x' 26) _;rw [e];exact Zfb.keep h hb
 | 19=>exact (hx 19 (by simp [dO])).trans h
 | 20=>exact (hx 20 (by simp [dO])).trans h
 | 21=>have e:x' 29=x 29:=hx 21 (by simp [dO]);show World.ownsRow _ _ _ _ (x' 29) _ _;rw [e];exact Zy h hb
 | 22=>
  have e0:x' 30=x 30:=hx 22 (by simp [dO]);have e1:x' 10=x 10:=hx 2 (by simp [dO]);have e2:x' 13=x 13:=hx 5 (by simp [dO]);have e3:x' 19=x 19:=hx 11 (by simp [dO]);have e4:x' 22=x 22:=hx 14 (by simp [dO]);have e5:x' 26=x 26:=hx 18 (by simp [dO]);have e6:x' 29=x 29:=hx 21 (by simp [dO]);show x' 30=.agg #[x' 10,x' 13,.int .i64 D.nxt,x' 19,x' 22,x' 26,x' 29]
  rw [e0,e1,e2,e3,e4,e5,e6];exact h
 | 23=>have e:x' 3=x 3:=hx 23 (by simp [dO]);show Zxs _ _ (x' 3);rw [e];exact Zxs.keep h hb
 | n+24=>trivial
theorem Zym:∀ i,i<24→∀ j,j<24→i≠j→dS i≠dS j:=by decide
theorem Yab:∀ i,i<24→∀ j∈dO i,j<24:=by decide
structure RP (D:Dom) (A:Yk) (W:World) (db:Nat) (l:Array Bool) (x:Nat→Value) (w:World):Prop where
 sz:l.size=25
 b:Below W.heap.size W w
 st:l.getD 24 false=false
 l14:l.getD 14 false=true→l.getD 5 false=true
 l22:l.getD 22 false=true→l.getD 2 false=true∧l.getD 5 false=true∧l.getD 11 false=true∧l.getD 14 false=true∧l.getD 18 false=true∧l.getD 21 false=true
 fc:∀ i,l.getD i false=true→FC D A W.heap.size db i x w
theorem Qv {i:Nat} (h:i<l.size):(l.setIfInBounds i true).getD i false=true:=by
 simp [Array.getD_eq_getD_getElem?,h]
theorem Qa {x:Nat→Value} (i:Nat) (v:Value) (h:RP D A W db l x w) (hi:i<24) (hl:l.getD i false=false) (hb:Below w.heap.size w w')
  (hF:FC D A W.heap.size db i (upd x (dS i) v) w') (h14:i=14→l.getD 5 false=true) (h22:i=22→l.getD 2 false=true∧l.getD 5 false=true∧l.getD 11 false=true∧l.getD 14 false=true∧l.getD 18 false=true∧l.getD 21 false=true) :
  RP D A W db (l.setIfInBounds i true) (upd x (dS i) v) w':=by
 have up:∀ {j},l.getD j false=true→(l.setIfInBounds i true).getD j false=true:=fun hj=>getD_set_true hj
 have dn:∀ {j},j≠i→(l.setIfInBounds i true).getD j false=true→l.getD j false=true:=fun hne hj=>by rw [getD_set_ne false (Ne.symm hne)] at hj;exact hj
 refine ⟨by simpa using h.sz,Zb h.b hb,?_,?_,?_,?_⟩
 ·rw [getD_set_ne false (by omega)];exact h.st
 ·intro hj
  by_cases e:i=14
  ·exact up (h14 e)
  ·exact up (h.l14 (dn (Ne.symm e) hj))
 ·intro hj
  by_cases e:i=22
  ·obtain ⟨a1,a2,a3,a4,a5,a6⟩:=h22 e
   exact ⟨up a1,up a2,up a3,up a4,up a5,up a6⟩
  ·obtain ⟨a1,a2,a3,a4,a5,a6⟩:=h.l22 (dn (Ne.symm e) hj)
   exact ⟨up a1,up a2,up a3,up a4,up a5,up a6⟩
 ·intro j hj
  by_cases e:j=i
  ·subst e;exact hF
  ·have a0:=dn e hj
   have a9:j<25:=by
    rcases Nat.lt_or_ge j 25 with h'|h'
    ·exact h'
    ·have:l.size≤j:=by rw [h.sz];exact h'
     simp [Array.getD_eq_getD_getElem?,Array.getElem?_eq_none this] at a0
   have aa:j≠24:=fun e=>by rw [e,h.st] at a0;cases a0
   refine Zvw hb j (fun k hk=>?_) (h.fc j a0);have a7:=Yab j (by omega) k hk;have a8:l.getD k false=true:=by
    have ab:j=14∨j=22∨(j≠14∧j≠22):=by omega
    rcases ab with rfl|rfl|⟨n1,n2⟩
    ·simp only [dO,List.mem_cons,List.not_mem_nil,or_false] at hk
     rcases hk with rfl|rfl
     ·exact h.l14 a0
     ·exact a0
    ·obtain ⟨a1,a2,a3,a4,a5,a6⟩:=h.l22 a0
     simp only [dO,List.mem_cons,List.not_mem_nil,or_false] at hk;rcases hk with rfl|rfl|rfl|rfl|rfl|rfl|rfl<;>assumption
    ·have:dO j=[j]:=by unfold dO;split<;>simp_all
     rw [this] at hk;simp at hk;subst hk;exact a0
   have hne:dS k≠dS i:=Zym k a7 i hi (fun e=>by rw [e,hl] at a8;cases a8);simp [upd,hne]
theorem Zn {o:Oper} (h:∀ e∈o.after,Region.binds .any e=true→l.getD e.on false=true) (k:Nat) (hk:(o.after.any fun e=>Region.binds .any e&&e.on==k)=true):l.getD k false=true:=by
 obtain ⟨i,hi,he⟩:=Array.any_eq_true.1 hk;simp only [Bool.and_eq_true,beq_iff_eq] at he
 have:=h o.after[i] (Array.getElem_mem hi) he.1
 rwa [he.2] at this
theorem Zt {e sz:Nat} (h:w.ownsRow base e sz v n xs):∀ g,v.ownBlock=some g→g<w.heap.size:=fun g hg=>(h.lt g hg).2
theorem Zv {e sz:Nat} (h:w.ownsRow base e sz v n xs):∀ g,v.ownBlock=some g→base≤g:=fun g hg=>(h.lt g hg).1
theorem Y6 (g:Nat):∀ (vs:List Value) (o:Nat) (w:World) (k:Nat),k≠g→(w.setCells g o vs).heap[k]? = w.heap[k]?
 | [],_,_,_,_=>rfl
 | v::vs,o,w,k,h=>(Y6 g vs (o+1) (w.setCell ⟨g,o,none⟩ v) k h).trans (Below.heap_setCell _ _ _ k (fun e=>h e))
theorem Zjr {o:Nat} {xs:Array Value} {ty:TypeId} {v':Value} (h:W.heap[B]? = some (.cells xs ty (0,0))):(W.setCell ⟨B,o,none⟩ v').heap[B]? = some (.cells (xs.setIfInBounds o v') ty (0,0)):=by
 obtain ⟨a0,hk⟩:=Array.getElem?_eq_some_iff.1 h;show (W.heap.modify B _)[B]? = _
 rw [Array.getElem?_eq_getElem (by rw [Array.size_modify];exact a0),Array.getElem_modify_self,hk];rfl
theorem Jc {t:TypeId}:∀ (vs pre post:List Value) (w:World),w.heap[g]? = some (.cells (pre++post).toArray t (0,0))→post.length=vs.length→(w.setCells g pre.length vs).heap[g]? = some (.cells (pre++vs).toArray t (0,0))
 | [],pre,post,w,h,hl=>by
  have:post=[]:=List.length_eq_zero_iff.1 hl
  subst this;exact h
 | v::vs,pre,[],w,h,hl=>by simp at hl
 | v::vs,pre,p::post,w,h,hl=>by
  have h1:=Zjr (o:=pre.length) (v':=v) h;have e:(pre++p::post).toArray.setIfInBounds pre.length v=((pre++[v])++post).toArray:=by simp
  rw [e] at h1;have h2:=Jc vs (pre++[v]) post (w.setCell ⟨g,pre.length,none⟩ v) h1 (by simpa using hl);simpa [World.setCells] using h2
theorem Zc1 {t:TypeId} (h:Zf w g t L):w.there g 0 L.length:=by
 intro j hj;rw [Nat.zero_add];exact ⟨by rw [h.cell j L[j] (by simp [hj])];rfl,h.frozen j⟩
theorem Qq {a:World} (h:Below B a w) (g:Nat) (hg:B≤g):∀ (vs:List Value) (o:Nat),Below B a (w.setCells g o vs):=by
 intro vs
 induction vs generalizing w with
 | nil=>intro o;exact h
 | cons v vs ih=>intro o;exact ih (h.setCell (p:=⟨g,o,none⟩) hg v) (o+1)
theorem Zi {e sz:Nat} (h:w.ownsRow base e sz v n xs) (hk:∀ k,v.ownBlock=some k→w'.heap[k]? = w.heap[k]?):w'.ownsRow base e sz v n xs:=by
 refine ⟨h.1,?_⟩;rcases h.2 with q|⟨g,a0,a1,e1,e2,e3,r⟩
 ·exact .inl q
 ·exact .inr ⟨g,a0,a1,e1,e2,by rw [hk g (by rw [e1];rfl)];exact e3,r⟩
theorem Yi {e sz t:Nat} (h:w.ownsRow base e sz v n xs) (hr:Zf w g t L) (hne:e≠t):∀ k,v.ownBlock=some k→k≠g:=by
 intro k hk e0;subst e0;rcases h.2 with ⟨q,_⟩|⟨g',a0,a1,e1,e2,e3,r⟩
 ·rw [q] at hk;cases hk
 ·rw [e1] at hk
  simp only [Value.ownBlock,Option.some.injEq] at hk;subst hk;rw [show w.heap[g']? = _ from hr] at e3;simp at e3;exact hne e3.2.symm
theorem Zfw {P:Program} {o:Oper} {a:Act} {w:World} {K:Act→World→Prop} {Q:Exit→Act→World→Prop} {v:Value}
  (hrun:(execOp a.eval o).run P w=.ok (.value v) w) (h:K (a.put o.dst v) w):Oper.wp P o a w K Q:=by
 unfold Oper.wp;rw [hrun];exact h
theorem Zw5 (h:l.size=25∧∀ i,i<24→l.getD i false=true):∀ i,i<25→(l.setIfInBounds 24 true).getD i false=true:=by
 intro i hi;by_cases e:i=24
 ·subst e;exact Qv (by omega)
 ·exact getD_set_true (h.2 i (by omega))
theorem Zxy {x:Nat→Value} {o:Oper} (h:RP D A W db l x w) (hdep:∀ e∈o.after,Region.binds .any e=true→l.getD e.on false=true) (hk:((List.range 24).all fun k=>o.after.any fun e=>Region.binds .any e&&e.on==k)=true:=by kernel_rfl):l.size=25∧∀ i,i<24→l.getD i false=true:=
 ⟨h.sz,fun i hi=>Zn hdep i (List.all_eq_true.1 hk i (List.mem_range.2 hi))⟩
structure DC (D:Dom) (W:World) (x:Nat→Value) (w:World) (g:Nat):Prop where
 b:Below W.heap.size W w
 e:x 3=.pointer (some ⟨g,0,none⟩)
 hg:W.heap.size≤g
 box:Zf w g 46 [x 10,x 13,.int .i64 D.nxt,x 19,x 22,x 26,x 29]
 j:w.ownsRow W.heap.size 87 6 (x 10) D.jobs.length (fJ D.jobs)
 r:w.ownsRow W.heap.size 3 1 (x 13) D.rel.length (ivs D.rel)
 i:Zet W.heap.size w (x 19) D.ins.length
 t:w.ownsRow W.heap.size 3 1 (x 22) D.tak.length (ivs D.tak)
 rt:∀ g,(x 13).ownBlock=some g→(x 22).ownBlock≠some g
 o:Zfb W.heap.size w (x 26) D.out.length
 ev:w.ownsRow W.heap.size 92 4 (x 29) D.evs.length (fE D.evs)
theorem Tryz.info90x:(prog.info? 90).map (fun i=>(i.zero,i.size,i.bytes))=some (some (.agg #[.slice none 0 0,.int .i64 0]),2,32):=by kernel_rfl
theorem Tryz.info23x:(prog.info? 23).map (fun i=>(i.zero,i.size,i.bytes))=some (some (.slice none 0 0),1,24):=by kernel_rfl
theorem Ziw (n:Nat) (h:n≤1000000000000) (w:World):(Instr.makeSlice 42 (.int .i64 (n:Int)) (.int .i64 (n:Int))).run prog w=.ok (.slice (some ⟨w.heap.size,0,none⟩) n n) (w.alloc (.cells (madeCells #[.slice none 0 0,.int .i64 0] (n*2)) 90)):=by
 obtain ⟨i,hi,hz,hs,hb⟩:=Zbk Tryz.info90x
 have:=run_make (P:=prog) w 42 90 i _ underlying42 hi hz .i64 .i64 n n (by omega) (by omega) (by rw [hb];omega) (by omega)
 rw [hs] at this;simp only [show (Value.agg #[Value.slice none 0 0,Value.int IntKind.i64 0]).cells=#[Value.slice none 0 0,Value.int IntKind.i64 0] from rfl,Int.toNat_natCast] at this;exact this
theorem Zfa (n:Nat) (h:n≤1000000000000) (w:World):(Instr.makeSlice 43 (.int .i64 (n:Int)) (.int .i64 (n:Int))).run prog w=.ok (.slice (some ⟨w.heap.size,0,none⟩) n n) (w.alloc (.cells (madeCells #[.slice none 0 0] n) 23)):=
 run_make_row' (P:=prog) 43 23 (.slice none 0 0) 24 underlying43 Tryz.info23x rfl .i64 .i64 n (by omega) (by omega) w
def Zex (C:Zm) (D:Dom) (i:Nat):Int:=ckR (D.ins.getD i ([],0)).1 (D.ins.getD i ([],0)).2 (C.ch.getD i (0,0,0)).2.2
def Zaw (C:Zm) (D:Dom):Int:=fe D.ins.length (Zex C D)
theorem Zls (kb:Nat) (D:Dom) (A:Yk) (C:Zm) (B:Mem) (dn:Int) (w:World) (hK:Jf w kb D A C B dn) (hn:D.ins.length=C.ch.length):
  Calls prog 94 #[.pointer (some ⟨kb,0,none⟩)] w fun e w'=>e=.returned (.int .i64 (Zaw C D))∧Below w.heap.size w w':=by
 have HK:=hid hK;have HN:=hid hn;have c3:=hK.row.cell 3 _ rfl;have ac:=hK.row.cell 14 _ rfl;have lI:=hK.dom.lI;have af:=hK.row.lt;clear hK hn;obtain ⟨aJ,aR,aI,aT,aO,aE,cJ,cR,cI,cT,cO,cE⟩:=A;obtain ⟨a5,a6,a7,a8,c5,c6,c7,c8⟩:=B;dsimp only at *
 go_enter func94,ntmps94;go_wp2;go_loopw [12] (fun i wr=>∃ k:Nat,k≤D.ins.length∧i=.int .i64 k∧Below w.heap.size w wr∧∀ j,j<k→Zex C D j=0) (fun i _=>D.ins.length-(intOf i).toNat)
 case atStart=>exact ⟨0,zl,rfl,br,by omega⟩
 case round=>
  obtain ⟨k,hk,rfl,a0,a9⟩:=hrel;have a4:=hid a9;clear a9;by_cases hlt:k<D.ins.length
  ·have aa:k<C.ch.length:=by have:=HN.out;omega
   obtain ⟨b1,o1,a1,k1,rfl,p0,p1,p2,p3,p4⟩:=(HK.out.dom.keep a0).ins k hlt;obtain ⟨b2,o2,rfl,q0,q1,q2⟩:=(HK.out.con.keep a0).ch k aa;have HV:Hid (Zex C D k=ckR D.ins[k].1 D.ins[k].2 C.ch[k].2.2):=hid (by simp [Zex,hlt,aa]);have a2:=Zg a0 ac lr;have ag:(k:Int)<(D.ins.length:Int):=by omega
   have ah:(k:Int)<(C.ch.length:Int):=by omega
   have ai:(0:Int)≤(k:Int):=by omega
   generalize D.ins[k].1=V at *
   generalize D.ins[k].2=l at *
   generalize C.ch[k].1=z0 at *
   generalize C.ch[k].2.1=z1 at *
   generalize C.ch[k].2.2=z2 at *
   have q:=Za wr (.cells #[.slice a1 V.length k1,.int .i64 l] 90);have P2:=hid (p2.keep q);have ad:=hid a0;have r0:=Zg q a2 lr;have r1:=Zg q q2 lr;have aj:=a0.size;generalize hW:wr.alloc (.cells #[.slice a1 V.length k1,.int .i64 l] 90)=W at *
   have HW:=hid hW;have s0:W.cell? ⟨wr.heap.size,0,none⟩=some (.slice a1 V.length k1):=by rw [← hW];simp
   have s1:W.cell? ⟨wr.heap.size,1,none⟩=some (.int .i64 l):=by rw [← hW];simp
   clear hW;have HS:Hid (∀ w',Below W.heap.size W w'→w'.cell? ⟨wr.heap.size,0,none⟩=some (.slice a1 V.length k1)∧w'.cell? ⟨wr.heap.size,1,none⟩=some (.int .i64 l)∧w'.cell? ⟨kb,14,none⟩=some (.slice (some ⟨b2,o2,none⟩) C.ch.length c7)∧w'.cell? ⟨b2,o2+k*3+2,none⟩=some (.int .i64 z2)):=hid fun w' hb=>⟨Zg hb s0 lr,Zg hb s1 lr,Zg hb r0 lr,Zg hb r1 lr⟩
   have a3:Below W.heap.size W W.drew:=br.drew;go_wp2_with fail;rw [HW.out];go_region_held3 (fun w'=>w'.cell? ⟨wr.heap.size,0,none⟩=some (.slice a1 V.length k1)∧w'.cell? ⟨wr.heap.size,1,none⟩=some (.int .i64 l)∧w'.cell? ⟨kb,14,none⟩=some (.slice (some ⟨b2,o2,none⟩) C.ch.length c7)∧w'.cell? ⟨b2,o2+k*3+2,none⟩=some (.int .i64 z2))
    (first|exact HS.out _ hB3|exact HS.out _ a3|go_keep)
    (first|(go_at_call 129;refine (Jg a1 V k1 l z2 _ (P2.out.keep a3) p4).mono ?_;rintro e w3 ⟨rfl,ae⟩;have hB3:=Zb a3 ae))
   have ab:=hid (Zb ad (Zb q hB3));clear HS hB3 a3 s0 s1 r0 r1 q p0 p1 q0 q1 q2 a2 a0 p2;by_cases h0:ckR V l z2=0
   ·have H0:Hid (Zex C D k=0):=hid (by rw [HV.out,h0])
    rw [h0];clear h0;go_wp2;go_roundw
    case rel=>
     refine ⟨k+1,by omega,by go_num,ab.out,fun j hj=>?_⟩;by_cases e:j=k
     ·subst e;exact H0.out
     ·exact a4.out j (by omega)
    case measure=>simp [intOf];omega
   ·have HE:Hid (Zaw C D=ckR V l z2):=hid (by rw [Zaw,Zbe _ k _ hlt (by rw [HV.out];exact h0) (fun j hj=>a4.out j hj),HV.out])
    have hx:(ckR V l z2 != 0)=true:=by simp [h0]
    clear h0 HV;generalize ckR V l z2=q at *
    go_wp2;go_ret;exact ⟨Zh HE.out.symm,ab.out⟩
  ·go_wp2
   go_ret;exact ⟨Zh (by rw [Zaw];exact (Qt _ _ (fun j hj=>a4.out j (by omega))).symm),a0⟩
theorem Zgh (kb:Nat) (D:Dom) (A:Yk) (C:Zm) (B:Mem) (dn:Int) (w:World) (hK:Jf w kb D A C B dn):
  Calls prog 91 #[.pointer (some ⟨kb,0,none⟩)] w fun e w'=>e=.returned (.int .i64 (Zj7 C D))∧Below w.heap.size w w':=by
 have k1:=hK.row.cell 1 _ rfl;have k3:=hK.row.cell 3 _ rfl;have k4:=hK.row.cell 4 _ rfl;have k5:=hK.row.cell 5 _ rfl;have kd:=hK.row.cell 13 _ rfl;have ke:=hK.row.cell 14 _ rfl;have kf:=hK.row.cell 15 _ rfl;have l1:=hK.dom.lR;have l3:=hK.dom.lI;have l4:=hK.dom.lT;have l5:=hK.dom.lO;have l6:=hK.con.l6;have l7:=hK.con.l7;have l8:=hK.con.l8;clear hK;have HE:Hid (∀ b1 b2 b3 b4:Bool,((D.rel.length:Int) != C.ta.length)=b1→((D.ins.length:Int) != C.ch.length)=b2→((D.out.length:Int) != C.ch.length)=b3→((D.tak.length:Int) != C.ow.length)=b4→Zj7 C D=if b1||b2||b3||b4 then 1 else 0):=hid (by
  rintro b1 b2 b3 b4 rfl rfl rfl rfl;unfold Zj7;by_cases h:D.rel.length=C.ta.length∧D.ins.length=C.ch.length∧D.out.length=C.ch.length∧D.tak.length=C.ow.length
  ·obtain ⟨h1,h2,h3,h4⟩:=h
   simp [h1,h2,h3,h4]
  ·rw [if_neg h,if_pos]
   simp only [Bool.or_eq_true,bne_iff_ne,ne_eq,Int.ofNat_inj]
   omega)
 cases h1:((D.rel.length:Int) != C.ta.length)<;>cases h2:((D.ins.length:Int) != C.ch.length)<;>cases h3:((D.out.length:Int) != C.ch.length)<;>cases h4:((D.tak.length:Int) != C.ow.length)
 all_goals
  have HX:=hid (HE.out _ _ _ _ h1 h2 h3 h4);clear HE;go_enter func91,ntmps91;go_wp2;go_quiet (fail)
  go_wp2;go_ret;exact ⟨Zh (by rw [HX.out];rfl),below_drewN br _⟩
end Go.Proofs.YtejhccmclanlmaaGreatDoor
namespace Go.Proofs.YtejhccmclanlmaaGreatDoor
open Go.RowKit Go.Shelf Go.Proofs.Tryz
attribute [local go_sem] Oper.semAt_some
abbrev NT:=Nat×(Int×Int×Int×Int)
def Zua (x:NT):Array Value:=#[.int .i64 (x.1:Int),.agg #[.int .i64 x.2.1,.int .i64 x.2.2.1,.int .i64 x.2.2.2.1,.int .i64 x.2.2.2.2]]
def Za0 (C:Zm) (dn:Int) (k:Nat):List NT:=(List.range k).filterMap fun i=>if (C.ta.getD i (0,0,0,0)).1=dn then some (i,C.ta.getD i (0,0,0,0)) else none
theorem Zed (C:Zm) (dn:Int) (k:Nat):Za0 C dn (k+1)=Za0 C dn k++(if (C.ta.getD k (0,0,0,0)).1=dn then [(k,C.ta.getD k (0,0,0,0))] else []):=by
 simp only [Za0,List.range_succ,List.filterMap_append,List.filterMap_cons,List.filterMap_nil]
 split<;>simp_all
theorem Zq1 (C:Zm) (dn:Int) (k:Nat):(Za0 C dn k).length≤k:=by
 have:=List.length_filterMap_le (fun i=>if (C.ta.getD i (0,0,0,0)).1=dn then some (i,C.ta.getD i (0,0,0,0)) else none) (List.range k)
 simpa [Za0] using this
theorem Zg9 {e:Ending} {A B:Prop} (h:(e=.returned (.bool true)∧A)∨(e=.returned (.bool false)∧B)):∃ r:Bool,e=.returned (.bool r)∧(r=true→A)∧(r=false→B):=by
 rcases h with ⟨rfl,h⟩|⟨rfl,h⟩
 ·exact ⟨true,rfl,fun _=>h,fun e=>(by cases e)⟩
 ·exact ⟨false,rfl,fun e=>(by cases e),fun _=>h⟩
theorem Zsr (n:Nat) (hn:1≤n) (l Bk kb n₀:Nat) (C:Zm) (a8:Option Addr) (c8:Nat) (dn:Int) (J Jx:List NT→World→Prop) (hkb:kb<n₀) (hBk:Bk<n₀) (hln:C.ta.length≤9223372036854775807)
  (hY:∀ pre x W,J pre W→pre.length<C.ta.length→YieldAt Fence.wide (n-1) prog l (Zua x) W fun e W'=>
   (e=.returned (.bool true)∧J (pre++[x]) W'∧Below n₀ W W')∨(e=.returned (.bool false)∧Jx (pre++[x]) W'))
  (hJa:∀ pre W o,J pre W→J pre (W.alloc o)) (hJd:∀ pre W,J pre W→J pre W.drew)
  (W:World) (hB:W.cell? ⟨Bk,0,none⟩=some (.pointer (some ⟨kb,0,none⟩))) (h8:W.cell? ⟨kb,15,none⟩=some (.slice a8 C.ta.length c8)) (h16:W.cell? ⟨kb,16,none⟩=some (.int .i64 dn)) (hT:Jb W a8 C.ta) (ha8:∀ b o,a8=some ⟨b,o,none⟩→0<C.ta.length→b<n₀) (hsz:n₀≤W.heap.size) (h0:J [] W) :
  CallsIn Fence.wide n prog 173 #[.func (.yield l) #[] #[],.pointer (some ⟨Bk,0,none⟩)] W fun e W'=>(∃ v,e=.returned v) ∧
   ((∃ ys,ys=Za0 C dn C.ta.length∧J ys W')∨(∃ pre,(∃ k,k≤C.ta.length∧pre=Za0 C dn k)∧Jx pre W')):=by
 have a4:prog.follows Departure.mixedOrders=true:=by kernel_rfl
 refine callsIn_of_wp func173 rfl trivial ?_ rfl;simp only [ntmps173,List.size_toArray,List.length_cons,List.length_nil,Nat.reduceAdd,Nat.reduceSub,Array.replicate_succ,Array.replicate_zero,List.push_toArray,List.append_toArray,List.nil_append,List.cons_append];gi_wp2;gi_loopw [11] (fun i wr=>∃ k:Nat,k≤C.ta.length∧i=.int .i64 k∧J (Za0 C dn k) wr∧Below n₀ W wr)
  (fun i _=>C.ta.length-(intOf i).toNat)
 case atStart=>exact ⟨0,zl,rfl,h0,br⟩
 case round=>
  obtain ⟨k,hk,rfl,a5,a0⟩:=hrel;have HJ:=hid a5;have HX:=hid a0;by_cases hlt:k<C.ta.length
  ·obtain ⟨b,o,rfl,p0,p1,p2,p3⟩:=hT k hlt
   have hb:=ha8 b o rfl (by omega);have ac:=(a0.cell (p:=⟨b,o+k*4,none⟩) hb).trans p0;have ad:=(a0.cell (p:=⟨b,o+k*4+1,none⟩) hb).trans p1;have ae:=(a0.cell (p:=⟨b,o+k*4+2,none⟩) hb).trans p2;have af:=(a0.cell (p:=⟨b,o+k*4+3,none⟩) hb).trans p3;have a7:=(a0.cell (p:=⟨Bk,0,none⟩) hBk).trans hB;have a1:=(a0.cell (p:=⟨kb,16,none⟩) hkb).trans h16;have ag:(k:Int)<(C.ta.length:Int):=by omega
   have ah:(0:Int)≤(k:Int):=by omega
   clear a5 a0;have HT:Hid (C.ta.getD k (0,0,0,0)=C.ta[k]):=hid (by simp [hlt]);have HP:=hid (Zq1 C dn k);generalize C.ta[k]=tk at *
   obtain ⟨t0,t1,t2,t3⟩:=tk;dsimp only at *
   have q1:Below n₀ wr (wr.alloc (.cells #[.int .i64 t0,.int .i64 t1,.int .i64 t2,.int .i64 t3] 108)).drew:=(br.alloc (by have:=HX.out.size;omega) _).drew;have ai:=Zl (.cells #[.int .i64 t0,.int .i64 t1,.int .i64 t2,.int .i64 t3] 108) a7;have a9:=Zl (.cells #[.int .i64 t0,.int .i64 t1,.int .i64 t2,.int .i64 t3] 108) a1;by_cases hd:t0=dn
   ·subst hd
    have HO:Hid (Za0 C t0 (k+1)=Za0 C t0 k++[(k,(t0,t1,t2,t3))]):=hid (by rw [Zed,HT.out,if_pos rfl]);obtain ⟨fn,aa,a2,ab,hy,hR⟩:=hY (Za0 C t0 k) (k,(t0,t1,t2,t3)) (wr.alloc (.cells #[.int .i64 t0,.int .i64 t1,.int .i64 t2,.int .i64 t3] 108)).drew (hJd _ _ (hJa _ _ _ HJ)) (by have:=HP.out;omega);dsimp only [Zua] at hy;gi_wp2;gi_cut [29] from 16 (fun t wx=>∃ r:Bool,t=.bool (!r)∧(r=true→J (Za0 C t0 (k+1)) wx∧Below n₀ wr wx)∧(r=false→Jx (Za0 C t0 (k+1)) wx))
    case first=>
     gi_region_with_o (refine hR.mono ?_;intro e W3 a6;obtain ⟨r,rfl,hr⟩:=Zg9 a6;have a3:=hid hr;clear a6 hr)
     all_goals
      gi_wp2;go_meet
      case rel=>exact ⟨r,by cases r<;>rfl,fun e=>by rw [HO.out];exact ⟨(a3.out.1 e).1,q1.trans (a3.out.1 e).2⟩,fun e=>by rw [HO.out];exact a3.out.2 e⟩
    case rest=>
     obtain ⟨r,rfl,h1,h2⟩:=hcut;have H1:=hid h1;have H2:=hid h2;clear h1 h2
     cases r with
     | true=>
      gi_wp2;go_roundw
      case rel=>exact ⟨k+1,by omega,by go_num,(H1.out rfl).1,HX.out.trans (H1.out rfl).2⟩
      case measure=>simp [intOf];omega
     | false=>
      gi_wp2;refine bodyPost_ret (results_none rfl _ _ _) rfl ?_;exact ⟨⟨_,rfl⟩,.inr ⟨_,⟨k+1,by omega,rfl⟩,H2.out trivial⟩⟩
   ·have aj:(t0==dn)=false:=by simp [hd]
    have HO:Hid (Za0 C dn (k+1)=Za0 C dn k):=hid (by rw [Zed,HT.out,if_neg hd,List.append_nil]);gi_wp2;gi_cut [29] from 16 (fun t wx=>t=.bool false∧wx=(wr.alloc (.cells #[.int .i64 t0,.int .i64 t1,.int .i64 t2,.int .i64 t3] 108)).drew)
    case first=>
     first
      | gi_region_with_o (refine ⟨fun _ h=>(by cases h),?_⟩)
      | fail
     all_goals
      gi_wp2;go_meet
      case rel=>exact ⟨rfl,rfl⟩
    case rest=>
     obtain ⟨rfl,rfl⟩:=hcut;have HE:Hid (J (Za0 C dn (k+1)) (wr.alloc (.cells #[.int .i64 t0,.int .i64 t1,.int .i64 t2,.int .i64 t3] 108)).drew∧Below n₀ W (wr.alloc (.cells #[.int .i64 t0,.int .i64 t1,.int .i64 t2,.int .i64 t3] 108)).drew):=hid ⟨by rw [HO.out];exact hJd _ _ (hJa _ _ _ HJ.out),HX.out.trans q1⟩;generalize (wr.alloc (.cells #[.int .i64 t0,.int .i64 t1,.int .i64 t2,.int .i64 t3] 108)).drew=w5 at *
     gi_wp2;go_roundw
     case rel=>exact ⟨k+1,by omega,by go_num,HE.out⟩
     case measure=>simp [intOf];omega
  ·obtain rfl:k=C.ta.length:=by omega
   gi_wp2;go_end0;exact ⟨⟨_,rfl⟩,.inl ⟨_,rfl,HJ.out⟩⟩
theorem Zl8 (n:Nat) (hn:1≤n) (Bk kb n₀:Nat) (C:Zm) (a8:Option Addr) (c8:Nat) (dn:Int) (hkb:kb<n₀) (hBk:Bk<n₀) (hln:C.ta.length≤9223372036854775807)
  (w:World) (hB:w.cell? ⟨Bk,0,none⟩=some (.pointer (some ⟨kb,0,none⟩))) (h8:w.cell? ⟨kb,15,none⟩=some (.slice a8 C.ta.length c8)) (h16:w.cell? ⟨kb,16,none⟩=some (.int .i64 dn)) (hT:Jb w a8 C.ta) (ha8:∀ b o,a8=some ⟨b,o,none⟩→0<C.ta.length→b<n₀) (hsz:n₀≤w.heap.size) :
  SeqStopsK Fence.wide n prog 173 #[.pointer (some ⟨Bk,0,none⟩)] Zua (Below n₀) (fun ys=>ys=Za0 C dn C.ta.length) (fun pre=>∃ k,k≤C.ta.length∧pre=Za0 C dn k) C.ta.length w:=by
 intro l J Jx W hb hJ a3 hY h0;have a1:=hb.size;have a2:Jb W a8 C.ta:=by
  intro k hk;obtain ⟨b,o,e,p0,p1,p2,p3⟩:=hT k hk;have a0:b<w.heap.size:=Nat.lt_of_lt_of_le (ha8 b o e (by omega)) hsz;exact ⟨b,o,e,(hb.cell (p:=⟨b,o+k*4,none⟩) a0).trans p0,(hb.cell (p:=⟨b,o+k*4+1,none⟩) a0).trans p1,(hb.cell (p:=⟨b,o+k*4+2,none⟩) a0).trans p2,(hb.cell (p:=⟨b,o+k*4+3,none⟩) a0).trans p3⟩
 exact Zsr n hn l Bk kb n₀ C a8 c8 dn J Jx hkb hBk hln hY
  (fun pre W1 o h=>hJ pre W1 _ none h (World.grownBy_alloc W1 o none) (fun _ e=>by cases e))
  (fun pre W1 h=>hJ pre W1 _ none h ⟨rfl,rfl,rfl,lr,fun _ _ _=>rfl⟩ (fun _ e=>by cases e))
  W ((hb.cell (p:=⟨Bk,0,none⟩) (by show Bk<_;omega)).trans hB) ((hb.cell (p:=⟨kb,15,none⟩) (by show kb<_;omega)).trans h8) ((hb.cell (p:=⟨kb,16,none⟩) (by show kb<_;omega)).trans h16) a2 ha8 (by omega) h0
end Go.Proofs.YtejhccmclanlmaaGreatDoor
