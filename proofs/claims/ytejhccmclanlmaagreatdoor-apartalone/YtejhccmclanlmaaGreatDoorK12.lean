/- Texts joined: Zb Zc Zd0. -/
import Derived.Deep.RegionHeld3
import Derived.Deep.OwnRows
import Derived.Deep.MidRow
import Derived.Test.YtejhccmclanlmaaGreatDoorK10
set_option linter.unusedVariables false
set_option maxRecDepth 100000
namespace Go.Proofs.YtejhccmclanlmaaGreatDoor
open Go.RowKit
theorem count_set (l:List Bool) (i:Nat) (h:l[i]? = some false):(l.set i true).countP (fun b=>!b)+1=l.countP (fun b=>!b):=by
 induction l generalizing i with
 | nil=>simp at h
 | cons x r ih=>
  cases i with
  | zero=>
   simp at h
   subst h
   simp
  | succ i=>
   have:=ih i (by simpa using h)
   simp only [List.set_cons_succ,List.countP_cons]
   omega
def ordB (ops:Array Oper):Bool:=(List.range ops.size).all fun i=>((ops[i]?).map (·.after.all fun e=>decide (e.on<i))).getD true
theorem ordB_spec {ops:Array Oper} (h:ordB ops=true) {i:Nat} {o:Oper} (ho:ops[i]? = some o):∀ e∈o.after,e.on<i:=by
 intro e he
 have hi:i<ops.size:=(Array.getElem?_eq_some_iff.1 ho).1
 have:=List.all_eq_true.1 h i (List.mem_range.2 hi)
 rw [ho] at this
 simp only [Option.map_some,Option.getD_some] at this
 exact of_decide_eq_true (Array.all_eq_true_iff_forall_mem.1 this e he)
theorem all_listed {md:Region.Mode} {ops:Array Oper} {l:Array Bool} (hord:ordB ops=true) (hsz:l.size=ops.size) (hr:Region.ready md ops l=[]):∀ i,i<ops.size→l.getD i false=true:=by
 intro i
 induction i using Nat.strongRecOn with
 | ind i ih=>
  intro hi
  cases hl:l.getD i false with
  | true=>rfl
  | false=>
   exfalso
   have hlt:i<l.size:=by omega
   have h1:l.getD i true=false:=by simpa [Array.getD_eq_getD_getElem?,hlt] using hl
   obtain ⟨o,ho⟩:∃ o,ops[i]? = some o:=⟨_,Array.getElem?_eq_getElem hi⟩
   have:i∈Region.ready md ops l:=mem_ready.2 ⟨h1,o,ho,fun e he _=>ih e.on (ordB_spec hord ho e he) (by have:=ordB_spec hord ho e he;omega)⟩
   rw [hr] at this
   cases this
theorem wpAny_inv {P:Program} {md:Region.Mode} {ops:Array Oper} {Q:Exit→Act→World→Prop} (R:Array Bool→Act→World→Prop) (hord:ordB ops=true)
  (hstep:∀ (l:Array Bool) (a:Act) (w:World) (i:Nat) (o:Oper),R l a w→ops[i]? = some o→l.getD i false=false→(∀ e∈o.after,Region.binds md e=true→l.getD e.on false=true)→∀ K':Act→World→Prop,Shut (∀ a w,R (l.setIfInBounds i true) a w→K' a w)→if Region.wanted o (yielded ops a.tmps)=true then Oper.wp P o a w K' Q else K' (a.put o.dst undef) w)
  (hend:∀ (l:Array Bool) (a:Act) (w:World),R l a w→(∀ i,i<ops.size→l.getD i false=true)→Q .normal a w) :
  ∀ (fuel:Nat) (l:Array Bool) (a:Act) (w:World),l.size=ops.size→l.toList.countP (fun b=>!b)≤fuel→R l a w→wpAny P md ops Q fuel l a w:=by
 intro fuel
 induction fuel with
 | zero=>
  intro l a w hsz hc hR
  have hr:Region.ready md ops l=[]:=by
   apply List.eq_nil_iff_forall_not_mem.2
   intro i hi
   obtain ⟨h0,o,ho,_⟩:=mem_ready.1 hi
   have hlt:i<l.size:=by have:=(Array.getElem?_eq_some_iff.1 ho).1;omega
   have hz:l.toList.countP (fun b=>!b)=0:=by omega
   have:=List.countP_eq_zero.1 hz l[i] (by simp)
   simp [Array.getD_eq_getD_getElem?,hlt] at h0
   simp [h0] at this
  exact ⟨hr,hend l a w hR (all_listed hord hsz hr)⟩
 | succ fuel ih=>
  intro l a w hsz hc hR
  refine ⟨fun hr=>hend l a w hR (all_listed hord hsz hr),fun i hi=>?_⟩
  obtain ⟨h0,o,ho,hall⟩:=mem_ready.1 hi
  have hlt:i<l.size:=by have:=(Array.getElem?_eq_some_iff.1 ho).1;omega
  have h0':l[i]=false:=by simpa [Array.getD_eq_getD_getElem?,hlt] using h0
  have h00:l.getD i false=false:=by simp [Array.getD_eq_getD_getElem?,hlt,h0']
  refine wpOp_step ho (fun K' hK=>hstep l a w i o hR ho h00 hall K' (fun a' w' h'=>hK a' w' (ih _ a' w' (by simpa using hsz) ?_ h')))
  have:=count_set l.toList i (by simp [hlt,h0'])
  rw [Array.toList_setIfInBounds]
  omega
def Made1 (n0:Nat) (w:World) (v:Value) (n:Nat):Prop:=∃ g,v=.slice (some ⟨g,0,none⟩) n n∧n0≤g∧w.heap[g]? = some (.cells (madeCells #[.slice none 0 0] n) 23 (0,0))
def Made2 (n0:Nat) (w:World) (v:Value) (n:Nat):Prop:=∃ g,v=.slice (some ⟨g,0,none⟩) n n∧n0≤g∧w.heap[g]? = some (.cells (madeCells #[.slice none 0 0,.int .i64 0] (n * 2)) 90 (0,0))
def Box7 (n0:Nat) (w:World) (v:Value):Prop:=∃ g,v=.pointer (some ⟨g,0,none⟩)∧n0≤g∧RowAt w g 46 [.slice none 0 0,.slice none 0 0,.int .i64 0,.slice none 0 0,.slice none 0 0,.slice none 0 0,.slice none 0 0]
theorem Made1.keep {n0:Nat} {w w':World} {v:Value} {n:Nat} (h:Made1 n0 w v n) (hb:Below w.heap.size w w'):Made1 n0 w' v n:=by
 obtain ⟨g,e,h1,h2⟩:=h
 exact ⟨g,e,h1,by rw [hb.block g (Array.getElem?_eq_some_iff.1 h2).1];exact h2⟩
theorem Made2.keep {n0:Nat} {w w':World} {v:Value} {n:Nat} (h:Made2 n0 w v n) (hb:Below w.heap.size w w'):Made2 n0 w' v n:=by
 obtain ⟨g,e,h1,h2⟩:=h
 exact ⟨g,e,h1,by rw [hb.block g (Array.getElem?_eq_some_iff.1 h2).1];exact h2⟩
theorem Box7.keep {n0:Nat} {w w':World} {v:Value} (h:Box7 n0 w v) (hb:Below w.heap.size w w'):Box7 n0 w' v:=by
 obtain ⟨g,e,h1,h2⟩:=h
 exact ⟨g,e,h1,h2.below hb lr⟩
def upd (x:Nat→Value) (s:Nat) (v:Value):Nat→Value:=fun t=>if t=s then v else x t
def dS:Nat→Nat
 | 0=>8
 | 1=>9
 | 2=>10
 | 3=>11
 | 4=>12
 | 5=>13
 | 6=>14
 | 7=>15
 | 8=>16
 | 9=>17
 | 10=>18
 | 11=>19
 | 12=>20
 | 13=>21
 | 14=>22
 | 15=>23
 | 16=>24
 | 17=>25
 | 18=>26
 | 19=>27
 | 20=>28
 | 21=>29
 | 22=>30
 | 23=>3
 | _=>99
def dO:Nat→List Nat
 | 14=>[5,14]
 | 22=>[2,5,11,14,18,21,22]
 | i=>[i]
def FC (D:Dom) (A:DMem) (n0 db:Nat) (i:Nat) (x:Nat→Value) (w:World):Prop:=
 match i with
 | 0=>x 8=.pointer (some ⟨db,0,none⟩)
 | 1=>x 9=.slice A.aJ D.jobs.length A.cJ
 | 2=>w.ownsRow n0 87 6 (x 10) D.jobs.length (fJ D.jobs)
 | 3=>x 11=.pointer (some ⟨db,1,none⟩)
 | 4=>x 12=.slice A.aR D.rel.length A.cR
 | 5=>w.ownsRow n0 3 1 (x 13) D.rel.length (ivs D.rel)
 | 6=>x 14=.pointer (some ⟨db,2,none⟩)
 | 7=>x 15=.int .i64 D.nxt
 | 8=>x 16=.pointer (some ⟨db,3,none⟩)
 | 9=>x 17=.slice A.aI D.ins.length A.cI
 | 10=>x 18=.int .i64 D.ins.length
 | 11=>Made2 n0 w (x 19) D.ins.length
 | 12=>x 20=.pointer (some ⟨db,4,none⟩)
 | 13=>x 21=.slice A.aT D.tak.length A.cT
 | 14=>w.ownsRow n0 3 1 (x 22) D.tak.length (ivs D.tak)∧∀ g,(x 13).ownBlock=some g→(x 22).ownBlock≠some g
 | 15=>x 23=.pointer (some ⟨db,5,none⟩)
 | 16=>x 24=.slice A.aO D.out.length A.cO
 | 17=>x 25=.int .i64 D.out.length
 | 18=>Made1 n0 w (x 26) D.out.length
 | 19=>x 27=.pointer (some ⟨db,6,none⟩)
 | 20=>x 28=.slice A.aE D.evs.length A.cE
 | 21=>w.ownsRow n0 92 4 (x 29) D.evs.length (fE D.evs)
 | 22=>x 30=.agg #[x 10,x 13,.int .i64 D.nxt,x 19,x 22,x 26,x 29]
 | 23=>Box7 n0 w (x 3)
 | _=>True
def AF (D:Dom) (A:DMem) (db rb:Nat) (x:Nat→Value):Act:={ tmps:=#[dv D A,.pointer (some ⟨db,0,none⟩),.pointer (some ⟨rb,0,none⟩),x 3,undef,undef,undef,undef,x 8,x 9,x 10,x 11,x 12,x 13,x 14,x 15,x 16,x 17,x 18,x 19,x 20,x 21,x 22,x 23,x 24,x 25,x 26,x 27,x 28,x 29,x 30,undef,undef,undef,undef,undef,undef,undef,undef,undef,undef,undef,undef,undef,undef,undef,undef,undef,undef,undef,undef,undef,undef,undef,undef,undef,undef,undef,undef,undef,undef,undef,undef,undef,undef,undef],defers:=[] }
theorem fc_keep {D:Dom} {A:DMem} {n0 db:Nat} {x x':Nat→Value} {w w':World} (hb:Below w.heap.size w w') (i:Nat) (hx:∀ j∈dO i,x' (dS j)=x (dS j)) (h:FC D A n0 db i x w):FC D A n0 db i x' w':=by
 match i with
 | 0=>exact (hx 0 (by simp [dO])).trans h
 | 1=>exact (hx 1 (by simp [dO])).trans h
 | 2=>have e:x' 10=x 10:=hx 2 (by simp [dO]);show World.ownsRow _ _ _ _ (x' 10) _ _;rw [e];exact owns_below h hb
 | 3=>exact (hx 3 (by simp [dO])).trans h
 | 4=>exact (hx 4 (by simp [dO])).trans h
 | 5=>have e:x' 13=x 13:=hx 5 (by simp [dO]);show World.ownsRow _ _ _ _ (x' 13) _ _;rw [e];exact owns_below h hb
 | 6=>exact (hx 6 (by simp [dO])).trans h
 | 7=>exact (hx 7 (by simp [dO])).trans h
 | 8=>exact (hx 8 (by simp [dO])).trans h
 | 9=>exact (hx 9 (by simp [dO])).trans h
 | 10=>exact (hx 10 (by simp [dO])).trans h
 | 11=>have e:x' 19=x 19:=hx 11 (by simp [dO]);show Made2 _ _ (x' 19) _;rw [e];exact Made2.keep h hb
 | 12=>exact (hx 12 (by simp [dO])).trans h
 | 13=>exact (hx 13 (by simp [dO])).trans h
 | 14=>
  have e:x' 22=x 22:=hx 14 (by simp [dO])
  have e2:x' 13=x 13:=hx 5 (by simp [dO])
  show World.ownsRow _ _ _ _ (x' 22) _ _∧∀ g,(x' 13).ownBlock=some g→(x' 22).ownBlock≠some g
  rw [e,e2]
  exact ⟨owns_below h.1 hb,h.2⟩
 | 15=>exact (hx 15 (by simp [dO])).trans h
 | 16=>exact (hx 16 (by simp [dO])).trans h
 | 17=>exact (hx 17 (by simp [dO])).trans h
 | 18=>have e:x' 26=x 26:=hx 18 (by simp [dO]);show Made1 _ _ (x' 26) _;rw [e];exact Made1.keep h hb
 | 19=>exact (hx 19 (by simp [dO])).trans h
 | 20=>exact (hx 20 (by simp [dO])).trans h
 | 21=>have e:x' 29=x 29:=hx 21 (by simp [dO]);show World.ownsRow _ _ _ _ (x' 29) _ _;rw [e];exact owns_below h hb
 | 22=>
  have e0:x' 30=x 30:=hx 22 (by simp [dO])
  have e1:x' 10=x 10:=hx 2 (by simp [dO])
  have e2:x' 13=x 13:=hx 5 (by simp [dO])
  have e3:x' 19=x 19:=hx 11 (by simp [dO])
  have e4:x' 22=x 22:=hx 14 (by simp [dO])
  have e5:x' 26=x 26:=hx 18 (by simp [dO])
  have e6:x' 29=x 29:=hx 21 (by simp [dO])
  show x' 30=.agg #[x' 10,x' 13,.int .i64 D.nxt,x' 19,x' 22,x' 26,x' 29]
  rw [e0,e1,e2,e3,e4,e5,e6]
  exact h
 | 23=>have e:x' 3=x 3:=hx 23 (by simp [dO]);show Box7 _ _ (x' 3);rw [e];exact Box7.keep h hb
 | n+24=>trivial
theorem dS_inj:∀ i,i<24→∀ j,j<24→i≠j→dS i≠dS j:=by decide
theorem dO_lt:∀ i,i<24→∀ j∈dO i,j<24:=by decide
structure RP (D:Dom) (A:DMem) (W:World) (db:Nat) (l:Array Bool) (x:Nat→Value) (w:World):Prop where
 sz:l.size=25
 b:Below W.heap.size W w
 st:l.getD 24 false=false
 l14:l.getD 14 false=true→l.getD 5 false=true
 l22:l.getD 22 false=true→l.getD 2 false=true∧l.getD 5 false=true∧l.getD 11 false=true∧l.getD 14 false=true∧l.getD 18 false=true∧l.getD 21 false=true
 fc:∀ i,l.getD i false=true→FC D A W.heap.size db i x w
theorem getD_set_self {l:Array Bool} {i:Nat} (h:i<l.size):(l.setIfInBounds i true).getD i false=true:=by
 simp [Array.getD_eq_getD_getElem?,h]
theorem rp_next {D:Dom} {A:DMem} {W:World} {db:Nat} {l:Array Bool} {x:Nat→Value} {w w':World} (i:Nat) (v:Value) (h:RP D A W db l x w) (hi:i<24) (hl:l.getD i false=false) (hb:Below w.heap.size w w')
  (hF:FC D A W.heap.size db i (upd x (dS i) v) w') (h14:i=14→l.getD 5 false=true) (h22:i=22→l.getD 2 false=true∧l.getD 5 false=true∧l.getD 11 false=true∧l.getD 14 false=true∧l.getD 18 false=true∧l.getD 21 false=true) :
  RP D A W db (l.setIfInBounds i true) (upd x (dS i) v) w':=by
 have up:∀ {j},l.getD j false=true→(l.setIfInBounds i true).getD j false=true:=fun hj=>getD_set_true hj
 have dn:∀ {j},j≠i→(l.setIfInBounds i true).getD j false=true→l.getD j false=true:=fun hne hj=>by rw [getD_set_ne false (Ne.symm hne)] at hj;exact hj
 refine ⟨by simpa using h.sz,btrans h.b hb,?_,?_,?_,?_⟩
 ·rw [getD_set_ne false (by omega)];exact h.st
 ·intro hj
  by_cases e:i=14
  ·exact up (h14 e)
  ·exact up (h.l14 (dn (Ne.symm e) hj))
 ·intro hj
  by_cases e:i=22
  ·obtain ⟨a1,a2,a3,a4,a5,a6⟩:=h22 e
   exact ⟨up a1,up a2,up a3,up a4,up a5,up a6⟩
  ·obtain ⟨a1,a2,a3,a4,a5,a6⟩:=h.l22 (dn (Ne.symm e) hj)
   exact ⟨up a1,up a2,up a3,up a4,up a5,up a6⟩
 ·intro j hj
  by_cases e:j=i
  ·subst e;exact hF
  ·have hlj:=dn e hj
   have hj25:j<25:=by
    rcases Nat.lt_or_ge j 25 with h'|h'
    ·exact h'
    ·have:l.size≤j:=by rw [h.sz];exact h'
     simp [Array.getD_eq_getD_getElem?,Array.getElem?_eq_none this] at hlj
   have hj24:j≠24:=fun e=>by rw [e,h.st] at hlj;cases hlj
   refine fc_keep hb j (fun k hk=>?_) (h.fc j hlj)
   have hk24:=dO_lt j (by omega) k hk
   have hlk:l.getD k false=true:=by
    have hcs:j=14∨j=22∨(j≠14∧j≠22):=by omega
    rcases hcs with rfl|rfl|⟨n1,n2⟩
    ·simp only [dO,List.mem_cons,List.not_mem_nil,or_false] at hk
     rcases hk with rfl|rfl
     ·exact h.l14 hlj
     ·exact hlj
    ·obtain ⟨a1,a2,a3,a4,a5,a6⟩:=h.l22 hlj
     simp only [dO,List.mem_cons,List.not_mem_nil,or_false] at hk
     rcases hk with rfl|rfl|rfl|rfl|rfl|rfl|rfl <;> assumption
    ·have:dO j=[j]:=by unfold dO;split <;> simp_all
     rw [this] at hk
     simp at hk
     subst hk
     exact hlj
   have hne:dS k≠dS i:=dS_inj k hk24 i hi (fun e=>by rw [e,hl] at hlk;cases hlk)
   simp [upd,hne]
theorem dep_of {o:Oper} {l:Array Bool} (h:∀ e∈o.after,Region.binds .any e=true→l.getD e.on false=true) (k:Nat) (hk:(o.after.any fun e=>Region.binds .any e && e.on == k)=true):l.getD k false=true:=by
 obtain ⟨i,hi,he⟩:=Array.any_eq_true.1 hk
 simp only [Bool.and_eq_true,beq_iff_eq] at he
 have:=h o.after[i] (Array.getElem_mem hi) he.1
 rwa [he.2] at this
theorem owns_lt {w:World} {base e sz n:Nat} {v:Value} {xs:List Value} (h:w.ownsRow base e sz v n xs):∀ g,v.ownBlock=some g→g<w.heap.size:=fun g hg=>(h.lt g hg).2
theorem owns_ge {w:World} {base e sz n:Nat} {v:Value} {xs:List Value} (h:w.ownsRow base e sz v n xs):∀ g,v.ownBlock=some g→base≤g:=fun g hg=>(h.lt g hg).1
theorem heap_setCells_ne (g:Nat):∀ (vs:List Value) (o:Nat) (w:World) (k:Nat),k≠g→(w.setCells g o vs).heap[k]? = w.heap[k]?
 | [],_,_,_,_=>rfl
 | v :: vs,o,w,k,h=>(heap_setCells_ne g vs (o+1) (w.setCell ⟨g,o,none⟩ v) k h).trans (Below.heap_setCell _ _ _ k (fun e=>h e))
theorem set_atx {W:World} {B o:Nat} {xs:Array Value} {ty:TypeId} {v':Value} (h:W.heap[B]? = some (.cells xs ty (0,0))):(W.setCell ⟨B,o,none⟩ v').heap[B]? = some (.cells (xs.setIfInBounds o v') ty (0,0)):=by
 obtain ⟨hlt,hk⟩:=Array.getElem?_eq_some_iff.1 h
 show (W.heap.modify B _)[B]? = _
 rw [Array.getElem?_eq_getElem (by rw [Array.size_modify];exact hlt),Array.getElem_modify_self,hk]
 rfl
theorem row_setCells {g:Nat} {t:TypeId}:∀ (vs pre post:List Value) (w:World),w.heap[g]? = some (.cells (pre++post).toArray t (0,0))→post.length=vs.length→(w.setCells g pre.length vs).heap[g]? = some (.cells (pre++vs).toArray t (0,0))
 | [],pre,post,w,h,hl=>by
  have:post=[]:=List.length_eq_zero_iff.1 hl
  subst this
  exact h
 | v :: vs,pre,[],w,h,hl=>by simp at hl
 | v :: vs,pre,p :: post,w,h,hl=>by
  have h1:=set_atx (o:=pre.length) (v':=v) h
  have e:(pre++p :: post).toArray.setIfInBounds pre.length v=((pre++[v])++post).toArray:=by simp
  rw [e] at h1
  have h2:=row_setCells vs (pre++[v]) post (w.setCell ⟨g,pre.length,none⟩ v) h1 (by simpa using hl)
  simpa [World.setCells] using h2
theorem there_row {w:World} {g:Nat} {t:TypeId} {L:List Value} (h:RowAt w g t L):w.there g 0 L.length:=by
 intro j hj
 rw [Nat.zero_add]
 exact ⟨by rw [h.cell j L[j] (by simp [hj])];rfl,h.frozen j⟩
theorem below_setCellsx {B:Nat} {a w:World} (h:Below B a w) (g:Nat) (hg:B≤g):∀ (vs:List Value) (o:Nat),Below B a (w.setCells g o vs):=by
 intro vs
 induction vs generalizing w with
 | nil=>intro o;exact h
 | cons v vs ih=>intro o;exact ih (h.setCell (p:=⟨g,o,none⟩) hg v) (o+1)
theorem owns_agree {w w':World} {base e sz n:Nat} {v:Value} {xs:List Value} (h:w.ownsRow base e sz v n xs) (hk:∀ k,v.ownBlock=some k→w'.heap[k]? = w.heap[k]?):w'.ownsRow base e sz v n xs:=by
 refine ⟨h.1,?_⟩
 rcases h.2 with q|⟨g,cap,cur,e1,e2,e3,r⟩
 ·exact .inl q
 ·exact .inr ⟨g,cap,cur,e1,e2,by rw [hk g (by rw [e1];rfl)];exact e3,r⟩
theorem owns_ne {w:World} {base e sz n g t:Nat} {v:Value} {xs L:List Value} (h:w.ownsRow base e sz v n xs) (hr:RowAt w g t L) (hne:e≠t):∀ k,v.ownBlock=some k→k≠g:=by
 intro k hk e0
 subst e0
 rcases h.2 with ⟨q,_⟩|⟨g',cap,cur,e1,e2,e3,r⟩
 ·rw [q] at hk;cases hk
 ·rw [e1] at hk
  simp only [Value.ownBlock,Option.some.injEq] at hk
  subst hk
  rw [show w.heap[g']? = _ from hr] at e3
  simp at e3
  exact hne e3.2.symm
theorem step_run {P:Program} {o:Oper} {a:Act} {w:World} {K:Act→World→Prop} {Q:Exit→Act→World→Prop} {v:Value}
  (hrun:(execOp a.eval o).run P w=.ok (.value v) w) (h:K (a.put o.dst v) w):Oper.wp P o a w K Q:=by
 unfold Oper.wp
 rw [hrun]
 exact h
theorem all_set {l:Array Bool} (h:l.size=25∧∀ i,i<24→l.getD i false=true):∀ i,i<25→(l.setIfInBounds 24 true).getD i false=true:=by
 intro i hi
 by_cases e:i=24
 ·subst e;exact getD_set_self (by omega)
 ·exact getD_set_true (h.2 i (by omega))
theorem all_of {D:Dom} {A:DMem} {W:World} {db:Nat} {l:Array Bool} {x:Nat→Value} {w:World} {o:Oper} (h:RP D A W db l x w) (hdep:∀ e∈o.after,Region.binds .any e=true→l.getD e.on false=true) (hk:((List.range 24).all fun k=>o.after.any fun e=>Region.binds .any e && e.on == k)=true:=by kernel_rfl):l.size=25∧∀ i,i<24→l.getD i false=true:=
 ⟨h.sz,fun i hi=>dep_of hdep i (List.all_eq_true.1 hk i (List.mem_range.2 hi))⟩
structure DC (D:Dom) (W:World) (x:Nat→Value) (w:World) (g:Nat):Prop where
 b:Below W.heap.size W w
 e:x 3=.pointer (some ⟨g,0,none⟩)
 hg:W.heap.size≤g
 box:RowAt w g 46 [x 10,x 13,.int .i64 D.nxt,x 19,x 22,x 26,x 29]
 j:w.ownsRow W.heap.size 87 6 (x 10) D.jobs.length (fJ D.jobs)
 r:w.ownsRow W.heap.size 3 1 (x 13) D.rel.length (ivs D.rel)
 i:Made2 W.heap.size w (x 19) D.ins.length
 t:w.ownsRow W.heap.size 3 1 (x 22) D.tak.length (ivs D.tak)
 rt:∀ g,(x 13).ownBlock=some g→(x 22).ownBlock≠some g
 o:Made1 W.heap.size w (x 26) D.out.length
 ev:w.ownsRow W.heap.size 92 4 (x 29) D.evs.length (fE D.evs)
theorem Tryz.info90x:(Tryz.prog.info? 90).map (fun i=>(i.zero,i.size,i.bytes))=some (some (.agg #[.slice none 0 0,.int .i64 0]),2,32):=by kernel_rfl
theorem Tryz.info23x:(Tryz.prog.info? 23).map (fun i=>(i.zero,i.size,i.bytes))=some (some (.slice none 0 0),1,24):=by kernel_rfl
theorem make87_any (n:Nat) (h:n≤1000000000000) (w:World):(Instr.makeSlice 42 (.int .i64 (n:Int)) (.int .i64 (n:Int))).run Tryz.prog w=.ok (.slice (some ⟨w.heap.size,0,none⟩) n n) (w.alloc (.cells (madeCells #[.slice none 0 0,.int .i64 0] (n * 2)) 90)):=by
 obtain ⟨i,hi,hz,hs,hb⟩:=infoOf Tryz.info90x
 have:=run_make (P:=Tryz.prog) w 42 90 i _ Tryz.underlying42 hi hz .i64 .i64 n n (by omega) (by omega) (by rw [hb];omega) (by omega)
 rw [hs] at this
 simp only [show (Value.agg #[Value.slice none 0 0,Value.int IntKind.i64 0]).cells=#[Value.slice none 0 0,Value.int IntKind.i64 0] from rfl,Int.toNat_natCast] at this
 exact this
theorem make83_any (n:Nat) (h:n≤1000000000000) (w:World):(Instr.makeSlice 43 (.int .i64 (n:Int)) (.int .i64 (n:Int))).run Tryz.prog w=.ok (.slice (some ⟨w.heap.size,0,none⟩) n n) (w.alloc (.cells (madeCells #[.slice none 0 0] n) 23)):=
 run_make_row' (P:=Tryz.prog) 43 23 (.slice none 0 0) 24 Tryz.underlying43 Tryz.info23x rfl .i64 .i64 n (by omega) (by omega) w
end Go.Proofs.YtejhccmclanlmaaGreatDoor
