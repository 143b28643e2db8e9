/- Texts joined: Wb We Wx. -/
import Derived.Test.YtejhccmclanlmaaGreatDoorK08
import Derived.Test.YtejhccmclanlmaaGreatDoorK09
import Derived.Test.YtejhccmclanlmaaGreatDoorK17
import Derived.Test.YtejhccmclanlmaaGreatDoorK22
set_option linter.unusedVariables false
set_option maxRecDepth 100000
namespace Go.Proofs.YtejhccmclanlmaaGreatDoor
open Go.RowKit
structure RM where
 A:DMem
 V:Nat→Value
 gI:Nat
 gO:Nat
 aK:Option Addr
 cK:Nat
structure RC where
 w0:World
 rb:Nat
 C:Conf
 B:Mem
 dn:Int
 L:List ActT
 aL:Option Addr
 cL:Nat
 tq:Int
 fr:List (Nat×Obj)
def fI (D:Dom):Nat→List Int:=fun k=>if k=0 then D.rel else if k=1 then D.tak else if k % 2=0 then (D.ins.getD (k / 2 - 1) ([],0)).1 else D.out.getD (k / 2 - 1) []
theorem fI_in (D:Dom) (i:Nat):fI D (2 * i+2)=(D.ins.getD i ([],0)).1:=by
 unfold fI
 rw [if_neg (by omega),if_neg (by omega),if_pos (by omega)]
 congr 2
 omega
theorem fI_out (D:Dom) (i:Nat):fI D (2 * i+3)=D.out.getD i []:=by
 unfold fI
 rw [if_neg (by omega),if_neg (by omega),if_neg (by omega)]
 congr 1
 omega
def inC (V:Nat→Value) (I:List (List Int×Int)):List Value:=(List.range I.length).flatMap fun i=>[V (2 * i+2),.int .i64 (I.getD i ([],0)).2]
def outC (V:Nat→Value) (n:Nat):List Value:=(List.range n).map fun i=>V (2 * i+3)
theorem inC_at (V:Nat→Value) (I:List (List Int×Int)) (i:Nat) (h:i<I.length):(inC V I)[i * 2]? = some (V (2 * i+2))∧(inC V I)[i * 2+1]? = some (.int .i64 I[i].2):=by
 have h0:=flatN_at (fun i=>[V (2 * i+2),Value.int .i64 (I.getD i ([],0)).2]) 2 (fun _=>rfl) (List.range I.length) i 0 (by simpa using h) (by omega)
 have h1:=flatN_at (fun i=>[V (2 * i+2),Value.int .i64 (I.getD i ([],0)).2]) 2 (fun _=>rfl) (List.range I.length) i 1 (by simpa using h) (by omega)
 unfold inC
 refine ⟨?_,?_⟩
 ·rw [Nat.add_zero] at h0
  rw [h0]
  simp
 ·rw [h1]
  simp [h]
theorem outC_at (V:Nat→Value) (n i:Nat) (h:i<n):(outC V n)[i]? = some (V (2 * i+3)):=by simp [outC,h]
abbrev rl (X:RC) (M:RM) (D:Dom) (K:KT) (now:Int):List Value:=[.slice M.A.aJ D.jobs.length M.A.cJ,.slice M.A.aR D.rel.length M.A.cR,.int .i64 D.nxt,.slice M.A.aI D.ins.length M.A.cI,.slice M.A.aT D.tak.length M.A.cT,.slice M.A.aO D.out.length M.A.cO,.slice M.A.aE D.evs.length M.A.cE,.int .i64 X.C.s,.int .i64 X.C.w,.int .i64 X.C.d,.int .i64 X.C.p,.int .i64 X.C.q,.slice X.B.a5 X.C.sl.length X.B.c5,.slice X.B.a6 X.C.ow.length X.B.c6,.slice X.B.a7 X.C.ch.length X.B.c7,.slice X.B.a8 X.C.ta.length X.B.c8,.int .i64 X.dn,.slice M.aK K.length M.cK,.slice X.aL X.L.length X.cL,.int .i64 now,.int .i64 X.tq]
abbrev psOf (X:RC) (M:RM) (D:Dom) (K:KT) (now:Int):PS:=⟨X.rb,M.gI,M.gO,X.w0.heap.size,rl X M D K now,inC M.V D.ins,outC M.V D.out.length,.slice M.A.aJ D.jobs.length M.A.cJ,.slice M.A.aE D.evs.length M.A.cE,D.jobs,D.evs,M.aK,K,M.V,fI D,X.fr⟩
structure RO (X:RC) (w:World) (M:RM) (D:Dom) (K:KT) (now:Int):Prop where
 ag:Below X.w0.heap.size X.w0 w
 px:PX w (psOf X M D K now)
 aI:M.A.aI=some ⟨M.gI,0,none⟩
 aO:M.A.aO=some ⟨M.gO,0,none⟩
 v0:M.V 0=.slice M.A.aR D.rel.length M.A.cR
 v1:M.V 1=.slice M.A.aT D.tak.length M.A.cT
 con:ConfIn X.w0 X.B X.C
 act:ChansIn X.w0 X.aL X.L
 lL:X.L.length≤1000
 lI:D.ins.length≤1000
 lO:D.out.length≤1000
section
variable {X:RC} {w w1:World} {M:RM} {D:Dom} {K:KT} {now:Int}
theorem RO.row (h:RO X w M D K now):RowAt w X.rb 152 (rl X M D K now):=h.px.row
theorem RO.below (h:RO X w M D K now) (hb:Below w.heap.size w w1):RO X w1 M D K now:=
 ⟨h.ag.trans (hb.mono h.ag.size),h.px.below hb,h.aI,h.aO,h.v0,h.v1,h.con,h.act,h.lL,h.lI,h.lO⟩
theorem RO.confIn (h:RO X w M D K now):ConfIn w X.B X.C:=h.con.keep h.ag
theorem RO.acts (h:RO X w M D K now):ChansIn w X.aL X.L:=h.act.keep h.ag
theorem RO.relOwn (h:RO X w M D K now):w.ownsRow X.w0.heap.size 3 1 (.slice M.A.aR D.rel.length M.A.cR) D.rel.length (ivs D.rel):=by
 have:=h.px.ints 0
 dsimp only at this
 rw [h.v0] at this
 exact this
theorem RO.takOwn (h:RO X w M D K now):w.ownsRow X.w0.heap.size 3 1 (.slice M.A.aT D.tak.length M.A.cT) D.tak.length (ivs D.tak):=by
 have:=h.px.ints 1
 dsimp only at this
 rw [h.v1] at this
 exact this
theorem RO.ringAt (h:RO X w M D K now) (i:Nat) (hi:i<D.ins.length):∃ a c,M.V (2 * i+2)=.slice a D.ins[i].1.length c∧w.cell? ⟨M.gI,i * 2,none⟩=some (.slice a D.ins[i].1.length c)∧w.cell? ⟨M.gI,i * 2+1,none⟩=some (.int .i64 D.ins[i].2)∧IntsIn w a D.ins[i].1∧D.ins[i].1.length≤c∧D.ins[i].1.length≤9223372036854775807:=by
 obtain ⟨c0,c1⟩:=inC_at M.V D.ins i hi
 have o:=h.px.ints (2 * i+2)
 dsimp only at o
 rw [fI_in,show D.ins.getD i ([],0)=D.ins[i] by simp [hi]] at o
 obtain ⟨a,c,ev,hc,hm,hI,_⟩:=owns_cells o
 refine ⟨a,c,ev,?_,?_,intsIn_of hI,hc,by simp only [maxLen] at hm;omega⟩
 ·rw [← ev];exact h.px.inr.cell _ _ c0
 ·exact h.px.inr.cell _ _ c1
theorem RO.outAt (h:RO X w M D K now) (i:Nat) (hi:i<D.out.length):w.cell? ⟨M.gO,i,none⟩=some (M.V (2 * i+3))∧w.ownsRow X.w0.heap.size 3 1 (M.V (2 * i+3)) D.out[i].length (ivs D.out[i]):=by
 have o:=h.px.ints (2 * i+3)
 dsimp only at o
 rw [fI_out,show D.out.getD i []=D.out[i] by simp [hi]] at o
 exact ⟨h.px.outr.cell _ _ (outC_at M.V _ i hi),o⟩
abbrev RC.more (X:RC) (b:Nat) (o:Obj):RC:=⟨X.w0,X.rb,X.C,X.B,X.dn,X.L,X.aL,X.cL,X.tq,(b,o) :: X.fr⟩
theorem RO.push (h:RO X w M D K now) (o:Obj):RO (X.more w.heap.size o) (w.alloc o) M D K now:=
 ⟨h.ag.alloc h.ag.size o,h.px.push o,h.aI,h.aO,h.v0,h.v1,h.con,h.act,h.lL,h.lI,h.lO⟩
theorem RO.pop {b:Nat} {o:Obj} (h:RO (X.more b o) w M D K now):RO X w M D K now:=
 ⟨h.ag,h.px.fewer (fr:=X.fr) (fun p hp=>List.mem_cons_of_mem _ hp),h.aI,h.aO,h.v0,h.v1,h.con,h.act,h.lL,h.lI,h.lO⟩
theorem RO.top {b:Nat} {o:Obj} (h:RO (X.more b o) w M D K now):w.heap[b]? = some o:=h.px.frame (b,o) (List.mem_cons_self ..)
theorem RO.topRow {b:Nat} {t:TypeId} {l:List Value} (h:RO (X.more b (.cells l.toArray t)) w M D K now):RowAt w b t l:=h.top
theorem RO.dom (h:RO X w M D K now):DomIn w M.A D:=by
 have j:=owns_in h.px.jobs
 have e:=owns_in h.px.evs
 have r:=owns_in h.relOwn
 have t:=owns_in h.takOwn
 have hI:=h.lI
 have hO:=h.lO
 refine ⟨jobsIn_of j.1,intsIn_of r.1,?_,intsIn_of t.1,?_,evsIn_of e.1,j.2.2,r.2.2,by omega,t.2.2,by omega,e.2.2⟩
 ·intro i hi
  obtain ⟨a,c,_,h1,h2,h3,h4,h5⟩:=h.ringAt i hi
  exact ⟨M.gI,0,a,c,h.aI,by rw [Nat.zero_add];exact h1,by rw [Nat.zero_add];exact h2,h3,h4,h5⟩
 ·intro i hi
  obtain ⟨h1,o⟩:=h.outAt i hi
  obtain ⟨a,c,ev,hc,hm,hI,_⟩:=owns_cells o
  exact ⟨M.gO,0,a,c,h.aO,by rw [Nat.zero_add,← ev];exact h1,intsIn_of hI,hc,by simp only [maxLen] at hm;omega⟩
end
def ckRun (C:Conf) (dn:Int) (D:Dom) (K:KT) (L:List ActT) (fr tq:Int):Int:=
 if ckD C dn D≠0 then ckD C dn D else if ck K≠0 then ck K else if ckAs L≠0 then ckAs L else if fr<0∨tq<fr∨100000<tq then 3 else 0
def mayA (C:Conf) (dn:Int) (a:ActT):Bool:=
 if a.1=4 then decide (a.2.1<(C.ch.length:Int)) && decide ((C.ch.getD a.2.1.toNat (0,0,0)).1=dn)
 else if a.1=5 then decide (a.2.1<(C.ch.length:Int)) && decide ((C.ch.getD a.2.1.toNat (0,0,0)).2.1=dn)
 else if a.1=7 then decide (a.2.1<(C.ow.length:Int)) && decide (C.ow.getD a.2.1.toNat 0=dn)
 else true
def tellE (D:Dom) (e:EvT):Dom:=⟨D.jobs,D.rel,D.nxt,D.ins,D.tak,D.out,D.evs++[e]⟩
def jat (D:Dom) (k:Nat):JobT:=D.jobs.getD k (0,0,0,0,false,false)
def ranJ (j:JobT):JobT:=(j.1,j.2.1,j.2.2.1,j.2.2.2.1,true,j.2.2.2.2.2)
def useJ (j:JobT) (c:Int):JobT:=(j.1,j.2.1,j.2.2.1,j.2.2.2.1+c,j.2.2.2.2.1,j.2.2.2.2.2)
def setJ (D:Dom) (k:Nat) (j:JobT):Dom:=⟨D.jobs.set k j,D.rel,D.nxt,D.ins,D.tak,D.out,D.evs⟩
def startD (D:Dom) (now:Int) (k:Nat):Dom:=if (jat D k).2.2.2.2.1 then D else setJ (tellE D (now,3,(jat D k).1,(jat D k).2.1)) k (ranJ (jat D k))
def spendD (D:Dom) (k:Nat) (c:Int):Dom:=setJ D k (useJ (jat D k) c)
def sendD (D:Dom) (c:Nat) (v:Int):Dom:=⟨D.jobs,D.rel,D.nxt,D.ins,D.tak,D.out.set c (D.out.getD c []++[v]),D.evs⟩
def recvR (C:Conf) (D:Dom) (c:Nat):List Int×Int:=(recvV (D.ins.getD c ([],0)).1 (D.ins.getD c ([],0)).2 (C.ch.getD c (0,0,0)).2.2,recvL (D.ins.getD c ([],0)).1 (D.ins.getD c ([],0)).2 (C.ch.getD c (0,0,0)).2.2)
def recvD (C:Conf) (D:Dom) (c:Nat):Dom:=⟨D.jobs,D.rel,D.nxt,D.ins.set c (recvR C D c),D.tak,D.out,D.evs⟩
def recvZ (C:Conf) (D:Dom) (c:Nat):Int:=recvX (D.ins.getD c ([],0)).1 (D.ins.getD c ([],0)).2 (C.ch.getD c (0,0,0)).2.2
def takeD (D:Dom) (c:Nat):Dom:=⟨D.jobs,D.rel,D.nxt,D.ins,D.tak.set c 0,D.out,D.evs⟩
def actD (C:Conf) (dn:Int) (D:Dom) (now:Int) (a:ActT) (cost:Int):Dom:=
 if mayA C dn a=false then tellE D (now,12,D.nxt,0)
 else if a.1=1∨a.1=2∨a.1=3 then tellE D (now,11,cost,0)
 else if a.1=4 then tellE (sendD D a.2.1.toNat a.2.2) (now,9,a.2.1,0)
 else if a.1=5 then tellE (recvD C D a.2.1.toNat) (now,8,a.2.1,recvZ C D a.2.1.toNat)
 else if a.1=6 then tellE D (now,7,now - now.tmod C.q,0)
 else if a.1=7 then tellE (takeD D a.2.1.toNat) (now,10,a.2.1,D.tak.getD a.2.1.toNat 0)
 else D
def nextD (D:Dom):Dom:=⟨D.jobs,D.rel,D.nxt+1,D.ins,D.tak,D.out,D.evs⟩
def dropD (D:Dom) (k:Nat):Dom:=⟨D.jobs.eraseIdx k,D.rel,D.nxt,D.ins,D.tak,D.out,D.evs⟩
def endD (C:Conf) (D:Dom) (now:Int) (k:Nat) (a:ActT):Dom:=
 if a.1=8 then dropD (tellE D (now,4,(jat D k).1,(jat D k).2.1)) k
 else if (tk C (jat D k).1.toNat).2.2.1≤(jat D k).2.2.2.1 then dropD (tellE D (now,5,(jat D k).1,(jat D k).2.1)) k
 else D
abbrev evM (M:RM) (a:Option Addr) (c:Nat):RM:=⟨⟨M.A.aJ,M.A.aR,M.A.aI,M.A.aT,M.A.aO,a,M.A.cJ,M.A.cR,M.A.cI,M.A.cT,M.A.cO,c⟩,M.V,M.gI,M.gO,M.aK,M.cK⟩
abbrev jM (M:RM) (a:Option Addr) (c:Nat):RM:=⟨⟨a,M.A.aR,M.A.aI,M.A.aT,M.A.aO,M.A.aE,c,M.A.cR,M.A.cI,M.A.cT,M.A.cO,M.A.cE⟩,M.V,M.gI,M.gO,M.aK,M.cK⟩
abbrev jrM (M:RM) (a:Option Addr) (c:Nat) (a':Option Addr) (n c':Nat):RM:=⟨⟨a,a',M.A.aI,M.A.aT,M.A.aO,M.A.aE,c,c',M.A.cI,M.A.cT,M.A.cO,M.A.cE⟩,fun k=>if k=0 then .slice a' n c' else M.V k,M.gI,M.gO,M.aK,M.cK⟩
abbrev kM (M:RM) (a:Option Addr) (c:Nat):RM:=⟨M.A,M.V,M.gI,M.gO,a,c⟩
abbrev vM (M:RM) (n:Nat) (v:Value):RM:=⟨M.A,fun k=>if k=n then v else M.V k,M.gI,M.gO,M.aK,M.cK⟩
theorem owns_base {w:World} {b b' e sz n:Nat} {v:Value} {xs:List Value} (h:w.ownsRow b e sz v n xs) (hb:b'≤b):w.ownsRow b' e sz v n xs:=by
 refine ⟨h.1,?_⟩
 rcases h.2 with h'|⟨g,cap,cur,e1,e2,r⟩
 ·exact .inl h'
 ·exact .inr ⟨g,cap,cur,e1,by omega,r⟩
theorem PX.newJF {w w1:World} {s:PS} (h:PX w s) (hb:Below w.heap.size w w1) {v:Value} {J:List JobT} (ho:w1.ownsRow w.heap.size 87 6 v J.length (fJ J)) {u:Value} {L:List Int} (hu:w1.ownsRow w.heap.size 3 1 u L.length (ivs L)) :
  PX w1 { s with vJ:=v,J:=J,V:=fun k=>if k=0 then u else s.V k,F:=fun k=>if k=0 then L else s.F k }:=by
 obtain ⟨o,h⟩:=h
 let o':Nat→Nat:=fun x=>if w.heap.size≤x then (if u.ownBlock=some x then 7 else 2) else o x
 have lt':∀ {x},x<w.heap.size→o' x=o x:=fun hx=>if_neg (by omega)
 have hv:∀ x,v.ownBlock=some x→o' x=2:=fun x hx=>by
  show (if w.heap.size≤x then (if u.ownBlock=some x then 7 else 2) else o x)=2
  rw [if_pos (owns_ge ho x hx),if_neg (owns_apart ho hu (by decide) x hx)]
 have hu7:∀ x,u.ownBlock=some x→o' x=7:=fun x hx=>by
  show (if w.heap.size≤x then (if u.ownBlock=some x then 7 else 2) else o x)=7
  rw [if_pos (owns_ge hu x hx),if_pos hx]
 have old:∀ l w',l≠2→l≠7→(∀ x,x<w1.heap.size→o' x=l→w'.heap[x]? = w1.heap[x]?)→s.P l w':=fun l w' h2 h7 hw'=>
  h.ps l w' (fun x hx hl=>(hw' x (Nat.lt_of_lt_of_le hx hb.size) (by rw [lt' hx];exact hl)).trans (hb.block x hx))
 refine ⟨o',⟨fun l w' hw'=>?_,Nat.le_trans h.bw hb.size,fun x hx=>?_,?_,hv,fun x hx=>?_,?_,?_,fun k x hx=>?_,fun p hp=>by rw [lt' (fr_lt (h.ps.at 0) p hp)];exact h.lf p hp⟩⟩
 ·match l,hw',old l w' with
  | 0,hw',old=>exact old (by decide) (by decide) hw'
  | 1,hw',old=>exact old (by decide) (by decide) hw'
  | 2,hw',_=>exact owns_agree (owns_base ho h.bw) (fun x hx=>hw' x (owns_lt ho x hx) (hv x hx))
  | 3,hw',old=>exact old (by decide) (by decide) hw'
  | 4,hw',old=>exact old (by decide) (by decide) hw'
  | 5,hw',old=>exact old (by decide) (by decide) hw'
  | 6,hw',old=>exact old (by decide) (by decide) hw'
  | 0+7,hw',_=>exact owns_agree (owns_base hu h.bw) (fun x hx=>hw' x (owns_lt hu x hx) (hu7 x hx))
  | n+1+7,hw',old=>exact old (by omega) (by omega) hw'
 ·by_cases e:w.heap.size≤x
  ·exact Nat.le_trans h.bw e
  ·rw [lt' (by omega)] at hx;exact h.o0 x hx
 ·rw [lt' (rowAt_lt (h.ps.at 1))];exact h.l1
 ·rw [lt' (owns_lt (h.ps.at 3) x hx)];exact h.l3 x hx
 ·rw [lt' (rowAt_lt (h.ps.at 4))];exact h.l4
 ·rw [lt' (rowAt_lt (h.ps.at 5))];exact h.l5
 ·dsimp only at hx
  by_cases e:k=0
  ·subst e
   rw [if_pos rfl] at hx
   exact hu7 x hx
  ·rw [if_neg e] at hx
   rw [lt' (owns_lt (h.ps.at (k+7)) x hx)];exact h.l7 k x hx
section
variable {X:RC} {w w1:World} {M:RM} {D:Dom} {K:KT} {now:Int}
theorem RO.set_ag (h:Below X.w0.heap.size X.w0 w) (g o:Nat) (u:Value) (hg:X.w0.heap.size≤g):Below X.w0.heap.size X.w0 (w.setCell ⟨g,o,none⟩ u):=h.setCell (p:=⟨g,o,none⟩) hg u
theorem RO.rb_ge (h:RO X w M D K now):X.w0.heap.size≤X.rb:=h.px.rb_ge
theorem RO.gI_ge (h:RO X w M D K now):X.w0.heap.size≤M.gI:=h.px.gI_ge
theorem RO.gO_ge (h:RO X w M D K now):X.w0.heap.size≤M.gO:=h.px.gO_ge
theorem RO.told (h:RO X w M D K now) {a':Option Addr} {c':Nat} {E:List EvT} (hg:w.grownBy w1 (Value.slice M.A.aE D.evs.length M.A.cE).ownBlock) (ho:w1.ownsRow X.w0.heap.size 92 4 (.slice a' E.length c') E.length (fE E))
  (hat:∀ x,(Value.slice a' E.length c').ownBlock=some x→(Value.slice M.A.aE D.evs.length M.A.cE).ownBlock=some x∨w.heap.size≤x) :
  RO X (w1.setCell ⟨X.rb,6,none⟩ (.slice a' E.length c')) (evM M a' c') ⟨D.jobs,D.rel,D.nxt,D.ins,D.tak,D.out,E⟩ K now:=
 ⟨RO.set_ag (h.ag.grown hg h.ag.size (fun k hk=>owns_ge h.px.evs k hk)) _ _ _ h.rb_ge,(h.px.newE hg.size (fun x hx hne=>hg.block x hx (fun e=>hne e.symm)) ho hat).setRow 6 _,h.aI,h.aO,h.v0,h.v1,h.con,h.act,h.lL,h.lI,h.lO⟩
theorem RO.setNow (h:RO X w M D K now) (t:Int):RO X (w.setCell ⟨X.rb,19,none⟩ (.int .i64 t)) M D K t:=
 ⟨RO.set_ag h.ag _ _ _ h.rb_ge,h.px.setRow 19 _,h.aI,h.aO,h.v0,h.v1,h.con,h.act,h.lL,h.lI,h.lO⟩
theorem RO.setNext (h:RO X w M D K now) (n:Int):RO X (w.setCell ⟨X.rb,2,none⟩ (.int .i64 n)) M ⟨D.jobs,D.rel,n,D.ins,D.tak,D.out,D.evs⟩ K now:=
 ⟨RO.set_ag h.ag _ _ _ h.rb_ge,h.px.setRow 2 _,h.aI,h.aO,h.v0,h.v1,h.con,h.act,h.lL,h.lI,h.lO⟩
theorem RO.newCache (h:RO X w M D K now) (hb:Below w.heap.size w w1) {a:Option Addr} {c:Nat} {K':KT} (hK:∀ w':World,(∀ x,x<w1.heap.size→w.heap.size≤x→w'.heap[x]? = w1.heap[x]?)→CacheIn w' a K') :
  RO X (w1.setCell ⟨X.rb,17,none⟩ (.slice a K'.length c)) (kM M a c) D K' now:=
 ⟨RO.set_ag (h.ag.trans (hb.mono h.ag.size)) _ _ _ h.rb_ge,(h.px.newK hb hK).setRow 17 _,h.aI,h.aO,h.v0,h.v1,h.con,h.act,h.lL,h.lI,h.lO⟩
theorem RO.newJobs (h:RO X w M D K now) {a':Option Addr} {c':Nat} {J:List JobT} (hg:w.grownBy w1 (Value.slice M.A.aJ D.jobs.length M.A.cJ).ownBlock) (ho:w1.ownsRow X.w0.heap.size 87 6 (.slice a' J.length c') J.length (fJ J))
  (hat:∀ x,(Value.slice a' J.length c').ownBlock=some x→(Value.slice M.A.aJ D.jobs.length M.A.cJ).ownBlock=some x∨w.heap.size≤x) :
  RO X (w1.setCell ⟨X.rb,0,none⟩ (.slice a' J.length c')) (jM M a' c') ⟨J,D.rel,D.nxt,D.ins,D.tak,D.out,D.evs⟩ K now:=
 ⟨RO.set_ag (h.ag.grown hg h.ag.size (fun k hk=>owns_ge h.px.jobs k hk)) _ _ _ h.rb_ge,(h.px.newJ hg.size (fun x hx hne=>hg.block x hx (fun e=>hne e.symm)) ho hat).setRow 0 _,h.aI,h.aO,h.v0,h.v1,h.con,h.act,h.lL,h.lI,h.lO⟩
theorem RO.newJR (h:RO X w M D K now) (hb:Below w.heap.size w w1) {a a':Option Addr} {c c':Nat} {J:List JobT} {L:List Int} (ho:w1.ownsRow w.heap.size 87 6 (.slice a J.length c) J.length (fJ J)) (hu:w1.ownsRow w.heap.size 3 1 (.slice a' L.length c') L.length (ivs L)) :
  RO X ((w1.setCell ⟨X.rb,0,none⟩ (.slice a J.length c)).setCell ⟨X.rb,1,none⟩ (.slice a' L.length c')) (jrM M a c a' L.length c') ⟨J,L,D.nxt,D.ins,D.tak,D.out,D.evs⟩ K now:=by
 have hF:fI ⟨J,L,D.nxt,D.ins,D.tak,D.out,D.evs⟩=fun k=>if k=0 then L else fI D k:=by
  funext k
  unfold fI
  by_cases e:k=0
  ·simp [e]
  ·simp [e]
 have hI:inC (fun k=>if k=0 then Value.slice a' L.length c' else M.V k) D.ins=inC M.V D.ins:=by
  unfold inC
  simp
 have hO:outC (fun k=>if k=0 then Value.slice a' L.length c' else M.V k) D.out.length=outC M.V D.out.length:=by
  unfold outC
  simp
 refine ⟨RO.set_ag (RO.set_ag (h.ag.trans (hb.mono h.ag.size)) _ _ _ h.rb_ge) _ _ _ h.rb_ge,?_,h.aI,h.aO,rfl,h.v1,h.con,h.act,h.lL,h.lI,h.lO⟩
 have:=((h.px.newJF hb ho hu).setRow 0 (.slice a J.length c)).setRow 1 (.slice a' L.length c')
 show PX _ ⟨X.rb,M.gI,M.gO,X.w0.heap.size,_,inC (fun k=>if k=0 then Value.slice a' L.length c' else M.V k) D.ins,outC (fun k=>if k=0 then Value.slice a' L.length c' else M.V k) D.out.length,_,_,_,_,_,_,_,fI ⟨J,L,D.nxt,D.ins,D.tak,D.out,D.evs⟩,_⟩
 rw [hF,hI,hO]
 exact this
theorem RO.setJob (h:RO X w M D K now) {g:Nat} (hg:M.A.aJ=some ⟨g,0,none⟩) (i r:Nat) (j j':JobT) (u:Value) (hi:D.jobs[i]? = some j) (hr:r<6) (hj:(jc j).set r u=jc j') :
  RO X (w.setCell ⟨g,i * 6+r,none⟩ u) M (setJ D i j') K now:=by
 have hbk:(Value.slice M.A.aJ D.jobs.length M.A.cJ).ownBlock=some g:=by rw [hg];rfl
 have hl:(D.jobs.set i j').length=D.jobs.length:=List.length_set
 have ho:=h.px.jobs
 dsimp only at ho
 have ho2:(w.setCell ⟨g,i * 6+r,none⟩ u).ownsRow X.w0.heap.size 87 6 (.slice M.A.aJ D.jobs.length M.A.cJ) (D.jobs.set i j').length (fJ (D.jobs.set i j')):=by
  rw [hg] at ho ⊢
  rw [hl,← flat_set D.jobs i r j j' u hi hr hj]
  exact owns_set ho u
 have:=h.px.newJ (w1:=w.setCell ⟨g,i * 6+r,none⟩ u) (by simp) (fun x hx hne=>heap_set_ne _ _ _ _ x (fun e=>hne (by subst e;exact hbk))) ho2 (fun x hx=>.inl hx)
 refine ⟨RO.set_ag h.ag _ _ _ (owns_ge h.px.jobs g hbk),?_,h.aI,h.aO,h.v0,h.v1,h.con,h.act,h.lL,h.lI,h.lO⟩
 have e:psOf X M (setJ D i j') K now={ psOf X M D K now with vJ:=.slice M.A.aJ D.jobs.length M.A.cJ,J:=D.jobs.set i j' }:=by
  simp only [psOf,rl,setJ,hl]
  rfl
 rw [e]
 exact this
theorem inC_set (V:Nat→Value) (I:List (List Int×Int)) (c:Nat) (hc:c<I.length) (v:Value) (r:List Int×Int):((inC V I).set (c * 2) v).set (c * 2+1) (.int .i64 r.2)=inC (fun k=>if k=2 * c+2 then v else V k) (I.set c r):=by
 have hl:(inC V I).length=I.length * 2:=by
  unfold inC
  rw [flatN_len _ 2 (fun _=>rfl)]
  simp
 have hl2:(inC (fun k=>if k=2 * c+2 then v else V k) (I.set c r)).length=I.length * 2:=by
  unfold inC
  rw [flatN_len _ 2 (fun _=>rfl)]
  simp
 refine List.ext_getElem? (fun n=>?_)
 by_cases hn:n<I.length * 2
 ·obtain ⟨i,hi,q⟩:∃ i,i<I.length∧(n=i * 2∨n=i * 2+1):=⟨n / 2,by omega,by omega⟩
  have hs:i<(I.set c r).length:=by simpa using hi
  have a1:=inC_at V I i hi
  have a2:=inC_at (fun k=>if k=2 * c+2 then v else V k) (I.set c r) i hs
  rcases q with rfl|rfl
  ·rw [a2.1,List.getElem?_set_ne (by omega)]
   by_cases e:i=c
   ·subst e
    rw [List.getElem?_set_self (by omega)]
    simp
   ·rw [List.getElem?_set_ne (by omega),a1.1,if_neg (by omega)]
  ·rw [a2.2]
   by_cases e:i=c
   ·subst e
    rw [List.getElem?_set_self (by rw [List.length_set];omega)]
    simp
   ·rw [List.getElem?_set_ne (by omega),List.getElem?_set_ne (by omega),a1.2]
    rw [List.getElem_set_ne (by omega)]
 ·rw [List.getElem?_eq_none (by rw [List.length_set,List.length_set,hl];omega),List.getElem?_eq_none (by rw [hl2];omega)]
theorem outC_set (V:Nat→Value) (n c:Nat) (v:Value):(outC V n).set c v=outC (fun k=>if k=2 * c+3 then v else V k) n:=by
 refine List.ext_getElem? (fun i=>?_)
 by_cases hi:i<n
 ·rw [outC_at _ _ _ hi]
  by_cases e:i=c
  ·subst e
   rw [List.getElem?_set_self (by simp [outC,hi])]
   simp
  ·rw [List.getElem?_set_ne (by omega),outC_at _ _ _ hi,if_neg (by omega)]
 ·rw [List.getElem?_eq_none (by simp [outC];omega),List.getElem?_eq_none (by simp [outC];omega)]
theorem inC_out (V:Nat→Value) (I:List (List Int×Int)) (c:Nat) (v:Value):inC (fun k=>if k=2 * c+3 then v else V k) I=inC V I:=by
 unfold inC
 congr 1
 funext i
 dsimp only
 rw [if_neg (by omega)]
theorem outC_in (V:Nat→Value) (n c:Nat) (v:Value):outC (fun k=>if k=2 * c+2 then v else V k) n=outC V n:=by
 unfold outC
 congr 1
 funext i
 dsimp only
 rw [if_neg (by omega)]
theorem getD_set_eq {α:Type} (L:List α) (c i:Nat) (x d:α) (hc:c<L.length):(L.set c x).getD i d=if i=c then x else L.getD i d:=by
 by_cases e:i=c
 ·subst e
  simp [hc]
 ·simp [e,List.getD_eq_getElem?_getD,List.getElem?_set_ne (fun h=>e h.symm)]
theorem RO.sent (h:RO X w M D K now) (c:Nat) (hc:c<D.out.length) {v:Value} {L:List Int} (hg:w.grownBy w1 (M.V (2 * c+3)).ownBlock) (ho:w1.ownsRow X.w0.heap.size 3 1 v L.length (ivs L))
  (hat:∀ x,v.ownBlock=some x→(M.V (2 * c+3)).ownBlock=some x∨w.heap.size≤x) :
  RO X (w1.setCell ⟨M.gO,c,none⟩ v) (vM M (2 * c+3) v) ⟨D.jobs,D.rel,D.nxt,D.ins,D.tak,D.out.set c L,D.evs⟩ K now:=by
 have hF:fI ⟨D.jobs,D.rel,D.nxt,D.ins,D.tak,D.out.set c L,D.evs⟩=fun k=>if k=2 * c+3 then L else fI D k:=by
  funext k
  unfold fI
  dsimp only
  by_cases e0:k=0
  ·simp [e0]
  by_cases e1:k=1
  ·rw [if_neg e0,if_pos e1,if_neg (by omega),if_neg e0,if_pos e1]
  by_cases e2:k % 2=0
  ·rw [if_neg e0,if_neg e1,if_pos e2,if_neg (by omega),if_neg e0,if_neg e1,if_pos e2]
  rw [if_neg e0,if_neg e1,if_neg e2,if_neg e0,if_neg e1,if_neg e2,getD_set_eq _ _ _ _ _ hc]
  by_cases e:k=2 * c+3
  ·rw [if_pos e,if_pos (by omega)]
  ·rw [if_neg e,if_neg (by omega)]
 have hl:(D.out.set c L).length=D.out.length:=List.length_set
 refine ⟨RO.set_ag (h.ag.grown hg h.ag.size (fun k hk=>owns_ge (h.px.ints (2 * c+3)) k hk)) _ _ _ h.gO_ge,?_,h.aI,h.aO,?_,?_,h.con,h.act,h.lL,h.lI,by dsimp only;rw [hl];exact h.lO⟩
 ·have:=(h.px.newF (2 * c+3) hg.size (fun x hx hne=>hg.block x hx (fun e=>hne e.symm)) ho hat).setOut c v
  dsimp only at this
  rw [outC_set] at this
  have e:psOf X (vM M (2 * c+3) v) ⟨D.jobs,D.rel,D.nxt,D.ins,D.tak,D.out.set c L,D.evs⟩ K now={ psOf X M D K now with cO:=outC (fun k=>if k=2 * c+3 then v else M.V k) D.out.length,V:=fun k=>if k=2 * c+3 then v else M.V k,F:=fun k=>if k=2 * c+3 then L else fI D k }:=by
   simp only [psOf,rl,hF,hl,inC_out]
  rw [e]
  exact this
 ·show (if 0=2 * c+3 then v else M.V 0)=_
  rw [if_neg (by omega)];exact h.v0
 ·show (if 1=2 * c+3 then v else M.V 1)=_
  rw [if_neg (by omega)];exact h.v1
theorem RO.received (h:RO X w M D K now) (c:Nat) (hc:c<D.ins.length) {v:Value} {r:List Int×Int} (hb:Below w.heap.size w w1) (ho:w1.ownsRow w.heap.size 3 1 v r.1.length (ivs r.1)) :
  RO X ((w1.setCell ⟨M.gI,c * 2,none⟩ v).setCell ⟨M.gI,c * 2+1,none⟩ (.int .i64 r.2)) (vM M (2 * c+2) v) ⟨D.jobs,D.rel,D.nxt,D.ins.set c r,D.tak,D.out,D.evs⟩ K now:=by
 have hF:fI ⟨D.jobs,D.rel,D.nxt,D.ins.set c r,D.tak,D.out,D.evs⟩=fun k=>if k=2 * c+2 then r.1 else fI D k:=by
  funext k
  unfold fI
  dsimp only
  by_cases e0:k=0
  ·simp [e0]
  by_cases e1:k=1
  ·rw [if_neg e0,if_pos e1,if_neg (by omega),if_neg e0,if_pos e1]
  by_cases e2:k % 2=0
  ·rw [if_neg e0,if_neg e1,if_pos e2,if_neg e0,if_neg e1,if_pos e2,getD_set_eq _ _ _ _ _ hc]
   by_cases e:k=2 * c+2
   ·rw [if_pos e,if_pos (by omega)]
   ·rw [if_neg e,if_neg (by omega)]
  ·rw [if_neg e0,if_neg e1,if_neg e2,if_neg (by omega),if_neg e0,if_neg e1,if_neg e2]
 have hl:(D.ins.set c r).length=D.ins.length:=List.length_set
 refine ⟨RO.set_ag (RO.set_ag (h.ag.trans (hb.mono h.ag.size)) _ _ _ h.gI_ge) _ _ _ h.gI_ge,?_,h.aI,h.aO,?_,?_,h.con,h.act,h.lL,by dsimp only;rw [hl];exact h.lI,h.lO⟩
 ·have:=((h.px.newF (2 * c+2) hb.size (fun x hx _=>hb.block x hx) (owns_base ho h.ag.size) (fun x hx=>.inr (owns_ge ho x hx))).setIn (c * 2) v).setIn (c * 2+1) (.int .i64 r.2)
  dsimp only at this
  rw [inC_set _ _ _ hc] at this
  have e:psOf X (vM M (2 * c+2) v) ⟨D.jobs,D.rel,D.nxt,D.ins.set c r,D.tak,D.out,D.evs⟩ K now={ psOf X M D K now with cI:=inC (fun k=>if k=2 * c+2 then v else M.V k) (D.ins.set c r),V:=fun k=>if k=2 * c+2 then v else M.V k,F:=fun k=>if k=2 * c+2 then r.1 else fI D k }:=by
   simp only [psOf,rl,hF,hl,outC_in]
  rw [e]
  exact this
 ·show (if 0=2 * c+2 then v else M.V 0)=_
  rw [if_neg (by omega)];exact h.v0
 ·show (if 1=2 * c+2 then v else M.V 1)=_
  rw [if_neg (by omega)];exact h.v1
theorem RO.taken (h:RO X w M D K now) {g:Nat} (hg:M.A.aT=some ⟨g,0,none⟩) (c:Nat) (n:Int):RO X (w.setCell ⟨g,c,none⟩ (.int .i64 n)) M ⟨D.jobs,D.rel,D.nxt,D.ins,D.tak.set c n,D.out,D.evs⟩ K now:=by
 have hbk:(M.V 1).ownBlock=some g:=by rw [h.v1,hg];rfl
 have hl:(D.tak.set c n).length=D.tak.length:=List.length_set
 have ho:=h.takOwn
 have ho2:(w.setCell ⟨g,c,none⟩ (.int .i64 n)).ownsRow X.w0.heap.size 3 1 (M.V 1) (D.tak.set c n).length (ivs (D.tak.set c n)):=by
  rw [h.v1,hl,← ivs_set]
  rw [hg] at ho ⊢
  exact owns_set ho _
 have hF:fI ⟨D.jobs,D.rel,D.nxt,D.ins,D.tak.set c n,D.out,D.evs⟩=fun k=>if k=1 then D.tak.set c n else fI D k:=by
  funext k
  unfold fI
  dsimp only
  by_cases e0:k=0
  ·simp [e0]
  by_cases e1:k=1
  ·rw [if_neg e0,if_pos e1,if_pos e1]
  ·rw [if_neg e0,if_neg e1,if_neg e1,if_neg e0,if_neg e1]
 have hV:(fun k=>if k=1 then M.V 1 else M.V k)=M.V:=by
  funext k
  by_cases e:k=1
  ·rw [if_pos e,e]
  ·rw [if_neg e]
 have:=h.px.newF (w1:=w.setCell ⟨g,c,none⟩ (.int .i64 n)) 1 (by simp) (fun x hx hne=>heap_set_ne _ _ _ _ x (fun e=>hne (by subst e;exact hbk))) ho2 (fun x hx=>.inl hx)
 refine ⟨RO.set_ag h.ag _ _ _ (owns_ge (h.px.ints 1) g hbk),?_,h.aI,h.aO,h.v0,?_,h.con,h.act,h.lL,h.lI,h.lO⟩
 ·dsimp only at this
  rw [hV] at this
  have e:psOf X M ⟨D.jobs,D.rel,D.nxt,D.ins,D.tak.set c n,D.out,D.evs⟩ K now={ psOf X M D K now with F:=fun k=>if k=1 then D.tak.set c n else fI D k }:=by
   simp only [psOf,rl,hF,hl]
  rw [e]
  exact this
 ·dsimp only
  rw [hl]
  exact h.v1
end
set_option maxHeartbeats 4000000 in
theorem checkRun_any (C:Conf) (B:Mem) (dn:Int) (D:Dom) (A:DMem) (K:KT) (aK:Option Addr) (cK:Nat) (L:List ActT) (aL:Option Addr) (cL:Nat) (fr te:Int) (w:World) (hC:ConfIn w B C) (hD:DomIn w A D) (hK:CacheIn w aK K) (hKl:List.length K≤9223372036854775807) (hL:ChansIn w aL L) (hLl:List.length L≤9223372036854775807) :
  Calls Tryz.prog 69 #[cv C B,.int .i64 dn,dv D A,.agg #[.slice aK K.length cK],.slice aL L.length cL,.int .i64 fr,.int .i64 te] w fun e w'=>e=.returned (.int .i64 (ckRun C dn D K L fr te))∧Below w.heap.size w w':=by
 have q1:=below_new w (.cells (cl C B) 27)
 have q2:=below_new (w.alloc (.cells (cl C B) 27)) (.cells (dl D A) 46)
 have q3:=below_new ((w.alloc (.cells (cl C B) 27)).alloc (.cells (dl D A) 46)) (.cells #[.slice aK K.length cK] 72)
 have hb:=btrans (btrans q1 q2) q3
 have HB:=hid hb
 have HC:=hid (hC.keep hb)
 have HD:=hid (hD.keep hb)
 have HK:=hid (hK.keep hb)
 have HL:=hid (hL.keep hb)
 have R3:=hid (rowAt_new ((w.alloc (.cells (cl C B) 27)).alloc (.cells (dl D A) 46)) (w.heap.size+1+1) [.slice aK K.length cK] 72 (by simp))
 clear q1 q2 q3 hb hC hD hK hL
 go_enter Tryz.func69,Tryz.ntmps69
 go_wp2_with fail
 refine (checkD_any D A C B dn _ HC.out HD.out).mono ?_
 rintro e w1 ⟨rfl,hb1⟩
 generalize hW:World.alloc (World.alloc (World.alloc w _) _) _=W at *
 clear hW
 have HB1:=hid (btrans HB.out hb1)
 have T3:=hid (R3.out.below hb1 lr)
 have HK1:=hid (HK.out.keep hb1)
 have HL1:=hid (HL.out.keep hb1)
 clear R3 HK HL HC HD HB hb1
 by_cases h1:ckD C dn D=0
 case neg=>
  have HE:Hid (ckRun C dn D K L fr te=ckD C dn D):=hid (by rw [ckRun,if_pos h1])
  have hx:(ckD C dn D != 0)=true:=by simp [h1]
  clear h1
  generalize ckD C dn D=q at *
  go_wp2
  go_ret
  exact ⟨ret_int HE.out.symm,HB1.out⟩
 have H1:=hid h1
 rw [h1]
 clear h1
 have c0:=T3.out.cell 0 _ rfl
 go_wp2_with fail
 refine (check_any aK K cK _ HK1.out hKl).mono ?_
 rintro e w2 ⟨rfl,hb2⟩
 have HB2:=hid (btrans HB1.out hb2)
 have HL2:=hid (HL1.out.keep hb2)
 clear c0 T3 HK1 HL1 HB1 hb2
 by_cases h2:ck K=0
 case neg=>
  have HE:Hid (ckRun C dn D K L fr te=ck K):=hid (by rw [ckRun,if_neg (by rw [H1.out];decide),if_pos h2])
  have hx:(ck K != 0)=true:=by simp [h2]
  clear h2
  generalize ck K=q at *
  go_wp2
  go_ret
  exact ⟨ret_int HE.out.symm,HB2.out⟩
 have H2:=hid h2
 rw [h2]
 clear h2
 have HE0:Hid (ckRun C dn D K L fr te=if ckAs L≠0 then ckAs L else if fr<0∨te<fr∨100000<te then 3 else 0):=hid (by rw [ckRun,if_neg (by rw [H1.out];decide),if_neg (by rw [H2.out];decide)])
 by_cases h60:60<List.length L
 ·have HE:Hid (ckRun C dn D K L fr te=2):=hid (by rw [HE0.out,ckAs,if_pos h60];rfl)
  have hz:(60:Int)<(List.length L:Int):=by omega
  go_wp2
  go_ret
  exact ⟨ret_int HE.out.symm,HB2.out⟩
 have hz:(List.length L:Int)≤60:=by omega
 have HA:Hid (ckAs L=fe (List.length L) fun i=>ckA (L.getD i (0,0,0))):=hid (by rw [ckAs,if_neg h60])
 clear h60
 go_wp2
 go_loopw [37] (fun i wr=>∃ k:Nat,k≤List.length L∧i=.int .i64 k∧Below w2.heap.size w2 wr∧∀ j,j<k→ckA (L.getD j (0,0,0))=0) (fun i _=>List.length L - (intOf i).toNat)
 case atStart=>exact ⟨0,Nat.zero_le _,rfl,Below.refl _ _,by omega⟩
 case round=>
  obtain ⟨k,hk,rfl,hbl,hno⟩:=hrel
  have Hno:=hid hno
  clear hno
  by_cases hlt:k<List.length L
  ·obtain ⟨b1,o1,rfl,p0,p1,p2⟩:=(HL2.out.keep hbl) k hlt
   have HV:Hid (L.getD k (0,0,0)=L[k]):=hid (by simp [hlt])
   have hk1:(k:Int)<(List.length L:Int):=by omega
   have hk0:(0:Int)≤(k:Int):=by omega
   generalize L[k]=a at *
   obtain ⟨ak,an,av'⟩:=a
   dsimp only at *
   have HQ:=hid (btrans hbl (below_new wr (.cells #[.int .i64 ak,.int .i64 an,.int .i64 av'] 63)))
   clear hbl
   go_wp2_with fail
   refine (checkAction_any (ak,an,av') _).mono ?_
   rintro e w3 ⟨rfl,hb3⟩
   have HB3:=hid (btrans HQ.out hb3)
   clear hb3 HQ p0 p1 p2
   by_cases h0:ckA (ak,an,av')=0
   ·have H0:=hid h0
    rw [h0]
    clear h0
    go_wp2
    go_roundw
    case rel=>
     refine ⟨k+1,by omega,by go_num,HB3.out,fun j hj=>?_⟩
     by_cases e:j=k
     ·subst e;rw [HV.out];exact H0.out
     ·exact Hno.out j (by omega)
    case measure=>simp [intOf];omega
   ·have HE2:Hid (ckRun C dn D K L fr te=ckA (ak,an,av')):=hid (by
     have e1:ckAs L=ckA (ak,an,av'):=by rw [HA.out,fe_at _ k _ hlt (by rw [HV.out];exact h0) (fun j hj=>Hno.out j hj),HV.out]
     rw [HE0.out,e1,if_pos h0])
    have hx:(ckA (ak,an,av') != 0)=true:=by simp [h0]
    clear h0 HV
    generalize ckA (ak,an,av')=q at *
    go_wp2
    go_ret
    exact ⟨ret_int HE2.out.symm,btrans HB2.out HB3.out⟩
  ·have HE3:Hid (ckRun C dn D K L fr te=if fr<0∨te<fr∨100000<te then 3 else 0):=hid (by
    have e1:ckAs L=0:=by rw [HA.out];exact fe_zero _ _ (fun j hj=>Hno.out j (by omega))
    rw [HE0.out,e1,if_neg (by decide)])
   have HBl:=hid (btrans HB2.out hbl)
   clear hbl
   go_wp2
   all_goals go_ret
   all_goals exact ⟨ret_int (by rw [HE3.out];first|(rw [if_pos (by omega)])|(rw [if_neg (by omega)])),HBl.out⟩
end Go.Proofs.YtejhccmclanlmaaGreatDoor
