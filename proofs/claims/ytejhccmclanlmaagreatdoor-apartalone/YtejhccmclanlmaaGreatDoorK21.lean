/- Texts joined: Lo Fa Ym. -/
import Derived.Test.YtejhccmclanlmaaGreatDoorK05
import Derived.Test.YtejhccmclanlmaaGreatDoorK17
import Derived.Test.YtejhccmclanlmaaGreatDoorK19
import Derived.Test.YtejhccmclanlmaaGreatDoorK20
set_option linter.unusedVariables false
set_option maxRecDepth 100000
namespace Go.Proofs.YtejhccmclanlmaaGreatDoor
open Go.ChangeShapes Go.WideShapes Go.ChangeAt Go.RowKit Go.Deep Go.Joins
theorem Tryz.cells28:Tryz.prog.cellsOf 28=1:=by kernel_rfl
theorem Tryz.cells29:Tryz.prog.cellsOf 29=1:=by kernel_rfl
theorem Tryz.cells31:Tryz.prog.cellsOf 31=3:=by kernel_rfl
theorem Tryz.cells56:Tryz.prog.cellsOf 56=1:=by kernel_rfl
theorem Tryz.cells58:Tryz.prog.cellsOf 58=2:=by kernel_rfl
theorem Tryz.cells63:Tryz.prog.cellsOf 63=3:=by kernel_rfl
theorem arrIn_of_trod {H:Type} {enc:TypeId×Value→H} {w:World} {fuel:Nat} {v:Value} {x:DataW H×List MemPlace} (h:DataW.trod enc Tryz.prog w 0 (fun _=>true) true fuel 29 [v]=some x) :
  ∃ (a:Option Addr) (ls:List (Int×Int)) (cap:Nat),v=.slice a ls.length cap∧SlotsIn w a ls∧ls.length≤cap∧ls.length≤9223372036854775807:=by
 rcases open_slice Tryz.underlying29 h with ⟨hcs,_⟩|⟨a,len,cap,m,n,D,Pl,hcs,_,hl,hm,hmm,_,hx⟩
 ·simp only [List.cons.injEq,and_true] at hcs
  subst hcs
  exact ⟨none,[],0,rfl,fun i hi=>absurd hi (by simp),by simp,by simp⟩
 ·simp only [List.cons.injEq,and_true] at hcs
  subst hcs
  have hlm:len≤m:=by rw [hmm];simp;exact hl
  have each:∀ i,i<len→∃ q:(Int×Int),w.cell? (a.add (i * 2))=some (.int .i64 q.1)∧w.cell? (a.add (i * 2+1))=some (.int .i64 q.2):=by
   intro i hi
   obtain ⟨cs',h1,h2⟩:=hx i (by omega)
   rw [Tryz.cells58] at h1
   obtain ⟨_,hlen,hcell⟩:=World.cells?_some h1
   obtain ⟨xs,k,hk,hxy,_,hxl,hf⟩:=DataW.trod_struct Tryz.underlying58 h2
   match xs,hxl,cs',hlen with
   | [y0,y1],_,[v0,v1],_=>
    have g0:=hf 0 _ rfl
    have g1:=hf 1 _ rfl
    simp [Tryz.cells3] at g0 g1
    obtain ⟨n0,e0,_,_⟩:=DataW.trod_int Tryz.underlying3 g0
    have c0:=hcell 0 (by omega)
    rw [add_add] at c0
    obtain ⟨n1,e1,_,_⟩:=DataW.trod_int Tryz.underlying3 g1
    have c1:=hcell 1 (by omega)
    rw [add_add] at c1
    simp only [List.cons.injEq,and_true] at e0 e1
    subst e0 e1
    exact ⟨(n0,n1),by simpa using c0,by simpa using c1⟩
  obtain ⟨q,hq⟩:=choose_lt each
  refine ⟨some a,(List.range len).map q,cap,by simp,fun i hi=>?_,by simpa using hl,by unfold maxLen at hm;simp;omega⟩
  have hi':i<len:=by simpa using hi
  obtain ⟨b,o,rfl⟩:=addSpot (by have:=(hq 0 (by omega)).1;simpa using this)
  obtain ⟨h1,h2⟩:=hq i hi'
  rw [addAt] at h1 h2
  exact ⟨b,o,rfl,by simpa [Nat.add_assoc] using h1,by simpa [Nat.add_assoc] using h2⟩
theorem actIn_of_trod {H:Type} {enc:TypeId×Value→H} {w:World} {fuel:Nat} {v:Value} {x:DataW H×List MemPlace} (h:DataW.trod enc Tryz.prog w 0 (fun _=>true) true fuel 56 [v]=some x) :
  ∃ (a:Option Addr) (ls:List (Int×Int×Int)) (cap:Nat),v=.slice a ls.length cap∧ChansIn w a ls∧ls.length≤cap∧ls.length≤9223372036854775807:=by
 rcases open_slice Tryz.underlying56 h with ⟨hcs,_⟩|⟨a,len,cap,m,n,D,Pl,hcs,_,hl,hm,hmm,_,hx⟩
 ·simp only [List.cons.injEq,and_true] at hcs
  subst hcs
  exact ⟨none,[],0,rfl,fun i hi=>absurd hi (by simp),by simp,by simp⟩
 ·simp only [List.cons.injEq,and_true] at hcs
  subst hcs
  have hlm:len≤m:=by rw [hmm];simp;exact hl
  have each:∀ i,i<len→∃ q:(Int×Int×Int),w.cell? (a.add (i * 3))=some (.int .i64 q.1)∧w.cell? (a.add (i * 3+1))=some (.int .i64 q.2.1)∧w.cell? (a.add (i * 3+2))=some (.int .i64 q.2.2):=by
   intro i hi
   obtain ⟨cs',h1,h2⟩:=hx i (by omega)
   rw [Tryz.cells63] at h1
   obtain ⟨_,hlen,hcell⟩:=World.cells?_some h1
   obtain ⟨xs,k,hk,hxy,_,hxl,hf⟩:=DataW.trod_struct Tryz.underlying63 h2
   match xs,hxl,cs',hlen with
   | [y0,y1,y2],_,[v0,v1,v2],_=>
    have g0:=hf 0 _ rfl
    have g1:=hf 1 _ rfl
    have g2:=hf 2 _ rfl
    simp [Tryz.cells3] at g0 g1 g2
    obtain ⟨n0,e0,_,_⟩:=DataW.trod_int Tryz.underlying3 g0
    have c0:=hcell 0 (by omega)
    rw [add_add] at c0
    obtain ⟨n1,e1,_,_⟩:=DataW.trod_int Tryz.underlying3 g1
    have c1:=hcell 1 (by omega)
    rw [add_add] at c1
    obtain ⟨n2,e2,_,_⟩:=DataW.trod_int Tryz.underlying3 g2
    have c2:=hcell 2 (by omega)
    rw [add_add] at c2
    simp only [List.cons.injEq,and_true] at e0 e1 e2
    subst e0 e1 e2
    exact ⟨(n0,n1,n2),by simpa using c0,by simpa using c1,by simpa using c2⟩
  obtain ⟨q,hq⟩:=choose_lt each
  refine ⟨some a,(List.range len).map q,cap,by simp,fun i hi=>?_,by simpa using hl,by unfold maxLen at hm;simp;omega⟩
  have hi':i<len:=by simpa using hi
  obtain ⟨b,o,rfl⟩:=addSpot (by have:=(hq 0 (by omega)).1;simpa using this)
  obtain ⟨h1,h2,h3⟩:=hq i hi'
  rw [addAt] at h1 h2 h3
  exact ⟨b,o,rfl,by simpa [Nat.add_assoc] using h1,by simpa [Nat.add_assoc] using h2,by simpa [Nat.add_assoc] using h3⟩
theorem actsIn_of_trod {H:Type} {enc:TypeId×Value→H} {w:World} {fuel:Nat} {v:Value} {x:DataW H×List MemPlace} (h:DataW.trod enc Tryz.prog w 0 (fun _=>true) true fuel 28 [v]=some x) :
  ∃ (a:Option Addr) (ls:List (List ActT)) (cap:Nat),v=.slice a ls.length cap∧ActsIn w a ls∧ls.length≤cap∧ls.length≤9223372036854775807:=by
 rcases open_slice Tryz.underlying28 h with ⟨hcs,_⟩|⟨a,len,cap,m,n,D,Pl,hcs,_,hl,hm,hmm,_,hx⟩
 ·simp only [List.cons.injEq,and_true] at hcs
  subst hcs
  exact ⟨none,[],0,rfl,fun i hi=>absurd hi (by simp),by simp,by simp⟩
 ·simp only [List.cons.injEq,and_true] at hcs
  subst hcs
  have hlm:len≤m:=by rw [hmm];simp;exact hl
  have each:∀ i,i<len→∃ q:Option Addr×List ActT×Nat,w.cell? (a.add (i * 1))=some (.slice q.1 q.2.1.length q.2.2)∧ChansIn w q.1 q.2.1∧q.2.1.length≤q.2.2∧q.2.1.length≤9223372036854775807:=by
   intro i hi
   obtain ⟨cs',h1,h2⟩:=hx i (by omega)
   rw [Tryz.cells56] at h1
   obtain ⟨_,hlen,hcell⟩:=World.cells?_some h1
   match cs',hlen with
   | [v0],_=>
    obtain ⟨a0,l0,c0,e0,h3,h4,h5⟩:=actIn_of_trod h2
    have g0:=hcell 0 (by omega)
    rw [add_add] at g0
    subst e0
    exact ⟨(a0,l0,c0),by simpa using g0,h3,h4,h5⟩
  obtain ⟨q,hq⟩:=choose_lt each
  refine ⟨some a,(List.range len).map (fun i=>(q i).2.1),cap,by simp,fun i hi=>?_,by simpa using hl,by unfold maxLen at hm;simp;omega⟩
  have hi':i<len:=by simpa using hi
  obtain ⟨b,o,rfl⟩:=addSpot (by have:=(hq 0 (by omega)).1;simpa using this)
  obtain ⟨h1,h2,h3,h4⟩:=hq i hi'
  rw [addAt] at h1
  exact ⟨b,o,(q i).1,(q i).2.2,rfl,by simpa using h1,by simpa using h2,by simpa using h3,by simpa using h4⟩
theorem open_scr {H:Type} {enc:TypeId×Value→H} {w:World} {b0:Nat} {v:Value} {d:DataW H} {p:List MemPlace} (hv:Value.okWide Tryz.prog w .any b0 31 v) (h:DataW.Trod enc Tryz.prog w 0 (fun _=>true) true 31 v d p) :
  ∃ (S:ScrT) (M:SMem),v=sv S M∧ScrIn w M S:=by
 obtain ⟨cs,rfl,hsz⟩:=okWide_struct Tryz.underlying31 hv
 obtain ⟨v0,v1,v2,rfl⟩:∃ c0 c1 c2,cs=#[c0,c1,c2]:=by
  obtain ⟨l⟩:=cs
  match l,hsz.trans Tryz.cells31 with
  | [c0,c1,c2],_=>exact ⟨c0,c1,c2,rfl⟩
 obtain ⟨fuel,hf⟩:=h
 obtain ⟨xs,n,_,_,_,hlen,hff⟩:=DataW.trod_struct Tryz.underlying31 hf
 match xs,hlen with
 | [y0,y1,y2],_=>
  have g0:=hff 0 _ rfl
  have g1:=hff 1 _ rfl
  have g2:=hff 2 _ rfl
  simp [Value.cells,Tryz.cells3,Tryz.cells28,Tryz.cells29] at g0 g1 g2
  obtain ⟨aA,LL,cA,rfl,i0,k0,l0⟩:=actsIn_of_trod g0
  obtain ⟨aR,RR,cR,rfl,i1,k1,l1⟩:=arrIn_of_trod g1
  obtain ⟨n2,e2,_,_⟩:=DataW.trod_int Tryz.underlying3 g2
  simp only [List.cons.injEq,and_true] at e2
  subst e2
  exact ⟨⟨LL,RR,n2⟩,⟨aA,aR,cA,cR⟩,rfl,⟨i0,i1,l0,l1⟩⟩
theorem open_conf5 {H:Type} {enc:TypeId×Value→H} {w:World} {b0:Nat} {v:Value} {d:DataW H} {p:List MemPlace} (hv:Value.okWide Tryz.prog w .any b0 27 v) (h:DataW.Trod enc Tryz.prog w 0 (fun _=>true) true 27 v d p) :
  ∃ (C:Conf) (A:Mem),v=cv C A∧ConfIn w A C∧C.sl.length≤A.c5:=by
 obtain ⟨cs,rfl,hsz⟩:=okWide_struct Tryz.underlying27 hv
 obtain ⟨v0,v1,v2,v3,v4,v5,v6,v7,v8,rfl⟩:=array9 (hsz.trans Tryz.cells27)
 obtain ⟨fuel,hf⟩:=h
 obtain ⟨xs,n,_,_,_,hlen,hff⟩:=DataW.trod_struct Tryz.underlying27 hf
 match xs,hlen with
 | [y0,y1,y2,y3,y4,y5,y6,y7,y8],_=>
  have g0:=hff 0 _ rfl
  have g1:=hff 1 _ rfl
  have g2:=hff 2 _ rfl
  have g3:=hff 3 _ rfl
  have g4:=hff 4 _ rfl
  have g5:=hff 5 _ rfl
  have g6:=hff 6 _ rfl
  have g7:=hff 7 _ rfl
  have g8:=hff 8 _ rfl
  simp [Value.cells,Tryz.cells3,Tryz.cells22,Tryz.cells23,Tryz.cells24,Tryz.cells25] at g0 g1 g2 g3 g4 g5 g6 g7 g8
  obtain ⟨n0,e0,_,_⟩:=DataW.trod_int Tryz.underlying3 g0
  obtain ⟨n1,e1,_,_⟩:=DataW.trod_int Tryz.underlying3 g1
  obtain ⟨n2,e2,_,_⟩:=DataW.trod_int Tryz.underlying3 g2
  obtain ⟨n3,e3,_,_⟩:=DataW.trod_int Tryz.underlying3 g3
  obtain ⟨n4,e4,_,_⟩:=DataW.trod_int Tryz.underlying3 g4
  simp only [List.cons.injEq,and_true] at e0 e1 e2 e3 e4
  subst e0 e1 e2 e3 e4
  obtain ⟨a5,sl,c5,rfl,i5,k5,l5⟩:=slotsIn_of_trod g5
  obtain ⟨a6,ow,c6,rfl,i6,k6,l6⟩:=intsIn_of_trod g6
  obtain ⟨a7,ch,c7,rfl,i7,k7,l7⟩:=chansIn_of_trod g7
  obtain ⟨a8,ta,c8,rfl,i8,k8,l8⟩:=tasksIn_of_trod g8
  exact ⟨⟨n0,n1,n2,n3,n4,sl,ow,ch,ta⟩,⟨a5,a6,a7,a8,c5,c6,c7,c8⟩,rfl,⟨i5,i6,i7,i8,l5,l6,l7,l8,k7⟩,k5⟩
end Go.Proofs.YtejhccmclanlmaaGreatDoor
namespace Go.Proofs.YtejhccmclanlmaaGreatDoor
open Go.RowKit
theorem fe_iff {n:Nat} {f:Nat→Int}:fe n f=0↔∀ j,j<n→f j=0:=⟨fe_eq_zero,fe_zero n f⟩
theorem ckD_iff {C:Conf} {dn:Int} {D:Dom}:ckD C dn D=0↔ckPlace C dn=0∧ckShp C D=0∧ckNums D=0∧ckJobs C dn D=0∧ckIns C D=0∧ckOuts D=0:=by
 unfold ckD
 by_cases h:ckPlace C dn=0
 ·rw [if_neg (by simp [h]),fe_iff]
  constructor
  ·intro hf
   exact ⟨h,hf 0 (by omega),hf 1 (by omega),hf 2 (by omega),hf 3 (by omega),hf 4 (by omega)⟩
  ·rintro ⟨_,h0,h1,h2,h3,h4⟩ j hj
   match j,hj with
   | 0,_=>exact h0
   | 1,_=>exact h1
   | 2,_=>exact h2
   | 3,_=>exact h3
   | 4,_=>exact h4
 ·rw [if_pos h]
  exact ⟨fun e=>absurd e h,fun e=>absurd e.1 h⟩
theorem ckPlace_ok {C:Conf} {dn:Int} (h:ckPlace C dn=0):ckC C=0:=by
 unfold ckPlace at h
 split at h
 ·assumption
 ·assumption
theorem ckShp_iff {C:Conf} {D:Dom}:ckShp C D=0↔D.rel.length=C.ta.length∧D.ins.length=C.ch.length∧D.out.length=C.ch.length∧D.tak.length=C.ow.length:=by
 unfold ckShp
 split
 ·simp_all
 ·simp_all
theorem ckNums_iff {D:Dom}:ckNums D=0↔allR D.rel 0 100000=true∧inR D.nxt 0 100000=true∧allR D.tak 0 15=true:=by
 unfold ckNums
 split
 ·simp_all
 ·simp_all
theorem ckJobs_iff {C:Conf} {dn:Int} {D:Dom}:ckJobs C dn D=0↔D.jobs.length≤20∧∀ j∈D.jobs,ckJob C dn j=0:=by
 unfold ckJobs
 split
 ·constructor
  ·intro h;omega
  ·intro h;omega
 ·rw [fe_iff]
  constructor
  ·intro h
   refine ⟨by omega,fun j hj=>?_⟩
   obtain ⟨i,hi,rfl⟩:=List.getElem_of_mem hj
   have:=h i hi
   simpa [hi] using this
  ·rintro ⟨_,h⟩ i hi
   have:=h D.jobs[i] (List.getElem_mem hi)
   simpa [hi] using this
theorem taB_ok {C:Conf} (h:ckC C=0) (k:Nat) (hk:k<C.ta.length):1≤(tk C k).2.1∧(tk C k).2.1≤5000∧1≤(tk C k).2.2.1∧(tk C k).2.2.1≤5000∧1≤(tk C k).2.2.2∧(tk C k).2.2.2≤5000:=by
 have h6:ckTasks C=0:=fe_eq_zero h 6 (by omega)
 have hk':=fe_eq_zero h6 k hk
 simp only [ckTa] at hk'
 unfold tk
 split at hk'
 ·split at hk'
  ·rename_i hh
   simp [inR] at hh ⊢
   omega
  ·omega
 ·omega
theorem wrap_id {n:Int} (h1:-9223372036854775808≤n) (h2:n≤9223372036854775807):wrap64 n=n:=by
 unfold wrap64
 omega
theorem prod_le {p r:Int} (h1:1≤p) (h2:p≤5000) (h3:0≤r) (h4:r≤100000):0≤p * r∧p * r≤500000000:=by
 have a:=Int.mul_nonneg (show (0:Int)≤p by omega) h3
 have b:=Int.mul_le_mul h2 h4 h3 (show (0:Int)≤5000 by omega)
 omega
theorem relAt {D:Dom} (h:allR D.rel 0 100000=true) (k:Nat):0≤D.rel.getD k 0∧D.rel.getD k 0≤100000:=by
 by_cases hk:k<D.rel.length
 ·have:=List.all_eq_true.1 h D.rel[k] (List.getElem_mem hk)
  simp [inR] at this
  simp [hk]
  omega
 ·simp [hk]
theorem comes_eq {C:Conf} (hC:ckC C=0) {D:Dom} (h:allR D.rel 0 100000=true) (k:Nat) (hk:k<C.ta.length):comesAt C D k=(tk C k).2.1 * D.rel.getD k 0∧0≤comesAt C D k:=by
 have h1:=taB_ok hC k hk
 have h2:=relAt h k
 have h3:=prod_le h1.1 h1.2.1 h2.1 h2.2
 unfold comesAt
 rw [wrap_id (by omega) (by omega)]
 exact ⟨rfl,h3.1⟩
def relStep (C:Conf) (k:Nat) (D:Dom):Dom:=
 if D.jobs.length=20 then ⟨D.jobs,D.rel.set k (D.rel.getD k 0+1),D.nxt,D.ins,D.tak,D.out,D.evs⟩
 else ⟨D.jobs++[((k:Int),D.rel.getD k 0,comesAt C D k,0,false,false)],D.rel.set k (D.rel.getD k 0+1),D.nxt,D.ins,D.tak,D.out,D.evs++[(comesAt C D k,2,(k:Int),D.rel.getD k 0)]⟩
def goOn (C:Conf) (now:Int) (k:Nat) (D:Dom):Bool:=decide (comesAt C D k≤now) && decide (D.rel.getD k 0<100000)
def relN (C:Conf) (now:Int) (k:Nat):Nat→Dom→Dom
 | 0,D=>D
 | n+1,D=>if goOn C now k D=true then relN C now k n (relStep C k D) else D
def relT (C:Conf) (now:Int) (k:Nat) (D:Dom):Dom:=relN C now k (100000 - (D.rel.getD k 0).toNat) D
def relL (C:Conf) (now:Int) (l:List NT) (D:Dom):Dom:=l.foldl (fun D x=>relT C now x.1 D) D
def relAll (C:Conf) (dn now:Int) (D:Dom):Dom:=relL C now (ownT C dn C.ta.length) D
def late (C:Conf) (now:Int) (j:JobT):Bool:=!j.2.2.2.2.2 && decide (dueAt C j≤now)
def markJ (j:JobT):JobT:=(j.1,j.2.1,j.2.2.1,j.2.2.2.1,j.2.2.2.2.1,true)
def missStep (C:Conf) (now:Int) (i:Nat) (D:Dom):Dom:=
 match D.jobs[i]? with
 | none=>D
 | some j=>if late C now j=true then ⟨D.jobs.set i (markJ j),D.rel,D.nxt,D.ins,D.tak,D.out,D.evs++[(dueAt C j,6,j.1,j.2.1)]⟩ else D
def missN (C:Conf) (now:Int) (n:Nat) (D:Dom):Dom:=(List.range n).foldl (fun D i=>missStep C now i D) D
theorem missN_succ (C:Conf) (now:Int) (n:Nat) (D:Dom):missN C now (n+1) D=missStep C now n (missN C now n D):=by
 simp [missN,List.range_succ]
def relD (C:Conf) (dn now:Int) (D:Dom):Dom:=missN C now (relAll C dn now D).jobs.length (relAll C dn now D)
theorem relStep_rel (C:Conf) (k:Nat) (D:Dom):(relStep C k D).rel=D.rel.set k (D.rel.getD k 0+1):=by
 unfold relStep;split <;> rfl
theorem relStep_at (C:Conf) (k:Nat) (D:Dom) (hk:k<D.rel.length):(relStep C k D).rel.getD k 0=D.rel.getD k 0+1:=by
 rw [relStep_rel];simp [hk]
theorem relStep_ne (C:Conf) (k i:Nat) (D:Dom) (h:i≠k):(relStep C k D).rel.getD i 0=D.rel.getD i 0:=by
 rw [relStep_rel];simp [List.getElem?_set_ne (Ne.symm h)]
theorem relStep_ok {C:Conf} {dn now:Int} {D:Dom} (hz:ckD C dn D=0) (hn:inR now 0 100000=true) (k:Nat) (hk:k<C.ta.length) (ho:(tk C k).1=dn) (hg:goOn C now k D=true):ckD C dn (relStep C k D)=0:=by
 obtain ⟨h0,h1,h2,h3,h4,h5⟩:=ckD_iff.1 hz
 have hC:=ckPlace_ok h0
 have hN:=ckNums_iff.1 h2
 have hS:=ckShp_iff.1 h1
 have hJ:=ckJobs_iff.1 h3
 have ht:=taB_ok hC k hk
 have hr:=relAt hN.1 k
 have hc:=comes_eq hC hN.1 k hk
 simp only [goOn,Bool.and_eq_true,decide_eq_true_eq] at hg
 simp only [inR,Bool.and_eq_true,decide_eq_true_eq] at hn
 have hrel:allR (D.rel.set k (D.rel.getD k 0+1)) 0 100000=true:=by
  refine allR_true (fun j hj=>?_)
  by_cases e:j=k
  ·subst e
   simp only [List.getElem_set_self]
   simp [inR]
   simp at hr hg
   omega
  ·rw [List.getElem_set_ne (fun e'=>e e'.symm)]
   have:=List.all_eq_true.1 hN.1 (D.rel[j]'(by simpa using hj)) (List.getElem_mem _)
   exact this
 have hj:ckJob C dn ((k:Int),D.rel.getD k 0,comesAt C D k,0,false,false)=0:=by
  unfold ckJob
  rw [if_pos ⟨by simp,by simpa using hk,by simpa [tk] using ho⟩,if_pos]
  have hb:wrap64 ((C.ta.getD k (0,0,0,0)).2.2.1 - 1)=(C.ta.getD k (0,0,0,0)).2.2.1 - 1:=by
   apply wrap_id <;> simp only [tk] at ht <;> omega
  simp only [Int.toNat_natCast,hb]
  simp only [tk] at ht
  simp only [inR,Bool.and_eq_true,decide_eq_true_eq]
  omega
 refine ckD_iff.2 ⟨h0,ckShp_iff.2 ?_,ckNums_iff.2 ?_,ckJobs_iff.2 ?_,?_,?_⟩
 ·unfold relStep;split <;> simpa using hS
 ·unfold relStep;split <;> exact ⟨hrel,hN.2⟩
 ·unfold relStep
  split
  ·exact hJ
  ·refine ⟨?_,fun j hjm=>?_⟩
   ·simp;omega
   ·rcases List.mem_append.1 hjm with h|h
    ·exact hJ.2 j h
    ·simp only [List.mem_singleton] at h
     rw [h];exact hj
 ·unfold relStep;split <;> exact h4
 ·unfold relStep;split <;> exact h5
theorem relN_stop {C:Conf} {now:Int} {k:Nat} {D:Dom} (n:Nat) (h:goOn C now k D=false):relN C now k n D=D:=by
 cases n with
 | zero=>rfl
 | succ n=>simp [relN,h]
theorem relN_go {C:Conf} {now:Int} {k:Nat} {D:Dom} (n:Nat) (h:goOn C now k D=true):relN C now k (n+1) D=relN C now k n (relStep C k D):=by
 simp [relN,h]
theorem relN_ind {C:Conf} {now:Int} {k:Nat} (P:Dom→Prop) (hs:∀ D,P D→goOn C now k D=true→P (relStep C k D)):∀ (n:Nat) (D:Dom),P D→P (relN C now k n D):=by
 intro n
 induction n with
 | zero=>intro D h;exact h
 | succ n ih=>
  intro D h
  unfold relN
  split
  ·rename_i hg;exact ih _ (hs D h hg)
  ·exact h
theorem relN_end {C:Conf} {now:Int} {k:Nat}:∀ (n:Nat) (D:Dom),k<D.rel.length→100000 - D.rel.getD k 0≤n→goOn C now k (relN C now k n D)=false:=by
 intro n
 induction n with
 | zero=>
  intro D hk h
  have:¬ D.rel.getD k 0<100000:=by omega
  simp [relN,goOn]
  intro _
  simpa using this
 | succ n ih=>
  intro D hk h
  unfold relN
  split
  ·refine ih _ ?_ ?_
   ·rw [relStep_rel];simpa using hk
   ·rw [relStep_at C k D hk];omega
  ·rename_i hg;simpa using hg
theorem goOn_congr {C:Conf} {now:Int} {k:Nat} {D D':Dom} (h:D'.rel.getD k 0=D.rel.getD k 0):goOn C now k D'=goOn C now k D:=by
 unfold goOn comesAt;rw [h]
theorem relT_ok {C:Conf} {dn now:Int} {D:Dom} (hz:ckD C dn D=0) (hn:inR now 0 100000=true) (k:Nat) (hk:k<C.ta.length) (ho:(tk C k).1=dn):ckD C dn (relT C now k D)=0:=
 relN_ind (fun D=>ckD C dn D=0) (fun D h hg=>relStep_ok h hn k hk ho hg) _ D hz
theorem relT_end {C:Conf} {dn now:Int} {D:Dom} (hz:ckD C dn D=0) (k:Nat) (hk:k<C.ta.length):goOn C now k (relT C now k D)=false:=by
 obtain ⟨h0,h1,h2,h3,h4,h5⟩:=ckD_iff.1 hz
 have hr:=relAt (ckNums_iff.1 h2).1 k
 exact relN_end _ D (by have:=ckShp_iff.1 h1;omega) (by omega)
theorem relT_ne {C:Conf} {now:Int} {D:Dom} (k i:Nat) (h:i≠k):(relT C now k D).rel.getD i 0=D.rel.getD i 0:=
 relN_ind (fun D'=>D'.rel.getD i 0=D.rel.getD i 0) (fun D' h' hg=>(relStep_ne C k i D' h).trans h') _ D rfl
theorem relL_ok {C:Conf} {dn now:Int} (hn:inR now 0 100000=true):∀ (l:List NT) (D:Dom),(∀ x∈l,x.1<C.ta.length∧(tk C x.1).1=dn)→ckD C dn D=0→ckD C dn (relL C now l D)=0:=by
 intro l
 induction l with
 | nil=>intro D _ h;exact h
 | cons x r ih=>
  intro D hx h
  have h1:=hx x (by simp)
  exact ih _ (fun y hy=>hx y (by simp [hy])) (relT_ok h hn x.1 h1.1 h1.2)
theorem relL_quiet {C:Conf} {dn now:Int} (hn:inR now 0 100000=true):∀ (l:List NT) (D:Dom),(∀ x∈l,x.1<C.ta.length∧(tk C x.1).1=dn)→ckD C dn D=0→∀ i,(goOn C now i D=false∨∃ x∈l,x.1=i)→goOn C now i (relL C now l D)=false:=by
 intro l
 induction l with
 | nil=>
  intro D _ _ i h
  rcases h with h|⟨x,hx,_⟩
  ·exact h
  ·simp at hx
 | cons x r ih=>
  intro D hx h i hi
  have h1:=hx x (by simp)
  refine ih _ (fun y hy=>hx y (by simp [hy])) (relT_ok h hn x.1 h1.1 h1.2) i ?_
  by_cases e:i=x.1
  ·subst e;exact .inl (relT_end h x.1 h1.1)
  ·rcases hi with hi|⟨y,hy,he⟩
   ·exact .inl (by rw [goOn_congr (relT_ne x.1 i e)];exact hi)
   ·rcases List.mem_cons.1 hy with rfl|hy
    ·exact absurd he.symm e
    ·exact .inr ⟨y,hy,he⟩
theorem own_mem {C:Conf} {dn:Int}:∀ x∈ownT C dn C.ta.length,x.1<C.ta.length∧(tk C x.1).1=dn:=by
 intro x hx
 obtain ⟨h1,h2,h3⟩:=mem_ownT.1 hx
 exact ⟨h1,by rw [tk,← h2];exact h3⟩
theorem missStep_rel (C:Conf) (now:Int) (i:Nat) (D:Dom):(missStep C now i D).rel=D.rel:=by
 unfold missStep
 split
 ·rfl
 ·split <;> rfl
theorem missStep_len (C:Conf) (now:Int) (i:Nat) (D:Dom):(missStep C now i D).jobs.length=D.jobs.length:=by
 unfold missStep
 split
 ·rfl
 ·split <;> simp
theorem ckJob_mark (C:Conf) (dn:Int) (j:JobT):ckJob C dn (markJ j)=ckJob C dn j:=rfl
theorem missStep_ok {C:Conf} {dn now:Int} {D:Dom} (hz:ckD C dn D=0) (i:Nat):ckD C dn (missStep C now i D)=0:=by
 unfold missStep
 split
 ·exact hz
 ·rename_i j hj
  split
  ·obtain ⟨h0,h1,h2,h3,h4,h5⟩:=ckD_iff.1 hz
   have hJ:=ckJobs_iff.1 h3
   refine ckD_iff.2 ⟨h0,h1,h2,ckJobs_iff.2 ⟨by simpa using hJ.1,fun y hy=>?_⟩,h4,h5⟩
   rcases List.mem_or_eq_of_mem_set hy with h|h
   ·exact hJ.2 y h
   ·rw [h,ckJob_mark];exact hJ.2 j (List.mem_of_getElem? hj)
  ·exact hz
theorem missN_ind (C:Conf) (now:Int) (P:Dom→Prop) (hs:∀ D i,P D→P (missStep C now i D)) (n:Nat) (D:Dom) (h:P D):P (missN C now n D):=by
 induction n with
 | zero=>exact h
 | succ n ih=>rw [missN_succ];exact hs _ _ ih
theorem missN_rel (C:Conf) (now:Int) (n:Nat) (D:Dom):(missN C now n D).rel=D.rel:=missN_ind C now (fun D'=>D'.rel=D.rel) (fun D' i h=>(missStep_rel C now i D').trans h) n D rfl
theorem missN_len (C:Conf) (now:Int) (n:Nat) (D:Dom):(missN C now n D).jobs.length=D.jobs.length:=missN_ind C now (fun D'=>D'.jobs.length=D.jobs.length) (fun D' i h=>(missStep_len C now i D').trans h) n D rfl
theorem missN_ok {C:Conf} {dn now:Int} {D:Dom} (hz:ckD C dn D=0) (n:Nat):ckD C dn (missN C now n D)=0:=missN_ind C now (fun D=>ckD C dn D=0) (fun D i h=>missStep_ok h i) n D hz
theorem relD_ok {C:Conf} {dn now:Int} {D:Dom} (hz:ckD C dn D=0) (hn:inR now 0 100000=true):ckD C dn (relD C dn now D)=0:=
 missN_ok (relL_ok hn _ D own_mem hz) _
theorem relStep_evs (C:Conf) (k:Nat) (D:Dom):(relStep C k D).evs.length+D.jobs.length=D.evs.length+(relStep C k D).jobs.length:=by
 unfold relStep
 split
 ·rfl
 ·simp;omega
theorem relN_evs (C:Conf) (now:Int) (k n:Nat) (D:Dom):(relN C now k n D).evs.length+D.jobs.length=D.evs.length+(relN C now k n D).jobs.length:=
 relN_ind (fun D'=>D'.evs.length+D.jobs.length=D.evs.length+D'.jobs.length) (fun D' h _=>by have:=relStep_evs C k D';omega) n D rfl
theorem relL_evs (C:Conf) (now:Int):∀ (l:List NT) (D:Dom),(relL C now l D).evs.length+D.jobs.length=D.evs.length+(relL C now l D).jobs.length:=by
 intro l
 induction l with
 | nil=>intro D;rfl
 | cons x r ih=>
  intro D
  have h1:=ih (relT C now x.1 D)
  have h2:(relT C now x.1 D).evs.length+D.jobs.length=D.evs.length+(relT C now x.1 D).jobs.length:=relN_evs C now x.1 _ D
  show (relL C now r (relT C now x.1 D)).evs.length+_=_+(relL C now r (relT C now x.1 D)).jobs.length
  omega
theorem missStep_evs (C:Conf) (now:Int) (i:Nat) (D:Dom):(missStep C now i D).evs.length≤D.evs.length+1:=by
 unfold missStep
 split
 ·simp
 ·split <;> simp
theorem missN_evs (C:Conf) (now:Int) (n:Nat) (D:Dom):(missN C now n D).evs.length≤D.evs.length+n:=by
 induction n with
 | zero=>exact Nat.le_refl _
 | succ n ih=>
  rw [missN_succ]
  have:=missStep_evs C now n (missN C now n D)
  omega
theorem jobs20 {C:Conf} {dn:Int} {D:Dom} (hz:ckD C dn D=0):D.jobs.length≤20:=(ckJobs_iff.1 (ckD_iff.1 hz).2.2.2.1).1
theorem relD_evs {C:Conf} {dn now:Int} {D:Dom} (hz:ckD C dn D=0) (hn:inR now 0 100000=true):(relD C dn now D).evs.length≤D.evs.length+40:=by
 have h1:=relL_evs C now (ownT C dn C.ta.length) D
 have h2:=jobs20 (relL_ok hn (ownT C dn C.ta.length) D own_mem hz)
 have h3:=missN_evs C now (relAll C dn now D).jobs.length (relAll C dn now D)
 have h4:(relAll C dn now D)=relL C now (ownT C dn C.ta.length) D:=rfl
 unfold relD
 rw [h4] at h3 ⊢
 omega
theorem tasksOk_of {C:Conf} {dn:Int} {D:Dom} (hz:ckD C dn D=0):TasksOk C D.jobs:=by
 intro i hi
 have:=(ckJobs_iff.1 (ckD_iff.1 hz).2.2.2.1).2 D.jobs[i] (List.getElem_mem hi)
 unfold ckJob at this
 split at this
 ·rename_i h;exact ⟨h.1,h.2.1⟩
 ·omega
theorem aheadB_iff {C:Conf} {x y:JobT}:aheadB C x y=true↔dueAt C x<dueAt C y∨dueAt C x=dueAt C y∧(x.1<y.1∨x.1=y.1∧x.2.1<y.2.1):=by
 unfold aheadB
 rw [decide_eq_true_eq]
 unfold orI cmpI
 repeat' split
 all_goals omega
theorem ahead_irr (C:Conf) (x:JobT):aheadB C x x=false:=by
 cases h:aheadB C x x with
 | false=>rfl
 | true=>have:=aheadB_iff.1 h;omega
theorem ahead_trans {C:Conf} {x y z:JobT} (h1:aheadB C x y=true) (h2:aheadB C y z=true):aheadB C x z=true:=by
 have a:=aheadB_iff.1 h1
 have b:=aheadB_iff.1 h2
 exact aheadB_iff.2 (by omega)
theorem least_ex (C:Conf):∀ (J:List JobT),J≠[]→∃ y∈J,∀ x∈J,aheadB C x y=false:=by
 intro J
 induction J with
 | nil=>intro h;exact absurd rfl h
 | cons a r ih=>
  intro _
  by_cases hr:r=[]
  ·subst hr
   exact ⟨a,by simp,fun x hx=>by simp at hx;rw [hx];exact ahead_irr C a⟩
  ·obtain ⟨y,hy,hmin⟩:=ih hr
   cases h:aheadB C a y with
   | false=>
    refine ⟨y,by simp [hy],fun x hx=>?_⟩
    rcases List.mem_cons.1 hx with rfl|hx
    ·exact h
    ·exact hmin x hx
   | true=>
    refine ⟨a,by simp,fun x hx=>?_⟩
    rcases List.mem_cons.1 hx with rfl|hx
    ·exact ahead_irr C x
    ·cases hxa:aheadB C x a with
     | false=>rfl
     | true=>have:=ahead_trans hxa h;rw [hmin x hx] at this;cases this
theorem pickI_spec (C:Conf) (J:List JobT):(J=[]∧pickI C J=-1)∨∃ (k:Nat) (h:k<J.length),pickI C J=k∧∀ i (hi:i<J.length),¬ dueAt C J[i]<dueAt C J[k]:=by
 by_cases hJ:J=[]
 ·exact .inl ⟨hJ,by subst hJ;rfl⟩
 ·right
  obtain ⟨y,hy,hmin⟩:=least_ex C J hJ
  have hany:J.any (fun y=>!anyA C J y)=true:=List.any_eq_true.2 ⟨y,hy,by
   simp only [Bool.not_eq_true']
   cases h:anyA C J y with
   | false=>rfl
   | true=>
    obtain ⟨x,hx,h2⟩:=List.any_eq_true.1 h
    rw [hmin x hx] at h2;cases h2⟩
  unfold pickI idxP
  cases h:J.findIdx? (fun y=>!anyA C J y) with
  | none=>
   rw [List.findIdx?_eq_none_iff] at h
   obtain ⟨x,hx,h2⟩:=List.any_eq_true.1 hany
   rw [h x hx] at h2;cases h2
  | some k=>
   obtain ⟨hk,he,_⟩:=List.findIdx?_eq_some_iff_getElem.1 h
   refine ⟨k,hk,rfl,fun i hi hlt=>?_⟩
   simp only [Bool.not_eq_true'] at he
   have:anyA C J J[k]=true:=List.any_eq_true.2 ⟨J[i],List.getElem_mem hi,aheadB_iff.2 (.inl hlt)⟩
   rw [he] at this;cases this
set_option maxHeartbeats 1000000 in
theorem pick_ok (D:Dom) (A:DMem) (C:Conf) (B:Mem) (dn:Int) (w:World) (hC:ConfIn w B C) (hD:DomIn w A D) (hz:ckD C dn D=0) (hJ:TasksOk C D.jobs) :
  Calls Tryz.prog 157 #[cv C B,.int .i64 dn,dv D A] w fun e w'=>e=.returned (.tuple #[.int .i64 (pickI C D.jobs),.int .i64 0])∧Below w.heap.size w w':=by
 have q1:=below_new w (.cells (cl C B) 27)
 have q2:=below_new (w.alloc (.cells (cl C B) 27)) (.cells (dl D A) 46)
 have HC:=hid (hC.keep (btrans q1 q2))
 have HD:=hid (hD.keep (btrans q1 q2))
 have HX:=hid ((boxC_new w C B).keep q2)
 have HR:=hid (rowAt_new2 (w.alloc (.cells (cl C B) 27)) (w.heap.size+1) (dl D A).toList 46 (by simp))
 have HB:=hid (btrans q1 q2)
 have HZ:=hid hz
 have HJ:=hid hJ
 clear q1 q2 hC hD hz hJ
 obtain ⟨aJ,aR,aI,aT,aO,aE,cJ,cR,cI,cT,cO,cE⟩:=A
 obtain ⟨a5,a6,a7,a8,c5,c6,c7,c8⟩:=B
 dsimp only [cv,cl,dv,dl] at *
 go_enter Tryz.func157,Tryz.ntmps157
 obtain ⟨g0,g1,g2,g3,g4,g5,g6,g7,g8⟩:=HX.out
 have d0:=HR.out.cell 0 _ rfl
 have d1:=HR.out.cell 1 _ rfl
 have d2:=HR.out.cell 2 _ rfl
 have d3:=HR.out.cell 3 _ rfl
 have d4:=HR.out.cell 4 _ rfl
 have d5:=HR.out.cell 5 _ rfl
 have d6:=HR.out.cell 6 _ rfl
 go_wp2_with fail
 refine (checkD_any D ⟨aJ,aR,aI,aT,aO,aE,cJ,cR,cI,cT,cO,cE⟩ C ⟨a5,a6,a7,a8,c5,c6,c7,c8⟩ dn _ HC.out HD.out).mono ?_
 rintro e w1 ⟨rfl,hb1⟩
 rw [HZ.out]
 generalize World.alloc (World.alloc w _) _=W at *
 clear g0 g1 g2 g3 g4 g5 g6 g7 g8 d0 d1 d2 d3 d4 d5 d6
 obtain ⟨g0,g1,g2,g3,g4,g5,g6,g7,g8⟩:=HX.out.keep hb1
 have r:=HR.out.below hb1 lr
 have d0:=r.cell 0 _ rfl
 have d1:=r.cell 1 _ rfl
 have d2:=r.cell 2 _ rfl
 have d3:=r.cell 3 _ rfl
 have d4:=r.cell 4 _ rfl
 have d5:=r.cell 5 _ rfl
 have d6:=r.cell 6 _ rfl
 have v1:=below_new w1 (.cells (kl D ⟨aJ,aR,aI,aT,aO,aE,cJ,cR,cI,cT,cO,cE⟩ C ⟨a5,a6,a7,a8,c5,c6,c7,c8⟩ dn).toArray 179)
 have HK:Hid (KeepIn (w1.alloc (.cells (kl D ⟨aJ,aR,aI,aT,aO,aE,cJ,cR,cI,cT,cO,cE⟩ C ⟨a5,a6,a7,a8,c5,c6,c7,c8⟩ dn).toArray 179)) w1.heap.size D ⟨aJ,aR,aI,aT,aO,aE,cJ,cR,cI,cT,cO,cE⟩ C ⟨a5,a6,a7,a8,c5,c6,c7,c8⟩ dn):=hid ⟨rowAt_new2 w1 w1.heap.size (kl D ⟨aJ,aR,aI,aT,aO,aE,cJ,cR,cI,cT,cO,cE⟩ C ⟨a5,a6,a7,a8,c5,c6,c7,c8⟩ dn) 179 rfl,(HD.out.keep hb1).keep v1,(HC.out.keep hb1).keep v1⟩
 have HB2:=hid (btrans HB.out (btrans hb1 v1))
 clear r v1 hb1 HC HD HX HR HB
 go_wp2_with fail
 refine (first_any w1.heap.size D ⟨aJ,aR,aI,aT,aO,aE,cJ,cR,cI,cT,cO,cE⟩ C ⟨a5,a6,a7,a8,c5,c6,c7,c8⟩ dn _ HK.out HJ.out).mono ?_
 rintro e w2 ⟨rfl,hb2⟩
 generalize hq:pickI C D.jobs=q at *
 have HQ:=hid hq
 clear hq g0 g1 g2 g3 g4 g5 g6 g7 g8 d0 d1 d2 d3 d4 d5 d6
 go_wp2
 go_ret2
 exact ⟨by rw [HQ.out];rfl,btrans HB2.out hb2⟩
end Go.Proofs.YtejhccmclanlmaaGreatDoor
