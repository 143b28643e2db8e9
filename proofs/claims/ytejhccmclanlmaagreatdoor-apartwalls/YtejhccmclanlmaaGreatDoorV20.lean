/- Lo Ym -/
import Derived.Test.YtejhccmclanlmaaGreatDoorV15
import Derived.Test.YtejhccmclanlmaaGreatDoorV16
import Derived.Test.YtejhccmclanlmaaGreatDoorV17
set_option linter.all false
set_option maxRecDepth 100000
set_option maxHeartbeats 8000000
namespace Go.Proofs.YtejhccmclanlmaaGreatDoor
open Go.ChangeShapes Go.WideShapes Go.ChangeAt Go.RowKit Go.Deep Go.Joins Go.Proofs.Tryz
variable {b0 fuel:Nat} {v:Value} {w:World}
theorem Tryz.cells28:prog.cellsOf 28=1:=by kernel_rfl
theorem Tryz.cells29:prog.cellsOf 29=1:=by kernel_rfl
theorem Tryz.cells31:prog.cellsOf 31=3:=by kernel_rfl
theorem Tryz.cells56:prog.cellsOf 56=1:=by kernel_rfl
theorem Tryz.cells58:prog.cellsOf 58=2:=by kernel_rfl
theorem Tryz.cells63:prog.cellsOf 63=3:=by kernel_rfl
theorem Zjb {H:Type} {enc:TypeId×Value→H} {x:DataW H×List MemPlace} (h:DataW.trod enc prog w 0 (fun _=>true) true fuel 29 [v]=some x):
  ∃ (a:Option Addr) (ls:List (Int×Int)) (cap:Nat),v=.slice a ls.length cap∧Qs w a ls∧ls.length≤cap∧ls.length≤9223372036854775807:=by
 rcases open_slice underlying29 h with ⟨a1,_⟩|⟨a,a2,cap,m,n,D,Pl,a1,_,hl,hm,a5,_,hx⟩
 ·simp only [List.cons.injEq,and_true] at a1
  subst a1;exact ⟨none,[],0,rfl,fun i hi=>absurd hi (by simp),by simp,by simp⟩
 ·simp only [List.cons.injEq,and_true] at a1
  subst a1;have a9:a2≤m:=by rw [a5];simp;exact hl
  have a3:∀ i,i<a2→∃ q:(Int×Int),w.cell? (a.add (i*2))=some (.int .i64 q.1)∧w.cell? (a.add (i*2+1))=some (.int .i64 q.2):=by
   intro i hi;obtain ⟨a6,h1,h2⟩:=hx i (by omega);rw [Tryz.cells58] at h1;obtain ⟨_,a4,a0⟩:=World.cells?_some h1;obtain ⟨xs,k,hk,aa,_,a7,hf⟩:=DataW.trod_struct underlying58 h2
   match xs,a7,a6,a4 with
   | [y0,y1],_,[v0,v1],_=>
    have g0:=hf 0 _ rfl;have g1:=hf 1 _ rfl;simp [Tryz.cells3] at g0 g1;obtain ⟨n0,e0,_,_⟩:=DataW.trod_int underlying3 g0;have c0:=a0 0 (by omega);rw [add_add] at c0;obtain ⟨n1,e1,_,_⟩:=DataW.trod_int underlying3 g1;have c1:=a0 1 (by omega);rw [add_add] at c1;simp only [List.cons.injEq,and_true] at e0 e1;subst e0 e1;exact ⟨(n0,n1),by simpa using c0,by simpa using c1⟩
  obtain ⟨q,hq⟩:=choose_lt a3;refine ⟨some a,(List.range a2).map q,cap,by simp,fun i hi=>?_,by simpa using hl,by unfold maxLen at hm;simp;omega⟩;have a8:i<a2:=by simpa using hi
  obtain ⟨b,o,rfl⟩:=Zdm (by have:=(hq 0 (by omega)).1;simpa using this);obtain ⟨h1,h2⟩:=hq i a8;rw [Znf] at h1 h2;exact ⟨b,o,rfl,by simpa [Nat.add_assoc] using h1,by simpa [Nat.add_assoc] using h2⟩
theorem Zjl {H:Type} {enc:TypeId×Value→H} {x:DataW H×List MemPlace} (h:DataW.trod enc prog w 0 (fun _=>true) true fuel 56 [v]=some x):
  ∃ (a:Option Addr) (ls:List (Int×Int×Int)) (cap:Nat),v=.slice a ls.length cap∧Yn w a ls∧ls.length≤cap∧ls.length≤9223372036854775807:=by
 rcases open_slice underlying56 h with ⟨a1,_⟩|⟨a,a2,cap,m,n,D,Pl,a1,_,hl,hm,a5,_,hx⟩
 ·simp only [List.cons.injEq,and_true] at a1
  subst a1;exact ⟨none,[],0,rfl,fun i hi=>absurd hi (by simp),by simp,by simp⟩
 ·simp only [List.cons.injEq,and_true] at a1
  subst a1;have a9:a2≤m:=by rw [a5];simp;exact hl
  have a3:∀ i,i<a2→∃ q:(Int×Int×Int),w.cell? (a.add (i*3))=some (.int .i64 q.1)∧w.cell? (a.add (i*3+1))=some (.int .i64 q.2.1)∧w.cell? (a.add (i*3+2))=some (.int .i64 q.2.2):=by
   intro i hi;obtain ⟨a6,h1,h2⟩:=hx i (by omega);rw [Tryz.cells63] at h1;obtain ⟨_,a4,a0⟩:=World.cells?_some h1;obtain ⟨xs,k,hk,aa,_,a7,hf⟩:=DataW.trod_struct underlying63 h2
   match xs,a7,a6,a4 with
   | [y0,y1,y2],_,[v0,v1,v2],_=>
    have g0:=hf 0 _ rfl;have g1:=hf 1 _ rfl;have g2:=hf 2 _ rfl;simp [Tryz.cells3] at g0 g1 g2;obtain ⟨n0,e0,_,_⟩:=DataW.trod_int underlying3 g0;have c0:=a0 0 (by omega);rw [add_add] at c0;obtain ⟨n1,e1,_,_⟩:=DataW.trod_int underlying3 g1;have c1:=a0 1 (by omega);rw [add_add] at c1;obtain ⟨n2,e2,_,_⟩:=DataW.trod_int underlying3 g2;have c2:=a0 2 (by omega);rw [add_add] at c2;simp only [List.cons.injEq,and_true] at e0 e1 e2;subst e0 e1 e2;exact ⟨(n0,n1,n2),by simpa using c0,by simpa using c1,by simpa using c2⟩
  obtain ⟨q,hq⟩:=choose_lt a3;refine ⟨some a,(List.range a2).map q,cap,by simp,fun i hi=>?_,by simpa using hl,by unfold maxLen at hm;simp;omega⟩;have a8:i<a2:=by simpa using hi
  obtain ⟨b,o,rfl⟩:=Zdm (by have:=(hq 0 (by omega)).1;simpa using this);obtain ⟨h1,h2,h3⟩:=hq i a8;rw [Znf] at h1 h2 h3;exact ⟨b,o,rfl,by simpa [Nat.add_assoc] using h1,by simpa [Nat.add_assoc] using h2,by simpa [Nat.add_assoc] using h3⟩
theorem Zhj {H:Type} {enc:TypeId×Value→H} {x:DataW H×List MemPlace} (h:DataW.trod enc prog w 0 (fun _=>true) true fuel 28 [v]=some x):
  ∃ (a:Option Addr) (ls:List (List Qg)) (cap:Nat),v=.slice a ls.length cap∧Zfk w a ls∧ls.length≤cap∧ls.length≤9223372036854775807:=by
 rcases open_slice underlying28 h with ⟨a1,_⟩|⟨a,a3,cap,m,n,D,Pl,a1,_,hl,hm,a6,_,hx⟩
 ·simp only [List.cons.injEq,and_true] at a1
  subst a1;exact ⟨none,[],0,rfl,fun i hi=>absurd hi (by simp),by simp,by simp⟩
 ·simp only [List.cons.injEq,and_true] at a1
  subst a1;have a9:a3≤m:=by rw [a6];simp;exact hl
  have a4:∀ i,i<a3→∃ q:Option Addr×List Qg×Nat,w.cell? (a.add (i*1))=some (.slice q.1 q.2.1.length q.2.2)∧Yn w q.1 q.2.1∧q.2.1.length≤q.2.2∧q.2.1.length≤9223372036854775807:=by
   intro i hi;obtain ⟨a7,h1,h2⟩:=hx i (by omega);rw [Tryz.cells56] at h1;obtain ⟨_,a5,a2⟩:=World.cells?_some h1
   match a7,a5 with
   | [v0],_=>
    obtain ⟨a0,l0,c0,e0,h3,h4,h5⟩:=Zjl h2;have g0:=a2 0 (by omega);rw [add_add] at g0;subst e0;exact ⟨(a0,l0,c0),by simpa using g0,h3,h4,h5⟩
  obtain ⟨q,hq⟩:=choose_lt a4;refine ⟨some a,(List.range a3).map (fun i=>(q i).2.1),cap,by simp,fun i hi=>?_,by simpa using hl,by unfold maxLen at hm;simp;omega⟩;have a8:i<a3:=by simpa using hi
  obtain ⟨b,o,rfl⟩:=Zdm (by have:=(hq 0 (by omega)).1;simpa using this);obtain ⟨h1,h2,h3,h4⟩:=hq i a8;rw [Znf] at h1;exact ⟨b,o,(q i).1,(q i).2.2,rfl,by simpa using h1,by simpa using h2,by simpa using h3,by simpa using h4⟩
theorem Zn9 {H:Type} {enc:TypeId×Value→H} {d:DataW H} {p:List MemPlace} (hv:Value.okWide prog w .any b0 31 v) (h:DataW.Trod enc prog w 0 (fun _=>true) true 31 v d p):
  ∃ (S:Zcm) (M:Zg0),v=sv S M∧Q8 w M S:=by
 obtain ⟨cs,rfl,a2⟩:=okWide_struct underlying31 hv;obtain ⟨v0,v1,v2,rfl⟩:∃ c0 c1 c2,cs=#[c0,c1,c2]:=by
  obtain ⟨l⟩:=cs
  match l,a2.trans Tryz.cells31 with
  | [c0,c1,c2],_=>exact ⟨c0,c1,c2,rfl⟩
 obtain ⟨a3,hf⟩:=h;obtain ⟨xs,n,_,_,_,a0,a1⟩:=DataW.trod_struct underlying31 hf
 match xs,a0 with
 | [y0,y1,y2],_=>
  have g0:=a1 0 _ rfl;have g1:=a1 1 _ rfl;have g2:=a1 2 _ rfl;simp [Value.cells,Tryz.cells3,Tryz.cells28,Tryz.cells29] at g0 g1 g2;obtain ⟨aA,LL,cA,rfl,i0,k0,l0⟩:=Zhj g0;obtain ⟨aR,RR,cR,rfl,i1,k1,l1⟩:=Zjb g1;obtain ⟨n2,e2,_,_⟩:=DataW.trod_int underlying3 g2;simp only [List.cons.injEq,and_true] at e2;subst e2;exact ⟨⟨LL,RR,n2⟩,⟨aA,aR,cA,cR⟩,rfl,⟨i0,i1,l0,l1⟩⟩
theorem Zot {H:Type} {enc:TypeId×Value→H} {d:DataW H} {p:List MemPlace} (hv:Value.okWide prog w .any b0 27 v) (h:DataW.Trod enc prog w 0 (fun _=>true) true 27 v d p):
  ∃ (C:Zm) (A:Mem),v=cv C A∧Z1 w A C∧C.sl.length≤A.c5:=by
 obtain ⟨cs,rfl,a2⟩:=okWide_struct underlying27 hv;obtain ⟨v0,v1,v2,v3,v4,v5,v6,v7,v8,rfl⟩:=Zx7 (a2.trans Tryz.cells27);obtain ⟨a3,hf⟩:=h;obtain ⟨xs,n,_,_,_,a1,a0⟩:=DataW.trod_struct underlying27 hf
 match xs,a1 with
 | [y0,y1,y2,y3,y4,y5,y6,y7,y8],_=>
  have g0:=a0 0 _ rfl;have g1:=a0 1 _ rfl;have g2:=a0 2 _ rfl;have g3:=a0 3 _ rfl;have g4:=a0 4 _ rfl;have g5:=a0 5 _ rfl;have g6:=a0 6 _ rfl;have g7:=a0 7 _ rfl;have g8:=a0 8 _ rfl;simp [Value.cells,Tryz.cells3,Tryz.cells22,Tryz.cells23,Tryz.cells24,Tryz.cells25] at g0 g1 g2 g3 g4 g5 g6 g7 g8;obtain ⟨n0,e0,_,_⟩:=DataW.trod_int underlying3 g0;obtain ⟨n1,e1,_,_⟩:=DataW.trod_int underlying3 g1;obtain ⟨n2,e2,_,_⟩:=DataW.trod_int underlying3 g2;obtain ⟨n3,e3,_,_⟩:=DataW.trod_int underlying3 g3;obtain ⟨n4,e4,_,_⟩:=DataW.trod_int underlying3 g4;simp only [List.cons.injEq,and_true] at e0 e1 e2 e3 e4;subst e0 e1 e2 e3 e4;obtain ⟨a5,sl,c5,rfl,i5,k5,l5⟩:=Zgi g5;obtain ⟨a6,ow,c6,rfl,i6,k6,l6⟩:=Zhm g6;obtain ⟨a7,ch,c7,rfl,i7,k7,l7⟩:=Zgk g7;obtain ⟨a8,ta,c8,rfl,i8,k8,l8⟩:=Zha g8;exact ⟨⟨n0,n1,n2,n3,n4,sl,ow,ch,ta⟩,⟨a5,a6,a7,a8,c5,c6,c7,c8⟩,rfl,⟨i5,i6,i7,i8,l5,l6,l7,l8,k7⟩,k5⟩
end Go.Proofs.YtejhccmclanlmaaGreatDoor
namespace Go.Proofs.YtejhccmclanlmaaGreatDoor
open Go.RowKit Go.Proofs.Tryz
theorem Zw8 (D:Dom) (A:Yk) (C:Zm) (B:Mem) (dn:Int) (w:World) (hC:Z1 w B C) (hD:Yz w A D) (hz:ckD C dn D=0) (hJ:Zd0 C D.jobs):
  Calls prog 157 #[cv C B,.int .i64 dn,dv D A] w fun e w'=>e=.returned (.tuple #[.int .i64 (J0 C D.jobs),.int .i64 0])∧Below w.heap.size w w':=by
 have q1:=Za w (.cells (cl C B) 27);have q2:=Za (w.alloc (.cells (cl C B) 27)) (.cells (dl D A) 46);have HC:=hid (hC.keep (Zb q1 q2));have HD:=hid (hD.keep (Zb q1 q2));have HX:=hid ((Yq w C B).keep q2);have HR:=hid (Zc (w.alloc (.cells (cl C B) 27)) (w.heap.size+1) (dl D A).toList 46 (by simp));have HB:=hid (Zb q1 q2);have HZ:=hid hz;have HJ:=hid hJ;clear q1 q2 hC hD hz hJ;obtain ⟨aJ,aR,aI,aT,aO,aE,cJ,cR,cI,cT,cO,cE⟩:=A;obtain ⟨a5,a6,a7,a8,c5,c6,c7,c8⟩:=B;dsimp only [cv,cl,dv,dl] at *
 go_enter func157,ntmps157;obtain ⟨g0,g1,g2,g3,g4,g5,g6,g7,g8⟩:=HX.out;obtain ⟨d0,d1,d2,d3,d4,d5,d6⟩:=HR.out.q7 rfl rfl rfl rfl rfl rfl rfl;go_wp2_with fail;refine (Za1 D ⟨aJ,aR,aI,aT,aO,aE,cJ,cR,cI,cT,cO,cE⟩ C ⟨a5,a6,a7,a8,c5,c6,c7,c8⟩ dn _ HC HD).mono ?_;rintro e w1 ⟨rfl,a0⟩;rw [HZ.out];generalize World.alloc (World.alloc w _) _=W at *
 clear g0 g1 g2 g3 g4 g5 g6 g7 g8 d0 d1 d2 d3 d4 d5 d6;obtain ⟨g0,g1,g2,g3,g4,g5,g6,g7,g8⟩:=HX.out.keep a0;have r:=HR.out.below a0 lr;obtain ⟨d0,d1,d2,d3,d4,d5,d6⟩:=r.q7 rfl rfl rfl rfl rfl rfl rfl;have v1:=Za w1 (.cells (kl D ⟨aJ,aR,aI,aT,aO,aE,cJ,cR,cI,cT,cO,cE⟩ C ⟨a5,a6,a7,a8,c5,c6,c7,c8⟩ dn).toArray 179);have HK:Hid (Jf (w1.alloc (.cells (kl D ⟨aJ,aR,aI,aT,aO,aE,cJ,cR,cI,cT,cO,cE⟩ C ⟨a5,a6,a7,a8,c5,c6,c7,c8⟩ dn).toArray 179)) w1.heap.size D ⟨aJ,aR,aI,aT,aO,aE,cJ,cR,cI,cT,cO,cE⟩ C ⟨a5,a6,a7,a8,c5,c6,c7,c8⟩ dn):=hid ⟨Zc w1 w1.heap.size (kl D ⟨aJ,aR,aI,aT,aO,aE,cJ,cR,cI,cT,cO,cE⟩ C ⟨a5,a6,a7,a8,c5,c6,c7,c8⟩ dn) 179 rfl,(HD.out.keep a0).keep v1,(HC.out.keep a0).keep v1⟩;have a1:=hid (Zb HB (Zb a0 v1));clear r v1 a0 HC HD HX HR HB;go_wp2_with fail;refine (Zrz w1.heap.size D ⟨aJ,aR,aI,aT,aO,aE,cJ,cR,cI,cT,cO,cE⟩ C ⟨a5,a6,a7,a8,c5,c6,c7,c8⟩ dn _ HK HJ).mono ?_;rintro e w2 ⟨rfl,a2⟩;generalize hq:J0 C D.jobs=q at *
 have HQ:=hid hq;clear hq g0 g1 g2 g3 g4 g5 g6 g7 g8 d0 d1 d2 d3 d4 d5 d6;go_wp2;go_ret2;exact ⟨by rw [HQ.out];rfl,Zb a1.out a2⟩
end Go.Proofs.YtejhccmclanlmaaGreatDoor
