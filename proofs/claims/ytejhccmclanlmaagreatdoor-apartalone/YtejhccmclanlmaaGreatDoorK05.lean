/- Texts joined: Sd Nc Nd. -/
import Derived.ProofKit
import Derived.OpenShut
import Derived.ShutString
import Derived.ChangeOld
import Derived.Below
import Derived.Deep.Slices
import Derived.Deep.SlicePairs
import Derived.Lib.SmallJoins
import Derived.Test.YtejhccmclanlmaaGreatDoorK03
set_option linter.unusedVariables false
set_option maxRecDepth 100000
namespace Go.Proofs.YtejhccmclanlmaaGreatDoor
open Go.ChangeShapes Go.WideShapes Go.ChangeAt Go.RowKit Go.Deep Go.Joins
theorem Tryz.own:ownKnob Tryz.prog.godebug=none:=by kernel_rfl
theorem Tryz.laidOut:laidOutB Tryz.prog=true:=by kernel_rfl
theorem Tryz.cells3:Tryz.prog.cellsOf 3=1:=by kernel_rfl
theorem Tryz.cells27:Tryz.prog.cellsOf 27=9:=by kernel_rfl
theorem Tryz.cells22:Tryz.prog.cellsOf 22=1:=by kernel_rfl
theorem Tryz.cells23:Tryz.prog.cellsOf 23=1:=by kernel_rfl
theorem Tryz.cells24:Tryz.prog.cellsOf 24=1:=by kernel_rfl
theorem Tryz.cells25:Tryz.prog.cellsOf 25=1:=by kernel_rfl
theorem Tryz.cells106:Tryz.prog.cellsOf 106=2:=by kernel_rfl
theorem Tryz.cells99:Tryz.prog.cellsOf 99=3:=by kernel_rfl
theorem Tryz.cells108:Tryz.prog.cellsOf 108=4:=by kernel_rfl
theorem addSpot {w:World} {a:Addr} {v:Value} (h:w.cell? (a.add 0)=some v):∃ b o,a=⟨b,o,none⟩:=by
 obtain ⟨b,o,s⟩:=a
 have hs:s=none:=by simpa [Addr.add] using World.cell?_spot h
 subst hs
 exact ⟨b,o,rfl⟩
theorem addAt (b o j:Nat):(⟨b,o,none⟩:Addr).add j=⟨b,o+j,none⟩:=by unfold Addr.add;split <;> simp_all
theorem intsIn_of_trod {H:Type} {enc:TypeId×Value→H} {w:World} {fuel:Nat} {v:Value} {x:DataW H×List MemPlace} (h:DataW.trod enc Tryz.prog w 0 (fun _=>true) true fuel 23 [v]=some x) :
  ∃ (a:Option Addr) (ls:List Int) (cap:Nat),v=.slice a ls.length cap∧IntsIn w a ls∧ls.length≤cap∧ls.length≤9223372036854775807:=by
 rcases open_slice Tryz.underlying23 h with ⟨hcs,_⟩|⟨a,len,cap,m,n,D,Pl,hcs,_,hl,hm,hmm,_,hx⟩
 ·simp only [List.cons.injEq,and_true] at hcs
  subst hcs
  exact ⟨none,[],0,rfl,fun i hi=>absurd hi (by simp),by simp,by simp⟩
 ·simp only [List.cons.injEq,and_true] at hcs
  subst hcs
  have hlm:len≤m:=by rw [hmm];simp;exact hl
  have each:∀ i,i<len→∃ q:Int,w.cell? (a.add (i * 1))=some (.int .i64 q):=by
   intro i hi
   obtain ⟨cs',h1,h2⟩:=hx i (by omega)
   rw [Tryz.cells3] at h1
   obtain ⟨_,hlen,hcell⟩:=World.cells?_some h1
   match cs',hlen with
   | [v0],_=>
    obtain ⟨n0,e0,_,_⟩:=DataW.trod_int Tryz.underlying3 h2
    simp only [List.cons.injEq,and_true] at e0
    have g0:=hcell 0 (by omega)
    rw [add_add] at g0
    subst e0
    exact ⟨n0,by simpa using g0⟩
  obtain ⟨q,hq⟩:=choose_lt each
  refine ⟨some a,(List.range len).map q,cap,by simp,fun i hi=>?_,by simpa using hl,by unfold maxLen at hm;simp;omega⟩
  have hi':i<len:=by simpa using hi
  obtain ⟨b,o,rfl⟩:=addSpot (by have:=(hq 0 (by omega));simpa using this)
  obtain h1:=hq i hi'
  rw [addAt] at h1
  exact ⟨b,o,rfl,by simpa [Nat.add_assoc] using h1⟩
theorem slotsIn_of_trod {H:Type} {enc:TypeId×Value→H} {w:World} {fuel:Nat} {v:Value} {x:DataW H×List MemPlace} (h:DataW.trod enc Tryz.prog w 0 (fun _=>true) true fuel 22 [v]=some x) :
  ∃ (a:Option Addr) (ls:List (Int×Int)) (cap:Nat),v=.slice a ls.length cap∧SlotsIn w a ls∧ls.length≤cap∧ls.length≤9223372036854775807:=by
 rcases open_slice Tryz.underlying22 h with ⟨hcs,_⟩|⟨a,len,cap,m,n,D,Pl,hcs,_,hl,hm,hmm,_,hx⟩
 ·simp only [List.cons.injEq,and_true] at hcs
  subst hcs
  exact ⟨none,[],0,rfl,fun i hi=>absurd hi (by simp),by simp,by simp⟩
 ·simp only [List.cons.injEq,and_true] at hcs
  subst hcs
  have hlm:len≤m:=by rw [hmm];simp;exact hl
  have each:∀ i,i<len→∃ q:(Int×Int),w.cell? (a.add (i * 2))=some (.int .i64 q.1)∧w.cell? (a.add (i * 2+1))=some (.int .i64 q.2):=by
   intro i hi
   obtain ⟨cs',h1,h2⟩:=hx i (by omega)
   rw [Tryz.cells106] at h1
   obtain ⟨_,hlen,hcell⟩:=World.cells?_some h1
   obtain ⟨xs,k,hk,hxy,_,hxl,hf⟩:=DataW.trod_struct Tryz.underlying106 h2
   match xs,hxl,cs',hlen with
   | [y0,y1],_,[v0,v1],_=>
    have g0:=hf 0 _ rfl
    have g1:=hf 1 _ rfl
    simp [Tryz.cells3] at g0 g1
    obtain ⟨n0,e0,_,_⟩:=DataW.trod_int Tryz.underlying3 g0
    have c0:=hcell 0 (by omega)
    rw [add_add] at c0
    obtain ⟨n1,e1,_,_⟩:=DataW.trod_int Tryz.underlying3 g1
    have c1:=hcell 1 (by omega)
    rw [add_add] at c1
    simp only [List.cons.injEq,and_true] at e0 e1
    subst e0 e1
    exact ⟨(n0,n1),by simpa using c0,by simpa using c1⟩
  obtain ⟨q,hq⟩:=choose_lt each
  refine ⟨some a,(List.range len).map q,cap,by simp,fun i hi=>?_,by simpa using hl,by unfold maxLen at hm;simp;omega⟩
  have hi':i<len:=by simpa using hi
  obtain ⟨b,o,rfl⟩:=addSpot (by have:=(hq 0 (by omega)).1;simpa using this)
  obtain ⟨h1,h2⟩:=hq i hi'
  rw [addAt] at h1 h2
  exact ⟨b,o,rfl,by simpa [Nat.add_assoc] using h1,by simpa [Nat.add_assoc] using h2⟩
theorem chansIn_of_trod {H:Type} {enc:TypeId×Value→H} {w:World} {fuel:Nat} {v:Value} {x:DataW H×List MemPlace} (h:DataW.trod enc Tryz.prog w 0 (fun _=>true) true fuel 24 [v]=some x) :
  ∃ (a:Option Addr) (ls:List (Int×Int×Int)) (cap:Nat),v=.slice a ls.length cap∧ChansIn w a ls∧ls.length≤cap∧ls.length≤9223372036854775807:=by
 rcases open_slice Tryz.underlying24 h with ⟨hcs,_⟩|⟨a,len,cap,m,n,D,Pl,hcs,_,hl,hm,hmm,_,hx⟩
 ·simp only [List.cons.injEq,and_true] at hcs
  subst hcs
  exact ⟨none,[],0,rfl,fun i hi=>absurd hi (by simp),by simp,by simp⟩
 ·simp only [List.cons.injEq,and_true] at hcs
  subst hcs
  have hlm:len≤m:=by rw [hmm];simp;exact hl
  have each:∀ i,i<len→∃ q:(Int×Int×Int),w.cell? (a.add (i * 3))=some (.int .i64 q.1)∧w.cell? (a.add (i * 3+1))=some (.int .i64 q.2.1)∧w.cell? (a.add (i * 3+2))=some (.int .i64 q.2.2):=by
   intro i hi
   obtain ⟨cs',h1,h2⟩:=hx i (by omega)
   rw [Tryz.cells99] at h1
   obtain ⟨_,hlen,hcell⟩:=World.cells?_some h1
   obtain ⟨xs,k,hk,hxy,_,hxl,hf⟩:=DataW.trod_struct Tryz.underlying99 h2
   match xs,hxl,cs',hlen with
   | [y0,y1,y2],_,[v0,v1,v2],_=>
    have g0:=hf 0 _ rfl
    have g1:=hf 1 _ rfl
    have g2:=hf 2 _ rfl
    simp [Tryz.cells3] at g0 g1 g2
    obtain ⟨n0,e0,_,_⟩:=DataW.trod_int Tryz.underlying3 g0
    have c0:=hcell 0 (by omega)
    rw [add_add] at c0
    obtain ⟨n1,e1,_,_⟩:=DataW.trod_int Tryz.underlying3 g1
    have c1:=hcell 1 (by omega)
    rw [add_add] at c1
    obtain ⟨n2,e2,_,_⟩:=DataW.trod_int Tryz.underlying3 g2
    have c2:=hcell 2 (by omega)
    rw [add_add] at c2
    simp only [List.cons.injEq,and_true] at e0 e1 e2
    subst e0 e1 e2
    exact ⟨(n0,n1,n2),by simpa using c0,by simpa using c1,by simpa using c2⟩
  obtain ⟨q,hq⟩:=choose_lt each
  refine ⟨some a,(List.range len).map q,cap,by simp,fun i hi=>?_,by simpa using hl,by unfold maxLen at hm;simp;omega⟩
  have hi':i<len:=by simpa using hi
  obtain ⟨b,o,rfl⟩:=addSpot (by have:=(hq 0 (by omega)).1;simpa using this)
  obtain ⟨h1,h2,h3⟩:=hq i hi'
  rw [addAt] at h1 h2 h3
  exact ⟨b,o,rfl,by simpa [Nat.add_assoc] using h1,by simpa [Nat.add_assoc] using h2,by simpa [Nat.add_assoc] using h3⟩
theorem tasksIn_of_trod {H:Type} {enc:TypeId×Value→H} {w:World} {fuel:Nat} {v:Value} {x:DataW H×List MemPlace} (h:DataW.trod enc Tryz.prog w 0 (fun _=>true) true fuel 25 [v]=some x) :
  ∃ (a:Option Addr) (ls:List (Int×Int×Int×Int)) (cap:Nat),v=.slice a ls.length cap∧TasksIn w a ls∧ls.length≤cap∧ls.length≤9223372036854775807:=by
 rcases open_slice Tryz.underlying25 h with ⟨hcs,_⟩|⟨a,len,cap,m,n,D,Pl,hcs,_,hl,hm,hmm,_,hx⟩
 ·simp only [List.cons.injEq,and_true] at hcs
  subst hcs
  exact ⟨none,[],0,rfl,fun i hi=>absurd hi (by simp),by simp,by simp⟩
 ·simp only [List.cons.injEq,and_true] at hcs
  subst hcs
  have hlm:len≤m:=by rw [hmm];simp;exact hl
  have each:∀ i,i<len→∃ q:(Int×Int×Int×Int),w.cell? (a.add (i * 4))=some (.int .i64 q.1)∧w.cell? (a.add (i * 4+1))=some (.int .i64 q.2.1)∧w.cell? (a.add (i * 4+2))=some (.int .i64 q.2.2.1)∧w.cell? (a.add (i * 4+3))=some (.int .i64 q.2.2.2):=by
   intro i hi
   obtain ⟨cs',h1,h2⟩:=hx i (by omega)
   rw [Tryz.cells108] at h1
   obtain ⟨_,hlen,hcell⟩:=World.cells?_some h1
   obtain ⟨xs,k,hk,hxy,_,hxl,hf⟩:=DataW.trod_struct Tryz.underlying108 h2
   match xs,hxl,cs',hlen with
   | [y0,y1,y2,y3],_,[v0,v1,v2,v3],_=>
    have g0:=hf 0 _ rfl
    have g1:=hf 1 _ rfl
    have g2:=hf 2 _ rfl
    have g3:=hf 3 _ rfl
    simp [Tryz.cells3] at g0 g1 g2 g3
    obtain ⟨n0,e0,_,_⟩:=DataW.trod_int Tryz.underlying3 g0
    have c0:=hcell 0 (by omega)
    rw [add_add] at c0
    obtain ⟨n1,e1,_,_⟩:=DataW.trod_int Tryz.underlying3 g1
    have c1:=hcell 1 (by omega)
    rw [add_add] at c1
    obtain ⟨n2,e2,_,_⟩:=DataW.trod_int Tryz.underlying3 g2
    have c2:=hcell 2 (by omega)
    rw [add_add] at c2
    obtain ⟨n3,e3,_,_⟩:=DataW.trod_int Tryz.underlying3 g3
    have c3:=hcell 3 (by omega)
    rw [add_add] at c3
    simp only [List.cons.injEq,and_true] at e0 e1 e2 e3
    subst e0 e1 e2 e3
    exact ⟨(n0,n1,n2,n3),by simpa using c0,by simpa using c1,by simpa using c2,by simpa using c3⟩
  obtain ⟨q,hq⟩:=choose_lt each
  refine ⟨some a,(List.range len).map q,cap,by simp,fun i hi=>?_,by simpa using hl,by unfold maxLen at hm;simp;omega⟩
  have hi':i<len:=by simpa using hi
  obtain ⟨b,o,rfl⟩:=addSpot (by have:=(hq 0 (by omega)).1;simpa using this)
  obtain ⟨h1,h2,h3,h4⟩:=hq i hi'
  rw [addAt] at h1 h2 h3 h4
  exact ⟨b,o,rfl,by simpa [Nat.add_assoc] using h1,by simpa [Nat.add_assoc] using h2,by simpa [Nat.add_assoc] using h3,by simpa [Nat.add_assoc] using h4⟩
theorem array9 {α:Type} {cs:Array α} (h:cs.size=9):∃ c0 c1 c2 c3 c4 c5 c6 c7 c8,cs=#[c0,c1,c2,c3,c4,c5,c6,c7,c8]:=by
 obtain ⟨l⟩:=cs
 match l,h with
 | [c0,c1,c2,c3,c4,c5,c6,c7,c8],_=>exact ⟨c0,c1,c2,c3,c4,c5,c6,c7,c8,rfl⟩
end Go.Proofs.YtejhccmclanlmaaGreatDoor
namespace Go.Proofs.YtejhccmclanlmaaGreatDoor
open Go.RowKit
theorem BoxC.lt {w:World} {b:Nat} {A:Mem} {C:Conf} (h:BoxC w b C A):b<w.heap.size:=World.block_lt_of_cell? _ _ h.h0
theorem rowAt_new2 (w:World) (n:Nat) (L:List Value) (t:TypeId) (h:w.heap.size=n):RowAt (w.alloc (.cells L.toArray t)) n t L:=by
 subst h;exact heap_alloc_new _ _
theorem cell_old {w:World} {p:Addr} {v:Value} (o:Obj) (h:w.cell? p=some v):(w.alloc o).cell? p=some v:=bkeep (below_new w o) h lr
set_option maxHeartbeats 1000000 in
theorem checkSlots_any (C:Conf) (A:Mem) (w:World) (hC:ConfIn w A C) (hd1:1≤C.d) (hd4:C.d≤4) :
  Calls Tryz.prog 55 #[cv C A] w fun e w'=>e=.returned (.int .i64 (ckSlots C))∧Below w.heap.size w w':=by
 have l5:=hC.l5
 have q1:=below_new w (.cells (cl C A) 27)
 have B1:=hid (boxC_new w C A)
 have hS:=hC.sl.keep q1
 obtain ⟨a5,a6,a7,a8,c5,c6,c7,c8⟩:=A
 dsimp only [cv,cl] at *
 go_enter Tryz.func55,Tryz.ntmps55
 go_wp2
 generalize hW:World.alloc _ _=W at *
 clear hW hC
 go_loopw [8] (fun i wr=>∃ k:Nat,k≤C.sl.length∧i=.int .i64 k∧Below W.heap.size W wr∧∀ j,j<k→ckSl C.d (C.sl.getD j (0,0))=0) (fun i _=>C.sl.length - (intOf i).toNat)
 case atStart=>exact ⟨0,Nat.zero_le _,rfl,Below.refl _ _,by omega⟩
 case round=>
  obtain ⟨k,hk,rfl,hbl,hno⟩:=hrel
  have Hno:=hid hno
  clear hno
  by_cases hlt:k<C.sl.length
  ·obtain ⟨b',o',rfl,hc1,hc2⟩:=hS k hlt
   have hc1':=bkeep hbl hc1 lr
   have hc2':=bkeep hbl hc2 lr
   have HD:Hid (C.sl.getD k (0,0)=C.sl[k]):=getD_of _ _ hlt _
   have hbx:=(B1.out.keep hbl).lt
   obtain ⟨g0,g1,g2,g3,g4,g5,g6,g7,g8⟩:=B1.out.keep hbl
   dsimp only at g5 g6 g7 g8
   have HF:Hid (ckSl C.d C.sl[k]≠0→ckSlots C=ckSl C.d C.sl[k]):=by
    intro h0
    show fe _ _=_
    have:=fe_at C.sl.length k (fun i=>ckSl C.d (C.sl.getD i (0,0))) hlt (by simp only [getD_of _ _ hlt];exact h0) Hno.out
    rw [this];simp only [getD_of _ _ hlt]
   generalize C.sl[k]=x at *
   obtain ⟨x1,x2⟩:=x
   simp only at hc1' hc2'
   clear hc1 hc2
   have q3:=below_new wr (.cells #[.int .i64 x1,.int .i64 x2] 106)
   have r3:RowAt (wr.alloc (.cells #[.int .i64 x1,.int .i64 x2] 106)) wr.heap.size 106 [.int .i64 x1,.int .i64 x2]:=rowAt_new2 wr _ [.int .i64 x1,.int .i64 x2] 106 rfl
   go_wp2_with fail
   refine (isDomain_any _ _ _ _ _ _ _ _ C.d x1 hd1 hd4 _).mono ?_
   rintro e w2 ⟨rfl,hb2⟩
   have hc4:=(r3.below hb2 lr).cell 1 _ rfl
   have q2:=btrans q3 hb2
   clear hb2 q3 r3
   cases hx:isD C.d x1 with
   | false=>
    have e1:ckSl C.d (x1,x2)=5:=by simp [ckSl,hx]
    have HE:=HF.out (by rw [e1];decide)
    rw [e1] at HE
    clear HF hx e1
    have HE:=hid HE
    go_wp2
    go_ret
    exact ⟨ret_int HE.out.symm,btrans q1 (btrans hbl q2)⟩
   | true=>
    have HX:=hid hx
    clear hx
    go_wp2_with fail
    refine (within_any _ _ _ _).mono ?_
    rintro e w' ⟨rfl,rfl⟩
    cases hy:inR x2 100 1000 with
    | false=>
     have e1:ckSl C.d (x1,x2)=3:=by simp [ckSl,HX.out,hy]
     have HE:=HF.out (by rw [e1];decide)
     rw [e1] at HE
     clear HF hy e1
     have HE:=hid HE
     go_wp2
     go_ret
     exact ⟨ret_int HE.out.symm,btrans q1 (btrans hbl q2)⟩
    | true=>
     have HY:=hid hy
     clear hy
     go_wp2
     go_roundw
     case rel=>
      refine ⟨k+1,by omega,by go_num,btrans hbl q2,fun j hj=>?_⟩
      by_cases e:j=k
      ·subst e;rw [HD.out];simp [ckSl,HX.out,HY.out]
      ·exact Hno.out j (by omega)
     case measure=>simp [intOf];omega
  ·go_wp2
   go_ret
   exact ⟨ret_int (fe_zero _ _ (fun j hj=>Hno.out j (by omega))).symm,btrans q1 hbl⟩
set_option maxHeartbeats 1000000 in
theorem owners1_any (C:Conf) (A:Mem) (b:Nat) (x:Int) (w:World) (hd1:1≤C.d) (hd4:C.d≤4) (hB:BoxC w b C A) :
  Calls Tryz.prog 82 #[.int .i64 x,.pointer (some ⟨b,0,none⟩)] w fun e w'=>e=.returned (.bool (!isD C.d x))∧Below w.heap.size w w':=by
 have hbx:=hB.lt
 obtain ⟨g0,g1,g2,g3,g4,g5,g6,g7,g8⟩:=hB
 go_enter Tryz.func82,Tryz.ntmps82
 go_wp2_with fail
 refine (isDomain_any _ _ _ _ _ _ _ _ C.d x hd1 hd4 _).mono ?_
 rintro e w2 ⟨rfl,hb2⟩
 go_wp2
 go_ret
 exact ⟨rfl,hb2⟩
set_option maxHeartbeats 400000 in
theorem index70_any (p:Int→Bool) (b:Nat) (a:Option Addr) (L:List Int) (cap:Nat) (w:World) (hw:IntsIn w a L) (hl:L.length≤9223372036854775807)
  (hF:∀ (x:Int) (wr:World),Below w.heap.size w wr→Calls Tryz.prog 82 #[.int .i64 x,.pointer (some ⟨b,0,none⟩)] wr fun e w'=>e=.returned (.bool (p x))∧Below wr.heap.size wr w') :
  Calls Tryz.prog 117 #[.slice a L.length cap,.func (.func 82) #[] #[.pointer (some ⟨b,0,none⟩)]] w fun e w'=>(∃ r:Int,e=.returned (.int .i64 r)∧(0≤r↔L.any p=true))∧Below w.heap.size w w':=by
 have HF:=hid hF
 clear hF
 go_enter Tryz.func117,Tryz.ntmps117
 go_wp2
 go_loopw [8] (fun i wr=>∃ k:Nat,k≤L.length∧i=.int .i64 k∧Below w.heap.size w wr∧∀ j (hj:j<L.length),j<k→p L[j]=false) (fun i _=>L.length - (intOf i).toNat)
 case atStart=>exact ⟨0,Nat.zero_le _,rfl,Below.refl _ _,by omega⟩
 case round=>
  obtain ⟨k,hk,rfl,hbl,hno⟩:=hrel
  have Hno:Hid (∀ j (hj:j<L.length),j<k→p L[j]=false):=hno
  clear hno
  by_cases hlt:k<L.length
  ·obtain ⟨b',o',rfl,hc1⟩:=hw k hlt
   have hc1':=bkeep hbl hc1 lr
   go_wp2_with fail
   refine (HF.out L[k] _ hbl).mono ?_
   rintro e w' ⟨rfl,hb2⟩
   cases hx:p L[k] with
   | true=>
    have HX:=hid hx
    clear hx
    go_wp2
    go_ret
    refine ⟨⟨k,rfl,?_⟩,btrans hbl hb2⟩
    exact ⟨fun _=>List.any_eq_true.2 ⟨_,List.getElem_mem hlt,HX.out⟩,fun _=>by omega⟩
   | false=>
    have HX:=hid hx
    clear hx
    go_wp2
    go_roundw
    case rel=>
     refine ⟨k+1,by omega,by go_num,btrans hbl hb2,fun j hj hlt2=>?_⟩
     by_cases e:j=k
     ·subst e;exact HX.out
     ·exact Hno.out j hj (by omega)
    case measure=>simp [intOf];omega
  ·go_wp2
   go_ret
   refine ⟨⟨-1,rfl,?_⟩,hbl⟩
   refine ⟨fun h=>absurd h (by omega),fun h=>?_⟩
   obtain ⟨x,hx,hp⟩:=List.any_eq_true.1 h
   obtain ⟨j,hj,rfl⟩:=List.getElem_of_mem hx
   rw [Hno.out j hj (by omega)] at hp
   exact absurd hp (by simp)
set_option maxHeartbeats 400000 in
theorem contains61_any (p:Int→Bool) (b:Nat) (a:Option Addr) (L:List Int) (cap:Nat) (w:World) (hw:IntsIn w a L) (hl:L.length≤9223372036854775807)
  (hF:∀ (x:Int) (wr:World),Below w.heap.size w wr→Calls Tryz.prog 82 #[.int .i64 x,.pointer (some ⟨b,0,none⟩)] wr fun e w'=>e=.returned (.bool (p x))∧Below wr.heap.size wr w') :
  Calls Tryz.prog 81 #[.slice a L.length cap,.func (.func 82) #[] #[.pointer (some ⟨b,0,none⟩)]] w fun e w'=>e=.returned (.bool (L.any p))∧Below w.heap.size w w':=by
 have HF:=hid hF
 clear hF
 go_enter Tryz.func81,Tryz.ntmps81
 go_wp2_with fail
 refine (index70_any p b a L cap _ hw hl HF.out).mono ?_
 rintro e w' ⟨⟨r,rfl,hr⟩,hb⟩
 have HR:=hid hr
 clear hr
 go_wp2
 go_ret
 exact ⟨ret_bool (by rw [Bool.eq_iff_iff];simpa using HR.out),hb⟩
set_option maxHeartbeats 1000000 in
theorem checkOwners_any (C:Conf) (A:Mem) (w:World) (hC:ConfIn w A C) (hd1:1≤C.d) (hd4:C.d≤4) :
  Calls Tryz.prog 56 #[cv C A] w fun e w'=>e=.returned (.int .i64 (ckOw C))∧Below w.heap.size w w':=by
 have l6:=hC.l6
 have q1:=below_new w (.cells (cl C A) 27)
 have B1:=hid (boxC_new w C A)
 have hS:=hC.ow.keep q1
 dsimp only [cv,cl] at *
 go_enter Tryz.func56,Tryz.ntmps56
 go_wp2_with fail
 refine (contains61_any (fun x=>!isD C.d x) w.heap.size _ C.ow _ _ hS l6 (fun x wr hwr=>owners1_any C A w.heap.size x wr hd1 hd4 (B1.out.keep hwr))).mono ?_
 rintro e w2 ⟨rfl,hb2⟩
 cases hx:C.ow.any fun x=>!isD C.d x with
 | true=>
  go_wp2
  go_ret
  exact ⟨ret_int (by rw [ckOw,if_pos hx]),btrans q1 hb2⟩
 | false=>
  go_wp2
  go_ret
  exact ⟨ret_int (by rw [ckOw,hx];rfl),btrans q1 hb2⟩
set_option maxHeartbeats 1000000 in
theorem chans1_any (y1 y2 y3 x1 x2 x3:Int) (b:Nat) (w:World) (h1:w.cell? ⟨b,0,none⟩=some (.int .i64 x1)) (h2:w.cell? ⟨b,1,none⟩=some (.int .i64 x2)) :
  Calls Tryz.prog 83 #[.agg #[.int .i64 y1,.int .i64 y2,.int .i64 y3],.pointer (some ⟨b,0,none⟩)] w fun e w'=>e=.returned (.bool (twin (x1,x2,x3) (y1,y2,y3)))∧Below w.heap.size w w':=by
 have hbx:=World.block_lt_of_cell? _ _ h1
 go_enter Tryz.func83,Tryz.ntmps83
 by_cases h:y1=x1
 ·subst h
  go_wp2
  go_ret
  exact ⟨ret_bool (by simp [twin]),below_new _ _⟩
 ·have h':(y1 == x1)=false:=by simp [h]
  go_wp2
  go_ret
  exact ⟨ret_bool (by simp [twin,h]),below_new _ _⟩
set_option maxHeartbeats 400000 in
theorem index71_any (p:Int×Int×Int→Bool) (b:Nat) (a:Option Addr) (L:List (Int×Int×Int)) (cap:Nat) (w:World) (hw:ChansIn w a L) (hl:L.length≤9223372036854775807)
  (hF:∀ (x:Int×Int×Int) (wr:World),Below w.heap.size w wr→Calls Tryz.prog 83 #[.agg #[.int .i64 x.1,.int .i64 x.2.1,.int .i64 x.2.2],.pointer (some ⟨b,0,none⟩)] wr fun e w'=>e=.returned (.bool (p x))∧Below wr.heap.size wr w') :
  Calls Tryz.prog 118 #[.slice a L.length cap,.func (.func 83) #[] #[.pointer (some ⟨b,0,none⟩)]] w fun e w'=>(∃ r:Int,e=.returned (.int .i64 r)∧(0≤r↔L.any p=true))∧Below w.heap.size w w':=by
 have HF:=hid hF
 clear hF
 go_enter Tryz.func118,Tryz.ntmps118
 go_wp2
 go_loopw [8] (fun i wr=>∃ k:Nat,k≤L.length∧i=.int .i64 k∧Below w.heap.size w wr∧∀ j (hj:j<L.length),j<k→p L[j]=false) (fun i _=>L.length - (intOf i).toNat)
 case atStart=>exact ⟨0,Nat.zero_le _,rfl,Below.refl _ _,by omega⟩
 case round=>
  obtain ⟨k,hk,rfl,hbl,hno⟩:=hrel
  have Hno:Hid (∀ j (hj:j<L.length),j<k→p L[j]=false):=hno
  clear hno
  by_cases hlt:k<L.length
  ·obtain ⟨b',o',rfl,hc1,hc2,hc3⟩:=hw k hlt
   have hc1':=bkeep hbl hc1 lr
   have hc2':=bkeep hbl hc2 lr
   have hc3':=bkeep hbl hc3 lr
   go_wp2_with fail
   refine (HF.out L[k] _ hbl).mono ?_
   rintro e w' ⟨rfl,hb2⟩
   cases hx:p L[k] with
   | true=>
    have HX:=hid hx
    clear hx
    go_wp2
    go_ret
    refine ⟨⟨k,rfl,?_⟩,btrans hbl hb2⟩
    exact ⟨fun _=>List.any_eq_true.2 ⟨_,List.getElem_mem hlt,HX.out⟩,fun _=>by omega⟩
   | false=>
    have HX:=hid hx
    clear hx
    go_wp2
    go_roundw
    case rel=>
     refine ⟨k+1,by omega,by go_num,btrans hbl hb2,fun j hj hlt2=>?_⟩
     by_cases e:j=k
     ·subst e;exact HX.out
     ·exact Hno.out j hj (by omega)
    case measure=>simp [intOf];omega
  ·go_wp2
   go_ret
   refine ⟨⟨-1,rfl,?_⟩,hbl⟩
   refine ⟨fun h=>absurd h (by omega),fun h=>?_⟩
   obtain ⟨x,hx,hp⟩:=List.any_eq_true.1 h
   obtain ⟨j,hj,rfl⟩:=List.getElem_of_mem hx
   rw [Hno.out j hj (by omega)] at hp
   exact absurd hp (by simp)
set_option maxHeartbeats 400000 in
theorem contains64_any (p:Int×Int×Int→Bool) (b:Nat) (a:Option Addr) (L:List (Int×Int×Int)) (cap:Nat) (w:World) (hw:ChansIn w a L) (hl:L.length≤9223372036854775807)
  (hF:∀ (x:Int×Int×Int) (wr:World),Below w.heap.size w wr→Calls Tryz.prog 83 #[.agg #[.int .i64 x.1,.int .i64 x.2.1,.int .i64 x.2.2],.pointer (some ⟨b,0,none⟩)] wr fun e w'=>e=.returned (.bool (p x))∧Below wr.heap.size wr w') :
  Calls Tryz.prog 84 #[.slice a L.length cap,.func (.func 83) #[] #[.pointer (some ⟨b,0,none⟩)]] w fun e w'=>e=.returned (.bool (L.any p))∧Below w.heap.size w w':=by
 have HF:=hid hF
 clear hF
 go_enter Tryz.func84,Tryz.ntmps84
 go_wp2_with fail
 refine (index71_any p b a L cap _ hw hl HF.out).mono ?_
 rintro e w' ⟨⟨r,rfl,hr⟩,hb⟩
 have HR:=hid hr
 clear hr
 go_wp2
 go_ret
 exact ⟨ret_bool (by rw [Bool.eq_iff_iff];simpa using HR.out),hb⟩
theorem ChansIn.take {w:World} {a:Option Addr} {ls:List (Int×Int×Int)} (h:ChansIn w a ls) (k:Nat):ChansIn w a (ls.take k):=by
 intro i hi
 have:i<ls.length:=by simp at hi;omega
 obtain ⟨b,o,e,h1,h2,h3⟩:=h i this
 exact ⟨b,o,e,by simpa using h1,by simpa using h2,by simpa using h3⟩
theorem contains64_take (x:Int×Int×Int) (b:Nat) (a:Option Addr) (L:List (Int×Int×Int)) (k cap:Nat) (w:World) (hw:ChansIn w a L) (hk:k≤L.length) (hl:L.length≤9223372036854775807)
  (h1:w.cell? ⟨b,0,none⟩=some (.int .i64 x.1)) (h2:w.cell? ⟨b,1,none⟩=some (.int .i64 x.2.1)) :
  Calls Tryz.prog 84 #[.slice a k cap,.func (.func 83) #[] #[.pointer (some ⟨b,0,none⟩)]] w fun e w'=>e=.returned (.bool ((L.take k).any (twin x)))∧Below w.heap.size w w':=by
 have e:(L.take k).length=k:=by simp;omega
 have:=contains64_any (twin x) b a (L.take k) cap w (hw.take k) (by omega) (fun y wr hwr=>chans1_any y.1 y.2.1 y.2.2 x.1 x.2.1 x.2.2 b wr (bkeep hwr h1 lr) (bkeep hwr h2 lr))
 rw [e] at this
 exact this
end Go.Proofs.YtejhccmclanlmaaGreatDoor
