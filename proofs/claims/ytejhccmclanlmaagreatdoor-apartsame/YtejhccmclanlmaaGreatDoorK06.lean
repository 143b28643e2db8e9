/- Texts joined: Ne Nf Aa Oa Sx Ta. -/
import Derived.OwnWalk
import Derived.BigQuiet
import Derived.Test.YtejhccmclanlmaaGreatDoorK00
import Derived.Test.YtejhccmclanlmaaGreatDoorK05
set_option linter.unusedVariables false
set_option maxRecDepth 100000
namespace Go.Proofs.YtejhccmclanlmaaGreatDoor
open Go.RowKit
set_option maxHeartbeats 2000000 in
theorem checkChannels_any (C:Conf) (A:Mem) (w:World) (hC:ConfIn w A C) (hd1:1≤C.d) (hd4:C.d≤4) :
  Calls Tryz.prog 57 #[cv C A] w fun e w'=>e=.returned (.int .i64 (ckChans C))∧Below w.heap.size w w':=by
 have l7:=hC.l7
 have k7:=hC.k7
 have k7':(C.ch.length:Int)≤(A.c7:Int):=by omega
 have q1:=below_new w (.cells (cl C A) 27)
 have B1:=hid (boxC_new w C A)
 have hS:=hC.ch.keep q1
 obtain ⟨a5,a6,a7,a8,c5,c6,c7,c8⟩:=A
 dsimp only [cv,cl] at *
 go_enter Tryz.func57,Tryz.ntmps57
 go_wp2
 generalize hW:World.alloc _ _=W at *
 clear hW hC
 go_loopw [9] (fun i wr=>∃ k:Nat,k≤C.ch.length∧i=.int .i64 k∧Below W.heap.size W wr∧∀ j,j<k→ckCh C.d C.ch j=0) (fun i _=>C.ch.length - (intOf i).toNat)
 case atStart=>exact ⟨0,Nat.zero_le _,rfl,Below.refl _ _,by omega⟩
 case round=>
  obtain ⟨k,hk,rfl,hbl,hno⟩:=hrel
  have Hno:=hid hno
  clear hno
  by_cases hlt:k<C.ch.length
  ·obtain ⟨b',o',rfl,hc1,hc2,hc3⟩:=hS k hlt
   have hc1':=bkeep hbl hc1 lr
   have hc2':=bkeep hbl hc2 lr
   have hc3':=bkeep hbl hc3 lr
   have hlt':(k:Int)<(C.ch.length:Int):=by omega
   have hkc:(k:Int)≤(c7:Int):=by omega
   have HD:Hid (C.ch[k]? = some C.ch[k]):=List.getElem?_eq_getElem hlt
   have hbx:=(B1.out.keep hbl).lt
   obtain ⟨g0,g1,g2,g3,g4,g5,g6,g7,g8⟩:=B1.out.keep hbl
   dsimp only at g5 g6 g7 g8
   have HF:Hid (ckCh C.d C.ch k≠0→ckChans C=ckCh C.d C.ch k):=fun h0=>fe_at C.ch.length k (ckCh C.d C.ch) hlt h0 Hno.out
   generalize C.ch[k]=x at *
   obtain ⟨x1,x2,x3⟩:=x
   simp only at hc1' hc2' hc3'
   clear hc1 hc2 hc3
   have q3:=below_new wr (.cells #[.int .i64 x1,.int .i64 x2,.int .i64 x3] 99)
   have r3:RowAt (wr.alloc (.cells #[.int .i64 x1,.int .i64 x2,.int .i64 x3] 99)) wr.heap.size 99 [.int .i64 x1,.int .i64 x2,.int .i64 x3]:=rowAt_new2 wr _ [.int .i64 x1,.int .i64 x2,.int .i64 x3] 99 rfl
   go_wp2_with fail
   refine (isDomain_any _ _ _ _ _ _ _ _ C.d x1 hd1 hd4 _).mono ?_
   rintro e w2 ⟨rfl,hb2⟩
   have r4:=r3.below hb2 lr
   have d1:=r4.cell 0 _ rfl
   have d2:=r4.cell 1 _ rfl
   have d3:=r4.cell 2 _ rfl
   have hbx2:=r4.lt
   have q2:=btrans q3 hb2
   have Hr4:=hid r4
   obtain ⟨p0,p1,p2,p3,p4,p5,p6,p7,p8⟩:=(B1.out.keep hbl).keep q2
   dsimp only at p5 p6 p7 p8
   clear hb2 q3 r3 r4 g0 g1 g2 g3 g4 g5 g6 g7 g8 hc1' hc2' hc3'
   cases hx:isD C.d x1 with
   | false=>
    have e1:ckCh C.d C.ch k=5:=by rw [ckCh,HD.out];simp [hx]
    have HE:=HF.out (by rw [e1];decide)
    rw [e1] at HE
    clear HF e1 hx
    have HE:=hid HE
    go_wp2
    go_ret
    exact ⟨ret_int HE.out.symm,btrans q1 (btrans hbl q2)⟩
   | true=>
    have HX:=hid hx
    clear hx
    go_wp2_with fail
    refine (isDomain_any _ _ _ _ _ _ _ _ C.d x2 hd1 hd4 _).mono ?_
    rintro e w3 ⟨rfl,hb3⟩
    have r5:=Hr4.out.below hb3 lr
    have e1:=r5.cell 0 _ rfl
    have e2:=r5.cell 1 _ rfl
    have e3:=r5.cell 2 _ rfl
    have q4:=btrans q2 hb3
    have t7:=((B1.out.keep hbl).keep q4).h7
    dsimp only at t7
    clear hb3 q2 Hr4 d1 d2 d3 p0 p1 p2 p3 p4 p5 p6 p7 p8 r5
    cases hy:isD C.d x2 with
    | false=>
     have z1:ckCh C.d C.ch k=5:=by rw [ckCh,HD.out];simp [hy]
     have HE:=HF.out (by rw [z1];decide)
     rw [z1] at HE
     clear HF z1 hy
     have HE:=hid HE
     go_wp2
     go_ret
     exact ⟨ret_int HE.out.symm,btrans q1 (btrans hbl q4)⟩
    | true=>
     have HY:=hid hy
     clear hy
     by_cases hz:x1=x2
     ·subst hz
      have z1:ckCh C.d C.ch k=1:=by rw [ckCh,HD.out];simp [HX.out]
      have HE:=HF.out (by rw [z1];decide)
      rw [z1] at HE
      clear HF z1
      have HE:=hid HE
      go_wp2
      go_ret
      exact ⟨ret_int HE.out.symm,btrans q1 (btrans hbl q4)⟩
     ·have hz':(x1 == x2)=false:=by simp [hz]
      have HZ:=hid hz
      clear hz
      go_wp2_with fail
      refine (within_any _ _ _ _).mono ?_
      rintro e w' ⟨rfl,rfl⟩
      cases hv:inR x3 1 4 with
      | false=>
       have z1:ckCh C.d C.ch k=3:=by rw [ckCh,HD.out];simp [HX.out,HY.out,HZ.out,hv]
       have HE:=HF.out (by rw [z1];decide)
       rw [z1] at HE
       clear HF z1 hv
       have HE:=hid HE
       go_wp2
       go_ret
       exact ⟨ret_int HE.out.symm,btrans q1 (btrans hbl q4)⟩
      | true=>
       have HV:=hid hv
       clear hv
       have hS3:=(hS.keep hbl).keep q4
       go_wp2_with fail
       refine (contains64_take (x1,x2,x3) wr.heap.size _ C.ch k c7 _ hS3 hk l7 e1 e2).mono ?_
       rintro e w5 ⟨rfl,hb5⟩
       have q6:=btrans q4 hb5
       cases ht:(C.ch.take k).any (twin (x1,x2,x3)) with
       | true=>
        have z1:ckCh C.d C.ch k=6:=by rw [ckCh,HD.out];simp only [HX.out,HY.out,HZ.out,HV.out,ht];simp
        have HE:=HF.out (by rw [z1];decide)
        rw [z1] at HE
        clear HF z1 ht
        have HE:=hid HE
        go_wp2
        go_ret
        exact ⟨ret_int HE.out.symm,btrans q1 (btrans hbl q6)⟩
       | false=>
        have HT:=hid ht
        clear ht
        go_wp2
        go_roundw
        case rel=>
         refine ⟨k+1,by omega,by go_num,btrans hbl q6,fun j hj=>?_⟩
         by_cases e:j=k
         ·subst e;rw [ckCh,HD.out];simp only [HX.out,HY.out,HZ.out,HV.out,HT.out];simp
         ·exact Hno.out j (by omega)
        case measure=>simp [intOf];omega
  ·go_wp2
   go_ret
   exact ⟨ret_int (fe_zero _ _ (fun j hj=>Hno.out j (by omega))).symm,btrans q1 hbl⟩
set_option maxHeartbeats 2000000 in
theorem checkTasks_any (C:Conf) (A:Mem) (w:World) (hC:ConfIn w A C) (hd1:1≤C.d) (hd4:C.d≤4) :
  Calls Tryz.prog 58 #[cv C A] w fun e w'=>e=.returned (.int .i64 (ckTasks C))∧Below w.heap.size w w':=by
 have l8:=hC.l8
 have q1:=below_new w (.cells (cl C A) 27)
 have B1:=hid (boxC_new w C A)
 have hS:=hC.ta.keep q1
 obtain ⟨a5,a6,a7,a8,c5,c6,c7,c8⟩:=A
 dsimp only [cv,cl] at *
 go_enter Tryz.func58,Tryz.ntmps58
 go_wp2
 generalize hW:World.alloc _ _=W at *
 clear hW hC
 go_loopw [8] (fun i wr=>∃ k:Nat,k≤C.ta.length∧i=.int .i64 k∧Below W.heap.size W wr∧∀ j,j<k→ckTa C.d (C.ta.getD j (0,0,0,0))=0) (fun i _=>C.ta.length - (intOf i).toNat)
 case atStart=>exact ⟨0,Nat.zero_le _,rfl,Below.refl _ _,by omega⟩
 case round=>
  obtain ⟨k,hk,rfl,hbl,hno⟩:=hrel
  have Hno:=hid hno
  clear hno
  by_cases hlt:k<C.ta.length
  ·obtain ⟨b',o',rfl,hc1,hc2,hc3,hc4⟩:=hS k hlt
   have hc1':=bkeep hbl hc1 lr
   have hc2':=bkeep hbl hc2 lr
   have hc3':=bkeep hbl hc3 lr
   have hc4':=bkeep hbl hc4 lr
   have HD:Hid (C.ta.getD k (0,0,0,0)=C.ta[k]):=getD_of _ _ hlt _
   have hbx:=(B1.out.keep hbl).lt
   obtain ⟨g0,g1,g2,g3,g4,g5,g6,g7,g8⟩:=B1.out.keep hbl
   dsimp only at g5 g6 g7 g8
   have HF:Hid (ckTa C.d C.ta[k]≠0→ckTasks C=ckTa C.d C.ta[k]):=by
    intro h0
    show fe _ _=_
    have:=fe_at C.ta.length k (fun i=>ckTa C.d (C.ta.getD i (0,0,0,0))) hlt (by simp only [getD_of _ _ hlt];exact h0) Hno.out
    rw [this];simp only [getD_of _ _ hlt]
   generalize C.ta[k]=x at *
   obtain ⟨x1,x2,x3,x4⟩:=x
   simp only at hc1' hc2' hc3' hc4'
   clear hc1 hc2 hc3 hc4
   have q3:=below_new wr (.cells #[.int .i64 x1,.int .i64 x2,.int .i64 x3,.int .i64 x4] 108)
   have r3:RowAt (wr.alloc (.cells #[.int .i64 x1,.int .i64 x2,.int .i64 x3,.int .i64 x4] 108)) wr.heap.size 108 [.int .i64 x1,.int .i64 x2,.int .i64 x3,.int .i64 x4]:=rowAt_new2 wr _ [.int .i64 x1,.int .i64 x2,.int .i64 x3,.int .i64 x4] 108 rfl
   go_wp2_with fail
   refine (isDomain_any _ _ _ _ _ _ _ _ C.d x1 hd1 hd4 _).mono ?_
   rintro e w2 ⟨rfl,hb2⟩
   have r4:=r3.below hb2 lr
   have d1:=r4.cell 0 _ rfl
   have d2:=r4.cell 1 _ rfl
   have d3:=r4.cell 2 _ rfl
   have d4:=r4.cell 3 _ rfl
   have q2:=btrans q3 hb2
   clear hb2 q3 r3 r4 g0 g1 g2 g3 g4 g5 g6 g7 g8 hc1' hc2' hc3' hc4'
   cases hx:isD C.d x1 with
   | false=>
    have e1:ckTa C.d (x1,x2,x3,x4)=5:=by simp [ckTa,hx]
    have HE:=HF.out (by rw [e1];decide)
    rw [e1] at HE
    clear HF e1 hx
    have HE:=hid HE
    go_wp2
    go_ret
    exact ⟨ret_int HE.out.symm,btrans q1 (btrans hbl q2)⟩
   | true=>
    have HX:=hid hx
    clear hx
    go_wp2_with fail
    refine (within_any _ _ _ _).mono ?_
    rintro e w' ⟨rfl,rfl⟩
    cases h1:inR x2 1 5000 with
    | false=>
     have e1:ckTa C.d (x1,x2,x3,x4)=3:=by simp [ckTa,HX.out,h1]
     have HE:=HF.out (by rw [e1];decide)
     rw [e1] at HE
     clear HF e1 h1
     have HE:=hid HE
     go_wp2
     go_ret
     exact ⟨ret_int HE.out.symm,btrans q1 (btrans hbl q2)⟩
    | true=>
     have H1:=hid h1
     clear h1
     go_wp2_with fail
     refine (within_any _ _ _ _).mono ?_
     rintro e w' ⟨rfl,rfl⟩
     cases h2:inR x3 1 x2 with
     | false=>
      have e1:ckTa C.d (x1,x2,x3,x4)=3:=by simp [ckTa,HX.out,h2]
      have HE:=HF.out (by rw [e1];decide)
      rw [e1] at HE
      clear HF e1 h2
      have HE:=hid HE
      go_wp2
      go_ret
      exact ⟨ret_int HE.out.symm,btrans q1 (btrans hbl q2)⟩
     | true=>
      have H2:=hid h2
      clear h2
      go_wp2_with fail
      refine (within_any _ _ _ _).mono ?_
      rintro e w' ⟨rfl,rfl⟩
      cases h3:inR x4 1 x2 with
      | false=>
       have e1:ckTa C.d (x1,x2,x3,x4)=3:=by simp [ckTa,HX.out,h3]
       have HE:=HF.out (by rw [e1];decide)
       rw [e1] at HE
       clear HF e1 h3
       have HE:=hid HE
       go_wp2
       go_ret
       exact ⟨ret_int HE.out.symm,btrans q1 (btrans hbl q2)⟩
      | true=>
       have H3:=hid h3
       clear h3
       go_wp2
       go_roundw
       case rel=>
        refine ⟨k+1,by omega,by go_num,btrans hbl q2,fun j hj=>?_⟩
        by_cases e:j=k
        ·subst e;rw [HD.out];simp [ckTa,HX.out,H1.out,H2.out,H3.out]
        ·exact Hno.out j (by omega)
       case measure=>simp [intOf];omega
  ·go_wp2
   go_ret
   exact ⟨ret_int (fe_zero _ _ (fun j hj=>Hno.out j (by omega))).symm,btrans q1 hbl⟩
theorem step7_any (k:Nat) (hk:k<7) (C:Conf) (A:Mem) (w:World) (hC:ConfIn w A C) (hno:∀ j,j<k→ck7 C j=0) :
  Calls Tryz.prog (52+k) #[cv C A] w fun e w'=>e=.returned (.int .i64 (ck7 C k))∧Below w.heap.size w w':=by
 match k,hk with
 | 0,_=>exact checkNumbers_any C A w
 | 1,_=>
  obtain ⟨h1,h2,h3,h4,_⟩:=num_ok (hno 0 (by omega))
  exact checkPad_any C A w h1 h2 h3 h4
 | 2,_=>exact checkCounts_any C A w hC
 | 3,_=>
  obtain ⟨_,_,_,_,h1,h2,_⟩:=num_ok (hno 0 (by omega))
  exact checkSlots_any C A w hC h1 h2
 | 4,_=>
  obtain ⟨_,_,_,_,h1,h2,_⟩:=num_ok (hno 0 (by omega))
  exact checkOwners_any C A w hC h1 h2
 | 5,_=>
  obtain ⟨_,_,_,_,h1,h2,_⟩:=num_ok (hno 0 (by omega))
  exact checkChannels_any C A w hC h1 h2
 | 6,_=>
  obtain ⟨_,_,_,_,h1,h2,_⟩:=num_ok (hno 0 (by omega))
  exact checkTasks_any C A w hC h1 h2
theorem tab7 (k:Nat) (hk:k<7):([.func (.func 52) #[] #[],.func (.func 53) #[] #[],.func (.func 54) #[] #[],.func (.func 55) #[] #[],.func (.func 56) #[] #[],.func (.func 57) #[] #[],.func (.func 58) #[] #[]]:List Value)[k]? = some (.func (.func (52+k)) #[] #[]):=by
 match k,hk with
 | 0,_=>rfl
 | 1,_=>rfl
 | 2,_=>rfl
 | 3,_=>rfl
 | 4,_=>rfl
 | 5,_=>rfl
 | 6,_=>rfl
set_option maxHeartbeats 2000000 in
theorem checkC_any (C:Conf) (A:Mem) (w:World) (hC:ConfIn w A C) :
  Calls Tryz.prog 31 #[cv C A] w fun e w'=>e=.returned (.int .i64 (ckC C))∧Below w.heap.size w w':=by
 have q1:=below_new w (.cells (cl C A) 27)
 have B1:=hid (boxC_new w C A)
 have hS:=hid (hC.keep q1)
 clear hC
 dsimp only [cv,cl] at *
 go_enter Tryz.func31,Tryz.ntmps31
 go_wp2
 generalize hW1:World.alloc w _=W1 at *
 have q2:=below_new W1 (.cells #[.func (.func 52) #[] #[],.func (.func 53) #[] #[],.func (.func 54) #[] #[],.func (.func 55) #[] #[],.func (.func 56) #[] #[],.func (.func 57) #[] #[],.func (.func 58) #[] #[]] 96)
 have hsz:W1.heap.size=w.heap.size+1:=by rw [← hW1];simp
 have R1:=hid (rowAt_new2 W1 (w.heap.size+1) [.func (.func 52) #[] #[],.func (.func 53) #[] #[],.func (.func 54) #[] #[],.func (.func 55) #[] #[],.func (.func 56) #[] #[],.func (.func 57) #[] #[],.func (.func 58) #[] #[]] 96 hsz)
 have B2:=hid (B1.out.keep q2)
 have hS2:=hid (hS.out.keep q2)
 have q3:=btrans q1 q2
 clear hW1 hS B1 q1 q2 hsz
 generalize hW2:World.alloc W1 _=W2 at *
 have R1':RowAt W2 (w.heap.size+1) 96 [.func (.func 52) #[] #[],.func (.func 53) #[] #[],.func (.func 54) #[] #[],.func (.func 55) #[] #[],.func (.func 56) #[] #[],.func (.func 57) #[] #[],.func (.func 58) #[] #[]]:=R1.out
 have R2:=hid R1'
 clear R1 R1' hW2
 go_loopw [10] (fun i wr=>∃ k:Nat,k≤7∧i=.int .i64 k∧Below W2.heap.size W2 wr∧∀ j,j<k→ck7 C j=0) (fun i _=>7 - (intOf i).toNat)
 case atStart=>exact ⟨0,Nat.zero_le _,rfl,Below.refl _ _,by omega⟩
 case round=>
  obtain ⟨k,hk,rfl,hbl,hno⟩:=hrel
  have Hno:=hid hno
  clear hno
  by_cases hlt:k<7
  ·have hc:=(R2.out.below hbl lr).cell k _ (tab7 k hlt)
   have hlt':(k:Int)<7:=by omega
   obtain ⟨g0,g1,g2,g3,g4,g5,g6,g7,g8⟩:=B2.out.keep hbl
   have hcs:k=0∨k=1∨k=2∨k=3∨k=4∨k=5∨k=6:=by omega
   rcases hcs with rfl|rfl|rfl|rfl|rfl|rfl|rfl
   ·simp only [Nat.reduceAdd] at hc
    go_wp2_with fail
    refine (step7_any 0 hlt C A _ (hS2.out.keep hbl) Hno.out).mono ?_
    rintro e w3 ⟨rfl,hb3⟩
    by_cases hx:ck7 C 0=0
    ·have HX:=hid hx
     rw [hx]
     clear hx
     go_wp2
     go_roundw
     case rel=>
      refine ⟨1,by omega,by go_num,btrans hbl hb3,fun j hj=>?_⟩
      by_cases e:j=0
      ·subst e;exact HX.out
      ·exact Hno.out j (by omega)
     case measure=>simp [intOf]
    ·have HE:=hid (fe_at 7 0 (ck7 C) hlt hx Hno.out)
     have hx':(ck7 C 0 != 0)=true:=by simp [hx]
     clear hx
     generalize ck7 C 0=q at *
     go_wp2
     go_ret
     exact ⟨ret_int HE.out.symm,btrans q3 (btrans hbl hb3)⟩
   ·simp only [Nat.reduceAdd] at hc
    go_wp2_with fail
    refine (step7_any 1 hlt C A _ (hS2.out.keep hbl) Hno.out).mono ?_
    rintro e w3 ⟨rfl,hb3⟩
    by_cases hx:ck7 C 1=0
    ·have HX:=hid hx
     rw [hx]
     clear hx
     go_wp2
     go_roundw
     case rel=>
      refine ⟨2,by omega,by go_num,btrans hbl hb3,fun j hj=>?_⟩
      by_cases e:j=1
      ·subst e;exact HX.out
      ·exact Hno.out j (by omega)
     case measure=>simp [intOf]
    ·have HE:=hid (fe_at 7 1 (ck7 C) hlt hx Hno.out)
     have hx':(ck7 C 1 != 0)=true:=by simp [hx]
     clear hx
     generalize ck7 C 1=q at *
     go_wp2
     go_ret
     exact ⟨ret_int HE.out.symm,btrans q3 (btrans hbl hb3)⟩
   ·simp only [Nat.reduceAdd] at hc
    go_wp2_with fail
    refine (step7_any 2 hlt C A _ (hS2.out.keep hbl) Hno.out).mono ?_
    rintro e w3 ⟨rfl,hb3⟩
    by_cases hx:ck7 C 2=0
    ·have HX:=hid hx
     rw [hx]
     clear hx
     go_wp2
     go_roundw
     case rel=>
      refine ⟨3,by omega,by go_num,btrans hbl hb3,fun j hj=>?_⟩
      by_cases e:j=2
      ·subst e;exact HX.out
      ·exact Hno.out j (by omega)
     case measure=>simp [intOf]
    ·have HE:=hid (fe_at 7 2 (ck7 C) hlt hx Hno.out)
     have hx':(ck7 C 2 != 0)=true:=by simp [hx]
     clear hx
     generalize ck7 C 2=q at *
     go_wp2
     go_ret
     exact ⟨ret_int HE.out.symm,btrans q3 (btrans hbl hb3)⟩
   ·simp only [Nat.reduceAdd] at hc
    go_wp2_with fail
    refine (step7_any 3 hlt C A _ (hS2.out.keep hbl) Hno.out).mono ?_
    rintro e w3 ⟨rfl,hb3⟩
    by_cases hx:ck7 C 3=0
    ·have HX:=hid hx
     rw [hx]
     clear hx
     go_wp2
     go_roundw
     case rel=>
      refine ⟨4,by omega,by go_num,btrans hbl hb3,fun j hj=>?_⟩
      by_cases e:j=3
      ·subst e;exact HX.out
      ·exact Hno.out j (by omega)
     case measure=>simp [intOf]
    ·have HE:=hid (fe_at 7 3 (ck7 C) hlt hx Hno.out)
     have hx':(ck7 C 3 != 0)=true:=by simp [hx]
     clear hx
     generalize ck7 C 3=q at *
     go_wp2
     go_ret
     exact ⟨ret_int HE.out.symm,btrans q3 (btrans hbl hb3)⟩
   ·simp only [Nat.reduceAdd] at hc
    go_wp2_with fail
    refine (step7_any 4 hlt C A _ (hS2.out.keep hbl) Hno.out).mono ?_
    rintro e w3 ⟨rfl,hb3⟩
    by_cases hx:ck7 C 4=0
    ·have HX:=hid hx
     rw [hx]
     clear hx
     go_wp2
     go_roundw
     case rel=>
      refine ⟨5,by omega,by go_num,btrans hbl hb3,fun j hj=>?_⟩
      by_cases e:j=4
      ·subst e;exact HX.out
      ·exact Hno.out j (by omega)
     case measure=>simp [intOf]
    ·have HE:=hid (fe_at 7 4 (ck7 C) hlt hx Hno.out)
     have hx':(ck7 C 4 != 0)=true:=by simp [hx]
     clear hx
     generalize ck7 C 4=q at *
     go_wp2
     go_ret
     exact ⟨ret_int HE.out.symm,btrans q3 (btrans hbl hb3)⟩
   ·simp only [Nat.reduceAdd] at hc
    go_wp2_with fail
    refine (step7_any 5 hlt C A _ (hS2.out.keep hbl) Hno.out).mono ?_
    rintro e w3 ⟨rfl,hb3⟩
    by_cases hx:ck7 C 5=0
    ·have HX:=hid hx
     rw [hx]
     clear hx
     go_wp2
     go_roundw
     case rel=>
      refine ⟨6,by omega,by go_num,btrans hbl hb3,fun j hj=>?_⟩
      by_cases e:j=5
      ·subst e;exact HX.out
      ·exact Hno.out j (by omega)
     case measure=>simp [intOf]
    ·have HE:=hid (fe_at 7 5 (ck7 C) hlt hx Hno.out)
     have hx':(ck7 C 5 != 0)=true:=by simp [hx]
     clear hx
     generalize ck7 C 5=q at *
     go_wp2
     go_ret
     exact ⟨ret_int HE.out.symm,btrans q3 (btrans hbl hb3)⟩
   ·simp only [Nat.reduceAdd] at hc
    go_wp2_with fail
    refine (step7_any 6 hlt C A _ (hS2.out.keep hbl) Hno.out).mono ?_
    rintro e w3 ⟨rfl,hb3⟩
    by_cases hx:ck7 C 6=0
    ·have HX:=hid hx
     rw [hx]
     clear hx
     go_wp2
     go_roundw
     case rel=>
      refine ⟨7,by omega,by go_num,btrans hbl hb3,fun j hj=>?_⟩
      by_cases e:j=6
      ·subst e;exact HX.out
      ·exact Hno.out j (by omega)
     case measure=>simp [intOf]
    ·have HE:=hid (fe_at 7 6 (ck7 C) hlt hx Hno.out)
     have hx':(ck7 C 6 != 0)=true:=by simp [hx]
     clear hx
     generalize ck7 C 6=q at *
     go_wp2
     go_ret
     exact ⟨ret_int HE.out.symm,btrans q3 (btrans hbl hb3)⟩
  ·have hk7:k=7:=by omega
   subst hk7
   go_wp2
   go_ret
   exact ⟨ret_int (fe_zero _ _ (fun j hj=>Hno.out j (by omega))).symm,btrans q3 hbl⟩
abbrev ArrT:=Int×Int
def lateA (a:ArrT):Bool:=!inR a.1 0 100000
def noLine (n:Nat) (a:ArrT):Bool:=!inR a.2 0 ((n:Int) - 1)
def ckArr (C:Conf) (l:List ArrT) (dn fr te:Int):Int:=
 if ckC C≠0 then ckC C else if inR dn 0 (C.d - 1)=false then 5 else if 40<l.length then 2 else if l.any lateA then 3 else if l.any (noLine C.ow.length) then 5 else if inR fr 0 100000=false then 3 else if inR te 0 100000=false then 3 else 0
set_option maxHeartbeats 400000 in
theorem late_any (x:ArrT) (w:World):Calls Tryz.prog 120 #[.agg #[.int .i64 x.1,.int .i64 x.2]] w fun e w'=>e=.returned (.bool (lateA x))∧Below w.heap.size w w':=by
 obtain ⟨a,b⟩:=x
 have HB:=fun o=>hid (below_new w o)
 dsimp only
 go_enter Tryz.func120,Tryz.ntmps120
 go_wp2_with fail
 refine (within_any a 0 100000 _).mono ?_
 rintro e w1 ⟨rfl,rfl⟩
 go_wp2
 go_ret
 exact ⟨rfl,(HB _).out⟩
set_option maxHeartbeats 400000 in
theorem line_any (n:Nat) (a6:Option Addr) (c6:Nat) (x:ArrT) (b:Nat) (w:World) (hn:n≤9223372036854775807) (h:w.cell? ⟨b,6,none⟩=some (.slice a6 n c6)) :
  Calls Tryz.prog 121 #[.agg #[.int .i64 x.1,.int .i64 x.2],.pointer (some ⟨b,0,none⟩)] w fun e w'=>e=.returned (.bool (noLine n x))∧Below w.heap.size w w':=by
 obtain ⟨a,l⟩:=x
 have HB:=fun o=>hid (below_new w o)
 have hk:=bkeep (below_new w (.cells #[.int .i64 a,.int .i64 l] 58)) h lr
 have hbx:=World.block_lt_of_cell? _ _ h
 have hw:IntKind.i64.wrap ((n:Int) - 1)=(n:Int) - 1:=by rw [IntKind.wrap_i64];omega
 dsimp only
 go_enter Tryz.func121,Tryz.ntmps121
 go_wp2_with fail
 refine (within_any l 0 ((n:Int) - 1) _).mono ?_
 rintro e w1 ⟨rfl,rfl⟩
 go_wp2
 go_ret
 exact ⟨rfl,(HB _).out⟩
set_option maxHeartbeats 400000 in
theorem indexA_any (p:ArrT→Bool) (f:Nat) (cp:Array Value) (a:Option Addr) (L:List ArrT) (cap:Nat) (w:World) (hw:SlotsIn w a L) (hl:L.length≤9223372036854775807)
  (hf:f=120∧cp=#[]∨f=121∧∃ b,cp=#[.pointer (some ⟨b,0,none⟩)])
  (hF:∀ (x:ArrT) (wr:World),Below w.heap.size w wr→Calls Tryz.prog f (#[.agg #[.int .i64 x.1,.int .i64 x.2]]++cp) wr fun e w'=>e=.returned (.bool (p x))∧Below wr.heap.size wr w') :
  Calls Tryz.prog 147 #[.slice a L.length cap,.func (.func f) #[] cp] w fun e w'=>(∃ r:Int,e=.returned (.int .i64 r)∧(0≤r↔L.any p=true))∧Below w.heap.size w w':=by
 have HF:=hid hF
 clear hF
 have main:∀ (g:Nat) (c:Array Value),g=f→c=cp→Calls Tryz.prog 147 #[.slice a L.length cap,.func (.func g) #[] c] w fun e w'=>(∃ r:Int,e=.returned (.int .i64 r)∧(0≤r↔L.any p=true))∧Below w.heap.size w w':=by
  rcases hf with ⟨rfl,rfl⟩|⟨rfl,b,rfl⟩
  all_goals
   rintro g c rfl rfl
   go_enter Tryz.func147,Tryz.ntmps147
   go_wp2
   go_loopw [8] (fun i wr=>∃ k:Nat,k≤L.length∧i=.int .i64 k∧Below w.heap.size w wr∧∀ j (hj:j<L.length),j<k→p L[j]=false) (fun i _=>L.length - (intOf i).toNat)
   case atStart=>exact ⟨0,Nat.zero_le _,rfl,Below.refl _ _,by omega⟩
   case round=>
    obtain ⟨k,hk,rfl,hbl,hno⟩:=hrel
    have Hno:Hid (∀ j (hj:j<L.length),j<k→p L[j]=false):=hno
    clear hno
    by_cases hlt:k<L.length
    ·obtain ⟨b',o',rfl,hc1,hc2⟩:=hw k hlt
     have hc1':=bkeep hbl hc1 lr
     have hc2':=bkeep hbl hc2 lr
     go_wp2_with fail
     refine (HF.out L[k] _ hbl).mono ?_
     rintro e w' ⟨rfl,hb2⟩
     cases hx:p L[k] with
     | true=>
      have HX:=hid hx
      clear hx
      go_wp2
      go_ret
      refine ⟨⟨k,rfl,?_⟩,btrans hbl hb2⟩
      exact ⟨fun _=>List.any_eq_true.2 ⟨_,List.getElem_mem hlt,HX.out⟩,fun _=>by omega⟩
     | false=>
      have HX:=hid hx
      clear hx
      go_wp2
      go_roundw
      case rel=>
       refine ⟨k+1,by omega,by go_num,btrans hbl hb2,fun j hj hlt2=>?_⟩
       by_cases e:j=k
       ·subst e;exact HX.out
       ·exact Hno.out j hj (by omega)
      case measure=>simp [intOf];omega
    ·go_wp2
     go_ret
     refine ⟨⟨-1,rfl,?_⟩,hbl⟩
     refine ⟨fun h=>absurd h (by omega),fun h=>?_⟩
     obtain ⟨x,hx,hp⟩:=List.any_eq_true.1 h
     obtain ⟨j,hj,rfl⟩:=List.getElem_of_mem hx
     rw [Hno.out j hj (by omega)] at hp
     exact absurd hp (by simp)
 exact main f cp rfl rfl
set_option maxHeartbeats 400000 in
theorem containsA_any (p:ArrT→Bool) (f:Nat) (cp:Array Value) (a:Option Addr) (L:List ArrT) (cap:Nat) (w:World) (hw:SlotsIn w a L) (hl:L.length≤9223372036854775807)
  (hf:f=120∧cp=#[]∨f=121∧∃ b,cp=#[.pointer (some ⟨b,0,none⟩)])
  (hF:∀ (x:ArrT) (wr:World),Below w.heap.size w wr→Calls Tryz.prog f (#[.agg #[.int .i64 x.1,.int .i64 x.2]]++cp) wr fun e w'=>e=.returned (.bool (p x))∧Below wr.heap.size wr w') :
  Calls Tryz.prog 119 #[.slice a L.length cap,.func (.func f) #[] cp] w fun e w'=>e=.returned (.bool (L.any p))∧Below w.heap.size w w':=by
 have CI:=hid (indexA_any p f cp a L cap w hw hl hf hF)
 clear hF hf
 go_enter Tryz.func119,Tryz.ntmps119
 go_wp2_with fail
 refine CI.out.mono ?_
 rintro e w' ⟨⟨r,rfl,hr⟩,hb⟩
 have HR:=hid hr
 clear hr
 go_wp2
 go_ret
 exact ⟨ret_bool (by rw [Bool.eq_iff_iff];simpa using HR.out),hb⟩
set_option maxHeartbeats 1000000 in
theorem checkArr_any (C:Conf) (B:Mem) (aL:Option Addr) (L:List ArrT) (cL:Nat) (dn fr te:Int) (w:World) (hC:ConfIn w B C) (hL:SlotsIn w aL L) (hl:L.length≤9223372036854775807) :
  Calls Tryz.prog 85 #[cv C B,.slice aL L.length cL,.int .i64 dn,.int .i64 fr,.int .i64 te] w fun e w'=>e=.returned (.int .i64 (ckArr C L dn fr te))∧Below w.heap.size w w':=by
 have q1:=below_new w (.cells (cl C B) 27)
 have HC:=hid (hC.keep q1)
 have HL:=hid (hL.keep q1)
 have HX:=hid (boxC_new w C B)
 have HB:=hid q1
 have hlo:C.ow.length≤9223372036854775807:=hC.l6
 clear q1 hC hL
 obtain ⟨g0,g1,g2,g3,g4,g5,g6,g7,g8⟩:=HX.out
 go_enter Tryz.func85,Tryz.ntmps85
 go_wp2_with fail
 refine (checkC_any C B _ HC.out).mono ?_
 rintro e w1 ⟨rfl,hb1⟩
 generalize hW:World.alloc w _=W at *
 clear hW
 have HB1:=hid (btrans HB.out hb1)
 have HL1:=hid (HL.out.keep hb1)
 have HX1:=hid (HX.out.keep hb1)
 clear HC HL HX HB g0 g1 g2 g3 g4 g5 g6 g7 g8 hb1
 by_cases h0:ckC C=0
 case neg=>
  have HE:Hid (ckArr C L dn fr te=ckC C):=hid (by rw [ckArr,if_pos h0])
  have hx:(ckC C != 0)=true:=by simp [h0]
  generalize ckC C=q at *
  go_wp2
  go_ret
  exact ⟨ret_int HE.out.symm,HB1.out⟩
 have H0:=hid h0
 rw [h0]
 have hd:1≤C.d∧C.d≤4:=by
  have h1:=(ck_ok h0).1
  unfold ckNum at h1
  split at h1
  ·rename_i h2
   simp only [inR,Bool.and_eq_true,decide_eq_true_eq] at h2
   omega
  ·omega
 obtain ⟨hd1,hd4⟩:=hd
 have hwd:IntKind.i64.wrap (C.d - 1)=C.d - 1:=by rw [IntKind.wrap_i64];omega
 clear h0
 have HE0:Hid (ckArr C L dn fr te=if inR dn 0 (C.d - 1)=false then 5 else if 40<L.length then 2 else if L.any lateA then 3 else if L.any (noLine C.ow.length) then 5 else if inR fr 0 100000=false then 3 else if inR te 0 100000=false then 3 else 0):=hid (by rw [ckArr,if_neg (by rw [H0.out];decide)])
 obtain ⟨g0,g1,g2,g3,g4,g5,g6,g7,g8⟩:=HX1.out
 have HG6:=hid g6
 go_wp2_with fail
 refine (within_any dn 0 (C.d - 1) _).mono ?_
 rintro e w' ⟨rfl,rfl⟩
 cases h1:inR dn 0 (C.d - 1) with
 | false=>
  have HE:Hid (ckArr C L dn fr te=5):=hid (by rw [HE0.out,if_pos h1])
  clear h1
  go_wp2
  go_ret
  exact ⟨ret_int HE.out.symm,HB1.out⟩
 | true=>
  have HE1:Hid (ckArr C L dn fr te=if 40<L.length then 2 else if L.any lateA then 3 else if L.any (noLine C.ow.length) then 5 else if inR fr 0 100000=false then 3 else if inR te 0 100000=false then 3 else 0):=hid (by rw [HE0.out,if_neg (by rw [h1];decide)])
  clear h1 HE0
  by_cases h40:40<L.length
  ·have HE:Hid (ckArr C L dn fr te=2):=hid (by rw [HE1.out,if_pos h40])
   have hz:(40:Int)<(L.length:Int):=by omega
   go_wp2
   go_ret
   exact ⟨ret_int HE.out.symm,HB1.out⟩
  have HE2:Hid (ckArr C L dn fr te=if L.any lateA then 3 else if L.any (noLine C.ow.length) then 5 else if inR fr 0 100000=false then 3 else if inR te 0 100000=false then 3 else 0):=hid (by rw [HE1.out,if_neg h40])
  have hz:(L.length:Int)≤40:=by omega
  clear h40 HE1
  have CA:=hid (containsA_any lateA 120 #[] aL L cL w1 HL1.out hl (.inl ⟨rfl,rfl⟩) (fun x wr _=>by simpa using late_any x wr))
  go_wp2_with fail
  refine CA.out.mono ?_
  rintro e w2 ⟨rfl,hb2⟩
  have HB2:=hid (btrans HB1.out hb2)
  have HL2:=hid (HL1.out.keep hb2)
  have HG2:=hid (bkeep hb2 HG6.out lr)
  clear hb2 CA g0 g1 g2 g3 g4 g5 g6 g7 g8
  cases h2:L.any lateA with
  | true=>
   have HE:Hid (ckArr C L dn fr te=3):=hid (by rw [HE2.out,if_pos h2])
   clear h2
   go_wp2
   go_ret
   exact ⟨ret_int HE.out.symm,HB2.out⟩
  | false=>
   have HE3:Hid (ckArr C L dn fr te=if L.any (noLine C.ow.length) then 5 else if inR fr 0 100000=false then 3 else if inR te 0 100000=false then 3 else 0):=hid (by rw [HE2.out,if_neg (by rw [h2];decide)])
   clear h2 HE2
   have CB:=hid (containsA_any (noLine C.ow.length) 121 #[.pointer (some ⟨w.heap.size,0,none⟩)] aL L cL w2 HL2.out hl (.inr ⟨rfl,_,rfl⟩) (fun x wr hb=>by simpa using line_any C.ow.length B.a6 B.c6 x w.heap.size wr hlo (bkeep hb HG2.out lr)))
   go_wp2_with fail
   refine CB.out.mono ?_
   rintro e w3 ⟨rfl,hb3⟩
   have HB3:=hid (btrans HB2.out hb3)
   clear hb3 CB
   cases h3:L.any (noLine C.ow.length) with
   | true=>
    have HE:Hid (ckArr C L dn fr te=5):=hid (by rw [HE3.out,if_pos h3])
    clear h3
    go_wp2
    go_ret
    exact ⟨ret_int HE.out.symm,HB3.out⟩
   | false=>
    have HE4:Hid (ckArr C L dn fr te=if inR fr 0 100000=false then 3 else if inR te 0 100000=false then 3 else 0):=hid (by rw [HE3.out,if_neg (by rw [h3];decide)])
    clear h3 HE3
    go_wp2_with fail
    refine (within_any fr 0 100000 _).mono ?_
    rintro e w' ⟨rfl,rfl⟩
    cases h4:inR fr 0 100000 with
    | false=>
     have HE:Hid (ckArr C L dn fr te=3):=hid (by rw [HE4.out,if_pos h4])
     clear h4
     go_wp2
     go_ret
     exact ⟨ret_int HE.out.symm,HB3.out⟩
    | true=>
     have HE5:Hid (ckArr C L dn fr te=if inR te 0 100000=false then 3 else 0):=hid (by rw [HE4.out,if_neg (by rw [h4];decide)])
     clear h4 HE4
     go_wp2_with fail
     refine (within_any te 0 100000 _).mono ?_
     rintro e w' ⟨rfl,rfl⟩
     cases h5:inR te 0 100000 with
     | false=>
      have HE:Hid (ckArr C L dn fr te=3):=hid (by rw [HE5.out,if_pos h5])
      clear h5
      go_wp2
      go_ret
      exact ⟨ret_int HE.out.symm,HB3.out⟩
     | true=>
      have HE:Hid (ckArr C L dn fr te=0):=hid (by rw [HE5.out,if_neg (by rw [h5];decide)])
      clear h5
      go_wp2
      go_ret
      exact ⟨ret_int HE.out.symm,HB3.out⟩
theorem RowAt.grown' {w w':World} {g:Nat} {t:TypeId} {L:List Value} {row:Option Nat} (h:RowAt w g t L) (hg:w.grownBy w' row) (hne:some g≠row):RowAt w' g t L:=by
 show w'.heap[g]? = _
 rw [hg.block g h.lt hne];exact h
def oneC:Conf:=⟨1,1,1,10,4,[(0,100)],[],[],[(0,50,40,30)]⟩
end Go.Proofs.YtejhccmclanlmaaGreatDoor
