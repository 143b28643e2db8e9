/- Texts joined: Br Bs Bu Bt. -/
import Derived.Test.YtejhccmclanlmaaGreatDoorK06
import Derived.Test.YtejhccmclanlmaaGreatDoorK40
import Derived.Test.YtejhccmclanlmaaGreatDoorK52
set_option linter.unusedVariables false
set_option maxRecDepth 100000
namespace Go.Proofs.YtejhccmclanlmaaGreatDoor
open Go.RowKit
def oneS:ScrT:=⟨[[(6,0,0)]],[],1⟩
theorem oneS_ck:ckScr oneC oneS=0:=by kernel_rfl
theorem oneS_nxt:((machF oneC (ps oneS)).1 0).nxt=1:=by kernel_rfl
theorem oneS_only:onlyT oneC 1 0 oneS=oneS:=by kernel_rfl
theorem oneS_long:longF oneC (ps oneS)=2:=by kernel_rfl
theorem oneS_evs:((machF oneC (ps oneS)).1 0).evs=[(0,1,0,0),(0,2,0,0),(0,3,0,0),(3,7,0,0),(50,2,0,1),(30,6,0,0),(80,6,0,1),(90,13,0,0)]:=by kernel_rfl
set_option maxHeartbeats 1000000 in
theorem sameActions_true (a a':Option Addr) (L:List ActT) (cap cap':Nat) (w:World) (h1:ChansIn w a L) (h2:ChansIn w a' L) (hl:L.length≤9223372036854775807) :
  Calls Tryz.prog 40 #[.slice a L.length cap,.slice a' L.length cap'] w fun e w'=>e=.returned (.bool true)∧Below w.heap.size w w':=by
 go_enter Tryz.func40,Tryz.ntmps40
 go_wp2
 go_loopw [5] (fun i wr=>(∃ n,wr=w.drewN n)∧∃ k:Nat,k≤L.length∧i=.int .i64 k) (fun i _=>L.length - (intOf i).toNat)
 case atStart=>exact ⟨⟨0,rfl⟩,0,Nat.zero_le _,rfl⟩
 case round=>
  obtain ⟨⟨nd,rfl⟩,k,hk,rfl⟩:=hrel
  by_cases hlt:k<L.length
  ·obtain ⟨b1,o1,rfl,e1,e2,e3⟩:=h1 k hlt
   obtain ⟨b2,o2,rfl,f1,f2,f3⟩:=h2 k hlt
   have hk1:(k:Int)<L.length:=by omega
   have hk0:(0:Int)≤k:=by omega
   generalize L[k]=y at *
   obtain ⟨y1,y2,y3⟩:=y
   dsimp only at *
   go_wp2
   go_quiet (fail)
   go_wp2
   go_roundw
   case rel=>exact ⟨⟨_,rfl⟩,k+1,by omega,by go_num⟩
   case measure=>simp [intOf];omega
  ·go_wp2
   go_ret
   exact ⟨rfl,below_drewN (Below.refl _ _) _⟩
set_option maxHeartbeats 4000000 in
theorem sameScript_true (LL:List (List ActT)) (rd:Int) (M M':SMem) (w:World) (h1:ScrIn w M ⟨LL,[],rd⟩) (h2:ScrIn w M' ⟨LL,[],rd⟩) (hl:LL.length≤1000) :
  Calls Tryz.prog 19 #[sv ⟨LL,[],rd⟩ M,sv ⟨LL,[],rd⟩ M'] w fun e w'=>e=.returned (.bool true)∧Below w.heap.size w w':=by
 have q1:=below_new w (.cells (sl ⟨LL,[],rd⟩ M) 31)
 have q2:=below_new (w.alloc (.cells (sl ⟨LL,[],rd⟩ M) 31)) (.cells (sl ⟨LL,[],rd⟩ M') 31)
 have HC1:=hid (((h1.keep q1).keep q2).acts)
 have HC2:=hid (((h2.keep q1).keep q2).acts)
 have HB:=hid (btrans q1 q2)
 have X0:=hid ((rowAt_new2 w w.heap.size (sl ⟨LL,[],rd⟩ M).toList 31 rfl).below q2 lr)
 have X1:=hid (rowAt_new2 (w.alloc (.cells (sl ⟨LL,[],rd⟩ M) 31)) (w.heap.size+1) (sl ⟨LL,[],rd⟩ M').toList 31 (by simp))
 clear q1 q2 h1 h2
 obtain ⟨aA,aR,cA,cR⟩:=M
 obtain ⟨bA,bR,dA,dR⟩:=M'
 dsimp only [sv,sl,List.length_nil] at *
 have k0:=X0.out.cell 0 _ rfl
 have k1:=X0.out.cell 1 _ rfl
 have k2:=X0.out.cell 2 _ rfl
 have m0:=X1.out.cell 0 _ rfl
 have m1:=X1.out.cell 1 _ rfl
 have m2:=X1.out.cell 2 _ rfl
 go_enter Tryz.func19,Tryz.ntmps19
 go_wp2
 generalize World.alloc (World.alloc w _) _=w2 at *
 clear k1 k2 m1 m2
 go_loopw [5] (fun i wr=>Below w2.heap.size w2 wr∧∃ k:Nat,k≤LL.length∧i=.int .i64 k) (fun i _=>LL.length - (intOf i).toNat)
 case atStart=>exact ⟨Below.refl _ _,0,Nat.zero_le _,rfl⟩
 case round=>
  obtain ⟨hbl,k,hk,rfl⟩:=hrel
  have HBL:=hid hbl
  have k0':=bkeep hbl k0 lr
  have m0':=bkeep hbl m0 lr
  by_cases hlt:k<LL.length
  ·obtain ⟨b1,o1,a1,c1,e1,p0,p2,p3,p4⟩:=(HC1.out.keep hbl) k hlt
   obtain ⟨b2,o2,a2,c2,e2,q0,q2,q3,q4⟩:=(HC2.out.keep hbl) k hlt
   subst e1
   subst e2
   have hk1:(k:Int)<LL.length:=by omega
   have hk0:(0:Int)≤k:=by omega
   have P2:=hid p2
   have Q2:=hid q2
   clear p2 q2 hbl k0 m0
   generalize LL[k]=V at *
   have HS:Hid (∀ w',Below wr.heap.size wr w'→w'.cell? ⟨w.heap.size,0,none⟩=some (.slice (some ⟨b1,o1,none⟩) LL.length cA)∧w'.cell? ⟨w.heap.size+1,0,none⟩=some (.slice (some ⟨b2,o2,none⟩) LL.length dA)∧w'.cell? ⟨b1,o1+k,none⟩=some (.slice a1 V.length c1)∧w'.cell? ⟨b2,o2+k,none⟩=some (.slice a2 V.length c2)):=hid fun w' hb=>⟨bkeep hb k0' lr,bkeep hb m0' lr,bkeep hb p0 lr,bkeep hb q0 lr⟩
   have hbz:Below wr.heap.size wr wr.drew:=(Below.refl _ _).drew
   go_upto_region 6 with fail
   go_region_held3 (fun w'=>w'.cell? ⟨w.heap.size,0,none⟩=some (.slice (some ⟨b1,o1,none⟩) LL.length cA)∧w'.cell? ⟨w.heap.size+1,0,none⟩=some (.slice (some ⟨b2,o2,none⟩) LL.length dA)∧w'.cell? ⟨b1,o1+k,none⟩=some (.slice a1 V.length c1)∧w'.cell? ⟨b2,o2+k,none⟩=some (.slice a2 V.length c2))
    (first|exact HS.out _ hB3|exact HS.out _ hbz|go_keep)
    (first|(go_at_call 40;refine (sameActions_true a1 a2 V c1 c2 _ (P2.out.keep hbz) (Q2.out.keep hbz) p4).mono ?_;rintro e w3 ⟨rfl,hb3⟩;have hB3:=btrans hbz hb3))
   have HB3:=hid (btrans HBL.out hB3)
   clear HS hB3 hbz k0' m0' p0 q0
   go_wp2
   go_roundw
   case rel=>exact ⟨HB3.out,k+1,by omega,by go_num⟩
   case measure=>simp [intOf];omega
  ·have k1':=(X0.out.below hbl lr).cell 1 _ rfl
   have hkk:¬ (k:Int)<(LL.length:Int):=by omega
   have HBF:=hid (btrans HB.out hbl)
   clear hbl k0 m0
   go_wp2
   clear k0' m0'
   obtain ⟨W3,rfl⟩:∃ x,x=wr:=⟨_,rfl⟩
   go_loopw [6] (fun i wr=>i=.int .i64 0∧wr=W3) (fun _ _=>0)
   case atStart=>exact ⟨rfl,rfl⟩
   case round=>
    obtain ⟨rfl,rfl⟩:=hrel
    go_wp2
    go_ret
    exact ⟨rfl,HBF.out⟩
set_option maxHeartbeats 1000000 in
theorem oneV8_any (w:World):Calls Tryz.prog 17 #[] w fun e w'=>∃ A,e=.returned (cv oneC A)∧ConfIn w' A oneC∧oneC.sl.length≤A.c5∧Below w.heap.size w w':=by
 go_enter Tryz.func17,Tryz.ntmps17
 go_wp2
 have R1:RowAt (((w.alloc (.cells #[.int .i64 1,.int .i64 1,.int .i64 1,.int .i64 10,.int .i64 4,.slice (some ⟨w.heap.size+1,0,none⟩) 1 1,.slice none 0 0,.slice none 0 0,.slice (some ⟨w.heap.size+1+1,0,none⟩) 1 1] 27)).alloc (.cells #[.int .i64 0,.int .i64 100] 106)).alloc (.cells #[.int .i64 0,.int .i64 50,.int .i64 40,.int .i64 30] 108)) (w.heap.size+1) 106 [.int .i64 0,.int .i64 100]:=(rowAt_new2 _ _ [.int .i64 0,.int .i64 100] 106 (by simp)).alloc _
 have R2:RowAt (((w.alloc (.cells #[.int .i64 1,.int .i64 1,.int .i64 1,.int .i64 10,.int .i64 4,.slice (some ⟨w.heap.size+1,0,none⟩) 1 1,.slice none 0 0,.slice none 0 0,.slice (some ⟨w.heap.size+1+1,0,none⟩) 1 1] 27)).alloc (.cells #[.int .i64 0,.int .i64 100] 106)).alloc (.cells #[.int .i64 0,.int .i64 50,.int .i64 40,.int .i64 30] 108)) (w.heap.size+1+1) 108 [.int .i64 0,.int .i64 50,.int .i64 40,.int .i64 30]:=rowAt_new2 _ _ [.int .i64 0,.int .i64 50,.int .i64 40,.int .i64 30] 108 (by simp)
 refine bodyPost_ret (v:=cv oneC ⟨some ⟨w.heap.size+1,0,none⟩,none,none,some ⟨w.heap.size+1+1,0,none⟩,1,0,0,1⟩) (by simp [results,Tryz.results17,go_sem,oneC]) rfl ⟨_,rfl,?_,by simp [oneC],(((Below.refl _ _).alloc lr _).alloc (by simp) _).alloc (by simp;omega) _⟩
 refine ⟨fun i hi=>?_,fun i hi=>absurd hi (by simp [oneC]),fun i hi=>absurd hi (by simp [oneC]),fun i hi=>?_,by simp [oneC],by simp [oneC],by simp [oneC],by simp [oneC],by simp [oneC]⟩
 ·obtain rfl:i=0:=by simp [oneC] at hi;exact hi
  exact ⟨_,_,rfl,R1.cell 0 _ rfl,R1.cell 1 _ rfl⟩
 ·obtain rfl:i=0:=by simp [oneC] at hi;exact hi
  exact ⟨_,_,rfl,R2.cell 0 _ rfl,R2.cell 1 _ rfl,R2.cell 2 _ rfl,R2.cell 3 _ rfl⟩
def oneE:Dom:=(machF oneC (ps oneS)).1 0
theorem oneE_nxt:oneE.nxt=1:=oneS_nxt
theorem one9 (A:Mem) (aA:Option Addr) (w:World) (hC:ConfIn w A oneC) (h5:oneC.sl.length≤A.c5) (hS:ScrIn w ⟨aA,none,1,0⟩ oneS) :
  Calls Tryz.prog 9 #[cv oneC A,.agg #[.slice aA 1 1,.slice none 0 0,.int .i64 1]] w fun e w'=>∃ gd,e=.returned (.tuple #[.slice (some ⟨gd,0,none⟩) 1 1,.int .i64 0])∧(∃ A',DomsAt w' gd 0 0 oneE A'∧DomIn w' A' oneE)∧Below w.heap.size w w':=by
 refine Calls.mono (runApart_ok oneC A oneS ⟨aA,none,1,0⟩ w hC hS oneS_ck h5) ?_
 rintro e w' ⟨gd,n,rfl,⟨hn,As,hd⟩,hb⟩
 have hn1:n=1:=by have h1:oneC.d=1:=rfl;omega
 subst hn1
 have:=hd 0 (by omega)
 exact ⟨gd,rfl,⟨As 0,this.1,this.2 w' (Ext.refl _ _)⟩,hb⟩
theorem one11 (A:Mem) (aA:Option Addr) (w:World) (hC:ConfIn w A oneC) (h5:oneC.sl.length≤A.c5) (hS:ScrIn w ⟨aA,none,1,0⟩ oneS) :
  Calls Tryz.prog 11 #[cv oneC A,.agg #[.slice aA 1 1,.slice none 0 0,.int .i64 1],.int .i64 0] w fun e w'=>∃ A',e=.returned (.tuple #[dv oneE A',.int .i64 0])∧DomOn w.heap.size w' A' oneE∧Below w.heap.size w w':=by
 refine Calls.mono (alone_ok oneC A oneS ⟨aA,none,1,0⟩ 1 0 w hC hS oneS_ck rfl (by omega) h5) ?_
 rintro e w' ⟨A',rfl,h1,hb⟩
 rw [oneS_only] at h1
 rw [oneS_only]
 exact ⟨A',rfl,h1,hb⟩
theorem one18 (A:Mem) (aA:Option Addr) (w:World) (hC:ConfIn w A oneC) (hS:ScrIn w ⟨aA,none,1,0⟩ oneS) :
  Calls Tryz.prog 18 #[cv oneC A,.agg #[.slice aA 1 1,.slice none 0 0,.int .i64 1],.int .i64 0] w fun e w'=>∃ M':SMem,e=.returned (.tuple #[.agg #[.slice M'.aA 1 M'.cA,.slice M'.aR 0 M'.cR,.int .i64 1],.int .i64 0])∧(∀ wx:World,Ext (fun k=>k<w.heap.size) w' wx→ScrIn wx M' oneS)∧Below w.heap.size w w':=by
 refine Calls.mono (only_ok oneC A oneS ⟨aA,none,1,0⟩ 1 0 w hC hS oneS_ck rfl (by omega)) ?_
 rintro e w' ⟨M',rfl,h1,hb⟩
 rw [oneS_only] at h1
 rw [oneS_only]
 exact ⟨M',rfl,h1,hb⟩
theorem dom_stored {w0 w3:World} {g m:Nat} {A':DMem} {D:Dom} (hz:RowAt w3 g 46 [.slice none 0 0,.slice none 0 0,.int .i64 0,.slice none 0 0,.slice none 0 0,.slice none 0 0,.slice none 0 0]) (hd:DomOn m w3 A' D) (hg:g<m) (hb:Below w0.heap.size w0 w3) (hl:w0.heap.size≤g) :
  ∃ bd A2,Value.pointer (some ⟨g,0,none⟩)=.pointer (some ⟨bd,0,none⟩)∧Value.int .i64 0=.int .i64 0∧RowAt (((((((w3.setCell ⟨g,0,none⟩ (.slice A'.aJ D.jobs.length A'.cJ)).setCell ⟨g,1,none⟩ (.slice A'.aR D.rel.length A'.cR)).setCell ⟨g,2,none⟩ (.int .i64 D.nxt)).setCell ⟨g,3,none⟩ (.slice A'.aI D.ins.length A'.cI)).setCell ⟨g,4,none⟩ (.slice A'.aT D.tak.length A'.cT)).setCell ⟨g,5,none⟩ (.slice A'.aO D.out.length A'.cO)).setCell ⟨g,6,none⟩ (.slice A'.aE D.evs.length A'.cE)) bd 46 (dl D A2).toList∧DomIn (((((((w3.setCell ⟨g,0,none⟩ (.slice A'.aJ D.jobs.length A'.cJ)).setCell ⟨g,1,none⟩ (.slice A'.aR D.rel.length A'.cR)).setCell ⟨g,2,none⟩ (.int .i64 D.nxt)).setCell ⟨g,3,none⟩ (.slice A'.aI D.ins.length A'.cI)).setCell ⟨g,4,none⟩ (.slice A'.aT D.tak.length A'.cT)).setCell ⟨g,5,none⟩ (.slice A'.aO D.out.length A'.cO)).setCell ⟨g,6,none⟩ (.slice A'.aE D.evs.length A'.cE)) A2 D∧Below w0.heap.size w0 (((((((w3.setCell ⟨g,0,none⟩ (.slice A'.aJ D.jobs.length A'.cJ)).setCell ⟨g,1,none⟩ (.slice A'.aR D.rel.length A'.cR)).setCell ⟨g,2,none⟩ (.int .i64 D.nxt)).setCell ⟨g,3,none⟩ (.slice A'.aI D.ins.length A'.cI)).setCell ⟨g,4,none⟩ (.slice A'.aT D.tak.length A'.cT)).setCell ⟨g,5,none⟩ (.slice A'.aO D.out.length A'.cO)).setCell ⟨g,6,none⟩ (.slice A'.aE D.evs.length A'.cE)):=
 ⟨g,A',rfl,rfl,(rowAt_set1 (rowAt_set1 (rowAt_set1 (rowAt_set1 (rowAt_set1 (rowAt_set1 (rowAt_set1 hz 0 (.slice A'.aJ D.jobs.length A'.cJ)) 1 (.slice A'.aR D.rel.length A'.cR)) 2 (.int .i64 D.nxt)) 3 (.slice A'.aI D.ins.length A'.cI)) 4 (.slice A'.aT D.tak.length A'.cT)) 5 (.slice A'.aO D.out.length A'.cO)) 6 (.slice A'.aE D.evs.length A'.cE)),hd _ ((((((((Ext.refl _ _).trans (Ext.set (X:=fun x=>x<m) _ hg 0 (.slice A'.aJ D.jobs.length A'.cJ))).trans (Ext.set (X:=fun x=>x<m) _ hg 1 (.slice A'.aR D.rel.length A'.cR))).trans (Ext.set (X:=fun x=>x<m) _ hg 2 (.int .i64 D.nxt))).trans (Ext.set (X:=fun x=>x<m) _ hg 3 (.slice A'.aI D.ins.length A'.cI))).trans (Ext.set (X:=fun x=>x<m) _ hg 4 (.slice A'.aT D.tak.length A'.cT))).trans (Ext.set (X:=fun x=>x<m) _ hg 5 (.slice A'.aO D.out.length A'.cO))).trans (Ext.set (X:=fun x=>x<m) _ hg 6 (.slice A'.aE D.evs.length A'.cE))),(((((((hb.setCell (p:=⟨g,0,none⟩) hl (.slice A'.aJ D.jobs.length A'.cJ)).setCell (p:=⟨g,1,none⟩) hl (.slice A'.aR D.rel.length A'.cR)).setCell (p:=⟨g,2,none⟩) hl (.int .i64 D.nxt)).setCell (p:=⟨g,3,none⟩) hl (.slice A'.aI D.ins.length A'.cI)).setCell (p:=⟨g,4,none⟩) hl (.slice A'.aT D.tak.length A'.cT)).setCell (p:=⟨g,5,none⟩) hl (.slice A'.aO D.out.length A'.cO)).setCell (p:=⟨g,6,none⟩) hl (.slice A'.aE D.evs.length A'.cE))⟩
theorem scr_stored {w0 w3:World} {g m:Nat} {M':SMem} (hz:RowAt w3 g 31 [.slice none 0 0,.slice none 0 0,.int .i64 0]) (hd:∀ wx:World,Ext (fun k=>k<m) w3 wx→ScrIn wx M' oneS) (hg:g<m) (hb:Below w0.heap.size w0 w3) (hl:w0.heap.size≤g) :
  ∃ bd M2,Value.pointer (some ⟨g,0,none⟩)=.pointer (some ⟨bd,0,none⟩)∧Value.int .i64 0=.int .i64 0∧RowAt (((w3.setCell ⟨g,0,none⟩ (.slice M'.aA 1 M'.cA)).setCell ⟨g,1,none⟩ (.slice M'.aR 0 M'.cR)).setCell ⟨g,2,none⟩ (.int .i64 1)) bd 31 [.slice M2.aA 1 M2.cA,.slice M2.aR 0 M2.cR,.int .i64 1]∧ScrIn (((w3.setCell ⟨g,0,none⟩ (.slice M'.aA 1 M'.cA)).setCell ⟨g,1,none⟩ (.slice M'.aR 0 M'.cR)).setCell ⟨g,2,none⟩ (.int .i64 1)) M2 oneS∧Below w0.heap.size w0 (((w3.setCell ⟨g,0,none⟩ (.slice M'.aA 1 M'.cA)).setCell ⟨g,1,none⟩ (.slice M'.aR 0 M'.cR)).setCell ⟨g,2,none⟩ (.int .i64 1)):=
 ⟨g,M',rfl,rfl,(rowAt_set1 (rowAt_set1 (rowAt_set1 hz 0 (.slice M'.aA 1 M'.cA)) 1 (.slice M'.aR 0 M'.cR)) 2 (.int .i64 1)),hd _ ((((Ext.refl _ _).trans (Ext.set (X:=fun x=>x<m) _ hg 0 (.slice M'.aA 1 M'.cA))).trans (Ext.set (X:=fun x=>x<m) _ hg 1 (.slice M'.aR 0 M'.cR))).trans (Ext.set (X:=fun x=>x<m) _ hg 2 (.int .i64 1))),(((hb.setCell (p:=⟨g,0,none⟩) hl (.slice M'.aA 1 M'.cA)).setCell (p:=⟨g,1,none⟩) hl (.slice M'.aR 0 M'.cR)).setCell (p:=⟨g,2,none⟩) hl (.int .i64 1))⟩
set_option maxHeartbeats 8000000 in
theorem apartBegun_true:Begun 6:=by
 intro w
 have q1:=below_new w (.cells #[.int .i64 6,.int .i64 0,.int .i64 0] 63)
 have q2:=below_new (w.alloc (.cells #[.int .i64 6,.int .i64 0,.int .i64 0] 63)) (.cells #[.slice (some ⟨w.heap.size,0,none⟩) 1 1] 56)
 have q3:=below_new ((w.alloc (.cells #[.int .i64 6,.int .i64 0,.int .i64 0] 63)).alloc (.cells #[.slice (some ⟨w.heap.size,0,none⟩) 1 1] 56)) (.cells #[.slice (some ⟨w.heap.size+1,0,none⟩) 1 1,.slice none 0 0,.int .i64 1] 31)
 have HB:=hid (btrans q1 (btrans q2 q3))
 have R1:=((rowAt_new2 w w.heap.size [.int .i64 6,.int .i64 0,.int .i64 0] 63 rfl).below q2 lr).below q3 lr
 have R2:=(rowAt_new2 (w.alloc (.cells #[.int .i64 6,.int .i64 0,.int .i64 0] 63)) (w.heap.size+1) [.slice (some ⟨w.heap.size,0,none⟩) 1 1] 56 (by simp)).below q3 lr
 have X:=hid (rowAt_new2 ((w.alloc (.cells #[.int .i64 6,.int .i64 0,.int .i64 0] 63)).alloc (.cells #[.slice (some ⟨w.heap.size,0,none⟩) 1 1] 56)) (w.heap.size+1+1) [.slice (some ⟨w.heap.size+1,0,none⟩) 1 1,.slice none 0 0,.int .i64 1] 31 (by simp))
 have HS:Hid (ScrIn (((w.alloc (.cells #[.int .i64 6,.int .i64 0,.int .i64 0] 63)).alloc (.cells #[.slice (some ⟨w.heap.size,0,none⟩) 1 1] 56)).alloc (.cells #[.slice (some ⟨w.heap.size+1,0,none⟩) 1 1,.slice none 0 0,.int .i64 1] 31)) ⟨some ⟨w.heap.size+1,0,none⟩,none,1,0⟩ oneS):=hid (by
  refine ⟨fun i hi=>?_,fun i hi=>absurd hi (by simp [oneS]),by simp [oneS],by simp [oneS]⟩
  obtain rfl:i=0:=by simp [oneS] at hi;exact hi
  refine ⟨_,_,some ⟨w.heap.size,0,none⟩,1,rfl,R2.cell 0 _ rfl,fun j hj=>?_,by simp [oneS],by simp [oneS]⟩
  obtain rfl:j=0:=by simp [oneS] at hj;exact hj
  exact ⟨_,_,rfl,R1.cell 0 _ rfl,R1.cell 1 _ rfl,R1.cell 2 _ rfl⟩)
 clear q1 q2 q3 R1 R2
 go_enter Tryz.func6,Tryz.ntmps6
 go_upto_region 2 with fail
 generalize World.alloc (World.alloc (World.alloc w _) _) _=W at *
 generalize w.heap.size+1+1=bs at *
 generalize w.heap.size+1=ba at *
 have s0:=X.out.cell 0 _ rfl
 have s1:=X.out.cell 1 _ rfl
 have s2:=X.out.cell 2 _ rfl
 have hbz:Below W.heap.size W W.drew:=(Below.refl _ _).drew
 have CO:=hid (oneV8_any W.drew)
 go_cut [2,3] (fun t u wx=>∃ gd A',t=.slice (some ⟨gd,0,none⟩) 1 1∧u=.int .i64 0∧DomsAt wx gd 0 0 oneE A'∧DomIn wx A' oneE∧Below W.heap.size W wx)
 case first=>
  go_region_with (first
   | (go_at_call 17;with_reducible refine Calls.mono CO.out ?_;rintro e w2 ⟨A,rfl,hc2,h5,hb2⟩;have HC2:=hid hc2;have H5:=hid h5;have HB2:=hid (btrans hbz hb2);have HS2:=hid (HS.out.keep HB2.out);have X2:=hid (X.out.below HB2.out lr);have t0:=X2.out.cell 0 _ rfl;have t1:=X2.out.cell 1 _ rfl;have t2:=X2.out.cell 2 _ rfl;clear hc2 h5 hb2)
   | (go_at_call 9;with_reducible refine Calls.mono (one9 A (some ⟨ba,0,none⟩) w2 HC2.out H5.out HS2.out) ?_;rintro e w3 ⟨gd,rfl,⟨A',hd1,hd2⟩,hb3⟩;have HD1:=hid hd1;have HD2:=hid hd2;have HB3:=hid (btrans HB2.out hb3);clear hd1 hd2 hb3))
  all_goals
   go_wp2
   go_meet
   exact ⟨gd,A',rfl,rfl,HD1.out,HD2.out,HB3.out⟩
 case rest=>
  obtain ⟨W1,rfl⟩:∃ x,x=wc:=⟨_,rfl⟩
  obtain ⟨gd,A1,rfl,rfl,hda,hdi,hbw⟩:=hcut
  have HDA:=hid hda
  have HDI:=hid hdi
  have HBW:=hid hbw
  have HSc:=hid (HS.out.keep hbw)
  have Xc:=hid (X.out.below hbw lr)
  clear s0 s1 s2 hbz CO hda hdi hbw
  have s0:=Xc.out.cell 0 _ rfl
  have s1:=Xc.out.cell 1 _ rfl
  have s2:=Xc.out.cell 2 _ rfl
  have hbz:Below W1.heap.size W1 W1.drew:=(Below.refl _ _).drew
  have hBa:Below W1.heap.size W1 (W1.alloc (.cells #[.slice none 0 0,.slice none 0 0,.int .i64 0,.slice none 0 0,.slice none 0 0,.slice none 0 0,.slice none 0 0] 46)).drew:=((Below.refl W1.heap.size W1).alloc lr _).drew
  have RB:Hid (RowAt (W1.alloc (.cells #[.slice none 0 0,.slice none 0 0,.int .i64 0,.slice none 0 0,.slice none 0 0,.slice none 0 0,.slice none 0 0] 46)).drew W1.heap.size 46 [.slice none 0 0,.slice none 0 0,.int .i64 0,.slice none 0 0,.slice none 0 0,.slice none 0 0,.slice none 0 0]):=hid (rowAt_new2 W1 W1.heap.size [.slice none 0 0,.slice none 0 0,.int .i64 0,.slice none 0 0,.slice none 0 0,.slice none 0 0,.slice none 0 0] 46 rfl).drew
  have z0:=bkeep hbz s0 lr
  have z1:=bkeep hbz s1 lr
  have z2:=bkeep hbz s2 lr
  have y0:=cell_old (.cells #[.slice none 0 0,.slice none 0 0,.int .i64 0,.slice none 0 0,.slice none 0 0,.slice none 0 0,.slice none 0 0] 46) s0
  have y1:=cell_old (.cells #[.slice none 0 0,.slice none 0 0,.int .i64 0,.slice none 0 0,.slice none 0 0,.slice none 0 0,.slice none 0 0] 46) s1
  have y2:=cell_old (.cells #[.slice none 0 0,.slice none 0 0,.int .i64 0,.slice none 0 0,.slice none 0 0,.slice none 0 0,.slice none 0 0] 46) s2
  have v0:=bkeep hBa s0 lr
  have v1:=bkeep hBa s1 lr
  have v2:=bkeep hBa s2 lr
  go_upto_region 3 with fail
  go_cut [4,5] (fun t u wx=>∃ bd A',t=.pointer (some ⟨bd,0,none⟩)∧u=.int .i64 0∧RowAt wx bd 46 (dl oneE A').toList∧DomIn wx A' oneE∧Below W1.heap.size W1 wx)
  case first=>
   go_region_with (first
    | (go_at_call 17;with_reducible refine Calls.mono (oneV8_any _) ?_;rintro e w2 ⟨A,rfl,hc2,h5,hb2⟩;have HC2:=hid hc2;have H5:=hid h5;(first|(with_reducible have HB2:=hid (btrans hbz hb2))|(have HB2:=hid (btrans hBa hb2);have Z2:=hid (RB.out.below hb2 lr)));have HS2:=hid (HSc.out.keep HB2.out);have X2:=hid (Xc.out.below HB2.out lr);have t0:=X2.out.cell 0 _ rfl;have t1:=X2.out.cell 1 _ rfl;have t2:=X2.out.cell 2 _ rfl;have t0a:=cell_old (.cells #[.slice none 0 0,.slice none 0 0,.int .i64 0,.slice none 0 0,.slice none 0 0,.slice none 0 0,.slice none 0 0] 46) t0;have t1a:=cell_old (.cells #[.slice none 0 0,.slice none 0 0,.int .i64 0,.slice none 0 0,.slice none 0 0,.slice none 0 0,.slice none 0 0] 46) t1;have t2a:=cell_old (.cells #[.slice none 0 0,.slice none 0 0,.int .i64 0,.slice none 0 0,.slice none 0 0,.slice none 0 0,.slice none 0 0] 46) t2;clear hc2 h5 hb2)
    | (go_at_call 11;(first|(with_reducible refine Calls.mono (one11 A (some ⟨ba,0,none⟩) w2 HC2.out H5.out HS2.out) ?_;rintro e w3 ⟨A',rfl,hd1,hb3⟩;have HB3:=hid (btrans HB2.out hb3);try (have Z3:=hid (Z2.out.below hb3 lr);have x0:=Z3.out.cell 0 _ rfl;have f0:=Z3.out.frozen 0;have x1:=Z3.out.cell 1 _ rfl;have f1:=Z3.out.frozen 1;have x2:=Z3.out.cell 2 _ rfl;have f2:=Z3.out.frozen 2;have x3:=Z3.out.cell 3 _ rfl;have f3:=Z3.out.frozen 3;have x4:=Z3.out.cell 4 _ rfl;have f4:=Z3.out.frozen 4;have x5:=Z3.out.cell 5 _ rfl;have f5:=Z3.out.frozen 5;have x6:=Z3.out.cell 6 _ rfl;have f6:=Z3.out.frozen 6))|(with_reducible refine Calls.mono (one11 A (some ⟨ba,0,none⟩) _ (HC2.out.keep (below_new w2 (.cells #[.slice none 0 0,.slice none 0 0,.int .i64 0,.slice none 0 0,.slice none 0 0,.slice none 0 0,.slice none 0 0] 46))) H5.out (HS2.out.keep (below_new w2 (.cells #[.slice none 0 0,.slice none 0 0,.int .i64 0,.slice none 0 0,.slice none 0 0,.slice none 0 0,.slice none 0 0] 46)))) ?_;rintro e w3 ⟨A',rfl,hd1,hb3⟩;have HB3:=hid (btrans (btrans HB2.out (below_new w2 (.cells #[.slice none 0 0,.slice none 0 0,.int .i64 0,.slice none 0 0,.slice none 0 0,.slice none 0 0,.slice none 0 0] 46))) hb3);have Z3:=hid ((rowAt_new2 w2 w2.heap.size [.slice none 0 0,.slice none 0 0,.int .i64 0,.slice none 0 0,.slice none 0 0,.slice none 0 0,.slice none 0 0] 46 rfl).below hb3 lr);have x0:=Z3.out.cell 0 _ rfl;have f0:=Z3.out.frozen 0;have x1:=Z3.out.cell 1 _ rfl;have f1:=Z3.out.frozen 1;have x2:=Z3.out.cell 2 _ rfl;have f2:=Z3.out.frozen 2;have x3:=Z3.out.cell 3 _ rfl;have f3:=Z3.out.frozen 3;have x4:=Z3.out.cell 4 _ rfl;have f4:=Z3.out.frozen 4;have x5:=Z3.out.cell 5 _ rfl;have f5:=Z3.out.frozen 5;have x6:=Z3.out.cell 6 _ rfl;have f6:=Z3.out.frozen 6));have HD1:=hid hd1;clear hd1 hb3))
   all_goals
    go_wp2
    go_meet
    first
     | (with_reducible refine dom_stored Z3.out HD1.out ?_ HB3.out ?_) <;> first|exact Z2.out.lt|exact Nat.le_refl _|exact HB2.out.size|(simp;done)
     | exact ⟨w3.heap.size,A',rfl,rfl,rowAt_new2 w3 w3.heap.size (dl oneE A').toList 46 rfl,(HD1.out w3 (Ext.refl _ _)).keep (below_new w3 (.cells (dl oneE A') 46)),btrans HB3.out (below_new w3 (.cells (dl oneE A') 46))⟩
  case rest=>
   obtain ⟨W2,rfl⟩:∃ x,x=wc:=⟨_,rfl⟩
   obtain ⟨bd,A2,rfl,rfl,hrow,hdi,hbw⟩:=hcut
   have HRW:=hid hrow
   have HD2:=hid hdi
   have HBW2:=hid hbw
   clear s0 s1 s2 hbz hBa RB z0 z1 z2 y0 y1 y2 v0 v1 v2
   have HSd:=hid (HSc.out.keep hbw)
   have Xd:=hid (Xc.out.below hbw lr)
   clear hrow hdi hbw
   have s0:=Xd.out.cell 0 _ rfl
   have s1:=Xd.out.cell 1 _ rfl
   have s2:=Xd.out.cell 2 _ rfl
   have hbz:Below W2.heap.size W2 W2.drew:=(Below.refl _ _).drew
   have hBa:Below W2.heap.size W2 (W2.alloc (.cells #[.slice none 0 0,.slice none 0 0,.int .i64 0] 31)).drew:=((Below.refl W2.heap.size W2).alloc lr _).drew
   have RB:Hid (RowAt (W2.alloc (.cells #[.slice none 0 0,.slice none 0 0,.int .i64 0] 31)).drew W2.heap.size 31 [.slice none 0 0,.slice none 0 0,.int .i64 0]):=hid (rowAt_new2 W2 W2.heap.size [.slice none 0 0,.slice none 0 0,.int .i64 0] 31 rfl).drew
   have z0:=bkeep hbz s0 lr
   have z1:=bkeep hbz s1 lr
   have z2:=bkeep hbz s2 lr
   have y0:=cell_old (.cells #[.slice none 0 0,.slice none 0 0,.int .i64 0] 31) s0
   have y1:=cell_old (.cells #[.slice none 0 0,.slice none 0 0,.int .i64 0] 31) s1
   have y2:=cell_old (.cells #[.slice none 0 0,.slice none 0 0,.int .i64 0] 31) s2
   have v0:=bkeep hBa s0 lr
   have v1:=bkeep hBa s1 lr
   have v2:=bkeep hBa s2 lr
   go_upto_region 4 with fail
   go_cut [6,7] (fun t u wx=>∃ bd M2,t=.pointer (some ⟨bd,0,none⟩)∧u=.int .i64 0∧RowAt wx bd 31 [.slice M2.aA 1 M2.cA,.slice M2.aR 0 M2.cR,.int .i64 1]∧ScrIn wx M2 oneS∧Below W2.heap.size W2 wx)
   case first=>
    go_region_with (first
     | (go_at_call 17;with_reducible refine Calls.mono (oneV8_any _) ?_;rintro e w2 ⟨A,rfl,hc2,h5,hb2⟩;have HC2:=hid hc2;have H5:=hid h5;(first|(with_reducible have HB2:=hid (btrans hbz hb2))|(have HB2:=hid (btrans hBa hb2);have Z2:=hid (RB.out.below hb2 lr)));have HS2:=hid (HSd.out.keep HB2.out);have X2:=hid (Xd.out.below HB2.out lr);have t0:=X2.out.cell 0 _ rfl;have t1:=X2.out.cell 1 _ rfl;have t2:=X2.out.cell 2 _ rfl;have t0a:=cell_old (.cells #[.slice none 0 0,.slice none 0 0,.int .i64 0] 31) t0;have t1a:=cell_old (.cells #[.slice none 0 0,.slice none 0 0,.int .i64 0] 31) t1;have t2a:=cell_old (.cells #[.slice none 0 0,.slice none 0 0,.int .i64 0] 31) t2;clear hc2 h5 hb2)
     | (go_at_call 18;(first|(with_reducible refine Calls.mono (one18 A (some ⟨ba,0,none⟩) w2 HC2.out HS2.out) ?_;rintro e w3 ⟨M',rfl,hd1,hb3⟩;have HB3:=hid (btrans HB2.out hb3);try (have Z3:=hid (Z2.out.below hb3 lr);have x0:=Z3.out.cell 0 _ rfl;have f0:=Z3.out.frozen 0;have x1:=Z3.out.cell 1 _ rfl;have f1:=Z3.out.frozen 1;have x2:=Z3.out.cell 2 _ rfl;have f2:=Z3.out.frozen 2))|(with_reducible refine Calls.mono (one18 A (some ⟨ba,0,none⟩) _ (HC2.out.keep (below_new w2 (.cells #[.slice none 0 0,.slice none 0 0,.int .i64 0] 31))) (HS2.out.keep (below_new w2 (.cells #[.slice none 0 0,.slice none 0 0,.int .i64 0] 31)))) ?_;rintro e w3 ⟨M',rfl,hd1,hb3⟩;have HB3:=hid (btrans (btrans HB2.out (below_new w2 (.cells #[.slice none 0 0,.slice none 0 0,.int .i64 0] 31))) hb3);have Z3:=hid ((rowAt_new2 w2 w2.heap.size [.slice none 0 0,.slice none 0 0,.int .i64 0] 31 rfl).below hb3 lr);have x0:=Z3.out.cell 0 _ rfl;have f0:=Z3.out.frozen 0;have x1:=Z3.out.cell 1 _ rfl;have f1:=Z3.out.frozen 1;have x2:=Z3.out.cell 2 _ rfl;have f2:=Z3.out.frozen 2));have HD1:=hid hd1;clear hd1 hb3))
    all_goals
     go_wp2
     go_meet
     first
      | (with_reducible refine scr_stored Z3.out HD1.out ?_ HB3.out ?_) <;> first|exact Z2.out.lt|exact Nat.le_refl _|exact HB2.out.size|(simp;done)
      | exact ⟨w3.heap.size,M',rfl,rfl,rowAt_new2 w3 w3.heap.size [.slice M'.aA 1 M'.cA,.slice M'.aR 0 M'.cR,.int .i64 1] 31 rfl,(HD1.out w3 (Ext.refl _ _)).keep (below_new w3 (.cells #[.slice M'.aA 1 M'.cA,.slice M'.aR 0 M'.cR,.int .i64 1] 31)),btrans HB3.out (below_new w3 (.cells #[.slice M'.aA 1 M'.cA,.slice M'.aR 0 M'.cR,.int .i64 1] 31))⟩
   case rest=>
    obtain ⟨W3,rfl⟩:∃ x,x=wc:=⟨_,rfl⟩
    obtain ⟨bx,M2,rfl,rfl,hrx,hsx,hbw⟩:=hcut
    clear s0 s1 s2 hbz hBa RB z0 z1 z2 y0 y1 y2 v0 v1 v2
    have hb13:=btrans HBW2.out hbw
    have HFB:=hid (btrans HB.out (btrans HBW.out hb13))
    have hp:=HDA.out.keep hb13
    have HDI3:=hid (HDI.out.keep hb13)
    have HRW3:=HRW.out.below hbw lr
    have HD23:=hid (HD2.out.keep hbw)
    have HSX:=hid hsx
    have HSe:=hid (HSd.out.keep hbw)
    have Xe:=Xd.out.below hbw lr
    have hbz:Below W3.heap.size W3 W3.drew:=(Below.refl _ _).drew
    have HNX:=hid oneE_nxt
    have CD:Hid (∀ wx,Below W3.heap.size W3 wx→Calls Tryz.prog 12 #[dv oneE A1,dv oneE A2] wx fun e w'=>e=.returned (.bool true)∧Below wx.heap.size wx w'):=hid fun wx hb=>sameDomain_true oneE A1 A2 wx (HDI3.out.keep hb) (HD23.out.keep hb)
    have CX:Hid (∀ wx,Below W3.heap.size W3 wx→Calls Tryz.prog 19 #[.agg #[.slice M2.aA 1 M2.cA,.slice M2.aR 0 M2.cR,.int .i64 1],.agg #[.slice (some ⟨ba,0,none⟩) 1 1,.slice none 0 0,.int .i64 1]] wx fun e w'=>e=.returned (.bool true)∧Below wx.heap.size wx w'):=hid fun wx hb=>sameScript_true [[(6,0,0)]] 1 M2 ⟨some ⟨ba,0,none⟩,none,1,0⟩ wx (HSX.out.keep hb) (HSe.out.keep hb) (by decide)
    clear HDA HDI HRW HD2 HDI3 HD23 hsx hbw hb13 HSX HSe HSd Xd
    generalize oneE=E at *
    obtain ⟨aJ1,aR1,aI1,aT1,aO1,aE1,cJ1,cR1,cI1,cT1,cO1,cE1⟩:=A1
    obtain ⟨aJ2,aR2,aI2,aT2,aO2,aE2,cJ2,cR2,cI2,cT2,cO2,cE2⟩:=A2
    obtain ⟨xA,xR,yA,yR⟩:=M2
    obtain ⟨d0,d1,d2,d3,d4,d5,d6⟩:=hp
    dsimp only [dv,dl] at *
    have e0:=HRW3.cell 0 _ rfl
    have e1:=HRW3.cell 1 _ rfl
    have e2:=HRW3.cell 2 _ rfl
    have e3:=HRW3.cell 3 _ rfl
    have e4:=HRW3.cell 4 _ rfl
    have e5:=HRW3.cell 5 _ rfl
    have e6:=HRW3.cell 6 _ rfl
    have x0:=hrx.cell 0 _ rfl
    have x1:=hrx.cell 1 _ rfl
    have x2:=hrx.cell 2 _ rfl
    have s0:=Xe.cell 0 _ rfl
    have s1:=Xe.cell 1 _ rfl
    have s2:=Xe.cell 2 _ rfl
    simp only [Nat.zero_add,Nat.zero_mul,Nat.add_zero] at d0 d1 d2 d3 d4 d5 d6
    rw [HNX.out] at d2 e2
    simp only [HNX.out] at CD
    have HK:Hid (∀ w',Below W3.heap.size W3 w'→w'.cell? ⟨gd,0,none⟩=some (.slice aJ1 E.jobs.length cJ1)∧w'.cell? ⟨gd,1,none⟩=some (.slice aR1 E.rel.length cR1)∧w'.cell? ⟨gd,2,none⟩=some (.int .i64 1)∧w'.cell? ⟨gd,3,none⟩=some (.slice aI1 E.ins.length cI1)∧w'.cell? ⟨gd,4,none⟩=some (.slice aT1 E.tak.length cT1)∧w'.cell? ⟨gd,5,none⟩=some (.slice aO1 E.out.length cO1)∧w'.cell? ⟨gd,6,none⟩=some (.slice aE1 E.evs.length cE1)∧w'.cell? ⟨bd,0,none⟩=some (.slice aJ2 E.jobs.length cJ2)∧w'.cell? ⟨bd,1,none⟩=some (.slice aR2 E.rel.length cR2)∧w'.cell? ⟨bd,2,none⟩=some (.int .i64 1)∧w'.cell? ⟨bd,3,none⟩=some (.slice aI2 E.ins.length cI2)∧w'.cell? ⟨bd,4,none⟩=some (.slice aT2 E.tak.length cT2)∧w'.cell? ⟨bd,5,none⟩=some (.slice aO2 E.out.length cO2)∧w'.cell? ⟨bd,6,none⟩=some (.slice aE2 E.evs.length cE2)∧w'.cell? ⟨bx,0,none⟩=some (.slice xA 1 yA)∧w'.cell? ⟨bx,1,none⟩=some (.slice xR 0 yR)∧w'.cell? ⟨bx,2,none⟩=some (.int .i64 1)∧w'.cell? ⟨bs,0,none⟩=some (.slice (some ⟨ba,0,none⟩) 1 1)∧w'.cell? ⟨bs,1,none⟩=some (.slice none 0 0)∧w'.cell? ⟨bs,2,none⟩=some (.int .i64 1)):=hid fun w' hb=>⟨bkeep hb d0 lr,bkeep hb d1 lr,bkeep hb d2 lr,bkeep hb d3 lr,bkeep hb d4 lr,bkeep hb d5 lr,bkeep hb d6 lr,bkeep hb e0 lr,bkeep hb e1 lr,bkeep hb e2 lr,bkeep hb e3 lr,bkeep hb e4 lr,bkeep hb e5 lr,bkeep hb e6 lr,bkeep hb x0 lr,bkeep hb x1 lr,bkeep hb x2 lr,bkeep hb s0 lr,bkeep hb s1 lr,bkeep hb s2 lr⟩
    clear HRW3 hrx Xe
    go_upto_region 5 with fail
    go_region_held3 (fun w'=>w'.cell? ⟨gd,0,none⟩=some (.slice aJ1 E.jobs.length cJ1)∧w'.cell? ⟨gd,1,none⟩=some (.slice aR1 E.rel.length cR1)∧w'.cell? ⟨gd,2,none⟩=some (.int .i64 1)∧w'.cell? ⟨gd,3,none⟩=some (.slice aI1 E.ins.length cI1)∧w'.cell? ⟨gd,4,none⟩=some (.slice aT1 E.tak.length cT1)∧w'.cell? ⟨gd,5,none⟩=some (.slice aO1 E.out.length cO1)∧w'.cell? ⟨gd,6,none⟩=some (.slice aE1 E.evs.length cE1)∧w'.cell? ⟨bd,0,none⟩=some (.slice aJ2 E.jobs.length cJ2)∧w'.cell? ⟨bd,1,none⟩=some (.slice aR2 E.rel.length cR2)∧w'.cell? ⟨bd,2,none⟩=some (.int .i64 1)∧w'.cell? ⟨bd,3,none⟩=some (.slice aI2 E.ins.length cI2)∧w'.cell? ⟨bd,4,none⟩=some (.slice aT2 E.tak.length cT2)∧w'.cell? ⟨bd,5,none⟩=some (.slice aO2 E.out.length cO2)∧w'.cell? ⟨bd,6,none⟩=some (.slice aE2 E.evs.length cE2)∧w'.cell? ⟨bx,0,none⟩=some (.slice xA 1 yA)∧w'.cell? ⟨bx,1,none⟩=some (.slice xR 0 yR)∧w'.cell? ⟨bx,2,none⟩=some (.int .i64 1)∧w'.cell? ⟨bs,0,none⟩=some (.slice (some ⟨ba,0,none⟩) 1 1)∧w'.cell? ⟨bs,1,none⟩=some (.slice none 0 0)∧w'.cell? ⟨bs,2,none⟩=some (.int .i64 1))
     (first|with_reducible exact HK.out _ hB5|with_reducible exact HK.out _ hB4|with_reducible exact HK.out _ hbz|go_keep)
     (first
      | (go_at_call 12;with_reducible refine Calls.mono (CD.out _ hbz) ?_;rintro e w4 ⟨rfl,hb4⟩;have hB4:=btrans hbz hb4)
      | (go_at_call 19;with_reducible refine Calls.mono (CX.out _ hB4) ?_;rintro e w5 ⟨rfl,hb5⟩;have hB5:=btrans hB4 hb5))
    have HB5:=hid (btrans HFB.out hB5)
    clear HK hB5 hB4
    go_wp2
    go_ret
    exact ⟨rfl,HB5.out⟩
end Go.Proofs.YtejhccmclanlmaaGreatDoor
