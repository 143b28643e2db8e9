/- Texts joined: Fe Ff Wm Ag. -/
import Derived.Deep.DeepCutAuto
import Derived.Test.YtejhccmclanlmaaGreatDoorK09
import Derived.Test.YtejhccmclanlmaaGreatDoorK14
import Derived.Test.YtejhccmclanlmaaGreatDoorK17
import Derived.Test.YtejhccmclanlmaaGreatDoorK22
set_option linter.unusedVariables false
set_option maxRecDepth 100000
namespace Go.Proofs.YtejhccmclanlmaaGreatDoor
open Go.RowKit
theorem owns_cell {w:World} {base n c g k:Nat} {L:List Int} (h:w.ownsRow base 3 1 (.slice (some ⟨g,0,none⟩) n c) n (ivs L)) (hk:k<L.length):w.cell? ⟨g,k,none⟩=some (.int .i64 L[k]):=by
 have:=h.cells (g:=g) rfl k (.int .i64 L[k]) (by simp [ivs,hk])
 rw [addZ] at this
 exact this
theorem owns_frozen {w:World} {base e sz n c g:Nat} {xs:List Value} (h:w.ownsRow base e sz (.slice (some ⟨g,0,none⟩) n c) n xs) (i:Nat):w.frozen? ⟨g,i,none⟩=false:=by
 obtain ⟨cur,hc⟩:=owns_heap h (k:=g) rfl
 simp [World.frozen?,hc]
set_option maxHeartbeats 4000000 in
theorem release_ok (w0:World) (X:Nat→Prop) (base kb:Nat) (D:Dom) (A:DMem) (C:Conf) (B:Mem) (dn:Int) (k:Nat) (w:World) (h:KO w0 X base kb w D A C B dn) (hk:k<C.ta.length) (hkr:k<D.rel.length) (hr0:0≤D.rel[k]) (hr1:D.rel[k]<100000) (hj:D.jobs.length≤20) (hl:D.evs.length≤1000000000) :
  Calls Tryz.prog 155 #[.pointer (some ⟨kb,0,none⟩),.int .i64 (k:Int)] w fun e w'=>e=.returned (.tuple #[])∧(∃ A',KO w0 X base kb w' (relStep C k D) A' C B dn)∧KeepsOthers w w':=by
 obtain ⟨rb,hrb,_,_⟩:=owns_zero h.r (by omega)
 have hk1:(k:Int)<(D.rel.length:Int):=by omega
 have hk0:(0:Int)≤(k:Int):=by omega
 have HH:=hid h
 have HKR:=hid hkr
 have HJX:Hid (∀ x,(Value.slice A.aJ D.jobs.length A.cJ).ownBlock=some x→x<w.heap.size):=hid fun x hx=>owns_lt h.j x hx
 obtain ⟨aJ,aR,aI,aT,aO,aE,cJ,cR,cI,cT,cO,cE⟩:=A
 dsimp only at hrb
 subst hrb
 have hrlt:rb<w.heap.size:=owns_lt h.r rb rfl
 have c1:=h.row.cell 1 _ rfl
 have cr:w.cell? ⟨rb,k,none⟩=some (.int .i64 D.rel[k]):=owns_cell h.r hkr
 have C99:=hid (fun wx (hb:Below w.heap.size w wx)=>comes_any kb D _ C B dn k wx (h.below hb).keepIn hk hkr)
 have HS:Hid (∀ w',Below w.heap.size w w'→w'.cell? ⟨kb,1,none⟩=some (.slice (some ⟨rb,0,none⟩) D.rel.length cR)∧w'.cell? ⟨rb,k,none⟩=some (.int .i64 D.rel[k])):=hid fun w' hb=>⟨bkeep hb c1 lr,bkeep hb cr lr⟩
 have HRS:Hid (relStep C k D=if D.jobs.length=20 then ⟨D.jobs,D.rel.set k (D.rel[k]+1),D.nxt,D.ins,D.tak,D.out,D.evs⟩
  else ⟨D.jobs++[((k:Int),D.rel[k],comesAt C D k,0,false,false)],D.rel.set k (D.rel[k]+1),D.nxt,D.ins,D.tak,D.out,D.evs++[(comesAt C D k,2,(k:Int),D.rel[k])]⟩):=hid (by
   have e:D.rel.getD k 0=D.rel[k]:=getD_of D.rel k hkr 0
   unfold relStep;rw [e])
 have hbz:Below w.heap.size w w.drew:=(Below.refl _ _).drew
 have hbz2:Below w.heap.size w (w.alloc (.cells #[.int .i64 0,.int .i64 0,.int .i64 0,.int .i64 0,.bool false,.bool false] 87)).drew:=(below_new _ _).drew
 have RZ:Hid (RowAt (w.alloc (.cells #[.int .i64 0,.int .i64 0,.int .i64 0,.int .i64 0,.bool false,.bool false] 87)).drew w.heap.size 87 [.int .i64 0,.int .i64 0,.int .i64 0,.int .i64 0,.bool false,.bool false]):=hid (rowAt_new2 w _ [.int .i64 0,.int .i64 0,.int .i64 0,.int .i64 0,.bool false,.bool false] 87 rfl)
 clear h c1 cr
 generalize hy:D.rel[k]=y at *
 have HY:=hid hy
 generalize comesAt C D k=c at *
 clear hy hk
 go_enter Tryz.func155,Tryz.ntmps155
 go_upto_region 0 with fail
 go_cut [4] (fun t wx=>∃ Bj,t=.pointer (some ⟨Bj,0,none⟩)∧Below w.heap.size w wx∧RowAt wx Bj 87 [.int .i64 (k:Int),.int .i64 y,.int .i64 c,.int .i64 0,.bool false,.bool false]∧w.heap.size≤Bj)
 case first=>
  go_region_held3 (fun w'=>w'.cell? ⟨kb,1,none⟩=some (.slice (some ⟨rb,0,none⟩) D.rel.length cR)∧w'.cell? ⟨rb,k,none⟩=some (.int .i64 y))
   (first|with_reducible exact HS.out _ hB2|with_reducible exact HS.out _ (hB2a _)|with_reducible exact HS.out _ (hB2c _ _ _ _ _ _)|with_reducible exact HS.out _ hbz|with_reducible exact HS.out _ hbz2|go_keep)
   (first
    | (go_at_call 154;with_reducible refine Calls.mono (C99.out _ hbz) ?_;rintro e w2 ⟨rfl,hb2⟩;have hB2:=btrans hbz hb2;have hB2a:∀ o,Below w.heap.size w (w2.alloc o):=fun o=>btrans hB2 (below_new _ o))
    | (go_at_call 154;with_reducible refine Calls.mono (C99.out _ hbz2) ?_;rintro e w2 ⟨rfl,hb2⟩;have hB2:=btrans hbz2 hb2;have HZ:=hid (RZ.out.below hb2 lr);have u0:=HZ.out.cell 0 _ rfl;have u1:=HZ.out.cell 1 _ rfl;have u2:=HZ.out.cell 2 _ rfl;have u3:=HZ.out.cell 3 _ rfl;have u4:=HZ.out.cell 4 _ rfl;have u5:=HZ.out.cell 5 _ rfl;have f0:=HZ.out.frozen 0;have f1:=HZ.out.frozen 1;have f2:=HZ.out.frozen 2;have f3:=HZ.out.frozen 3;have f4:=HZ.out.frozen 4;have f5:=HZ.out.frozen 5;have hB2c:∀ v0 v1 v2 v3 v4 v5,Below w.heap.size w ((((((w2.setCell ⟨w.heap.size,0,none⟩ v0).setCell ⟨w.heap.size,1,none⟩ v1).setCell ⟨w.heap.size,2,none⟩ v2).setCell ⟨w.heap.size,3,none⟩ v3).setCell ⟨w.heap.size,4,none⟩ v4).setCell ⟨w.heap.size,5,none⟩ v5):=fun v0 v1 v2 v3 v4 v5=>(((((hB2.setCell (p:=⟨w.heap.size,0,none⟩) lr _).setCell (p:=⟨w.heap.size,1,none⟩) lr _).setCell (p:=⟨w.heap.size,2,none⟩) lr _).setCell (p:=⟨w.heap.size,3,none⟩) lr _).setCell (p:=⟨w.heap.size,4,none⟩) lr _).setCell (p:=⟨w.heap.size,5,none⟩) lr _))
  all_goals
   go_wp2
   go_meet
   case rel=>
    first
     | (have hM:=hB2a;exact ⟨w2.heap.size,rfl,btrans hB2 (below_new _ _),rowAt_new2 w2 _ [.int .i64 (k:Int),.int .i64 y,.int .i64 c,.int .i64 0,.bool false,.bool false] 87 rfl,hB2.size⟩)
     | (have hM:=hB2c;exact ⟨w.heap.size,rfl,hM _ _ _ _ _ _,rowAt_set1 (rowAt_set1 (rowAt_set1 (rowAt_set1 (rowAt_set1 (rowAt_set1 HZ.out 0 _) 1 _) 2 _) 3 _) 4 _) 5 _,Nat.le_refl _⟩)
 case rest=>
  obtain ⟨Bj,rfl,hB,hrow,hBj⟩:=hcut
  have hK1:=HH.out.below hB
  have c1:=hK1.row.cell 1 _ rfl
  have cr:wc.cell? ⟨rb,k,none⟩=some (.int .i64 y):=(HS.out _ hB).2
  have fr:=owns_frozen hK1.r k
  have hK2:=hK1.setRel (g:=rb) rfl k (y+1)
  have R2:=hid (show RowAt (wc.setCell ⟨rb,k,none⟩ (.int .i64 (y+1))) Bj 87 _ from (heap_set_ne _ _ _ _ Bj (by omega)).trans hrow)
  have HK2:=hid hK2
  have HO2:=hid ((keepsOthers_below hB).trans (KeepsOthers.setCell wc ⟨rb,k,none⟩ (.int .i64 (y+1))))
  have hs2:w.heap.size≤(wc.setCell ⟨rb,k,none⟩ (.int .i64 (y+1))).heap.size:=Nat.le_trans hB.size (by simp)
  have cj:=hK2.row.cell 0 _ rfl
  clear HS C99 RZ hbz hbz2 hK1 hK2 hrow hB HH
  dsimp only at cj
  go_upto_region 2 with fail
  clear c1 cr fr
  generalize wc.setCell ⟨rb,k,none⟩ (.int .i64 (y+1))=W2 at *
  by_cases h20:D.jobs.length=20
  ·have h20':(D.jobs.length:Int)=20:=by omega
   have HF:Hid (∃ A',KO w0 X base kb W2 (relStep C k D) A' C B dn):=hid ⟨_,by rw [HRS.out,if_pos h20];exact HK2.out⟩
   clear h20 HK2 R2
   go_wp2
   refine bodyPost_ret (results_none rfl _ _ _) rfl ?_
   exact ⟨rfl,HF.out,HO2.out⟩
  ·have h20':¬ (D.jobs.length:Int)=20:=by omega
   rw [if_neg h20] at HRS
   have h19:D.jobs.length≤19:=by omega
   clear h20 hj
   have hbA:Below W2.heap.size W2 (W2.alloc (.cells #[.int .i64 (k:Int),.int .i64 y,.int .i64 c,.int .i64 0,.bool false,.bool false] 87)).drew:=(below_new _ _).drew
   have HA:=hid (HK2.out.below hbA)
   have HKB:=hid (keepsOthers_below hbA)
   have RE:Hid (RowAt (W2.alloc (.cells #[.int .i64 (k:Int),.int .i64 y,.int .i64 c,.int .i64 0,.bool false,.bool false] 87)).drew W2.heap.size 87 (jc ((k:Int),y,c,0,false,false))):=hid (rowAt_new2 W2 W2.heap.size [.int .i64 (k:Int),.int .i64 y,.int .i64 c,.int .i64 0,.bool false,.bool false] 87 rfl)
   have RA:=hid (R2.out.below hbA lr)
   have cj':∀ o,(W2.alloc o).cell? ⟨kb,0,none⟩=some (.slice aJ D.jobs.length cJ):=fun o=>cell_old o cj
   have r0:=R2.out.cell 0 _ rfl
   have r1:=R2.out.cell 1 _ rfl
   have r2:=R2.out.cell 2 _ rfl
   have r3:=R2.out.cell 3 _ rfl
   have r4:=R2.out.cell 4 _ rfl
   have r5:=R2.out.cell 5 _ rfl
   have hbs:base≤W2.heap.size:=by have:=HK2.out.base_kb;have:=HK2.out.kb_lt;omega
   have hjx:∀ x,(Value.slice aJ D.jobs.length cJ).ownBlock=some x→x<Bj:=fun x hx=>by have:=HJX.out x hx;omega
   have HJX2:=hid hjx
   have hBl:Bj<W2.heap.size:=R2.out.lt
   have hBl2:Bj<(W2.alloc (.cells #[.int .i64 (k:Int),.int .i64 y,.int .i64 c,.int .i64 0,.bool false,.bool false] 87)).drew.heap.size:=RA.out.lt
   have HBl2:=hid hBl2
   clear hbA R2 HK2 HJX hjx hBl2 HY HKR
   go_upto_region 3 with fail
   go_region_law (first
    | (refine step_appG (by rfl) _ _ 41 87 (by rfl) _ 6 40 Tryz.underlying41 Tryz.info87x rfl (by omega) base (.slice aJ D.jobs.length cJ) D.jobs.length (fJ D.jobs) (by rfl) HA.out.j W2.heap.size 1 1 (fJ [((k:Int),y,c,0,false,false)]) (by rfl) rfl (fun j u hu=>RE.out.cell j u (by simpa [fJ] using hu)) (fJ_one _) (by omega) (by simp [maxLen];omega) (by omega) (by simp;omega) ?_;intro g cap w4 hown4 hgrow4 hat4;have r4x:RowAt w4 kb 179 _:=(hgrow4.block kb HA.out.kb_lt (fun e=>owns_ne HA.out.j HA.out.row (by decide) kb e.symm rfl)).trans HA.out.row;have RB4:=hid (show RowAt w4 Bj 87 _ from (hgrow4.block Bj HBl2.out (fun e=>by have:=HJX2.out Bj e.symm;omega)).trans RA.out);have e0:=r4x.cell 0 _ rfl;have f0:=r4x.frozen 0;have HO4:=hid hown4;have HG4:=hid hgrow4;have HT4:=hid hat4;clear hown4 hgrow4 r4x hat4))
   all_goals
    have HE:Hid (KO w0 X base kb (w4.setCell ⟨kb,0,none⟩ (.slice (some ⟨g,0,none⟩) (D.jobs.length+1) cap)) ⟨D.jobs++[((k:Int),y,c,0,false,false)],D.rel.set k (y+1),D.nxt,D.ins,D.tak,D.out,D.evs⟩ ⟨some ⟨g,0,none⟩,some ⟨rb,0,none⟩,aI,aT,aO,aE,cap,cR,cI,cT,cO,cE⟩ C B dn):=by
     have:=HA.out.pushed (J:=D.jobs++[((k:Int),y,c,0,false,false)]) (a':=some ⟨g,0,none⟩) (c':=cap) HG4.out (by rw [fJ_app,List.length_append];exact HO4.out) (fun x hx=>by
      simp only [Value.ownBlock,Option.some.injEq] at hx
      subst hx
      rcases HT4.out with h'|h'
      ·exact .inl h'
      ·exact .inr (by omega))
     rw [List.length_append] at this
     exact hid this
    have HK:Hid (KeepsOthers w (w4.setCell ⟨kb,0,none⟩ (.slice (some ⟨g,0,none⟩) (D.jobs.length+1) cap))):=hid (((HO2.out.trans HKB.out).trans (keepsOthers_own HG4.out HA.out.j)).trans (KeepsOthers.setCell _ _ _))
    have R5:=hid (show RowAt (w4.setCell ⟨kb,0,none⟩ (.slice (some ⟨g,0,none⟩) (D.jobs.length+1) cap)) Bj 87 _ from (heap_set_ne _ _ _ _ Bj (fun e=>by
     have h1:w4.heap[Bj]? = _:=RB4.out
     have h2:=(HA.out.row)
     have h3:w4.heap[kb]? = _:=(HG4.out.block kb HA.out.kb_lt (fun e=>owns_ne HA.out.j HA.out.row (by decide) kb e.symm rfl)).trans HA.out.row
     rw [e,h3] at h1
     simp at h1)).trans RB4.out)
    clear HA HO4 HG4 HT4 cj cj' r0 r1 r2 r3 r4 r5 HKB HO2 RB4 RA RE HBl2 HJX2
    go_upto_region 4 with fail
    clear e0 f0
    generalize w4.setCell ⟨kb,0,none⟩ (.slice (some ⟨g,0,none⟩) (D.jobs.length+1) cap)=W5 at *
    have r0:=R5.out.cell 0 _ rfl
    have r1:=R5.out.cell 1 _ rfl
    have r2:=R5.out.cell 2 _ rfl
    have r3:=R5.out.cell 3 _ rfl
    have r4:=R5.out.cell 4 _ rfl
    have r5:=R5.out.cell 5 _ rfl
    go_wp2_with fail
    refine (tell_ok w0 X base kb _ _ C B dn c 2 ((k:Int),y,c,0,false,false) _ HE.out hl).mono ?_
    rintro e w6 ⟨rfl,⟨a',c',h6⟩,hk6⟩
    have H6:=hid h6
    have HO6:=hid (HK.out.trans hk6)
    clear h6 hk6 HE HK r0 r1 r2 r3 r4 r5 R5
    go_wp2
    go_end0
    exact ⟨rfl,⟨_,by rw [HRS.out];exact H6.out⟩,HO6.out⟩
set_option maxHeartbeats 4000000 in
theorem miss_ok (w0:World) (X:Nat→Prop) (base kb:Nat) (D:Dom) (A:DMem) (C:Conf) (B:Mem) (dn now:Int) (w:World) (h:KO w0 X base kb w D A C B dn) (hz:ckD C dn D=0) (hl:D.evs.length≤900000000) :
  Calls Tryz.prog 156 #[.pointer (some ⟨kb,0,none⟩),.int .i64 now] w fun e w'=>e=.returned (.tuple #[])∧(∃ A',KO w0 X base kb w' (missN C now D.jobs.length D) A' C B dn)∧KeepsOthers w w':=by
 have HH:=hid h
 have HZ:=hid hz
 have hj20:=jobs20 hz
 have c0:=h.row.cell 0 _ rfl
 clear h hz
 obtain ⟨aJ,aR,aI,aT,aO,aE,cJ,cR,cI,cT,cO,cE⟩:=A
 dsimp only at *
 go_enter Tryz.func156,Tryz.ntmps156
 go_wp2
 go_loopw [13] (fun i wr=>∃ k:Nat,k≤D.jobs.length∧i=.int .i64 k∧(∃ aE' cE',KO w0 X base kb wr (missN C now k D) ⟨aJ,aR,aI,aT,aO,aE',cJ,cR,cI,cT,cO,cE'⟩ C B dn)∧KeepsOthers w wr) (fun i _=>D.jobs.length - (intOf i).toNat)
 case atStart=>exact ⟨0,Nat.zero_le _,rfl,⟨aE,cE,HH.out⟩,KeepsOthers.refl _⟩
 case round=>
  obtain ⟨k,hk,rfl,⟨aE',cE',hK⟩,hO⟩:=hrel
  have HO:=hid hO
  have HN:Hid ((missN C now k D).jobs.length=D.jobs.length):=hid (missN_len C now k D)
  have HEV:Hid ((missN C now k D).evs.length≤900000020):=hid (by have:=missN_evs C now k D;omega)
  have HZ1:Hid (ckD C dn (missN C now k D)=0):=hid (missN_ok HZ.out k)
  have HS:Hid (missN C now (k+1) D=missStep C now k (missN C now k D)):=hid (missN_succ C now k D)
  clear hO c0
  by_cases hlt:k<D.jobs.length
  ·generalize missN C now k D=M at *
   have hkM:k<M.jobs.length:=by have:=HN.out;omega
   obtain ⟨g,hg,_,_⟩:=owns_zero hK.j (by omega)
   dsimp only at hg
   subst hg
   have hT:=tasksOk_of HZ1.out k hkM
   obtain ⟨b',o',e',p0,p1,p2,p3,p4,p5⟩:=hK.keepIn.dom.jobs k hkM
   dsimp only at e'
   simp only [Option.some.injEq,Addr.mk.injEq,and_true] at e'
   obtain ⟨rfl,rfl⟩:=e'
   rw [Nat.zero_add] at p0 p1 p2 p3 p4 p5
   have HJ:Hid (M.jobs[k]? = some M.jobs[k]):=hid (List.getElem?_eq_getElem hkM)
   have hk1:(k:Int)<(D.jobs.length:Int):=by omega
   have hk2:(k:Int)<(M.jobs.length:Int):=by omega
   have hk0:(0:Int)≤(k:Int):=by omega
   have hgl:g<wr.heap.size:=owns_lt hK.j g rfl
   generalize M.jobs[k]=jj at *
   obtain ⟨j0,j1,j2,j3,j4,j5⟩:=jj
   dsimp only at *
   have q1:=below_new wr (.cells #[.int .i64 j0,.int .i64 j1,.int .i64 j2,.int .i64 j3,.bool j4,.bool j5] 87)
   have HK1:=hid (hK.below q1)
   have HQ1:=hid q1
   have R1:=hid (rowAt_new2 wr wr.heap.size [.int .i64 j0,.int .i64 j1,.int .i64 j2,.int .i64 j3,.bool j4,.bool j5] 87 rfl)
   clear q1 hK
   go_wp2_with fail
   refine (deadline_any kb M _ C B dn (j0,j1,j2,j3,j4,j5) _ HK1.out.keepIn hT.1 hT.2).mono ?_
   rintro e w1 ⟨rfl,hb1⟩
   have HK2:=hid (HK1.out.below hb1)
   have HO2:=hid (HO.out.trans ((keepsOthers_below HQ1.out).trans (keepsOthers_below hb1)))
   have R2:=hid (R1.out.below hb1 lr)
   clear HK1 HO R1 HQ1 hb1 p0 p1 p2 p3 p4 p5
   generalize hdue:dueAt C (j0,j1,j2,j3,j4,j5)=du at *
   have HDU:=hid hdue
   clear hdue
   have r0:=R2.out.cell 0 _ rfl
   have r1:=R2.out.cell 1 _ rfl
   have r2:=R2.out.cell 2 _ rfl
   have r3:=R2.out.cell 3 _ rfl
   have r4:=R2.out.cell 4 _ rfl
   have r5:=R2.out.cell 5 _ rfl
   cases j5 with
   | true=>
    have HE:Hid (missStep C now k M=M):=hid (by simp [missStep,HJ.out,late])
    clear R2
    go_wp2
    go_roundw
    case rel=>exact ⟨k+1,by omega,by go_num,⟨aE',cE',by rw [HS.out,HE.out];exact HK2.out⟩,HO2.out⟩
    case measure=>simp [intOf];omega
   | false=>
    by_cases hdn:du≤now
    ·have HE:Hid (missStep C now k M=⟨M.jobs.set k (markJ (j0,j1,j2,j3,j4,false)),M.rel,M.nxt,M.ins,M.tak,M.out,M.evs++[(du,6,j0,j1)]⟩):=hid (by simp [missStep,HJ.out,late,HDU.out,hdn])
     have k0:=HK2.out.row.cell 0 _ rfl
     have pj:=HK2.out.keepIn.dom.jobs k hkM
     obtain ⟨b',o',e',-,-,-,-,-,p5⟩:=pj
     dsimp only at e'
     simp only [Option.some.injEq,Addr.mk.injEq,and_true] at e'
     obtain ⟨rfl,rfl⟩:=e'
     rw [Nat.zero_add] at p5
     have fz:=owns_frozen HK2.out.j (k * 6+5)
     have HK3:=hid (HK2.out.setJob (g:=g) rfl k _ HJ.out)
     have HO3:=hid (HO2.out.trans (KeepsOthers.setCell w1 ⟨g,k * 6+5,none⟩ (.bool true)))
     have R3:=hid (show RowAt (w1.setCell ⟨g,k * 6+5,none⟩ (.bool true)) wr.heap.size 87 _ from (heap_set_ne _ _ _ _ wr.heap.size (by omega)).trans R2.out)
     clear r0 r1 r2 r3 r4 HK2 HO2 R2
     dsimp only at k0
     go_upto_region 6 with fail
     clear p5 fz k0 r5
     generalize w1.setCell ⟨g,k * 6+5,none⟩ (.bool true)=W3 at *
     have r0:=R3.out.cell 0 _ rfl
     have r1:=R3.out.cell 1 _ rfl
     have r2:=R3.out.cell 2 _ rfl
     have r3:=R3.out.cell 3 _ rfl
     have r4:=R3.out.cell 4 _ rfl
     have r5:=R3.out.cell 5 _ rfl
     go_wp2_with fail
     refine (tell_ok w0 X base kb _ _ C B dn du 6 (j0,j1,j2,j3,j4,false) _ HK3.out (by have:=HEV.out;simp only;omega)).mono ?_
     rintro e w6 ⟨rfl,⟨a',c',h6⟩,hk6⟩
     have H6:=hid h6
     have HO6:=hid (HO3.out.trans hk6)
     clear h6 hk6 HK3 HO3 r0 r1 r2 r3 r4 r5 R3
     go_wp2
     go_roundw
     case rel=>exact ⟨k+1,by omega,by go_num,⟨a',c',by rw [HS.out,HE.out];exact H6.out⟩,HO6.out⟩
     case measure=>simp [intOf];omega
    ·have HE:Hid (missStep C now k M=M):=hid (by simp [missStep,HJ.out,late,HDU.out,hdn])
     clear R2
     go_wp2
     go_roundw
     case rel=>exact ⟨k+1,by omega,by go_num,⟨aE',cE',by rw [HS.out,HE.out];exact HK2.out⟩,HO2.out⟩
     case measure=>simp [intOf];omega
  ·obtain rfl:k=D.jobs.length:=by omega
   go_wp2
   go_end0
   exact ⟨rfl,⟨_,hK⟩,HO.out⟩
set_option maxHeartbeats 2000000 in
theorem cost_ok (a:ActT) (aK:Option Addr) (K:KT) (cK:Nat) (w:World) (hw:CacheIn w aK K) (h:ck K=0) (hA:ckA a=0) :
  Calls Tryz.prog 160 #[.agg #[.slice aK K.length cK],av a] w fun e w'=>∃ g0,e=.returned (.tuple #[.agg #[.slice (some ⟨g0,0,none⟩) K.length K.length],.int .i64 (spC K a),.int .i64 0])∧OwnC w' g0 (spK K a) K.length∧w.heap.size≤g0∧Below w.heap.size w w':=by
 obtain ⟨k,n,v⟩:=a
 obtain ⟨_,hC1,hC4,hCn⟩:=ckK_ok h
 have q1:=below_new w (.cells #[.slice aK K.length cK] 72)
 have q2:=below_new (w.alloc (.cells #[.slice aK K.length cK] 72)) (.cells #[.int .i64 k,.int .i64 n,.int .i64 v] 63)
 have q3:=below_new ((w.alloc (.cells #[.slice aK K.length cK] 72)).alloc (.cells #[.int .i64 k,.int .i64 n,.int .i64 v] 63)) (.cells #[.slice none 0 0] 72)
 have HB:=hid (btrans (btrans q1 q2) q3)
 have HW:=hid (hw.keep (btrans (btrans q1 q2) q3))
 have R1:=hid (((rowAt_new w _ [.slice aK K.length cK] 72 rfl).below q2 lr).below q3 lr)
 have R2:=hid ((rowAt_new (w.alloc (.cells #[.slice aK K.length cK] 72)) (w.heap.size+1) [.int .i64 k,.int .i64 n,.int .i64 v] 63 (by simp)).below q3 lr)
 have R3:=hid (rowAt_new ((w.alloc (.cells #[.slice aK K.length cK] 72)).alloc (.cells #[.int .i64 k,.int .i64 n,.int .i64 v] 63)) (w.heap.size+1+1) [.slice none 0 0] 72 (by simp))
 have HA:Hid (ckA (k,n,v)=0):=hid hA
 have HK:Hid (ck K=0):=hid h
 clear q1 q2 q3 hw hA h
 have hr:(k=2∨k=3)→inR n 1 1000=true:=fun hk=>by
  have:=HA.out
  unfold ckA at this
  split at this
  ·split at this
   ·rename_i hx
    unfold inRng at hx
    dsimp only at hx
    rw [if_neg (by omega),if_pos hk] at hx
    exact hx
   ·omega
  ·omega
 go_enter Tryz.func160,Tryz.ntmps160
 go_wp2_with fail
 generalize hW:World.alloc (World.alloc (World.alloc w _) _) _=W at *
 clear hW
 refine (check_any aK K cK _ HW.out (by omega)).mono ?_
 rintro e w1 ⟨rfl,hb1⟩
 rw [HK.out]
 have S2:=hid (R2.out.below hb1 lr)
 have a0:=S2.out.cell 0 _ rfl
 have a1:=S2.out.cell 1 _ rfl
 have a2:=S2.out.cell 2 _ rfl
 go_wp2_with fail
 refine (checkAction_any (k,n,v) _).mono ?_
 rintro e w2 ⟨rfl,hb2⟩
 rw [HA.out]
 have hb12:=btrans hb1 hb2
 have T1:=hid (R1.out.below hb12 lr)
 have T2:=hid (R2.out.below hb12 lr)
 have T3:=hid (R3.out.below hb12 lr)
 have HB2:=hid (btrans HB.out hb12)
 have HW2:=hid (HW.out.keep hb12)
 clear a0 a1 a2 S2 R1 R2 R3 HB HW hb1 hb2 hb12
 have a0:=T2.out.cell 0 _ rfl
 have a1:=T2.out.cell 1 _ rfl
 have a2:=T2.out.cell 2 _ rfl
 have c0:=T1.out.cell 0 _ rfl
 by_cases hk:k=2∨k=3
 ·have hrn:=hr hk
  have hrn':=hrn
  simp only [inR,Bool.and_eq_true,decide_eq_true_eq] at hrn'
  have hpos:(0:Int)<(K.length:Int):=by omega
  have hm0:=Int.emod_nonneg n (Int.ne_of_gt hpos)
  have hm1:=Int.emod_lt_of_pos n hpos
  have hsl:setAt K n<K.length:=by unfold setAt;omega
  have hs:n % (K.length:Int)=(setAt K n:Int):=by unfold setAt;omega
  have HS1:Hid (spK K (k,n,v)=K.set (setAt K n) (useSet K[setAt K n] n (decide (k=3))).1):=by
   unfold spK
   rw [if_pos hk]
   dsimp only
   rw [show K.getD (setAt K n) []=K[setAt K n] by simp [hsl]]
   exact hid rfl
  have HS2:Hid (spC K (k,n,v)=(useSet K[setAt K n] n (decide (k=3))).2):=by
   unfold spC
   rw [if_pos hk]
   dsimp only
   rw [show K.getD (setAt K n) []=K[setAt K n] by simp [hsl]]
   exact hid rfl
  have CA:Hid (Calls Tryz.prog 177 #[.agg #[.slice aK K.length cK],.int .i64 n,.bool (decide (k=3))] w2 fun e w'=>∃ g0,e=.returned (.tuple #[.agg #[.slice (some ⟨g0,0,none⟩) K.length K.length],.int .i64 (spC K (k,n,v)),.int .i64 0])∧OwnC w' g0 (spK K (k,n,v)) K.length∧w2.heap.size≤g0∧Below w2.heap.size w2 w'):=by
   rw [HS1.out,HS2.out]
   exact hid (access_ok aK K cK n (decide (k=3)) (setAt K n) w2 HW2.out (by omega) HK.out hrn hs hsl)
  generalize hsc:spC K (k,n,v)=sc at *
  generalize hsk:spK K (k,n,v)=sk at *
  have HSC:=hid hsc
  have HSK:=hid hsk
  clear HS1 HS2 hs hsl hm0 hm1 hpos hrn hrn' hr hsc hsk
  rcases hk with rfl|rfl
  ·rw [show (decide ((2:Int)=3))=false by decide] at CA
   go_wp2_with fail
   refine Calls.mono CA.out ?_
   rintro e w3 ⟨g0,rfl,hO,hg0,hb3⟩
   have U3:=hid (T3.out.below hb3 lr)
   have d0:=U3.out.cell 0 _ rfl
   have f0:=U3.out.frozen 0
   have HO:=hid hO
   have HB3:=hid (btrans HB2.out hb3)
   have ht3:=T3.out.lt
   clear hO
   go_wp2
   have V3:=rowAt_set1 U3.out 0 (.slice (some ⟨g0,0,none⟩) (List.length K) (List.length K))
   have d1:=V3.cell 0 _ rfl
   have hz:=HB2.out.size
   exact bodyPost_ret (v:=.tuple #[.agg #[.slice (some ⟨g0,0,none⟩) (List.length K) (List.length K)],.int .i64 sc,.int .i64 0]) (by simp [results,Tryz.results160,go_sem,d1]) rfl ⟨g0,by rw [HSC.out],by rw [HSK.out];exact HO.out.setOther _ _ (by show w.heap.size+1+1<g0;omega),by omega,HB3.out.setCell (p:=⟨w.heap.size+1+1,0,none⟩) (by show w.heap.size≤w.heap.size+1+1;omega) _⟩
  ·rw [show (decide ((3:Int)=3))=true by decide] at CA
   go_wp2_with fail
   refine Calls.mono CA.out ?_
   rintro e w3 ⟨g0,rfl,hO,hg0,hb3⟩
   have U3:=hid (T3.out.below hb3 lr)
   have d0:=U3.out.cell 0 _ rfl
   have f0:=U3.out.frozen 0
   have HO:=hid hO
   have HB3:=hid (btrans HB2.out hb3)
   have ht3:=T3.out.lt
   clear hO
   go_wp2
   have V3:=rowAt_set1 U3.out 0 (.slice (some ⟨g0,0,none⟩) (List.length K) (List.length K))
   have d1:=V3.cell 0 _ rfl
   have hz:=HB2.out.size
   exact bodyPost_ret (v:=.tuple #[.agg #[.slice (some ⟨g0,0,none⟩) (List.length K) (List.length K)],.int .i64 sc,.int .i64 0]) (by simp [results,Tryz.results160,go_sem,d1]) rfl ⟨g0,by rw [HSC.out],by rw [HSK.out];exact HO.out.setOther _ _ (by show w.heap.size+1+1<g0;omega),by omega,HB3.out.setCell (p:=⟨w.heap.size+1+1,0,none⟩) (by show w.heap.size≤w.heap.size+1+1;omega) _⟩
 ·have hk2:¬ k=2:=by omega
  have hk3:¬ k=3:=by omega
  have hk2b:(k == 2)=false:=by simp [hk2]
  have hk3b:(k == 3)=false:=by simp [hk3]
  have HSC:Hid (spC K (k,n,v)=wstA (k,n,v)):=by
   unfold spC
   rw [if_neg hk]
   exact hid rfl
  have HSK:Hid (spK K (k,n,v)=K):=by
   unfold spK
   rw [if_neg hk]
   exact hid rfl
  have CX:Hid (∀ wx,Below w2.heap.size w2 wx→Calls Tryz.prog 70 #[.agg #[.slice aK K.length cK]] wx fun e w'=>∃ g0,e=.returned (.agg #[.slice (some ⟨g0,0,none⟩) K.length K.length])∧wx.heap.size≤g0∧OwnC w' g0 K K.length∧Below wx.heap.size wx w'):=hid fun wx hb=>clone_any aK K cK wx (HW2.out.keep hb) (by omega) (by omega) hCn
  have CY:Hid (∀ wx,Below w2.heap.size w2 wx→Calls Tryz.prog 87 #[.agg #[.int .i64 k,.int .i64 n,.int .i64 v]] wx fun e w'=>e=.returned (.int .i64 (wstA (k,n,v)))∧Below wx.heap.size wx w'):=hid fun wx hb=>worst_any (k,n,v) wx
  generalize hsc:wstA (k,n,v)=sc at *
  have HS:Hid (∀ w',Below w2.heap.size w2 w'→w'.cell? ⟨w.heap.size,0,none⟩=some (.slice aK K.length cK)∧w'.cell? ⟨w.heap.size+1,0,none⟩=some (.int .i64 k)∧w'.cell? ⟨w.heap.size+1,1,none⟩=some (.int .i64 n)∧w'.cell? ⟨w.heap.size+1,2,none⟩=some (.int .i64 v)):=hid fun w' hb=>⟨bkeep hb c0 lr,bkeep hb a0 lr,bkeep hb a1 lr,bkeep hb a2 lr⟩
  have hB:Below w2.heap.size w2 w2.drew:=(Below.refl _ _).drew
  have n1:¬ w.heap.size+1+1=w.heap.size:=by omega
  have n2:¬ w.heap.size+1+1=w.heap.size+1:=by omega
  clear hsc hr
  go_wp2_with fail
  go_region_held3 (fun w'=>w'.cell? ⟨w.heap.size,0,none⟩=some (.slice aK K.length cK)∧w'.cell? ⟨w.heap.size+1,0,none⟩=some (.int .i64 k)∧w'.cell? ⟨w.heap.size+1,1,none⟩=some (.int .i64 n)∧w'.cell? ⟨w.heap.size+1,2,none⟩=some (.int .i64 v))
   (first|with_reducible exact HS.out _ hB|with_reducible exact HS.out _ hB3|with_reducible exact HS.out _ hB4|go_keep)
   (first
    | (go_at_call 70;with_reducible refine Calls.mono (CX.out _ hB) ?_;rintro e w3 ⟨g0,rfl,hg3,hO3,hb3⟩;have hB3:=btrans hB hb3;have HO3:=hid hO3;have HG3:=hid hg3;clear hO3 hg3 hb3)
    | (go_at_call 87;with_reducible refine Calls.mono (CY.out _ hB3) ?_;rintro e w4 ⟨rfl,hb4⟩;have hB4:=btrans hB3 hb4;have HO4:=hid (HO3.out.below hb4);have U3:=hid (T3.out.below hB4 lr);have d0:=U3.out.cell 0 _ rfl;have f0:=U3.out.frozen 0;clear hb4))
  all_goals
   have HB4:=hid (btrans HB2.out hB4)
   have ht3:=T3.out.lt
   have hz:=HB2.out.size
   clear hB hB3 hB4 HS CX CY
   go_wp2
   have V3:=rowAt_set1 U3.out 0 (.slice (some ⟨g0,0,none⟩) (List.length K) (List.length K))
   have d1:=V3.cell 0 _ rfl
   have hg4:w2.heap.size≤g0:=HG3.out
   exact bodyPost_ret (v:=.tuple #[.agg #[.slice (some ⟨g0,0,none⟩) (List.length K) (List.length K)],.int .i64 sc,.int .i64 0]) (by simp [results,Tryz.results160,go_sem,d1]) rfl ⟨g0,by rw [HSC.out],by rw [HSK.out];exact HO4.out.setOther _ _ (by show w.heap.size+1+1<g0;omega),by omega,HB4.out.setCell (p:=⟨w.heap.size+1+1,0,none⟩) (by show w.heap.size≤w.heap.size+1+1;omega) _⟩
theorem arr_small {C:Conf} {L:List ArrT} {dn fr te:Int} (h0:ckArr C L dn fr te=0):L.length≤40:=by
 unfold ckArr at h0
 split at h0
 ·omega
 ·split at h0
  ·omega
  ·split at h0
   ·omega
   ·omega
theorem owns_apart2 {w:World} {b e sz n b' e' sz' n':Nat} {v v':Value} {xs xs':List Value} (h:w.ownsRow b e sz v n xs) (h':w.ownsRow b' e' sz' v' n' xs') (hne:e≠e') (x:Nat) (hx:v.ownBlock=some x):v'.ownBlock≠some x:=fun e0=>by
 rcases h'.2 with ⟨q1,_⟩|⟨g',cap,cur,e1,e2,e3,r⟩
 ·rw [q1] at e0;cases e0
 ·exact owns_ne2 h e3 hne x hx (by rw [e1] at e0;simp [Value.ownBlock] at e0;exact e0.symm)
theorem cameL_b (C:Conf) (L:List ArrT) (dn fr te:Int) (h:L.length≤40) (l:Nat):0≤(cameL C L dn fr te).getD l 0∧(cameL C L dn fr te).getD l 0≤40:=by
 by_cases hl:l<C.ow.length
 ·have:=cameN_le C L dn fr te l
  rw [show (cameL C L dn fr te).getD l 0=cameN C L dn fr te l by simp [cameL,hl]]
  omega
 ·rw [show (cameL C L dn fr te).getD l 0=0 by simp [cameL,List.getD,hl]]
  omega
def takK (D:Dom) (came:List Int) (k:Nat):List Int:=(List.range D.tak.length).map fun l=>if l<k then min (D.tak.getD l 0+came.getD l 0) 15 else D.tak.getD l 0
theorem takK_len (D:Dom) (came:List Int) (k:Nat):(takK D came k).length=D.tak.length:=by simp [takK]
theorem takK_zero (D:Dom) (came:List Int):takK D came 0=D.tak:=by
 refine List.ext_getElem (by simp [takK]) fun i h1 h2=>?_
 simp [takK,h2]
theorem takK_succ (D:Dom) (came:List Int) (k:Nat) (hk:k<D.tak.length):takK D came (k+1)=(takK D came k).set k (min (D.tak[k]+came.getD k 0) 15):=by
 refine List.ext_getElem (by simp [takK]) fun i h1 h2=>?_
 have hi:i<D.tak.length:=by simpa [takK] using h1
 rw [List.getElem_set]
 simp only [takK,List.getElem_map,List.getElem_range]
 by_cases e:k=i
 ·subst e
  rw [if_pos (by omega),if_pos rfl]
  simp [hk]
 ·rw [if_neg e]
  by_cases h:i<k
  ·rw [if_pos (by omega),if_pos h]
  ·rw [if_neg (by omega),if_neg h]
theorem takK_at (D:Dom) (came:List Int) (k:Nat) (hk:k<D.tak.length):(takK D came k)[k]'(by rw [takK_len];exact hk)=D.tak[k]:=by
 simp [takK,hk]
def openG (D:Dom) (came:List Int) (now s:Int):Dom:=⟨D.jobs,D.rel,D.nxt,D.ins,takK D came D.tak.length,D.out,D.evs++[(now,1,s,0)]⟩
theorem ivs_set' (l:List Int) (c:Nat) (n:Int):(ivs l).set c (.int .i64 n)=ivs (l.set c n):=by simp [ivs,List.map_set]
set_option maxHeartbeats 1000000 in
theorem open_any (C:Conf) (B:Mem) (aL:Option Addr) (L:List ArrT) (cL:Nat) (D:Dom) (A:DMem) (s:Nat) (fr now:Int) (w:World) (hLs:SlotsIn w aL L) (hLl:L.length≤9223372036854775807) (hC:ConfIn w B C) (hD:DomIn w A D) (h0:ckC C=0) (hs:s<C.sl.length) (hz:ckD C C.sl[s].1 D=0) (hca:ckArr C L C.sl[s].1 fr now=0)
  (hl:D.jobs.length≤1000000000000∧D.rel.length≤1000000000000∧D.tak.length≤1000000000000∧D.evs.length≤1000000000000) (hI:D.ins.length≤1000000000000) (hO:D.out.length≤1000000000000) (hi:∀ r∈D.ins,r.1.length≤1000000000000) (ho:∀ r∈D.out,r.length≤1000000000000) :
  Calls Tryz.prog 45 #[cv C B,.slice aL L.length cL,.int .i64 s,dv D A,.int .i64 fr,.int .i64 now] w fun e w'=>∃ A',e=.returned (.tuple #[dv (openG D (cameL C L C.sl[s].1 fr now) now s) A',.int .i64 0])∧(∀ wx:World,(∀ x,w.heap.size≤x→wx.heap[x]? = w'.heap[x]?)→DomIn wx A' (openG D (cameL C L C.sl[s].1 fr now) now s))∧Below w.heap.size w w':=by
 have q1:=below_new w (.cells (cl C B) 27)
 have q2:=below_new (w.alloc (.cells (cl C B) 27)) (.cells (dl D A) 46)
 have q3:=below_new ((w.alloc (.cells (cl C B) 27)).alloc (.cells (dl D A) 46)) (.cells #[.slice none 0 0,.slice none 0 0,.int .i64 0,.slice none 0 0,.slice none 0 0,.slice none 0 0,.slice none 0 0] 46)
 have HC:=hid (((hC.keep q1).keep q2).keep q3)
 have HD:=hid (((hD.keep q1).keep q2).keep q3)
 have HX:=hid (((boxC_new w C B).keep q2).keep q3)
 have HRD:=hid ((rowAt_new2 (w.alloc (.cells (cl C B) 27)) (w.heap.size+1) (dl D A).toList 46 (by simp)).below q3 lr)
 have HRB:=hid (rowAt_new2 ((w.alloc (.cells (cl C B) 27)).alloc (.cells (dl D A) 46)) (w.heap.size+1+1) [.slice none 0 0,.slice none 0 0,.int .i64 0,.slice none 0 0,.slice none 0 0,.slice none 0 0,.slice none 0 0] 46 (by simp))
 have HB:=hid (btrans q1 (btrans q2 q3))
 have HSZ:Hid ((((w.alloc (.cells (cl C B) 27)).alloc (.cells (dl D A) 46)).alloc (.cells #[.slice none 0 0,.slice none 0 0,.int .i64 0,.slice none 0 0,.slice none 0 0,.slice none 0 0,.slice none 0 0] 46)).heap.size=w.heap.size+3):=hid (by simp)
 have HS0:Hid (ckSlot C s=0):=hid (by simp [ckSlot,h0,inR];omega)
 have HZ:=hid hz
 have H0:=hid h0
 have HCA:=hid hca
 have HLS:=hid (((hLs.keep q1).keep q2).keep q3)
 have hshp:=ckShp_iff.1 (ckD_iff.1 hz).2.1
 have HNT:Hid (D.tak.length=C.ow.length):=hid hshp.2.2.2
 have htk:=(ckNums_iff.1 (ckD_iff.1 hz).2.2.1).2.2
 have hal:L.length≤40:=arr_small hca
 have HTK:=hid htk
 clear hshp htk
 have HL:=hid hl
 have HII:=hid hI
 have HOO:=hid hO
 have Hi:=hid hi
 have Ho:=hid ho
 clear q1 q2 q3 hC hD hz h0 hl hI hO hi ho hca hLs
 obtain ⟨a5,a6,a7,a8,c5,c6,c7,c8⟩:=B
 obtain ⟨aJ,aR,aI,aT,aO,aE,cJ,cR,cI,cT,cO,cE⟩:=A
 dsimp only [cv,cl,dv,dl] at *
 go_enter Tryz.func45,Tryz.ntmps45
 obtain ⟨g0,g1,g2,g3,g4,g5,g6,g7,g8⟩:=HX.out
 go_wp2_with fail
 refine (checkSlot_any C ⟨a5,a6,a7,a8,c5,c6,c7,c8⟩ s _ HC.out).mono ?_
 rintro e w1 ⟨rfl,hb1⟩
 rw [HS0.out]
 generalize World.alloc (World.alloc (World.alloc w _) _) _=W at *
 clear g0 g1 g2 g3 g4 g5 g6 g7 g8
 obtain ⟨g0,g1,g2,g3,g4,g5,g6,g7,g8⟩:=HX.out.keep hb1
 have rd:=HRD.out.below hb1 lr
 have d0:=rd.cell 0 _ rfl
 have d1:=rd.cell 1 _ rfl
 have d2:=rd.cell 2 _ rfl
 have d3:=rd.cell 3 _ rfl
 have d4:=rd.cell 4 _ rfl
 have d5:=rd.cell 5 _ rfl
 have d6:=rd.cell 6 _ rfl
 obtain ⟨b',o',e',c0,c1⟩:=(HC.out.keep hb1).sl s hs
 dsimp only at e'
 rw [e'] at g5
 have hs0:(0:Int)≤(s:Int):=by omega
 have hs1:(s:Int)<(C.sl.length:Int):=by omega
 go_wp2_with fail
 rw [← e']
 refine (checkD_any D ⟨aJ,aR,aI,aT,aO,aE,cJ,cR,cI,cT,cO,cE⟩ C ⟨a5,a6,a7,a8,c5,c6,c7,c8⟩ C.sl[s].1 _ (HC.out.keep hb1) (HD.out.keep hb1)).mono ?_
 rintro e w2 ⟨rfl,hb2⟩
 rw [HZ.out]
 clear g0 g1 g2 g3 g4 g5 g6 g7 g8 d0 d1 d2 d3 d4 d5 d6 rd c0 c1 e'
 obtain ⟨g0,g1,g2,g3,g4,g5,g6,g7,g8⟩:=HX.out.keep (btrans hb1 hb2)
 go_wp2_with fail
 refine (arrived_any C ⟨a5,a6,a7,a8,c5,c6,c7,c8⟩ aL L cL C.sl[s].1 fr now _ (HC.out.keep (btrans hb1 hb2)) (HLS.out.keep (btrans hb1 hb2)) hLl HCA.out).mono ?_
 rintro e w3 ⟨ga,rfl,hga,hgge,hb3⟩
 have HGA:=hid hga
 have hgal:ga<w3.heap.size:=hga.lt
 clear g0 g1 g2 g3 g4 g5 g6 g7 g8 hga
 have HB3:=hid (btrans hb1 (btrans hb2 hb3))
 clear hb1 hb2 hb3
 have rd:=HRD.out.below HB3.out lr
 have d0:=rd.cell 0 _ rfl
 have d1:=rd.cell 1 _ rfl
 have d2:=rd.cell 2 _ rfl
 have d3:=rd.cell 3 _ rfl
 have d4:=rd.cell 4 _ rfl
 have d5:=rd.cell 5 _ rfl
 have d6:=rd.cell 6 _ rfl
 go_wp2_with fail
 refine (cloneD_any D ⟨aJ,aR,aI,aT,aO,aE,cJ,cR,cI,cT,cO,cE⟩ _ (HD.out.keep HB3.out) HL.out HII.out HOO.out Hi.out Ho.out).mono ?_
 rintro e w4 ⟨A4,gI,gO,m,p,q,rfl,hown4,hb4⟩
 clear d0 d1 d2 d3 d4 d5 d6 rd
 obtain ⟨jJ,jR,jI,jT,jO,jE,kJ,kR,kI,kT,kO,kE⟩:=A4
 have q5:=below_new w4 (.cells #[.slice jJ D.jobs.length kJ,.slice jR D.rel.length kR,.int .i64 D.nxt,.slice jI D.ins.length kI,.slice jT D.tak.length kT,.slice jO D.out.length kO,.slice jE D.evs.length kE] 46)
 have q6:=below_new (w4.alloc (.cells #[.slice jJ D.jobs.length kJ,.slice jR D.rel.length kR,.int .i64 D.nxt,.slice jI D.ins.length kI,.slice jT D.tak.length kT,.slice jO D.out.length kO,.slice jE D.evs.length kE] 46)) (.cells #[.int .i64 now,.int .i64 1,.int .i64 s,.int .i64 0] 92)
 have HO6:=hid ((hown4.keep q5).keep q6)
 have R5:=hid ((rowAt_new2 w4 w4.heap.size [.slice jJ D.jobs.length kJ,.slice jR D.rel.length kR,.int .i64 D.nxt,.slice jI D.ins.length kI,.slice jT D.tak.length kT,.slice jO D.out.length kO,.slice jE D.evs.length kE] 46 rfl).below q6 lr)
 have R6:=hid (rowAt_new2 (w4.alloc (.cells #[.slice jJ D.jobs.length kJ,.slice jR D.rel.length kR,.int .i64 D.nxt,.slice jI D.ins.length kI,.slice jT D.tak.length kT,.slice jO D.out.length kO,.slice jE D.evs.length kE] 46)) (w4.heap.size+1) [.int .i64 now,.int .i64 1,.int .i64 s,.int .i64 0] 92 (by simp))
 have HCL:Hid (CellsIn ((w4.alloc (.cells #[.slice jJ D.jobs.length kJ,.slice jR D.rel.length kR,.int .i64 D.nxt,.slice jI D.ins.length kI,.slice jT D.tak.length kT,.slice jO D.out.length kO,.slice jE D.evs.length kE] 46)).alloc (.cells #[.int .i64 now,.int .i64 1,.int .i64 s,.int .i64 0] 92)) (some ⟨w4.heap.size+1,0,none⟩) (fE [(now,1,(s:Int),0)])):=hid fun _=>⟨_,0,rfl,fun j u hu=>by rw [Nat.zero_add];exact R6.out.cell j u hu⟩
 have HB6:=hid (btrans HB.out (btrans HB3.out (btrans hb4 (btrans q5 q6))))
 have HQ:=hid hown4.mp
 have HB36:=hid (btrans hb4 (btrans q5 q6))
 have hsz4:=hb4.size
 have hszW:=HB3.out.size
 rw [HSZ.out] at hszW
 have HE4:=hid hown4.lt
 have HRB6:=hid ((HRB.out.below (btrans HB3.out (btrans hb4 (btrans q5 q6))) lr))
 have hS6:Hid (((w4.alloc (.cells #[.slice jJ D.jobs.length kJ,.slice jR D.rel.length kR,.int .i64 D.nxt,.slice jI D.ins.length kI,.slice jT D.tak.length kT,.slice jO D.out.length kO,.slice jE D.evs.length kE] 46)).alloc (.cells #[.int .i64 now,.int .i64 1,.int .i64 s,.int .i64 0] 92)).heap.size=w4.heap.size+2):=hid (by simp)
 dsimp only [dv,dl] at *
 clear hown4 q5 q6
 go_wp2_with (at_builtin;refine wpList_appG rfl _ _ 44 92 rfl _ 4 32 Tryz.underlying44 Tryz.info92x rfl (by omega) w3.heap.size (.slice jE D.evs.length kE) D.evs.length (fE D.evs) rfl HO6.out.e 1 (fE [(now,1,(s:Int),0)]) rfl (fE_one _) _ _ rfl HCL.out (by have:=HL.out;simp [maxLen];omega) (by have:=HL.out;omega) (by rw [hS6.out];omega) ?_)
 intro v7 w7 hown7 hgrow
 obtain ⟨a8',c8',rfl,-⟩:=owns_cells hown7
 rw [← fE_app] at hown7
 generalize World.alloc (World.alloc w4 _) _=w6 at *
 have hgt:∀ k,(Value.slice jE D.evs.length kE).ownBlock=some k→w3.heap.size≤k∧k<m:=fun k hk=>⟨owns_ge HO6.out.e k hk,HE4.out k (.inr (.inr (.inr hk)))⟩
 have hm4:m≤w4.heap.size:=by have:=HQ.out;omega
 have R7:=hid (show RowAt w7 w4.heap.size 46 [.slice jJ D.jobs.length kJ,.slice jR D.rel.length kR,.int .i64 D.nxt,.slice jI D.ins.length kI,.slice jT D.tak.length kT,.slice jO D.out.length kO,.slice jE D.evs.length kE] from (hgrow.block w4.heap.size (by rw [hS6.out];omega) (fun e=>by have:=hgt _ e.symm;omega)).trans R5.out)
 have RB7:=hid (show RowAt w7 (w.heap.size+1+1) 46 [.slice none 0 0,.slice none 0 0,.int .i64 0,.slice none 0 0,.slice none 0 0,.slice none 0 0,.slice none 0 0] from (hgrow.block (w.heap.size+1+1) (by rw [hS6.out];omega) (fun e=>by have:=hgt _ e.symm;omega)).trans HRB6.out)
 have HB7:=hid (HB6.out.grown hgrow (by rw [hS6.out];omega) (fun k hk=>by have:=hgt k hk;omega))
 have HB37:=hid (HB36.out.grown hgrow (by rw [hS6.out];omega) (fun k hk=>(hgt k hk).1))
 have HOE:=hid hown7
 have HGR:=hid hgrow
 clear hown7 hgrow hgt
 have y6:=R7.out.cell 6 _ rfl
 have z6:=R7.out.frozen 6
 have hx6:=R7.out.cell 4 _ rfl
 have R8:=hid (rowAt_set1 R7.out 6 (.slice a8' (D.evs.length+1) c8'))
 have RB8:=hid (show RowAt (w7.setCell ⟨w4.heap.size,6,none⟩ (.slice a8' (D.evs.length+1) c8')) (w.heap.size+1+1) 46 _ from (heap_set_ne w7 w4.heap.size 6 (.slice a8' (D.evs.length+1) c8') (w.heap.size+1+1) (by omega)).trans RB7.out)
 go_wp2
 clear y6 z6 hx6
 generalize hw8:w7.setCell ⟨w4.heap.size,6,none⟩ (.slice a8' (D.evs.length+1) c8')=w8 at *
 have HW8:=hid hw8
 clear hw8
 have HB38:Hid (Below w3.heap.size w3 w8):=by rw [← HW8.out];exact hid (HB37.out.setCell (p:=⟨w4.heap.size,6,none⟩) (by show w3.heap.size≤w4.heap.size;omega) _)
 have HT8:Hid (w8.ownsRow w3.heap.size 3 1 (.slice jT D.tak.length kT) D.tak.length (ivs D.tak)):=hid (owns_agree HO6.out.t (fun x hx=>by
  have hlt:=HE4.out x (.inr (.inr (.inl hx)))
  rw [← HW8.out,heap_set_ne _ _ _ _ x (by omega)]
  exact HGR.out.block x (owns_lt HO6.out.t x hx) (fun e=>owns_apart2 HO6.out.t HO6.out.e (by decide) x hx e.symm)))
 have HTL:Hid (∀ x,(Value.slice jT D.tak.length kT).ownBlock=some x→w3.heap.size≤x∧x<w4.heap.size):=hid fun x hx=>⟨owns_ge HO6.out.t x hx,by have:=HE4.out x (.inr (.inr (.inl hx)));omega⟩
 have HBw:Hid (∀ wx,Below w3.heap.size w3 wx→Below w.heap.size w wx):=hid fun wx h=>btrans (btrans HB.out HB3.out) h
 have HCB:=hid (cameL_b C L C.sl[s].1 fr now hal)
 have HCL2:Hid ((cameL C L C.sl[s].1 fr now).length=C.ow.length):=hid (by simp [cameL])
 generalize hCM:cameL C L C.sl[s].1 fr now=CM at *
 have HCM:=hid hCM
 clear hCM
 go_loopw [68] (fun i wr=>∃ k:Nat,k≤D.tak.length∧i=.int .i64 k∧wr.ownsRow w3.heap.size 3 1 (.slice jT D.tak.length kT) D.tak.length (ivs (takK D CM k))∧(∀ x,some x≠(Value.slice jT D.tak.length kT).ownBlock→wr.heap[x]? = w8.heap[x]?)∧Below w3.heap.size w3 wr) (fun i _=>D.tak.length - (intOf i).toNat)
 case atStart=>exact ⟨0,Nat.zero_le _,rfl,by rw [takK_zero];exact HT8.out,fun _ _=>rfl,HB38.out⟩
 case round=>
  obtain ⟨k,hk,rfl,hown,hag,hbl⟩:=hrel
  have r8:RowAt wr w4.heap.size 46 [.slice jJ D.jobs.length kJ,.slice jR D.rel.length kR,.int .i64 D.nxt,.slice jI D.ins.length kI,.slice jT D.tak.length kT,.slice jO D.out.length kO,.slice a8' (D.evs.length+1) c8']:=(hag _ (fun e=>by have:=HTL.out _ e.symm;omega)).trans R8.out
  have rb8:RowAt wr (w.heap.size+1+1) 46 [.slice none 0 0,.slice none 0 0,.int .i64 0,.slice none 0 0,.slice none 0 0,.slice none 0 0,.slice none 0 0]:=(hag (w.heap.size+1+1) (fun e=>by have:=HTL.out _ e.symm;omega)).trans RB8.out
  by_cases hlt:k<D.tak.length
  ·have hk1:(k:Int)<(C.ow.length:Int):=by have:=HNT.out;omega
   have hk2:(k:Int)<(D.tak.length:Int):=by omega
   have hk0:(0:Int)≤(k:Int):=by omega
   have hlk:D.tak.length≤1000000000000:=HL.out.2.2.1
   obtain ⟨a,c,ee,_,_,hcells,hat⟩:=owns_cells hown
   simp only [Value.slice.injEq,true_and] at ee
   obtain ⟨rfl,rfl⟩:=ee
   obtain ⟨g,o,ej,hcell⟩:=hcells (by
    intro e
    have h9:(ivs (takK D CM k)).length=0:=by rw [e];rfl
    rw [show (ivs (takK D CM k)).length=D.tak.length by simp [ivs,takK_len]] at h9
    omega)
   obtain ⟨rfl,hgb,hgl⟩:=hat g o ej
   subst ej
   have tc:wr.cell? ⟨g,0+k,none⟩=some (.int .i64 D.tak[k]):=hcell k _ (by
    have h1:k<(takK D CM k).length:=by rw [takK_len];exact hlt
    simp only [ivs,List.getElem?_map,List.getElem?_eq_getElem h1,Option.map_some]
    rw [takK_at D CM k hlt])
   rw [Nat.zero_add] at tc
   have tf:=owns_frozen hown k
   have d4:=r8.cell 4 _ rfl
   have ca:=(HGA.out.below hbl lr).cell k (.int .i64 (CM.getD k 0)) (by
    have h1:k<CM.length:=by have:=HCL2.out;have:=HNT.out;omega
    simp [ivs,h1])
   have hcb:=HCB.out k
   have htk:0≤D.tak[k]∧D.tak[k]≤15:=by
    have:=HTK.out
    simp only [allR,List.all_eq_true] at this
    have:=this _ (List.getElem_mem hlt)
    simpa [inR] using this
   have hw:IntKind.i64.wrap (D.tak[k]+CM.getD k 0)=D.tak[k]+CM.getD k 0:=by rw [IntKind.wrap_i64];omega
   have hgne:¬ g=w4.heap.size:=fun e=>by have:=HTL.out g rfl;omega
   have HSU:=hid (takK_succ D CM k hlt)
   have HOW2:=hid hown
   have HAG:=hid hag
   have HBL:=hid hbl
   clear hown hag hbl hcells hat hcell r8 rb8
   generalize hv:D.tak[k]=v at *
   generalize CM.getD k 0=cm at *
   clear hv
   go_wp2_with fail
   go_region
   all_goals
    go_wp2
    go_roundw
    case rel=>
     refine ⟨k+1,by omega,by go_num,?_,fun x hx=>?_,?_⟩
     ·have h1:=owns_set (i:=k) HOW2.out (.int .i64 (min (v+cm) 15))
      rw [ivs_set',← HSU.out,show min (v+cm) 15=if 15<v+cm then 15 else v+cm by split <;> omega] at h1
      exact owns_agree h1 (fun x _=>rfl)
     ·exact (heap_set_ne _ g k _ x (fun e=>hx (by rw [e];rfl))).trans (HAG.out x hx)
     ·exact (HBL.out.setCell (p:=⟨g,k,none⟩) (by show w3.heap.size≤g;omega) _).drew
    case measure=>simp [intOf];omega
  ·have hke:k=D.tak.length:=by omega
   subst hke
   have hkk:¬ ((D.tak.length:Nat):Int)<(C.ow.length:Int):=by have:=HNT.out;omega
   have R8w:=hid r8
   have RB8w:=hid rb8
   have HOW2:=hid hown
   have HAG:=hid hag
   have HBL:=hid hbl
   clear hown hag hbl r8 rb8
   have d0:=R8w.out.cell 0 _ rfl
   have d1:=R8w.out.cell 1 _ rfl
   have d2:=R8w.out.cell 2 _ rfl
   have d3:=R8w.out.cell 3 _ rfl
   have d4:=R8w.out.cell 4 _ rfl
   have d5:=R8w.out.cell 5 _ rfl
   have d6:=R8w.out.cell 6 _ rfl
   have z0:=RB8w.out.frozen 0
   have z1:=RB8w.out.frozen 1
   have z2:=RB8w.out.frozen 2
   have z3:=RB8w.out.frozen 3
   have z4:=RB8w.out.frozen 4
   have z5:=RB8w.out.frozen 5
   have z6:=RB8w.out.frozen 6
   have y0:=RB8w.out.cell 0 _ rfl
   have y1:=RB8w.out.cell 1 _ rfl
   have y2:=RB8w.out.cell 2 _ rfl
   have y3:=RB8w.out.cell 3 _ rfl
   have y4:=RB8w.out.cell 4 _ rfl
   have y5:=RB8w.out.cell 5 _ rfl
   have y6:=RB8w.out.cell 6 _ rfl
   have HRF:Hid (RowAt (wr.setCells (w.heap.size+1+1) 0 [.slice jJ D.jobs.length kJ,.slice jR D.rel.length kR,.int .i64 D.nxt,.slice jI D.ins.length kI,.slice jT D.tak.length kT,.slice jO D.out.length kO,.slice a8' (D.evs.length+1) c8']) (w.heap.size+1+1) 46 [.slice jJ D.jobs.length kJ,.slice jR D.rel.length kR,.int .i64 D.nxt,.slice jI D.ins.length kI,.slice jT D.tak.length kT,.slice jO D.out.length kO,.slice a8' (D.evs.length+1) c8']):=hid (row_setCells _ [] _ wr RB8w.out rfl)
   have HDF:Hid (∀ wx:World,(∀ x,w.heap.size≤x→wx.heap[x]? = (wr.setCells (w.heap.size+1+1) 0 [.slice jJ D.jobs.length kJ,.slice jR D.rel.length kR,.int .i64 D.nxt,.slice jI D.ins.length kI,.slice jT D.tak.length kT,.slice jO D.out.length kO,.slice a8' (D.evs.length+1) c8']).heap[x]?)→DomIn wx ⟨jJ,jR,jI,jT,jO,a8',kJ,kR,kI,kT,kO,c8'⟩ (openG D CM now s)):=by
    refine hid fun wx hwx=>dom_told2 (T:=takK D CM D.tak.length) (E:=D.evs++[(now,1,(s:Int),0)]) HO6.out HGR.out ?_ (bx:=w4.heap.size) HQ.out.2.2 (by omega) (by rw [hS6.out];omega) R5.out ?_ (takK_len ..) (fun x h1 h2 h3=>?_) (by have:=HII.out;omega) (by have:=HOO.out;omega)
    ·simpa using HOE.out
    ·rw [takK_len]
     exact owns_agree HOW2.out (fun x hx=>by
      have:=HTL.out x hx
      rw [hwx x (by omega),heap_setCells_ne _ _ _ _ x (by omega)])
    ·rw [hwx x (by omega),heap_setCells_ne _ _ _ _ x (by omega),HAG.out x h3,← HW8.out,heap_set_ne _ _ _ _ x h2]
   have HBF:Hid (Below w.heap.size w (wr.setCells (w.heap.size+1+1) 0 [.slice jJ D.jobs.length kJ,.slice jR D.rel.length kR,.int .i64 D.nxt,.slice jI D.ins.length kI,.slice jT D.tak.length kT,.slice jO D.out.length kO,.slice a8' (D.evs.length+1) c8'])):=hid (below_setCellsx (HBw.out _ HBL.out) _ (by omega) _ _)
   go_wp2
   change bodyPost _ _ _ _ _ (wr.setCells (w.heap.size+1+1) 0 [.slice jJ D.jobs.length kJ,.slice jR D.rel.length kR,.int .i64 D.nxt,.slice jI D.ins.length kI,.slice jT D.tak.length kT,.slice jO D.out.length kO,.slice a8' (D.evs.length+1) c8'])
   clear d0 d1 d2 d3 d4 d5 d6 z0 z1 z2 z3 z4 z5 z6 y0 y1 y2 y3 y4 y5 y6
   generalize wr.setCells (w.heap.size+1+1) 0 [.slice jJ D.jobs.length kJ,.slice jR D.rel.length kR,.int .i64 D.nxt,.slice jI D.ins.length kI,.slice jT D.tak.length kT,.slice jO D.out.length kO,.slice a8' (D.evs.length+1) c8']=wf at *
   have d0:=HRF.out.cell 0 _ rfl
   have d1:=HRF.out.cell 1 _ rfl
   have d2:=HRF.out.cell 2 _ rfl
   have d3:=HRF.out.cell 3 _ rfl
   have d4:=HRF.out.cell 4 _ rfl
   have d5:=HRF.out.cell 5 _ rfl
   have d6:=HRF.out.cell 6 _ rfl
   exact bodyPost_ret (v:=.tuple #[dv (openG D CM now s) ⟨jJ,jR,jI,jT,jO,a8',kJ,kR,kI,kT,kO,c8'⟩,.int .i64 0]) (by simp [results,Tryz.results45,go_sem,d0,d1,d2,d3,d4,d5,d6,openG,takK_len]) rfl ⟨⟨jJ,jR,jI,jT,jO,a8',kJ,kR,kI,kT,kO,c8'⟩,by rw [HCM.out],by rw [HCM.out];exact HDF.out,HBF.out⟩
end Go.Proofs.YtejhccmclanlmaaGreatDoor
