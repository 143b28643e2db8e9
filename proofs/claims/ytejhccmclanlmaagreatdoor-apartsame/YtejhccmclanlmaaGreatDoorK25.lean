/- Texts joined: Fg. -/
import Derived.Test.YtejhccmclanlmaaGreatDoorK14
import Derived.Test.YtejhccmclanlmaaGreatDoorK15
import Derived.Test.YtejhccmclanlmaaGreatDoorK23
set_option linter.unusedVariables false
set_option maxRecDepth 100000
namespace Go.Proofs.YtejhccmclanlmaaGreatDoor
open Go.RowKit Go.Shelf
attribute [local go_sem] Oper.semAt_some
theorem dom_small {C:Conf} {dn:Int} {D:Dom} (hz:ckD C dn D=0):(D.jobs.length≤20∧D.rel.length≤6∧D.tak.length≤4)∧D.ins.length≤4∧D.out.length≤4∧(∀ r∈D.ins,r.1.length≤4)∧(∀ r∈D.out,r.length≤60):=by
 obtain ⟨h0,h1,h2,h3,h4,h5⟩:=ckD_iff.1 hz
 have hS:=ckShp_iff.1 h1
 have hJ:=ckJobs_iff.1 h3
 have hC:ckCnt C=0:=fe_eq_zero (ckPlace_ok h0) 2 (by omega)
 have hc:(C.ow.length:Int)≤4∧(C.ch.length:Int)≤4∧(C.ta.length:Int)≤6:=by
  unfold ckCnt at hC
  split at hC
  ·rename_i hh
   simp only [Bool.and_eq_true,decide_eq_true_eq] at hh
   exact ⟨hh.1.1.2,hh.1.2,hh.2⟩
  ·omega
 refine ⟨⟨hJ.1,by omega,by omega⟩,by omega,by omega,fun r hr=>?_,fun r hr=>?_⟩
 ·obtain ⟨i,hi,rfl⟩:=List.getElem_of_mem hr
  have:=fe_eq_zero h4 i hi
  unfold ckIn1 at this
  have hk:=ckR_ok this
  rw [getD_of D.ins i hi] at hk
  omega
 ·unfold ckOuts at h5
  split at h5
  ·omega
  ·rename_i hh
   have:D.out.any long60=false:=by simpa using hh
   have:=List.any_eq_false.1 this r hr
   simp [long60] at this
   omega
theorem owns_baseF {w:World} {b b' e sz n:Nat} {v:Value} {xs:List Value} (h:w.ownsRow b e sz v n xs) (hb:b'≤b):w.ownsRow b' e sz v n xs:=by
 refine ⟨h.1,?_⟩
 rcases h.2 with h'|⟨g,cap,cur,e1,e2,r⟩
 ·exact .inl h'
 ·exact .inr ⟨g,cap,cur,e1,by omega,r⟩
set_option maxHeartbeats 4000000 in
theorem rel50_ok (D:Dom) (A:DMem) (C:Conf) (B:Mem) (dn now:Int) (w:World) (hC:ConfIn w B C) (hD:DomIn w A D) (hz:ckD C dn D=0) (hn:inR now 0 100000=true) (hev:D.evs.length≤100000000) :
  Calls Tryz.prog 133 #[cv C B,.int .i64 dn,dv D A,.int .i64 now] w fun e w'=>∃ A',e=.returned (.tuple #[dv (relD C dn now D) A',.int .i64 0])∧(∀ wx:World,(∀ x,w.heap.size≤x→wx.heap[x]? = w'.heap[x]?)→DomIn wx A' (relD C dn now D)∧wx.ownsRow w.heap.size 87 6 (.slice A'.aJ (relD C dn now D).jobs.length A'.cJ) (relD C dn now D).jobs.length (fJ (relD C dn now D).jobs)∧wx.ownsRow w.heap.size 3 1 (.slice A'.aR (relD C dn now D).rel.length A'.cR) (relD C dn now D).rel.length (ivs (relD C dn now D).rel)∧wx.ownsRow w.heap.size 92 4 (.slice A'.aE (relD C dn now D).evs.length A'.cE) (relD C dn now D).evs.length (fE (relD C dn now D).evs))∧Below w.heap.size w w':=by
 have mixed:Tryz.prog.follows Departure.mixedOrders=true:=by kernel_rfl
 have HCW:=hid hC
 have q1:=below_new w (.cells (cl C B) 27)
 have q2:=below_new (w.alloc (.cells (cl C B) 27)) (.cells (dl D A) 46)
 have q3:=below_new ((w.alloc (.cells (cl C B) 27)).alloc (.cells (dl D A) 46)) (.cells #[.int .i64 now] 3)
 have q4:=below_new (((w.alloc (.cells (cl C B) 27)).alloc (.cells (dl D A) 46)).alloc (.cells #[.int .i64 now] 3)) (.cells #[.slice none 0 0,.slice none 0 0,.int .i64 0,.slice none 0 0,.slice none 0 0,.slice none 0 0,.slice none 0 0] 46)
 have HC:=hid (hC.keep (btrans q1 (btrans q2 (btrans q3 q4))))
 have HD:=hid (hD.keep (btrans q1 (btrans q2 (btrans q3 q4))))
 have HX:=hid ((boxC_new w C B).keep (btrans q2 (btrans q3 q4)))
 have HRD:=hid ((rowAt_new2 (w.alloc (.cells (cl C B) 27)) (w.heap.size+1) (dl D A).toList 46 (by simp)).below (btrans q3 q4) lr)
 have HRN:=hid ((rowAt_new2 ((w.alloc (.cells (cl C B) 27)).alloc (.cells (dl D A) 46)) (w.heap.size+1+1) [.int .i64 now] 3 (by simp)).below q4 lr)
 have HRB:=hid (rowAt_new2 (((w.alloc (.cells (cl C B) 27)).alloc (.cells (dl D A) 46)).alloc (.cells #[.int .i64 now] 3)) (w.heap.size+1+1+1) [.slice none 0 0,.slice none 0 0,.int .i64 0,.slice none 0 0,.slice none 0 0,.slice none 0 0,.slice none 0 0] 46 (by simp))
 have HB:=hid (btrans q1 (btrans q2 (btrans q3 q4)))
 have HSZ:Hid (((((w.alloc (.cells (cl C B) 27)).alloc (.cells (dl D A) 46)).alloc (.cells #[.int .i64 now] 3)).alloc (.cells #[.slice none 0 0,.slice none 0 0,.int .i64 0,.slice none 0 0,.slice none 0 0,.slice none 0 0,.slice none 0 0] 46)).heap.size=w.heap.size+4):=hid (by simp)
 have HZ:=hid hz
 have HN:=hid hn
 have HEV:=hid hev
 clear q1 q2 q3 q4 hC hD hz hn hev
 obtain ⟨aJ,aR,aI,aT,aO,aE,cJ,cR,cI,cT,cO,cE⟩:=A
 obtain ⟨a5,a6,a7,a8,c5,c6,c7,c8⟩:=B
 dsimp only [cv,cl,dv,dl] at *
 refine (callsIn_wide (n:=6)).1 (callsIn_of_wp_marks Tryz.func133 rfl trivial ?_ rfl)
 refine wpIn_wide.2 ?_
 simp only [Tryz.ntmps133,List.size_toArray,List.length_cons,List.length_nil,Nat.reduceAdd,Nat.reduceSub,Array.replicate_succ,Array.replicate_zero,List.push_toArray,List.append_toArray,List.nil_append,List.cons_append]
 obtain ⟨g0,g1,g2,g3,g4,g5,g6,g7,g8⟩:=HX.out
 have d0:=HRD.out.cell 0 _ rfl
 have d1:=HRD.out.cell 1 _ rfl
 have d2:=HRD.out.cell 2 _ rfl
 have d3:=HRD.out.cell 3 _ rfl
 have d4:=HRD.out.cell 4 _ rfl
 have d5:=HRD.out.cell 5 _ rfl
 have d6:=HRD.out.cell 6 _ rfl
 go_wp2_with fail
 refine (checkD_any D ⟨aJ,aR,aI,aT,aO,aE,cJ,cR,cI,cT,cO,cE⟩ C ⟨a5,a6,a7,a8,c5,c6,c7,c8⟩ dn _ HC.out HD.out).mono ?_
 rintro e w1 ⟨rfl,hb1⟩
 rw [HZ.out]
 generalize World.alloc (World.alloc (World.alloc (World.alloc w _) _) _) _=W at *
 clear g0 g1 g2 g3 g4 g5 g6 g7 g8 d0 d1 d2 d3 d4 d5 d6
 have HB1:=hid (btrans HB.out hb1)
 have HD1:=hid (HD.out.keep hb1)
 have RN:=hid (HRN.out.below hb1 lr)
 have RB:=hid (HRB.out.below hb1 lr)
 have HSZ1:=hid (show w.heap.size+4≤w1.heap.size by have:=hb1.size;rw [HSZ.out] at this;exact this)
 obtain ⟨g0,g1,g2,g3,g4,g5,g6,g7,g8⟩:=HX.out.keep hb1
 have rd:=HRD.out.below hb1 lr
 have d0:=rd.cell 0 _ rfl
 have d1:=rd.cell 1 _ rfl
 have d2:=rd.cell 2 _ rfl
 have d3:=rd.cell 3 _ rfl
 have d4:=rd.cell 4 _ rfl
 have d5:=rd.cell 5 _ rfl
 have d6:=rd.cell 6 _ rfl
 have nn:=RN.out.cell 0 _ rfl
 clear rd hb1 HC HD HX HRD HRN HRB HB HSZ
 go_wp2_with fail
 refine (within_any _ _ _ _).mono ?_
 rintro e w' ⟨rfl,rfl⟩
 rw [HN.out]
 have HS:Hid (∀ w',Below w1.heap.size w1 w'→w'.cell? ⟨w.heap.size,0,none⟩=some (.int .i64 C.s)∧w'.cell? ⟨w.heap.size,1,none⟩=some (.int .i64 C.w)∧w'.cell? ⟨w.heap.size,2,none⟩=some (.int .i64 C.d)∧w'.cell? ⟨w.heap.size,3,none⟩=some (.int .i64 C.p)∧w'.cell? ⟨w.heap.size,4,none⟩=some (.int .i64 C.q)∧w'.cell? ⟨w.heap.size,5,none⟩=some (.slice a5 C.sl.length c5)∧w'.cell? ⟨w.heap.size,6,none⟩=some (.slice a6 C.ow.length c6)∧w'.cell? ⟨w.heap.size,7,none⟩=some (.slice a7 C.ch.length c7)∧w'.cell? ⟨w.heap.size,8,none⟩=some (.slice a8 C.ta.length c8)∧w'.cell? ⟨w.heap.size+1,0,none⟩=some (.slice aJ D.jobs.length cJ)∧w'.cell? ⟨w.heap.size+1,1,none⟩=some (.slice aR D.rel.length cR)∧w'.cell? ⟨w.heap.size+1,2,none⟩=some (.int .i64 D.nxt)∧w'.cell? ⟨w.heap.size+1,3,none⟩=some (.slice aI D.ins.length cI)∧w'.cell? ⟨w.heap.size+1,4,none⟩=some (.slice aT D.tak.length cT)∧w'.cell? ⟨w.heap.size+1,5,none⟩=some (.slice aO D.out.length cO)∧w'.cell? ⟨w.heap.size+1,6,none⟩=some (.slice aE D.evs.length cE)):=hid fun w' hb=>⟨bkeep hb g0 lr,bkeep hb g1 lr,bkeep hb g2 lr,bkeep hb g3 lr,bkeep hb g4 lr,bkeep hb g5 lr,bkeep hb g6 lr,bkeep hb g7 lr,bkeep hb g8 lr,bkeep hb d0 lr,bkeep hb d1 lr,bkeep hb d2 lr,bkeep hb d3 lr,bkeep hb d4 lr,bkeep hb d5 lr,bkeep hb d6 lr⟩
 have hbz:Below w1.heap.size w1 w1.drew:=(Below.refl _ _).drew
 have hbz2:Below w1.heap.size w1 (w1.alloc (.cells #[.slice none 0 0,.slice none 0 0,.int .i64 0,.slice none 0 0,.slice none 0 0,.slice none 0 0,.slice none 0 0,.int .i64 0,.int .i64 0,.int .i64 0,.int .i64 0,.int .i64 0,.slice none 0 0,.slice none 0 0,.slice none 0 0,.slice none 0 0,.int .i64 0] 179)).drew:=(below_new _ _).drew
 have RZ:Hid (RowAt (w1.alloc (.cells #[.slice none 0 0,.slice none 0 0,.int .i64 0,.slice none 0 0,.slice none 0 0,.slice none 0 0,.slice none 0 0,.int .i64 0,.int .i64 0,.int .i64 0,.int .i64 0,.int .i64 0,.slice none 0 0,.slice none 0 0,.slice none 0 0,.slice none 0 0,.int .i64 0] 179)).drew w1.heap.size 179 [.slice none 0 0,.slice none 0 0,.int .i64 0,.slice none 0 0,.slice none 0 0,.slice none 0 0,.slice none 0 0,.int .i64 0,.int .i64 0,.int .i64 0,.int .i64 0,.int .i64 0,.slice none 0 0,.slice none 0 0,.slice none 0 0,.slice none 0 0,.int .i64 0]):=hid (rowAt_new2 w1 _ [.slice none 0 0,.slice none 0 0,.int .i64 0,.slice none 0 0,.slice none 0 0,.slice none 0 0,.slice none 0 0,.int .i64 0,.int .i64 0,.int .i64 0,.int .i64 0,.int .i64 0,.slice none 0 0,.slice none 0 0,.slice none 0 0,.slice none 0 0,.int .i64 0] 179 rfl)
 have hsm:=dom_small HZ.out
 have C97:=hid (fun wx (hb:Below w1.heap.size w1 wx)=>cloneD_any D ⟨aJ,aR,aI,aT,aO,aE,cJ,cR,cI,cT,cO,cE⟩ wx (HD1.out.keep hb) ⟨by omega,by omega,by omega,by have:=HEV.out;omega⟩ (by omega) (by omega) (fun r hr=>by have:=hsm.2.2.2.1 r hr;omega) (fun r hr=>by have:=hsm.2.2.2.2 r hr;omega))
 clear hsm
 dsimp only [dv,dl] at C97
 go_upto_region 6 with fail
 go_cut [11] from 13 (fun t wx=>∃ kb jJ jR jI jT jO jE kJ kR kI kT kO kE gI gO m p q,t=.pointer (some ⟨kb,0,none⟩)∧DomOwn w1.heap.size wx ⟨jJ,jR,jI,jT,jO,jE,kJ,kR,kI,kT,kO,kE⟩ D gI gO m p q∧RowAt wx kb 179 (kl D ⟨jJ,jR,jI,jT,jO,jE,kJ,kR,kI,kT,kO,kE⟩ C ⟨a5,a6,a7,a8,c5,c6,c7,c8⟩ dn)∧w1.heap.size≤kb∧(kb<m∨q≤kb)∧Below w1.heap.size w1 wx)
 case first=>
  go_region_held3 (fun w'=>w'.cell? ⟨w.heap.size,0,none⟩=some (.int .i64 C.s)∧w'.cell? ⟨w.heap.size,1,none⟩=some (.int .i64 C.w)∧w'.cell? ⟨w.heap.size,2,none⟩=some (.int .i64 C.d)∧w'.cell? ⟨w.heap.size,3,none⟩=some (.int .i64 C.p)∧w'.cell? ⟨w.heap.size,4,none⟩=some (.int .i64 C.q)∧w'.cell? ⟨w.heap.size,5,none⟩=some (.slice a5 C.sl.length c5)∧w'.cell? ⟨w.heap.size,6,none⟩=some (.slice a6 C.ow.length c6)∧w'.cell? ⟨w.heap.size,7,none⟩=some (.slice a7 C.ch.length c7)∧w'.cell? ⟨w.heap.size,8,none⟩=some (.slice a8 C.ta.length c8)∧w'.cell? ⟨w.heap.size+1,0,none⟩=some (.slice aJ D.jobs.length cJ)∧w'.cell? ⟨w.heap.size+1,1,none⟩=some (.slice aR D.rel.length cR)∧w'.cell? ⟨w.heap.size+1,2,none⟩=some (.int .i64 D.nxt)∧w'.cell? ⟨w.heap.size+1,3,none⟩=some (.slice aI D.ins.length cI)∧w'.cell? ⟨w.heap.size+1,4,none⟩=some (.slice aT D.tak.length cT)∧w'.cell? ⟨w.heap.size+1,5,none⟩=some (.slice aO D.out.length cO)∧w'.cell? ⟨w.heap.size+1,6,none⟩=some (.slice aE D.evs.length cE))
   (first|with_reducible exact HS.out _ hB3|with_reducible exact HS.out _ (hB3a _)|with_reducible exact HS.out _ (hB3c _ _ _ _ _ _ _ _ _ _ _ _ _ _ _ _ _ )|with_reducible exact HS.out _ hbz|with_reducible exact HS.out _ hbz2|go_keep)
   (first
    | (go_at_call 68;with_reducible refine Calls.mono (C97.out _ hbz) ?_;rintro e w3 ⟨A3,gI,gO,m,p,q,rfl,ho3,hb3⟩;obtain ⟨jJ,jR,jI,jT,jO,jE,kJ,kR,kI,kT,kO,kE⟩:=A3;dsimp only [dv,dl];have HO3:=hid ho3;have hB3:=btrans hbz hb3;clear ho3;have hB3a:∀ o,Below w1.heap.size w1 (w3.alloc o):=fun o=>btrans hB3 (below_new _ o))
    | (go_at_call 68;with_reducible refine Calls.mono (C97.out _ hbz2) ?_;rintro e w3 ⟨A3,gI,gO,m,p,q,rfl,ho3,hb3⟩;obtain ⟨jJ,jR,jI,jT,jO,jE,kJ,kR,kI,kT,kO,kE⟩:=A3;dsimp only [dv,dl];have HO3:=hid ho3;have hB3:=btrans hbz2 hb3;have HZ3:=hid (RZ.out.below hb3 lr);clear ho3;have u0:=HZ3.out.cell 0 _ rfl;have f0:=HZ3.out.frozen 0;have u1:=HZ3.out.cell 1 _ rfl;have f1:=HZ3.out.frozen 1;have u2:=HZ3.out.cell 2 _ rfl;have f2:=HZ3.out.frozen 2;have u3:=HZ3.out.cell 3 _ rfl;have f3:=HZ3.out.frozen 3;have u4:=HZ3.out.cell 4 _ rfl;have f4:=HZ3.out.frozen 4;have u5:=HZ3.out.cell 5 _ rfl;have f5:=HZ3.out.frozen 5;have u6:=HZ3.out.cell 6 _ rfl;have f6:=HZ3.out.frozen 6;have u7:=HZ3.out.cell 7 _ rfl;have f7:=HZ3.out.frozen 7;have u8:=HZ3.out.cell 8 _ rfl;have f8:=HZ3.out.frozen 8;have u9:=HZ3.out.cell 9 _ rfl;have f9:=HZ3.out.frozen 9;have u10:=HZ3.out.cell 10 _ rfl;have f10:=HZ3.out.frozen 10;have u11:=HZ3.out.cell 11 _ rfl;have f11:=HZ3.out.frozen 11;have u12:=HZ3.out.cell 12 _ rfl;have f12:=HZ3.out.frozen 12;have u13:=HZ3.out.cell 13 _ rfl;have f13:=HZ3.out.frozen 13;have u14:=HZ3.out.cell 14 _ rfl;have f14:=HZ3.out.frozen 14;have u15:=HZ3.out.cell 15 _ rfl;have f15:=HZ3.out.frozen 15;have u16:=HZ3.out.cell 16 _ rfl;have f16:=HZ3.out.frozen 16;have hB3c:∀ v0 v1 v2 v3 v4 v5 v6 v7 v8 v9 v10 v11 v12 v13 v14 v15 v16,Below w1.heap.size w1 (((((((((((((((((w3.setCell ⟨w1.heap.size,0,none⟩ v0).setCell ⟨w1.heap.size,1,none⟩ v1).setCell ⟨w1.heap.size,2,none⟩ v2).setCell ⟨w1.heap.size,3,none⟩ v3).setCell ⟨w1.heap.size,4,none⟩ v4).setCell ⟨w1.heap.size,5,none⟩ v5).setCell ⟨w1.heap.size,6,none⟩ v6).setCell ⟨w1.heap.size,7,none⟩ v7).setCell ⟨w1.heap.size,8,none⟩ v8).setCell ⟨w1.heap.size,9,none⟩ v9).setCell ⟨w1.heap.size,10,none⟩ v10).setCell ⟨w1.heap.size,11,none⟩ v11).setCell ⟨w1.heap.size,12,none⟩ v12).setCell ⟨w1.heap.size,13,none⟩ v13).setCell ⟨w1.heap.size,14,none⟩ v14).setCell ⟨w1.heap.size,15,none⟩ v15).setCell ⟨w1.heap.size,16,none⟩ v16):=fun v0 v1 v2 v3 v4 v5 v6 v7 v8 v9 v10 v11 v12 v13 v14 v15 v16=>(((((((((((((((((hB3.setCell (p:=⟨w1.heap.size,0,none⟩) lr v0).setCell (p:=⟨w1.heap.size,1,none⟩) lr v1).setCell (p:=⟨w1.heap.size,2,none⟩) lr v2).setCell (p:=⟨w1.heap.size,3,none⟩) lr v3).setCell (p:=⟨w1.heap.size,4,none⟩) lr v4).setCell (p:=⟨w1.heap.size,5,none⟩) lr v5).setCell (p:=⟨w1.heap.size,6,none⟩) lr v6).setCell (p:=⟨w1.heap.size,7,none⟩) lr v7).setCell (p:=⟨w1.heap.size,8,none⟩) lr v8).setCell (p:=⟨w1.heap.size,9,none⟩) lr v9).setCell (p:=⟨w1.heap.size,10,none⟩) lr v10).setCell (p:=⟨w1.heap.size,11,none⟩) lr v11).setCell (p:=⟨w1.heap.size,12,none⟩) lr v12).setCell (p:=⟨w1.heap.size,13,none⟩) lr v13).setCell (p:=⟨w1.heap.size,14,none⟩) lr v14).setCell (p:=⟨w1.heap.size,15,none⟩) lr v15).setCell (p:=⟨w1.heap.size,16,none⟩) lr v16)))
  all_goals
   go_wp2
   go_meet
   case rel=>
    first
     | (have hM:=hB3a;exact ⟨w3.heap.size,jJ,jR,jI,jT,jO,jE,kJ,kR,kI,kT,kO,kE,gI,gO,m,p,q,rfl,HO3.out.keep (below_new _ _),rowAt_new2 w3 _ [.slice jJ D.jobs.length kJ,.slice jR D.rel.length kR,.int .i64 D.nxt,.slice jI D.ins.length kI,.slice jT D.tak.length kT,.slice jO D.out.length kO,.slice jE D.evs.length kE,.int .i64 C.s,.int .i64 C.w,.int .i64 C.d,.int .i64 C.p,.int .i64 C.q,.slice a5 C.sl.length c5,.slice a6 C.ow.length c6,.slice a7 C.ch.length c7,.slice a8 C.ta.length c8,.int .i64 dn] 179 rfl,hB3.size,.inr HO3.out.mp.2.2,hM _⟩)
     | (have hM:=hB3c;refine ⟨w1.heap.size,jJ,jR,jI,jT,jO,jE,kJ,kR,kI,kT,kO,kE,gI,gO,m,p,q,rfl,(HO3.out.agree (by simp) (fun x hx1 _=>?_)).base (by simp),(rowAt_set1 (rowAt_set1 (rowAt_set1 (rowAt_set1 (rowAt_set1 (rowAt_set1 (rowAt_set1 (rowAt_set1 (rowAt_set1 (rowAt_set1 (rowAt_set1 (rowAt_set1 (rowAt_set1 (rowAt_set1 (rowAt_set1 (rowAt_set1 (rowAt_set1 HZ3.out 0 _) 1 _) 2 _) 3 _) 4 _) 5 _) 6 _) 7 _) 8 _) 9 _) 10 _) 11 _) 12 _) 13 _) 14 _) 15 _) 16 _),Nat.le_refl _,.inl (by have:=HO3.out.bI;simp at this;omega),hM _ _ _ _ _ _ _ _ _ _ _ _ _ _ _ _ _ ⟩;have hx:x≠w1.heap.size:=(by simp at hx1;omega);exact (heap_set_ne _ _ 16 _ x hx).trans ((heap_set_ne _ _ 15 _ x hx).trans ((heap_set_ne _ _ 14 _ x hx).trans ((heap_set_ne _ _ 13 _ x hx).trans ((heap_set_ne _ _ 12 _ x hx).trans ((heap_set_ne _ _ 11 _ x hx).trans ((heap_set_ne _ _ 10 _ x hx).trans ((heap_set_ne _ _ 9 _ x hx).trans ((heap_set_ne _ _ 8 _ x hx).trans ((heap_set_ne _ _ 7 _ x hx).trans ((heap_set_ne _ _ 6 _ x hx).trans ((heap_set_ne _ _ 5 _ x hx).trans ((heap_set_ne _ _ 4 _ x hx).trans ((heap_set_ne _ _ 3 _ x hx).trans ((heap_set_ne _ _ 2 _ x hx).trans ((heap_set_ne _ _ 1 _ x hx).trans ((heap_set_ne _ _ 0 _ x hx))))))))))))))))))
 case rest=>
  obtain ⟨kb,jJ,jR,jI,jT,jO,jE,kJ,kR,kI,kT,kO,kE,gI,gO,m,p,q,rfl,ho3,hrow,hkb1,hkb2,hb3⟩:=hcut
  have HBW:=hid (btrans hb3 (below_new wc (.cells #[.pointer (some ⟨kb,0,none⟩)] 211)))
  clear HS C97 RZ hbz hbz2 g0 g1 g2 g3 g4 g5 g6 g7 g8 d0 d1 d2 d3 d4 d5 d6 nn
  go_wp2_with fail
  refine ((callsIn_wide (n:=5)).1 (tasks_in 5 _ _)).mono ?_
  rintro e w' ⟨rfl,tt,rfl⟩
  have q4:=below_new wc (.cells #[.pointer (some ⟨kb,0,none⟩)] tt)
  have bK:=Boxed.new wc tt (.pointer (some ⟨kb,0,none⟩))
  have hszW:(wc.alloc (.cells #[.pointer (some ⟨kb,0,none⟩)] tt)).heap.size=wc.heap.size+1:=by simp
  have hB0:=btrans hb3 q4
  obtain ⟨X,hKO,hXl⟩:∃ X,KO (wc.alloc (.cells #[.pointer (some ⟨kb,0,none⟩)] tt)) X w1.heap.size kb (wc.alloc (.cells #[.pointer (some ⟨kb,0,none⟩)] tt)) D ⟨jJ,jR,jI,jT,jO,jE,kJ,kR,kI,kT,kO,kE⟩ C ⟨a5,a6,a7,a8,c5,c6,c7,c8⟩ dn∧∀ x,X x→x<wc.heap.size:=⟨_,KO.start (ho3.keep q4) (hrow.below q4 lr) hkb1 hkb2 hB0.size (fun w' hw'=>HCW.out.keep (btrans HB1.out (hB0.trans hw'))) (by have:=dom_small HZ.out;omega) (by have:=dom_small HZ.out;omega),fun x hx=>by
   rcases hx with rfl|hx|hx|hx
   ·exact (Array.getElem?_eq_some_iff.1 hrow).1
   ·exact owns_lt ho3.j x hx
   ·exact owns_lt ho3.r x hx
   ·exact owns_lt ho3.e x hx⟩
  generalize wc.alloc (.cells #[.pointer (some ⟨kb,0,none⟩)] tt)=W0 at *
  have hkbW:kb<wc.heap.size:=(Array.getElem?_eq_some_iff.1 hrow).1
  have HKO:=hid hKO
  have HB0:=hid hB0
  have hTA:TasksIn W0 a8 C.ta:=(hKO.con W0 hKO.ag).ta
  have hwsz:=HB1.out.size
  have ha8:∀ b o,a8=some ⟨b,o,none⟩→0<C.ta.length→b<w.heap.size:=tasksIn_lt HCW.out.ta
  have hlt:C.ta.length≤9223372036854775807:=HCW.out.l8
  have hb0s:=hB0.size
  clear ho3 q4 hb3
  have HBX:Hid (∀ wx,Keeps X W0 wx→RowAt wx (w.heap.size+1+1) 3 [.int .i64 now]∧RowAt wx (w.heap.size+1+1+1) 46 [.slice none 0 0,.slice none 0 0,.int .i64 0,.slice none 0 0,.slice none 0 0,.slice none 0 0,.slice none 0 0]):=hid fun wx h=>by
   have hs:=HSZ1.out
   have hx:=hKO.xb
   exact ⟨((h.same (w.heap.size+1+1) (by omega) (fun e=>by have:=hx _ e;omega)).trans (hB0.block _ (by omega))).trans RN.out,((h.same (w.heap.size+1+1+1) (by omega) (fun e=>by have:=hx _ e;omega)).trans (hB0.block _ (by omega))).trans RB.out⟩
  have HTK:Hid (∀ W W' M M' A1 A2,KO W0 X w1.heap.size kb W M A1 C ⟨a5,a6,a7,a8,c5,c6,c7,c8⟩ dn→KO W0 X w1.heap.size kb W' M' A2 C ⟨a5,a6,a7,a8,c5,c6,c7,c8⟩ dn→W.heap.size≤W'.heap.size→TK wc.heap.size kb a8 C.ta.length W W'):=hid fun W W' M M' A1 A2 h h' hs=>by
   have hx:=hKO.xb
   refine ⟨hs,cell_heap ((h'.ag.same _ (by omega) (fun e=>by have:=hXl _ e;omega)).trans (h.ag.same _ (by omega) (fun e=>by have:=hXl _ e;omega)).symm) 0,(h'.row.cell 15 _ rfl).trans (h.row.cell 15 _ rfl).symm,(h'.row.cell 16 _ rfl).trans (h.row.cell 16 _ rfl).symm,fun b o e hn=>?_⟩
   have hb:=ha8 b o e hn
   exact (h'.ag.same _ (by omega) (fun e=>by have:=hx _ e;omega)).trans (h.ag.same _ (by omega) (fun e=>by have:=hx _ e;omega)).symm
  have k15:=hKO.row.cell 15 _ rfl
  have k16:=hKO.row.cell 16 _ rfl
  have HXL:=hid hXl
  go_wp2
  refine (wpIn_wide (n:=6)).1 ?_
  refine wpIn_rangeFunc_ownH rfl (by omega) (gf:=173) (lb:=#[.pointer (some ⟨wc.heap.size,0,none⟩)]) rfl trivial (enters_of Tryz.func173 (by kernel_rfl) rfl)
   (tasks_stops2 (6 - 1) (by omega) wc.heap.size kb (wc.heap.size+1) C a8 c8 dn (by omega) (by omega) hlt W0 bK.cell k15 k16 hTA (fun b o e h=>by have:=ha8 b o e h;omega) (by omega))
   TK.trans (TK.book (by omega) (by omega) (fun b o e h=>by have:=ha8 b o e h;omega)) (Below.refl _ _) (fun _=>rfl)
   (fun pre W=>∃ A',KO W0 X w1.heap.size kb W (relL C now (pre.map (·.1)) D) A' C ⟨a5,a6,a7,a8,c5,c6,c7,c8⟩ dn)
   (fun c pre W=>False)
   (fun pre W W' row hs hg hr=>by obtain ⟨A',h⟩:=hs;exact ⟨A',h.turned hg hr⟩)
   (fun c=>ownFrom_pure _ _)
   ⟨_,HKO.out⟩
   (fun y a' W=>a'={ tmps:=#[.agg #[.int .i64 C.s,.int .i64 C.w,.int .i64 C.d,.int .i64 C.p,.int .i64 C.q,.slice a5 C.sl.length c5,.slice a6 C.ow.length c6,.slice a7 C.ch.length c7,.slice a8 C.ta.length c8],.int .i64 dn,.agg #[.slice aJ D.jobs.length cJ,.slice aR D.rel.length cR,.int .i64 D.nxt,.slice aI D.ins.length cI,.slice aT D.tak.length cT,.slice aO D.out.length cO,.slice aE D.evs.length cE],.int .i64 now,.pointer (some ⟨w.heap.size,0,none⟩),undef,.pointer (some ⟨w.heap.size+1,0,none⟩),.pointer (some ⟨w.heap.size+1+1,0,none⟩),.pointer (some ⟨w.heap.size+1+1+1,0,none⟩),.int .i64 0,.int .i64 0,.pointer (some ⟨kb,0,none⟩),.int .i64 (y.1.1:Int),u13,u14,u15,u16,u17,u18,u19,u20,u21,u22,u23,u24,u25,u26,u27,u28,u29,.func (.func 173) #[] #[.pointer (some ⟨wc.heap.size,0,none⟩)],.int .i64 (y.1.1:Int),.agg #[.int .i64 y.1.2.1,.int .i64 y.1.2.2.1,.int .i64 y.1.2.2.2.1,.int .i64 y.1.2.2.2.2],u33,u34,u35,u36,u37,u38,u39,u40,u41,u42,u43,u44,u45,u46,u47,u48,u49,u50,u51],defers:=[] })
   (fun y a'=>ownFrom_pure _ _)
   ?assign ?body ?done ?stop
  case assign=>
   rintro l pre y W K hI hK
   dsimp only [encT]
   gi_wp2
   exact hK _ _ (KeepsFrom.refl _ _) (TK.refl _ _ _ _ _) hI rfl
  case stop=>
   rintro Dd c pre W hD hS hF
   exact hF.elim
  case body=>
   rintro l pre ⟨⟨k,tk0⟩,hy⟩ a' W hl ⟨r,hr⟩ ⟨A',hK⟩ rfl hlen
   have hown:=own_mem _ hy
   have hpre:∀ x∈pre.map (·.1),x.1<C.ta.length∧(tk C x.1).1=dn:=fun x hx=>by
    obtain ⟨z,_,rfl⟩:=List.mem_map.1 hx
    exact own_mem _ z.2
   have HZp:=hid (relL_ok HN.out _ D hpre HZ.out)
   have HEp:Hid ((relL C now (pre.map (·.1)) D).evs.length≤D.evs.length+(relL C now (pre.map (·.1)) D).jobs.length):=hid (by have:=relL_evs C now (pre.map (·.1)) D;omega)
   have HEnd:Hid (relL C now ((pre++[(⟨(k,tk0),hy⟩:OT C dn)]).map (·.1)) D=relT C now k (relL C now (pre.map (·.1)) D)):=hid (by simp [relL])
   generalize relL C now (pre.map (·.1)) D=Dp at *
   have HK0:=hid hK
   have HKW:=hid hK
   dsimp only at hown
   clear hpre
   gi_wp2
   gi_loopg [] (100000 - (Dp.rel.getD k 0).toNat) (fun gk wr=>∃ M A1,KO W0 X w1.heap.size kb wr M A1 C ⟨a5,a6,a7,a8,c5,c6,c7,c8⟩ dn∧gk=100000 - (M.rel.getD k 0).toNat∧relN C now k gk M=relT C now k Dp∧ckD C dn M=0∧M.evs.length≤D.evs.length+M.jobs.length∧KeepsOthers W wr)
   case atStart=>exact ⟨Dp,A',HK0.out,rfl,rfl,HZp.out,HEp.out,KeepsOthers.refl _⟩
   case round=>
    obtain ⟨M,A1,hM,hgk,hRN,hZM,hEM,hOM⟩:=hrel
    have hsh:=ckShp_iff.1 (ckD_iff.1 hZM).2.1
    have hkr:k<M.rel.length:=by have:=hown.1;omega
    have hy:=getD_of M.rel k hkr 0
    have hr0:=relAt (ckNums_iff.1 (ckD_iff.1 hZM).2.2.1).1 k
    rw [hy] at hr0 hgk
    obtain ⟨rb,hrb,_,_⟩:=owns_zero hM.r (by omega)
    obtain ⟨lJ,lR,lI,lT,lO,lE,mJ,mR,mI,mT,mO,mE⟩:=A1
    dsimp only at hrb
    subst hrb
    have HM:=hid hM
    have hbz:Below wr.heap.size wr wr.drew:=(Below.refl _ _).drew
    have n0:=(HBX.out wr hM.ag).1.cell 0 _ rfl
    have k1:=hM.row.cell 1 _ rfl
    have kr:wr.cell? ⟨rb,k,none⟩=some (.int .i64 M.rel[k]):=owns_cell hM.r hkr
    have HS2:Hid (∀ wx,Below wr.heap.size wr wx→wx.cell? ⟨w.heap.size+1+1,0,none⟩=some (.int .i64 now)∧wx.cell? ⟨kb,1,none⟩=some (.slice (some ⟨rb,0,none⟩) M.rel.length mR)∧wx.cell? ⟨rb,k,none⟩=some (.int .i64 M.rel[k])):=hid fun wx hb=>⟨bkeep hb n0 lr,bkeep hb k1 lr,bkeep hb kr lr⟩
    have C99:=hid (comes_any kb M _ C _ dn k wr.drew (hM.below hbz).keepIn hown.1 hkr)
    have HG:Hid (goOn C now k M=(decide (comesAt C M k≤now) && decide (M.rel[k]<100000))):=hid (by rw [goOn,hy])
    have HGK:=hid hgk
    have HRN:=hid hRN
    have HZM:=hid hZM
    have HEM:=hid hEM
    have HOM:=hid hOM
    have HOWN:=hid hown
    have HKR:=hid hkr
    have HY:=hid hy
    have HR0:=hid hr0
    have hk1:(k:Int)<(M.rel.length:Int):=by omega
    have hk0:(0:Int)≤(k:Int):=by omega
    have HREL:Hid (0≤M.rel[k]∧(M.rel[k]<100000→∀ wx (hx:KO W0 X w1.heap.size kb wx M ⟨lJ,some ⟨rb,0,none⟩,lI,lT,lO,lE,mJ,mR,mI,mT,mO,mE⟩ C ⟨a5,a6,a7,a8,c5,c6,c7,c8⟩ dn),Calls Tryz.prog 155 #[.pointer (some ⟨kb,0,none⟩),.int .i64 (k:Int)] wx fun e w'=>e=.returned (.tuple #[])∧(∃ A',KO W0 X w1.heap.size kb w' (relStep C k M) A' C ⟨a5,a6,a7,a8,c5,c6,c7,c8⟩ dn)∧KeepsOthers wx w')):=hid ⟨hr0.1,fun h1 wx hx=>release_ok W0 X w1.heap.size kb M _ C _ dn k wx hx hown.1 hkr hr0.1 h1 (jobs20 hZM) (by have:=jobs20 hZM;have:=HEV.out;omega)⟩
    generalize hcm:comesAt C M k=cm at *
    generalize M.rel[k]=y at *
    clear hM hgk hRN hZM hEM hOM hown hy hr0 hsh hcm hkr HK0 HKO HB0 hKO bK hTA k15 k16 k1 kr hK
    gi_upto_region 9 with fail
    gi_cut [45] from 52 (fun t wx=>t=.bool (goOn C now k M)∧Below wr.heap.size wr wx)
    case first=>
     by_cases hc:cm≤now
     ·by_cases hy1:y<100000
      ·have HGG:Hid (goOn C now k M=true):=hid (by rw [HG.out];simp [hc,hy1])
       gi_region_with_o (refine ⟨trivial,(CallsIn.inRound l (callsIn_wide.2 C99.out)).mono ?_⟩;rintro e w2 ⟨rfl,hb2⟩;have hB2:=btrans hbz hb2;obtain ⟨n2,k2,r2⟩:=HS2.out w2 hB2)
       all_goals
        gi_wp2
        go_meet
        case rel=>exact ⟨by rw [HGG.out],hB2⟩
      ·have HGG:Hid (goOn C now k M=false):=hid (by rw [HG.out];simp [hc,hy1])
       gi_region_with_o (refine ⟨trivial,(CallsIn.inRound l (callsIn_wide.2 C99.out)).mono ?_⟩;rintro e w2 ⟨rfl,hb2⟩;have hB2:=btrans hbz hb2;obtain ⟨n2,k2,r2⟩:=HS2.out w2 hB2)
       all_goals
        gi_wp2
        go_meet
        case rel=>exact ⟨by rw [HGG.out];simp;omega,hB2⟩
     ·have HGG:Hid (goOn C now k M=false):=hid (by rw [HG.out];simp [hc])
      gi_region_with_o (refine ⟨trivial,(CallsIn.inRound l (callsIn_wide.2 C99.out)).mono ?_⟩;rintro e w2 ⟨rfl,hb2⟩;have hB2:=btrans hbz hb2;obtain ⟨n2,k2,r2⟩:=HS2.out w2 hB2)
      all_goals
       gi_wp2
       go_meet
       case rel=>exact ⟨by rw [HGG.out],hB2⟩
    case rest=>
     obtain ⟨rfl,hB2⟩:=hcut
     have HM2:=hid (HM.out.below hB2)
     have HO2:=hid (HOM.out.trans (keepsOthers_below hB2))
     clear HS2 C99 HM hB2 hbz HOM
     cases hg:goOn C now k M with
     | true=>
      have HGG:=hid hg
      have hy1:y<100000:=by
       rw [HG.out] at hg
       simp at hg
       exact hg.2
      clear hg
      gi_wp2
      refine ⟨trivial,(CallsIn.inRound l (callsIn_wide.2 (HREL.out.2 hy1 _ HM2.out))).mono ?_⟩
      rintro e w5 ⟨rfl,⟨A5,h5⟩,hk5⟩
      have H5:=hid h5
      have HO5:=hid (HO2.out.trans hk5)
      have HGP:Hid (100000 - (( relStep C k M).rel.getD k 0).toNat<gk∧relN C now k (100000 - ((relStep C k M).rel.getD k 0).toNat) (relStep C k M)=relT C now k Dp):=hid (by
       have e1:=relStep_at C k M HKR.out
       rw [HY.out] at e1
       have g1:=HGK.out
       have y0:=HR0.out
       have hlt':gk=(100000 - ((relStep C k M).rel.getD k 0).toNat)+1:=by rw [e1];omega
       refine ⟨by omega,?_⟩
       rw [← HRN.out,hlt',relN_go _ HGG.out])
      have HZ5:=hid (relStep_ok HZM.out HN.out k HOWN.out.1 HOWN.out.2 HGG.out)
      have HE5:Hid ((relStep C k M).evs.length≤D.evs.length+(relStep C k M).jobs.length):=hid (by have:=relStep_evs C k M;have:=HEM.out;omega)
      clear h5 hk5 HM2 HO2
      gi_wp2
      gi_roundg (100000 - ((relStep C k M).rel.getD k 0).toNat)
      case measure=>exact HGP.out.1
      case rel=>exact ⟨relStep C k M,A5,H5.out,rfl,HGP.out.2,HZ5.out,HE5.out,HO5.out⟩
     | false=>
      have HF:Hid (M=relT C now k Dp):=hid (by rw [← HRN.out];exact (relN_stop _ hg).symm)
      clear hg
      gi_wp2
      exact ⟨HO2.out.from _,HTK.out _ _ _ _ _ _ HKW.out HM2.out HO2.out.size,⟨_,by rw [HEnd.out,← HF.out];exact HM2.out⟩⟩
  case done=>
   rintro Dd ys W hD hS ⟨A',hK⟩ hdf
   have hAll:relL C now (ys.map (·.1)) D=relAll C dn now D:=by rw [hS];rfl
   rw [hAll] at hK
   have HZA:Hid (ckD C dn (relAll C dn now D)=0):=hid (relL_ok HN.out _ D own_mem HZ.out)
   have HEA:Hid ((relAll C dn now D).evs.length≤900000000):=hid (by
    have h1:=relL_evs C now (ownT C dn C.ta.length) D
    have h2:=jobs20 HZA.out
    have h3:=HEV.out
    have h4:(relAll C dn now D)=relL C now (ownT C dn C.ta.length) D:=rfl
    rw [h4] at h2 ⊢
    omega)
   have n0:=(HBX.out W hK.ag).1.cell 0 _ rfl
   have HK9:=hid hK
   have HDF:=hid hdf
   have HD9:=hid hD
   clear hK hdf hAll hS HKO bK hTA k15 k16 hKO
   go_wp2_with fail
   refine (miss_ok W0 X w1.heap.size kb _ A' C _ dn now W HK9.out HZA.out HEA.out).mono ?_
   rintro e w6 ⟨rfl,⟨A6,h6⟩,hk6⟩
   have hdf6:=hk6.same Dd _ HDF.out rfl
   have HDF6:=hid hdf6
   change KO W0 X w1.heap.size kb w6 (relD C dn now D) A6 C _ dn at h6
   have H6:=hid h6
   have HR6:=hid (HBX.out w6 h6.ag).2
   obtain ⟨rJ,rR,rI,rT,rO,rE,sJ,sR,sI,sT,sO,sE⟩:=A6
   generalize hRR:relD C dn now D=R at *
   have HRR:=hid hRR
   clear hRR
   have z0:=h6.row.cell 0 _ rfl
   have z1:=h6.row.cell 1 _ rfl
   have z2:=h6.row.cell 2 _ rfl
   have z3:=h6.row.cell 3 _ rfl
   have z4:=h6.row.cell 4 _ rfl
   have z5:=h6.row.cell 5 _ rfl
   have z6:=h6.row.cell 6 _ rfl
   have y0:=HR6.out.cell 0 _ rfl
   have y1:=HR6.out.cell 1 _ rfl
   have y2:=HR6.out.cell 2 _ rfl
   have y3:=HR6.out.cell 3 _ rfl
   have y4:=HR6.out.cell 4 _ rfl
   have y5:=HR6.out.cell 5 _ rfl
   have y6:=HR6.out.cell 6 _ rfl
   have f0:=HR6.out.frozen 0
   have f1:=HR6.out.frozen 1
   have f2:=HR6.out.frozen 2
   have f3:=HR6.out.frozen 3
   have f4:=HR6.out.frozen 4
   have f5:=HR6.out.frozen 5
   have f6:=HR6.out.frozen 6
   have hDW:W0.heap.size≤Dd:=HD9.out
   have hs1:=HSZ1.out
   have R7:=hid (rowAt_set1 (rowAt_set1 (rowAt_set1 (rowAt_set1 (rowAt_set1 (rowAt_set1 (rowAt_set1 HR6.out 0 (.slice rJ R.jobs.length sJ)) 1 (.slice rR R.rel.length sR)) 2 (.int .i64 R.nxt)) 3 (.slice rI R.ins.length sI)) 4 (.slice rT R.tak.length sT)) 5 (.slice rO R.out.length sO)) 6 (.slice rE R.evs.length sE))
   have HN7:Hid (∀ x,x≠w.heap.size+1+1+1→((((((((w6.setCell ⟨w.heap.size+1+1+1,0,none⟩ (.slice rJ R.jobs.length sJ)).setCell ⟨w.heap.size+1+1+1,1,none⟩ (.slice rR R.rel.length sR)).setCell ⟨w.heap.size+1+1+1,2,none⟩ (.int .i64 R.nxt)).setCell ⟨w.heap.size+1+1+1,3,none⟩ (.slice rI R.ins.length sI)).setCell ⟨w.heap.size+1+1+1,4,none⟩ (.slice rT R.tak.length sT)).setCell ⟨w.heap.size+1+1+1,5,none⟩ (.slice rO R.out.length sO)).setCell ⟨w.heap.size+1+1+1,6,none⟩ (.slice rE R.evs.length sE))).heap[x]? = w6.heap[x]?):=hid fun x hx=>(heap_set_ne _ _ 6 _ x hx).trans ((heap_set_ne _ _ 5 _ x hx).trans ((heap_set_ne _ _ 4 _ x hx).trans ((heap_set_ne _ _ 3 _ x hx).trans ((heap_set_ne _ _ 2 _ x hx).trans ((heap_set_ne _ _ 1 _ x hx).trans (heap_set_ne _ _ 0 _ x hx))))))
   have HB6:Hid (Below w.heap.size w w6):=hid (btrans HB1.out (HB0.out.trans (h6.ag.to_below (by omega) h6.xb)))
   have HB7:Hid (Below w.heap.size w ((((((((w6.setCell ⟨w.heap.size+1+1+1,0,none⟩ (.slice rJ R.jobs.length sJ)).setCell ⟨w.heap.size+1+1+1,1,none⟩ (.slice rR R.rel.length sR)).setCell ⟨w.heap.size+1+1+1,2,none⟩ (.int .i64 R.nxt)).setCell ⟨w.heap.size+1+1+1,3,none⟩ (.slice rI R.ins.length sI)).setCell ⟨w.heap.size+1+1+1,4,none⟩ (.slice rT R.tak.length sT)).setCell ⟨w.heap.size+1+1+1,5,none⟩ (.slice rO R.out.length sO)).setCell ⟨w.heap.size+1+1+1,6,none⟩ (.slice rE R.evs.length sE)))):=hid (((((((HB6.out.setCell (p:=⟨w.heap.size+1+1+1,0,none⟩) (by show w.heap.size≤w.heap.size+1+1+1;omega) _).setCell (p:=⟨w.heap.size+1+1+1,1,none⟩) (by show w.heap.size≤w.heap.size+1+1+1;omega) _).setCell (p:=⟨w.heap.size+1+1+1,2,none⟩) (by show w.heap.size≤w.heap.size+1+1+1;omega) _).setCell (p:=⟨w.heap.size+1+1+1,3,none⟩) (by show w.heap.size≤w.heap.size+1+1+1;omega) _).setCell (p:=⟨w.heap.size+1+1+1,4,none⟩) (by show w.heap.size≤w.heap.size+1+1+1;omega) _).setCell (p:=⟨w.heap.size+1+1+1,5,none⟩) (by show w.heap.size≤w.heap.size+1+1+1;omega) _).setCell (p:=⟨w.heap.size+1+1+1,6,none⟩) (by show w.heap.size≤w.heap.size+1+1+1;omega) _)
   clear h6 hk6 HK9 n0 hdf6
   go_wp2
   clear z0 z1 z2 z3 z4 z5 z6 y0 y1 y2 y3 y4 y5 y6 f0 f1 f2 f3 f4 f5 f6
   generalize World.setCell (World.setCell (World.setCell (World.setCell (World.setCell (World.setCell (World.setCell w6 _ _) _ _) _ _) _ _) _ _) _ _) _ _=w7 at *
   have hK7:w7.heap[Dd]? = some (.deferred (some [])):=(HN7.out Dd (by omega)).trans HDF6.out
   refine ⟨by simp,.inl ⟨_,_,rfl,run_takeDeferred hK7,?_⟩⟩
   have hrow7:∀ r,some Dd=some r→∃ o:Obj,w7.heap[r]? = some o∧o.isCells=false:=fun r e=>by cases e;exact ⟨_,hK7,rfl⟩
   have e0:=cell_kept (R7.out.cell 0 _ rfl) (grownBy_putObj' w7 Dd (.deferred none)) hrow7
   have e1:=cell_kept (R7.out.cell 1 _ rfl) (grownBy_putObj' w7 Dd (.deferred none)) hrow7
   have e2:=cell_kept (R7.out.cell 2 _ rfl) (grownBy_putObj' w7 Dd (.deferred none)) hrow7
   have e3:=cell_kept (R7.out.cell 3 _ rfl) (grownBy_putObj' w7 Dd (.deferred none)) hrow7
   have e4:=cell_kept (R7.out.cell 4 _ rfl) (grownBy_putObj' w7 Dd (.deferred none)) hrow7
   have e5:=cell_kept (R7.out.cell 5 _ rfl) (grownBy_putObj' w7 Dd (.deferred none)) hrow7
   have e6:=cell_kept (R7.out.cell 6 _ rfl) (grownBy_putObj' w7 Dd (.deferred none)) hrow7
   refine ⟨.tuple #[.agg #[.slice rJ R.jobs.length sJ,.slice rR R.rel.length sR,.int .i64 R.nxt,.slice rI R.ins.length sI,.slice rT R.tak.length sT,.slice rO R.out.length sO,.slice rE R.evs.length sE],.int .i64 0],?_,⟨⟨rJ,rR,rI,rT,rO,rE,sJ,sR,sI,sT,sO,sE⟩,by rw [HRR.out],fun wx hwx=>?_,?_⟩⟩
   ·simp [results,Tryz.results133,go_sem,e0,e1,e2,e3,e4,e5,e6]
   ·have h8:=H6.out.turned (grownBy_putObj' w6 Dd (.deferred none)) (fun x e=>by cases e;exact ⟨hDW,_,HDF6.out,rfl⟩)
    rw [HRR.out]
    have hag:∀ x,w1.heap.size≤x→wx.heap[x]? = (w6.putObj Dd (.deferred none)).heap[x]? := fun x hx=>by
     rw [hwx x (by omega)]
     by_cases e:x=Dd
     ·subst e
      rw [World.putObj_heap_same (Array.getElem?_eq_some_iff.1 hK7).1,World.putObj_heap_same (Array.getElem?_eq_some_iff.1 HDF6.out).1]
     ·rw [World.putObj_heap_other e,World.putObj_heap_other e]
      exact HN7.out x (by omega)
    exact ⟨h8.dom hag,owns_baseF (owns_agree h8.j (fun x hx=>hag x (owns_ge h8.j x hx))) (by omega),owns_baseF (owns_agree h8.r (fun x hx=>hag x (owns_ge h8.r x hx))) (by omega),owns_baseF (owns_agree h8.e (fun x hx=>hag x (owns_ge h8.e x hx))) (by omega)⟩
   ·exact HB7.out.trans (belowK_b (w:=w) lr w7 Dd _ _ (by omega) hK7 rfl rfl)
end Go.Proofs.YtejhccmclanlmaaGreatDoor
