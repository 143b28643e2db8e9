/- Texts joined: Bn Bo Bp Bq. -/
import Derived.Test.YtejhccmclanlmaaGreatDoorK20
import Derived.Test.YtejhccmclanlmaaGreatDoorK51
set_option linter.unusedVariables false
set_option maxRecDepth 100000
namespace Go.Proofs.YtejhccmclanlmaaGreatDoor
open Go.RowKit
theorem any_filter {L:List ArrT} (p q:ArrT→Bool) (h:¬ L.any q=true):¬ (L.filter p).any q=true:=by
 intro h2
 obtain ⟨x,hx,hq⟩:=List.any_eq_true.1 h2
 exact h (List.any_eq_true.2 ⟨x,(List.mem_filter.1 hx).1,hq⟩)
theorem ckArr_filter {C:Conf} {L:List ArrT} (p:ArrT→Bool) (h:ckArr C L 0 0 0=0):ckArr C (L.filter p) 0 0 0=0:=by
 unfold ckArr at h ⊢
 split at h
 ·rename_i h1;exact absurd h h1
 ·rename_i h1
  split at h
  ·omega
  ·rename_i h2
   split at h
   ·omega
   ·rename_i h3
    split at h
    ·omega
    ·rename_i h4
     split at h
     ·omega
     ·rename_i h5
      split at h
      ·omega
      ·rename_i h6
       have h7:=List.length_filter_le p L
       rw [if_neg h1,if_neg h2,if_neg (by omega),if_neg (any_filter p _ h4),if_neg (any_filter p _ h5),if_neg h6,if_neg h6]
theorem ckScr_only {C:Conf} {S:ScrT} {n:Nat} (dom:Nat) (h:ckScr C S=0) (hn:C.d=(n:Int)):ckScr C (onlyT C n dom S)=0:=by
 unfold ckScr at h ⊢
 split at h
 ·rename_i h1;exact absurd h h1
 ·rename_i h1
  split at h
  ·omega
  ·rename_i h2
   split at h
   ·omega
   ·rename_i h3
    split at h
    ·rename_i h4;exact absurd h h4
    ·rename_i h4
     have h5:ckArr C (onlyT C n dom S).arr 0 0 0=0:=ckArr_filter _ (by omega)
     have hl:(onlyT C n dom S).acts.length=n:=by show ((List.range n).map _).length=n;simp
     rw [if_neg h1,if_neg (by rw [hl];omega),if_neg (show ¬ inR (onlyT C n dom S).rounds 0 8=false from h3),if_neg (by rw [h5];simp)]
     refine fe_zero _ _ fun i hi=>?_
     rw [hl] at hi
     have e:(onlyT C n dom S).acts.getD i []=if rbF C n dom i then S.acts.getD i [] else []:=by
      show ((List.range n).map _).getD i []=_
      simp [hi]
     rw [e]
     split
     ·exact fe_eq_zero h i (by omega)
     ·rfl
set_option maxHeartbeats 4000000 in
theorem alone_ok (C:Conf) (B:Mem) (S:ScrT) (M:SMem) (n dom:Nat) (w:World) (hC:ConfIn w B C) (hS:ScrIn w M S) (hsc:ckScr C S=0) (hn:C.d=(n:Int)) (hdom:dom<n) (hc5:C.sl.length≤B.c5) :
  Calls Tryz.prog 11 #[cv C B,sv S M,.int .i64 (dom:Int)] w fun e w'=>∃ A:DMem,e=.returned (.tuple #[dv ((machF C (ps (onlyT C n dom S))).1 dom) A,.int .i64 0])∧DomOn w.heap.size w' A ((machF C (ps (onlyT C n dom S))).1 dom)∧Below w.heap.size w w':=by
 have q1:=below_new w (.cells (cl C B) 27)
 have q2:=below_new (w.alloc (.cells (cl C B) 27)) (.cells (sl S M) 31)
 have q3:=below_new ((w.alloc (.cells (cl C B) 27)).alloc (.cells (sl S M) 31)) (.cells #[.slice none 0 0,.slice none 0 0,.int .i64 0,.slice none 0 0,.slice none 0 0,.slice none 0 0,.slice none 0 0] 46)
 have HCF:=hid (((hC.keep q1).keep q2).keep q3)
 have HSF:=hid (((hS.keep q1).keep q2).keep q3)
 have hX0:=((rowAt_new2 w w.heap.size (cl C B).toList 27 rfl).below q2 lr).below q3 lr
 have hX1:=(rowAt_new2 (w.alloc (.cells (cl C B) 27)) (w.heap.size+1) (sl S M).toList 31 (by simp)).below q3 lr
 have HX6:=hid (rowAt_new2 ((w.alloc (.cells (cl C B) 27)).alloc (.cells (sl S M) 31)) (w.heap.size+2) [.slice none 0 0,.slice none 0 0,.int .i64 0,.slice none 0 0,.slice none 0 0,.slice none 0 0,.slice none 0 0] 46 (by simp))
 have HB3:=hid (btrans q1 (btrans q2 q3))
 have HSZ3:Hid ((((w.alloc (.cells (cl C B) 27)).alloc (.cells (sl S M) 31)).alloc (.cells #[.slice none 0 0,.slice none 0 0,.int .i64 0,.slice none 0 0,.slice none 0 0,.slice none 0 0,.slice none 0 0] 46)).heap.size=w.heap.size+3):=hid (by simp)
 have CK:=hid (only_ok C B S M n dom _ HCF.out HSF.out hsc hn hdom)
 have HCO:=hid (ckScr_only dom hsc hn)
 have HN:=hid hn
 have HC5:=hid hc5
 clear q1 q2 q3 hC hS hsc hn hc5
 obtain ⟨a5,a6,a7,a8,c5,c6,c7,c8⟩:=B
 obtain ⟨aA,aR,cA,cR⟩:=M
 obtain ⟨LL,RR,rd⟩:=S
 dsimp only [cv,cl,sv,sl] at *
 have HX0:=hid hX0
 have g0:=hX0.cell 0 _ rfl
 have g1:=hX0.cell 1 _ rfl
 have g2:=hX0.cell 2 _ rfl
 have g3:=hX0.cell 3 _ rfl
 have g4:=hX0.cell 4 _ rfl
 have g5:=hX0.cell 5 _ rfl
 have g6:=hX0.cell 6 _ rfl
 have g7:=hX0.cell 7 _ rfl
 have g8:=hX0.cell 8 _ rfl
 have s0:=hX1.cell 0 _ rfl
 have s1:=hX1.cell 1 _ rfl
 have s2:=hX1.cell 2 _ rfl
 clear hX0 hX1
 go_enter Tryz.func11,Tryz.ntmps11
 go_wp2_with fail
 refine CK.out.mono ?_
 rintro e w1 ⟨M',rfl,hS0,hb1⟩
 have hS1:=hS0 w1 (Ext.refl _ _)
 clear hS0
 generalize World.alloc (World.alloc (World.alloc w _) _) _=W at *
 clear g0 g1 g2 g3 g4 g5 g6 g7 g8 s0 s1 s2 CK
 obtain ⟨T,HT⟩:∃ T,Hid (T=onlyT C n dom ⟨LL,RR,rd⟩):=⟨_,hid rfl⟩
 rw [← HT.out] at hS1 HCO ⊢
 obtain ⟨bA,bR,dA,dR⟩:=M'
 obtain ⟨LL',RR',rd'⟩:=T
 dsimp only at *
 have q4:=below_new w1 (.cells #[.slice bA LL'.length dA,.slice bR RR'.length dR,.int .i64 rd'] 31)
 have HB4:=hid (btrans HB3.out (btrans hb1 q4))
 have HC4:=hid ((HCF.out.keep hb1).keep q4)
 have HS4:=hid (hS1.keep q4)
 have R64:=hid ((HX6.out.below hb1 lr).below q4 lr)
 have hX0:=(HX0.out.below hb1 lr).below q4 lr
 have hX8:=rowAt_new2 w1 w1.heap.size [.slice bA LL'.length dA,.slice bR RR'.length dR,.int .i64 rd'] 31 rfl
 have HL4:Hid (w.heap.size+2<(w1.alloc (.cells #[.slice bA LL'.length dA,.slice bR RR'.length dR,.int .i64 rd'] 31)).heap.size):=hid (by have:=hb1.size;have:=q4.size;have:=HSZ3.out;omega)
 have g0:=hX0.cell 0 _ rfl
 have g1:=hX0.cell 1 _ rfl
 have g2:=hX0.cell 2 _ rfl
 have g3:=hX0.cell 3 _ rfl
 have g4:=hX0.cell 4 _ rfl
 have g5:=hX0.cell 5 _ rfl
 have g6:=hX0.cell 6 _ rfl
 have g7:=hX0.cell 7 _ rfl
 have g8:=hX0.cell 8 _ rfl
 have s0:=hX8.cell 0 _ rfl
 have s1:=hX8.cell 1 _ rfl
 have s2:=hX8.cell 2 _ rfl
 have CR:=hid (runApart_ok C ⟨a5,a6,a7,a8,c5,c6,c7,c8⟩ ⟨LL',RR',rd'⟩ ⟨bA,bR,dA,dR⟩ _ HC4.out HS4.out HCO.out HC5.out)
 dsimp only [cv,cl,sv,sl] at CR
 clear hX0 hX8 hb1 q4 hS1 HX0 HX6 HB3 HSZ3 HCF HSF
 go_wp2_with fail
 refine CR.out.mono ?_
 rintro e w5 ⟨gd,n',rfl,hout,hb5⟩
 generalize World.alloc w1 _=w3 at *
 clear g0 g1 g2 g3 g4 g5 g6 g7 g8 s0 s1 s2 CR
 obtain ⟨hn',As,hds⟩:=hout
 obtain rfl:n'=n:=by have:=HN.out;omega
 obtain ⟨hda,hdi⟩:=hds dom hdom
 have HB5:=hid (btrans HB4.out hb5)
 have R65:=hid (R64.out.below hb5 lr)
 obtain ⟨Dd,HDd⟩:∃ Dd,Hid (Dd=(machF C (ps ⟨LL',RR',rd'⟩)).1 dom):=⟨_,hid rfl⟩
 rw [← HDd.out] at hda hdi
 obtain ⟨Ad,HAd⟩:∃ Ad,Hid (Ad=As dom):=⟨_,hid rfl⟩
 rw [← HAd.out] at hda hdi
 have HDI:=hid hdi
 obtain ⟨c0,c1,c2,c3,c4,c5',c6'⟩:=hda
 obtain ⟨aJ,aR2,aI,aT,aO,aE,cJ,cR2,cI,cT,cO,cE⟩:=Ad
 dsimp only at *
 simp only [Nat.zero_add] at c0 c1 c2 c3 c4 c5' c6'
 have hd1:(dom:Int)<(n':Int):=by omega
 have hd0:(0:Int)≤(dom:Int):=by omega
 have hlow6:w.heap.size+1+1<w3.heap.size:=HL4.out
 have x0:w5.cell? ⟨w.heap.size+1+1,0,none⟩=some (.slice none 0 0):=R65.out.cell 0 _ rfl
 have f0:w5.frozen? ⟨w.heap.size+1+1,0,none⟩=false:=R65.out.frozen 0
 have x1:w5.cell? ⟨w.heap.size+1+1,1,none⟩=some (.slice none 0 0):=R65.out.cell 1 _ rfl
 have f1:w5.frozen? ⟨w.heap.size+1+1,1,none⟩=false:=R65.out.frozen 1
 have x2:w5.cell? ⟨w.heap.size+1+1,2,none⟩=some (.int .i64 0):=R65.out.cell 2 _ rfl
 have f2:w5.frozen? ⟨w.heap.size+1+1,2,none⟩=false:=R65.out.frozen 2
 have x3:w5.cell? ⟨w.heap.size+1+1,3,none⟩=some (.slice none 0 0):=R65.out.cell 3 _ rfl
 have f3:w5.frozen? ⟨w.heap.size+1+1,3,none⟩=false:=R65.out.frozen 3
 have x4:w5.cell? ⟨w.heap.size+1+1,4,none⟩=some (.slice none 0 0):=R65.out.cell 4 _ rfl
 have f4:w5.frozen? ⟨w.heap.size+1+1,4,none⟩=false:=R65.out.frozen 4
 have x5:w5.cell? ⟨w.heap.size+1+1,5,none⟩=some (.slice none 0 0):=R65.out.cell 5 _ rfl
 have f5:w5.frozen? ⟨w.heap.size+1+1,5,none⟩=false:=R65.out.frozen 5
 have x6:w5.cell? ⟨w.heap.size+1+1,6,none⟩=some (.slice none 0 0):=R65.out.cell 6 _ rfl
 have f6:w5.frozen? ⟨w.heap.size+1+1,6,none⟩=false:=R65.out.frozen 6
 have K0:Hid ((w5.setCell ⟨w.heap.size+1+1,0,none⟩ (.slice aJ Dd.jobs.length cJ)).cell? ⟨w.heap.size+1+1,0,none⟩=some (.slice aJ Dd.jobs.length cJ)):=hid ((rowAt_set1 R65.out 0 (.slice aJ Dd.jobs.length cJ)).cell 0 _ rfl)
 have K1:Hid (((w5.setCell ⟨w.heap.size+1+1,0,none⟩ (.slice aJ Dd.jobs.length cJ)).setCell ⟨w.heap.size+1+1,1,none⟩ (.slice aR2 Dd.rel.length cR2)).cell? ⟨w.heap.size+1+1,1,none⟩=some (.slice aR2 Dd.rel.length cR2)):=hid ((rowAt_set1 (rowAt_set1 R65.out 0 (.slice aJ Dd.jobs.length cJ)) 1 (.slice aR2 Dd.rel.length cR2)).cell 1 _ rfl)
 have K2:Hid ((((w5.setCell ⟨w.heap.size+1+1,0,none⟩ (.slice aJ Dd.jobs.length cJ)).setCell ⟨w.heap.size+1+1,1,none⟩ (.slice aR2 Dd.rel.length cR2)).setCell ⟨w.heap.size+1+1,2,none⟩ (.int .i64 Dd.nxt)).cell? ⟨w.heap.size+1+1,2,none⟩=some (.int .i64 Dd.nxt)):=hid ((rowAt_set1 (rowAt_set1 (rowAt_set1 R65.out 0 (.slice aJ Dd.jobs.length cJ)) 1 (.slice aR2 Dd.rel.length cR2)) 2 (.int .i64 Dd.nxt)).cell 2 _ rfl)
 have K3:Hid (((((w5.setCell ⟨w.heap.size+1+1,0,none⟩ (.slice aJ Dd.jobs.length cJ)).setCell ⟨w.heap.size+1+1,1,none⟩ (.slice aR2 Dd.rel.length cR2)).setCell ⟨w.heap.size+1+1,2,none⟩ (.int .i64 Dd.nxt)).setCell ⟨w.heap.size+1+1,3,none⟩ (.slice aI Dd.ins.length cI)).cell? ⟨w.heap.size+1+1,3,none⟩=some (.slice aI Dd.ins.length cI)):=hid ((rowAt_set1 (rowAt_set1 (rowAt_set1 (rowAt_set1 R65.out 0 (.slice aJ Dd.jobs.length cJ)) 1 (.slice aR2 Dd.rel.length cR2)) 2 (.int .i64 Dd.nxt)) 3 (.slice aI Dd.ins.length cI)).cell 3 _ rfl)
 have K4:Hid ((((((w5.setCell ⟨w.heap.size+1+1,0,none⟩ (.slice aJ Dd.jobs.length cJ)).setCell ⟨w.heap.size+1+1,1,none⟩ (.slice aR2 Dd.rel.length cR2)).setCell ⟨w.heap.size+1+1,2,none⟩ (.int .i64 Dd.nxt)).setCell ⟨w.heap.size+1+1,3,none⟩ (.slice aI Dd.ins.length cI)).setCell ⟨w.heap.size+1+1,4,none⟩ (.slice aT Dd.tak.length cT)).cell? ⟨w.heap.size+1+1,4,none⟩=some (.slice aT Dd.tak.length cT)):=hid ((rowAt_set1 (rowAt_set1 (rowAt_set1 (rowAt_set1 (rowAt_set1 R65.out 0 (.slice aJ Dd.jobs.length cJ)) 1 (.slice aR2 Dd.rel.length cR2)) 2 (.int .i64 Dd.nxt)) 3 (.slice aI Dd.ins.length cI)) 4 (.slice aT Dd.tak.length cT)).cell 4 _ rfl)
 have K5:Hid (((((((w5.setCell ⟨w.heap.size+1+1,0,none⟩ (.slice aJ Dd.jobs.length cJ)).setCell ⟨w.heap.size+1+1,1,none⟩ (.slice aR2 Dd.rel.length cR2)).setCell ⟨w.heap.size+1+1,2,none⟩ (.int .i64 Dd.nxt)).setCell ⟨w.heap.size+1+1,3,none⟩ (.slice aI Dd.ins.length cI)).setCell ⟨w.heap.size+1+1,4,none⟩ (.slice aT Dd.tak.length cT)).setCell ⟨w.heap.size+1+1,5,none⟩ (.slice aO Dd.out.length cO)).cell? ⟨w.heap.size+1+1,5,none⟩=some (.slice aO Dd.out.length cO)):=hid ((rowAt_set1 (rowAt_set1 (rowAt_set1 (rowAt_set1 (rowAt_set1 (rowAt_set1 R65.out 0 (.slice aJ Dd.jobs.length cJ)) 1 (.slice aR2 Dd.rel.length cR2)) 2 (.int .i64 Dd.nxt)) 3 (.slice aI Dd.ins.length cI)) 4 (.slice aT Dd.tak.length cT)) 5 (.slice aO Dd.out.length cO)).cell 5 _ rfl)
 have K6:Hid ((((((((w5.setCell ⟨w.heap.size+1+1,0,none⟩ (.slice aJ Dd.jobs.length cJ)).setCell ⟨w.heap.size+1+1,1,none⟩ (.slice aR2 Dd.rel.length cR2)).setCell ⟨w.heap.size+1+1,2,none⟩ (.int .i64 Dd.nxt)).setCell ⟨w.heap.size+1+1,3,none⟩ (.slice aI Dd.ins.length cI)).setCell ⟨w.heap.size+1+1,4,none⟩ (.slice aT Dd.tak.length cT)).setCell ⟨w.heap.size+1+1,5,none⟩ (.slice aO Dd.out.length cO)).setCell ⟨w.heap.size+1+1,6,none⟩ (.slice aE Dd.evs.length cE)).cell? ⟨w.heap.size+1+1,6,none⟩=some (.slice aE Dd.evs.length cE)):=hid ((rowAt_set1 (rowAt_set1 (rowAt_set1 (rowAt_set1 (rowAt_set1 (rowAt_set1 (rowAt_set1 R65.out 0 (.slice aJ Dd.jobs.length cJ)) 1 (.slice aR2 Dd.rel.length cR2)) 2 (.int .i64 Dd.nxt)) 3 (.slice aI Dd.ins.length cI)) 4 (.slice aT Dd.tak.length cT)) 5 (.slice aO Dd.out.length cO)) 6 (.slice aE Dd.evs.length cE)).cell 6 _ rfl)
 have HFb:=hid (((((((HB5.out.setCell (p:=⟨w.heap.size+1+1,0,none⟩) (show w.heap.size≤w.heap.size+1+1 by omega) (.slice aJ Dd.jobs.length cJ)).setCell (p:=⟨w.heap.size+1+1,1,none⟩) (show w.heap.size≤w.heap.size+1+1 by omega) (.slice aR2 Dd.rel.length cR2)).setCell (p:=⟨w.heap.size+1+1,2,none⟩) (show w.heap.size≤w.heap.size+1+1 by omega) (.int .i64 Dd.nxt)).setCell (p:=⟨w.heap.size+1+1,3,none⟩) (show w.heap.size≤w.heap.size+1+1 by omega) (.slice aI Dd.ins.length cI)).setCell (p:=⟨w.heap.size+1+1,4,none⟩) (show w.heap.size≤w.heap.size+1+1 by omega) (.slice aT Dd.tak.length cT)).setCell (p:=⟨w.heap.size+1+1,5,none⟩) (show w.heap.size≤w.heap.size+1+1 by omega) (.slice aO Dd.out.length cO)).setCell (p:=⟨w.heap.size+1+1,6,none⟩) (show w.heap.size≤w.heap.size+1+1 by omega) (.slice aE Dd.evs.length cE))
 have HFd:Hid (DomOn w.heap.size (((((((w5.setCell ⟨w.heap.size+1+1,0,none⟩ (.slice aJ Dd.jobs.length cJ)).setCell ⟨w.heap.size+1+1,1,none⟩ (.slice aR2 Dd.rel.length cR2)).setCell ⟨w.heap.size+1+1,2,none⟩ (.int .i64 Dd.nxt)).setCell ⟨w.heap.size+1+1,3,none⟩ (.slice aI Dd.ins.length cI)).setCell ⟨w.heap.size+1+1,4,none⟩ (.slice aT Dd.tak.length cT)).setCell ⟨w.heap.size+1+1,5,none⟩ (.slice aO Dd.out.length cO)).setCell ⟨w.heap.size+1+1,6,none⟩ (.slice aE Dd.evs.length cE)) ⟨aJ,aR2,aI,aT,aO,aE,cJ,cR2,cI,cT,cO,cE⟩ Dd):=hid fun wx hx=>HDI.out wx (((((((((Ext.refl _ _).trans (Ext.set (X:=fun x=>x<w3.heap.size) _ hlow6 0 (.slice aJ Dd.jobs.length cJ))).trans (Ext.set (X:=fun x=>x<w3.heap.size) _ hlow6 1 (.slice aR2 Dd.rel.length cR2))).trans (Ext.set (X:=fun x=>x<w3.heap.size) _ hlow6 2 (.int .i64 Dd.nxt))).trans (Ext.set (X:=fun x=>x<w3.heap.size) _ hlow6 3 (.slice aI Dd.ins.length cI))).trans (Ext.set (X:=fun x=>x<w3.heap.size) _ hlow6 4 (.slice aT Dd.tak.length cT))).trans (Ext.set (X:=fun x=>x<w3.heap.size) _ hlow6 5 (.slice aO Dd.out.length cO))).trans (Ext.set (X:=fun x=>x<w3.heap.size) _ hlow6 6 (.slice aE Dd.evs.length cE))).trans (hx.wider fun k hk=>by show k<w3.heap.size;omega))
 clear hds hdi hn' hb5 hlow6 HB4 HC4 HS4 R64
 go_wp2
 refine bodyPost_ret (v:=.tuple #[.agg #[.slice aJ Dd.jobs.length cJ,.slice aR2 Dd.rel.length cR2,.int .i64 Dd.nxt,.slice aI Dd.ins.length cI,.slice aT Dd.tak.length cT,.slice aO Dd.out.length cO,.slice aE Dd.evs.length cE],.int .i64 0]) (by simp [results,Tryz.results11,go_sem,K0.out,K1.out,K2.out,K3.out,K4.out,K5.out,K6.out]) rfl ⟨⟨aJ,aR2,aI,aT,aO,aE,cJ,cR2,cI,cT,cO,cE⟩,?_,?_,?_⟩
 ·rw [← HT.out,← HDd.out]
 ·rw [← HT.out,← HDd.out]
  exact HFd.out
 ·exact HFb.out
set_option maxHeartbeats 2000000 in
theorem sameDomains_nil (w:World):Calls Tryz.prog 10 #[.slice none 0 0,.slice none 0 0] w fun e w'=>e=.returned (.bool true)∧Below w.heap.size w w':=by
 have HB:=hid (Below.refl w.heap.size w)
 go_enter Tryz.func10,Tryz.ntmps10
 go_wp2
 go_loopw [5] (fun i wr=>i=.int .i64 0∧wr=w) (fun _ _=>0)
 case atStart=>exact ⟨rfl,rfl⟩
 case round=>
  obtain ⟨rfl,rfl⟩:=hrel
  go_wp2
  go_ret
  exact ⟨rfl,HB.out⟩
def Begun (f:FuncId):Prop:=∀ w:World,Calls Tryz.prog f #[] w fun e w'=>e=.returned (.bool true)∧Below w.heap.size w w'
set_option maxHeartbeats 4000000 in
theorem same_ok (hA:Begun 6) (hE:Begun 7) (C:Conf) (B:Mem) (S:ScrT) (M:SMem) (w:World) (hC:ConfIn w B C) (hS:ScrIn w M S) (hsc:ckScr C S=0) (hc5:C.sl.length≤B.c5) :
  Calls Tryz.prog 3 #[cv C B,sv S M] w fun e w'=>e=.returned (.bool true)∧Below w.heap.size w w':=by
 have q1:=below_new w (.cells (cl C B) 27)
 have q2:=below_new (w.alloc (.cells (cl C B) 27)) (.cells (sl S M) 31)
 have HC:=hid ((hC.keep q1).keep q2)
 have HS:=hid ((hS.keep q1).keep q2)
 have HB:=hid (btrans q1 q2)
 have X0:=hid ((rowAt_new2 w w.heap.size (cl C B).toList 27 rfl).below q2 lr)
 have X1:=hid (rowAt_new2 (w.alloc (.cells (cl C B) 27)) (w.heap.size+1) (sl S M).toList 31 (by simp))
 have HSC:=hid hsc
 have HC5:=hid hc5
 have hn4:Hid (C.d≤4):=hid (by have:=(conf_nums (scr_ok hsc).1.cfg).2.2.2;omega)
 clear q1 q2 hC hS hsc hc5
 obtain ⟨a5,a6,a7,a8,c5,c6,c7,c8⟩:=B
 obtain ⟨aA,aR,cA,cR⟩:=M
 obtain ⟨LL,RR,rd⟩:=S
 dsimp only [cv,cl,sv,sl] at *
 go_enter Tryz.func3,Tryz.ntmps3
 go_wp2_with fail
 refine (hA _).mono ?_
 rintro e w1 ⟨rfl,hb1⟩
 generalize World.alloc (World.alloc w _) _=W at *
 have HB1:=hid (btrans HB.out hb1)
 have HC1:=hid (HC.out.keep hb1)
 have HS1:=hid (HS.out.keep hb1)
 have Y10:=hid (X0.out.below hb1 lr)
 have Y11:=hid (X1.out.below hb1 lr)
 clear hb1 HB HC HS X0 X1
 go_wp2_with fail
 refine (hE _).mono ?_
 rintro e w2 ⟨rfl,hb2⟩
 have HB2:=hid (btrans HB1.out hb2)
 have HC2:=hid (HC1.out.keep hb2)
 have HS2:=hid (HS1.out.keep hb2)
 have Y20:=hid (Y10.out.below hb2 lr)
 have Y21:=hid (Y11.out.below hb2 lr)
 clear hb2 HB1 HC1 HS1 Y10 Y11
 have g0:=Y20.out.cell 0 _ rfl
 have g1:=Y20.out.cell 1 _ rfl
 have g2:=Y20.out.cell 2 _ rfl
 have g3:=Y20.out.cell 3 _ rfl
 have g4:=Y20.out.cell 4 _ rfl
 have g5:=Y20.out.cell 5 _ rfl
 have g6:=Y20.out.cell 6 _ rfl
 have g7:=Y20.out.cell 7 _ rfl
 have g8:=Y20.out.cell 8 _ rfl
 have s0:=Y21.out.cell 0 _ rfl
 have s1:=Y21.out.cell 1 _ rfl
 have s2:=Y21.out.cell 2 _ rfl
 have CE:=hid (runExec_ok C ⟨a5,a6,a7,a8,c5,c6,c7,c8⟩ ⟨LL,RR,rd⟩ ⟨aA,aR,cA,cR⟩ w2 HC2.out HS2.out HSC.out HC5.out)
 dsimp only [cv,cl,sv,sl] at CE
 go_wp2_with fail
 refine CE.out.mono ?_
 rintro e w3 ⟨gd,n,rfl,hout,hb3⟩
 have HB3:=hid (btrans HB2.out hb3)
 have HC3:=hid (HC2.out.keep hb3)
 have HS3:=hid (HS2.out.keep hb3)
 have Y30:=hid (Y20.out.below hb3 lr)
 have Y31:=hid (Y21.out.below hb3 lr)
 obtain ⟨hn,As,hds⟩:=hout
 have HN:=hid hn
 have HDS:=hid hds
 clear g0 g1 g2 g3 g4 g5 g6 g7 g8 s0 s1 s2 CE
 clear hb3 HB2 HC2 HS2 Y20 Y21 hn hds
 have g0:=Y30.out.cell 0 _ rfl
 have g1:=Y30.out.cell 1 _ rfl
 have g2:=Y30.out.cell 2 _ rfl
 have g3:=Y30.out.cell 3 _ rfl
 have g4:=Y30.out.cell 4 _ rfl
 have g5:=Y30.out.cell 5 _ rfl
 have g6:=Y30.out.cell 6 _ rfl
 have g7:=Y30.out.cell 7 _ rfl
 have g8:=Y30.out.cell 8 _ rfl
 have s0:=Y31.out.cell 0 _ rfl
 have s1:=Y31.out.cell 1 _ rfl
 have s2:=Y31.out.cell 2 _ rfl
 have CA:=hid (runApart_ok C ⟨a5,a6,a7,a8,c5,c6,c7,c8⟩ ⟨LL,RR,rd⟩ ⟨aA,aR,cA,cR⟩ w3 HC3.out HS3.out HSC.out HC5.out)
 dsimp only [cv,cl,sv,sl] at CA
 go_wp2_with fail
 refine CA.out.mono ?_
 rintro e w4 ⟨gd',n',rfl,hout,hb4⟩
 obtain ⟨hn',As',hds'⟩:=hout.out
 obtain rfl:n'=n:=by have:=HN.out;omega
 have HB4:=hid (btrans HB3.out hb4)
 have CD:=hid (sameDomains_true gd 0 n' gd' 0 n' n' _ As As' w4 (HDS.out.keep hb4) hds' (by have:=HN.out;have:=hn4.out;omega))
 clear g0 g1 g2 g3 g4 g5 g6 g7 g8 s0 s1 s2 CA
 clear hout hn' hds' hb4 HB3 HC3 HS3 Y30 Y31
 go_wp2_with fail
 refine CD.out.mono ?_
 rintro e w5 ⟨rfl,hb5⟩
 have HB5:=hid (btrans HB4.out hb5)
 clear hb5 HB4 CD
 go_wp2
 go_ret
 exact ⟨rfl,HB5.out⟩
set_option maxHeartbeats 4000000 in
theorem same_bad (hA:Begun 6) (hE:Begun 7) (C:Conf) (B:Mem) (S:ScrT) (M:SMem) (w:World) (hC:ConfIn w B C) (hS:ScrIn w M S) (hsc:ckScr C S≠0) :
  Calls Tryz.prog 3 #[cv C B,sv S M] w fun e w'=>e=.returned (.bool true)∧Below w.heap.size w w':=by
 have q1:=below_new w (.cells (cl C B) 27)
 have q2:=below_new (w.alloc (.cells (cl C B) 27)) (.cells (sl S M) 31)
 have HC:=hid ((hC.keep q1).keep q2)
 have HS:=hid ((hS.keep q1).keep q2)
 have HB:=hid (btrans q1 q2)
 have X0:=hid ((rowAt_new2 w w.heap.size (cl C B).toList 27 rfl).below q2 lr)
 have X1:=hid (rowAt_new2 (w.alloc (.cells (cl C B) 27)) (w.heap.size+1) (sl S M).toList 31 (by simp))
 have HSC:=hid hsc
 clear q1 q2 hC hS hsc
 obtain ⟨a5,a6,a7,a8,c5,c6,c7,c8⟩:=B
 obtain ⟨aA,aR,cA,cR⟩:=M
 obtain ⟨LL,RR,rd⟩:=S
 dsimp only [cv,cl,sv,sl] at *
 go_enter Tryz.func3,Tryz.ntmps3
 go_wp2_with fail
 refine (hA _).mono ?_
 rintro e w1 ⟨rfl,hb1⟩
 generalize World.alloc (World.alloc w _) _=W at *
 have HB1:=hid (btrans HB.out hb1)
 have HC1:=hid (HC.out.keep hb1)
 have HS1:=hid (HS.out.keep hb1)
 have Y10:=hid (X0.out.below hb1 lr)
 have Y11:=hid (X1.out.below hb1 lr)
 clear hb1 HB HC HS X0 X1
 go_wp2_with fail
 refine (hE _).mono ?_
 rintro e w2 ⟨rfl,hb2⟩
 have HB2:=hid (btrans HB1.out hb2)
 have HC2:=hid (HC1.out.keep hb2)
 have HS2:=hid (HS1.out.keep hb2)
 have Y20:=hid (Y10.out.below hb2 lr)
 have Y21:=hid (Y11.out.below hb2 lr)
 clear hb2 HB1 HC1 HS1 Y10 Y11
 have g0:=Y20.out.cell 0 _ rfl
 have g1:=Y20.out.cell 1 _ rfl
 have g2:=Y20.out.cell 2 _ rfl
 have g3:=Y20.out.cell 3 _ rfl
 have g4:=Y20.out.cell 4 _ rfl
 have g5:=Y20.out.cell 5 _ rfl
 have g6:=Y20.out.cell 6 _ rfl
 have g7:=Y20.out.cell 7 _ rfl
 have g8:=Y20.out.cell 8 _ rfl
 have s0:=Y21.out.cell 0 _ rfl
 have s1:=Y21.out.cell 1 _ rfl
 have s2:=Y21.out.cell 2 _ rfl
 have CE:=hid (runExec_bad C ⟨a5,a6,a7,a8,c5,c6,c7,c8⟩ ⟨LL,RR,rd⟩ ⟨aA,aR,cA,cR⟩ w2 HC2.out HS2.out HSC.out)
 dsimp only [cv,cl,sv,sl] at CE
 go_wp2_with fail
 refine CE.out.mono ?_
 rintro e w3 ⟨rfl,hb3⟩
 have HB3:=hid (btrans HB2.out hb3)
 have HC3:=hid (HC2.out.keep hb3)
 have HS3:=hid (HS2.out.keep hb3)
 have Y30:=hid (Y20.out.below hb3 lr)
 have Y31:=hid (Y21.out.below hb3 lr)
 clear g0 g1 g2 g3 g4 g5 g6 g7 g8 s0 s1 s2 CE
 clear hb3 HB2 HC2 HS2 Y20 Y21
 have g0:=Y30.out.cell 0 _ rfl
 have g1:=Y30.out.cell 1 _ rfl
 have g2:=Y30.out.cell 2 _ rfl
 have g3:=Y30.out.cell 3 _ rfl
 have g4:=Y30.out.cell 4 _ rfl
 have g5:=Y30.out.cell 5 _ rfl
 have g6:=Y30.out.cell 6 _ rfl
 have g7:=Y30.out.cell 7 _ rfl
 have g8:=Y30.out.cell 8 _ rfl
 have s0:=Y31.out.cell 0 _ rfl
 have s1:=Y31.out.cell 1 _ rfl
 have s2:=Y31.out.cell 2 _ rfl
 have CA:=hid (runApart_bad C ⟨a5,a6,a7,a8,c5,c6,c7,c8⟩ ⟨LL,RR,rd⟩ ⟨aA,aR,cA,cR⟩ w3 HC3.out HS3.out HSC.out)
 dsimp only [cv,cl,sv,sl] at CA
 go_wp2_with fail
 refine CA.out.mono ?_
 rintro e w4 ⟨rfl,hb4⟩
 have HB4:=hid (btrans HB3.out hb4)
 obtain ⟨q,HQ⟩:∃ q,Hid (q=ckScr C ⟨LL,RR,rd⟩):=⟨_,hid rfl⟩
 rw [← HQ.out]
 have hq0:¬ q=0:=by rw [HQ.out];exact HSC.out
 have CD:=hid (sameDomains_nil w4)
 clear g0 g1 g2 g3 g4 g5 g6 g7 g8 s0 s1 s2 CA
 clear hb4 HB3 HC3 HS3 Y30 Y31
 go_wp2_with fail
 refine CD.out.mono ?_
 rintro e w5 ⟨rfl,hb5⟩
 have HB5:=hid (btrans HB4.out hb5)
 clear hb5 HB4 CD
 go_wp2
 go_ret
 exact ⟨rfl,HB5.out⟩
theorem ch_dom {C:Conf} {n:Nat} (hC:ckC C=0) (hn:C.d=(n:Int)):∀ x∈C.ch,x.1.toNat<n∧x.2.1.toNat<n:=by
 intro x hx
 obtain ⟨i,hi,rfl⟩:=List.getElem_of_mem hx
 have h:=fe_eq_zero (ck_ok hC).2.2.2.2.2.1 i hi
 unfold ckCh at h
 rw [List.getElem?_eq_getElem hi] at h
 dsimp only at h
 split at h
 ·rename_i h1
  simp [isD,inR] at h1
  omega
 ·omega
theorem rb_iff {C:Conf} {n dom:Nat} (hC:ckC C=0) (hn:C.d=(n:Int)) (hdom:dom<n) (i:Nat):rbF C n dom i=true↔Rch C.ch i dom:=rows_reach C.ch n (ch_dom hC hn) i dom hdom
theorem rb_back {C:Conf} {n dom:Nat} (hC:ckC C=0) (hn:C.d=(n:Int)) (hdom:dom<n):∀ c,c<C.ch.length→rbF C n dom (chT C c)=true→rbF C n dom (chF C c)=true:=by
 intro c hc h
 rw [rb_iff hC hn hdom] at h ⊢
 unfold chT at h
 unfold chF
 refine Rch.head _ ?_ h
 simp [List.getD,hc]
theorem alone_same {C:Conf} {S:ScrT} {n dom:Nat} (hC:ckC C=0) (hn:C.d=(n:Int)) (hdom:dom<n) (hl:S.acts.length=n):(machF C (ps (onlyT C n dom S))).1 dom=(machF C (ps S)).1 dom:=
 ((machF_agree (R:=fun i=>rbF C n dom i=true) (rb_back hC hn hdom) (only_same (rb:=rbF C n dom) (n:=n) (S:=ps S) hl)) dom ((rb_iff hC hn hdom dom).2 (Rch.refl _ _))).1
set_option maxHeartbeats 4000000 in
theorem alone_bad (hA:Begun 6) (hE:Begun 7) (C:Conf) (B:Mem) (S:ScrT) (M:SMem) (dn:Int) (w:World) (hC:ConfIn w B C) (hS:ScrIn w M S) (hsc:ckScr C S≠0) :
  Calls Tryz.prog 4 #[cv C B,sv S M,.int .i64 dn] w fun e w'=>e=.returned (.bool true)∧Below w.heap.size w w':=by
 have q1:=below_new w (.cells (cl C B) 27)
 have q2:=below_new (w.alloc (.cells (cl C B) 27)) (.cells (sl S M) 31)
 have HC:=hid ((hC.keep q1).keep q2)
 have HS:=hid ((hS.keep q1).keep q2)
 have HB:=hid (btrans q1 q2)
 have X0:=hid ((rowAt_new2 w w.heap.size (cl C B).toList 27 rfl).below q2 lr)
 have X1:=hid (rowAt_new2 (w.alloc (.cells (cl C B) 27)) (w.heap.size+1) (sl S M).toList 31 (by simp))
 have HSC:=hid hsc
 clear q1 q2 hC hS hsc
 obtain ⟨a5,a6,a7,a8,c5,c6,c7,c8⟩:=B
 obtain ⟨aA,aR,cA,cR⟩:=M
 obtain ⟨LL,RR,rd⟩:=S
 dsimp only [cv,cl,sv,sl] at *
 go_enter Tryz.func4,Tryz.ntmps4
 go_wp2_with fail
 refine (hA _).mono ?_
 rintro e w1 ⟨rfl,hb1⟩
 generalize World.alloc (World.alloc w _) _=W at *
 have HB1:=hid (btrans HB.out hb1)
 have HC1:=hid (HC.out.keep hb1)
 have HS1:=hid (HS.out.keep hb1)
 have Y10:=hid (X0.out.below hb1 lr)
 have Y11:=hid (X1.out.below hb1 lr)
 clear hb1 HB HC HS X0 X1
 go_wp2_with fail
 refine (hE _).mono ?_
 rintro e w2 ⟨rfl,hb2⟩
 have HB2:=hid (btrans HB1.out hb2)
 have HC2:=hid (HC1.out.keep hb2)
 have HS2:=hid (HS1.out.keep hb2)
 have Y20:=hid (Y10.out.below hb2 lr)
 have Y21:=hid (Y11.out.below hb2 lr)
 clear hb2 HB1 HC1 HS1 Y10 Y11
 have g0:=Y20.out.cell 0 _ rfl
 have g1:=Y20.out.cell 1 _ rfl
 have g2:=Y20.out.cell 2 _ rfl
 have g3:=Y20.out.cell 3 _ rfl
 have g4:=Y20.out.cell 4 _ rfl
 have g5:=Y20.out.cell 5 _ rfl
 have g6:=Y20.out.cell 6 _ rfl
 have g7:=Y20.out.cell 7 _ rfl
 have g8:=Y20.out.cell 8 _ rfl
 have s0:=Y21.out.cell 0 _ rfl
 have s1:=Y21.out.cell 1 _ rfl
 have s2:=Y21.out.cell 2 _ rfl
 have CE:=hid (runExec_bad C ⟨a5,a6,a7,a8,c5,c6,c7,c8⟩ ⟨LL,RR,rd⟩ ⟨aA,aR,cA,cR⟩ w2 HC2.out HS2.out HSC.out)
 dsimp only [cv,cl,sv,sl] at CE
 go_wp2_with fail
 refine CE.out.mono ?_
 rintro e w3 ⟨rfl,hb3⟩
 have HB3:=hid (btrans HB2.out hb3)
 obtain ⟨q,HQ⟩:∃ q,Hid (q=ckScr C ⟨LL,RR,rd⟩):=⟨_,hid rfl⟩
 rw [← HQ.out]
 have hq0:¬ q=0:=by rw [HQ.out];exact HSC.out
 clear g0 g1 g2 g3 g4 g5 g6 g7 g8 s0 s1 s2 CE
 clear hb3 HB2 HC2 HS2 Y20 Y21
 go_wp2
 go_ret
 exact ⟨rfl,HB3.out⟩
set_option maxHeartbeats 4000000 in
theorem alone_out (hA:Begun 6) (hE:Begun 7) (C:Conf) (B:Mem) (S:ScrT) (M:SMem) (dn:Int) (w:World) (hC:ConfIn w B C) (hS:ScrIn w M S) (hsc:ckScr C S=0) (hc5:C.sl.length≤B.c5) (hd:dn<0∨C.d≤dn) :
  Calls Tryz.prog 4 #[cv C B,sv S M,.int .i64 dn] w fun e w'=>e=.returned (.bool true)∧Below w.heap.size w w':=by
 have q1:=below_new w (.cells (cl C B) 27)
 have q2:=below_new (w.alloc (.cells (cl C B) 27)) (.cells (sl S M) 31)
 have HC:=hid ((hC.keep q1).keep q2)
 have HS:=hid ((hS.keep q1).keep q2)
 have HB:=hid (btrans q1 q2)
 have X0:=hid ((rowAt_new2 w w.heap.size (cl C B).toList 27 rfl).below q2 lr)
 have X1:=hid (rowAt_new2 (w.alloc (.cells (cl C B) 27)) (w.heap.size+1) (sl S M).toList 31 (by simp))
 have HSC:=hid hsc
 have HC5:=hid hc5
 have HD:=hid hd
 clear q1 q2 hC hS hsc hc5 hd
 obtain ⟨a5,a6,a7,a8,c5,c6,c7,c8⟩:=B
 obtain ⟨aA,aR,cA,cR⟩:=M
 obtain ⟨LL,RR,rd⟩:=S
 dsimp only [cv,cl,sv,sl] at *
 go_enter Tryz.func4,Tryz.ntmps4
 go_wp2_with fail
 refine (hA _).mono ?_
 rintro e w1 ⟨rfl,hb1⟩
 generalize World.alloc (World.alloc w _) _=W at *
 have HB1:=hid (btrans HB.out hb1)
 have HC1:=hid (HC.out.keep hb1)
 have HS1:=hid (HS.out.keep hb1)
 have Y10:=hid (X0.out.below hb1 lr)
 have Y11:=hid (X1.out.below hb1 lr)
 clear hb1 HB HC HS X0 X1
 go_wp2_with fail
 refine (hE _).mono ?_
 rintro e w2 ⟨rfl,hb2⟩
 have HB2:=hid (btrans HB1.out hb2)
 have HC2:=hid (HC1.out.keep hb2)
 have HS2:=hid (HS1.out.keep hb2)
 have Y20:=hid (Y10.out.below hb2 lr)
 have Y21:=hid (Y11.out.below hb2 lr)
 clear hb2 HB1 HC1 HS1 Y10 Y11
 have g0:=Y20.out.cell 0 _ rfl
 have g1:=Y20.out.cell 1 _ rfl
 have g2:=Y20.out.cell 2 _ rfl
 have g3:=Y20.out.cell 3 _ rfl
 have g4:=Y20.out.cell 4 _ rfl
 have g5:=Y20.out.cell 5 _ rfl
 have g6:=Y20.out.cell 6 _ rfl
 have g7:=Y20.out.cell 7 _ rfl
 have g8:=Y20.out.cell 8 _ rfl
 have s0:=Y21.out.cell 0 _ rfl
 have s1:=Y21.out.cell 1 _ rfl
 have s2:=Y21.out.cell 2 _ rfl
 have CE:=hid (runExec_ok C ⟨a5,a6,a7,a8,c5,c6,c7,c8⟩ ⟨LL,RR,rd⟩ ⟨aA,aR,cA,cR⟩ w2 HC2.out HS2.out HSC.out HC5.out)
 dsimp only [cv,cl,sv,sl] at CE
 go_wp2_with fail
 refine CE.out.mono ?_
 rintro e w3 ⟨gd,n,rfl,hout,hb3⟩
 have HB3:=hid (btrans HB2.out hb3)
 have HC3:=hid (HC2.out.keep hb3)
 have HS3:=hid (HS2.out.keep hb3)
 have Y30:=hid (Y20.out.below hb3 lr)
 have Y31:=hid (Y21.out.below hb3 lr)
 obtain ⟨hn,As,hds⟩:=hout
 have HN:=hid hn
 have HDS:=hid hds
 clear g0 g1 g2 g3 g4 g5 g6 g7 g8 s0 s1 s2 CE
 clear hb3 HB2 HC2 HS2 Y20 Y21 hn hds
 have g2:=Y30.out.cell 2 _ rfl
 by_cases h0:dn<0
 ·go_wp2
  go_ret
  exact ⟨rfl,HB3.out⟩
 ·have h1:C.d≤dn:=by have:=HD.out;omega
  have h0':0≤dn:=by omega
  go_wp2
  go_ret
  exact ⟨rfl,HB3.out⟩
set_option maxHeartbeats 8000000 in
theorem alone_in (hA:Begun 6) (hE:Begun 7) (C:Conf) (B:Mem) (S:ScrT) (M:SMem) (dom:Nat) (w:World) (hC:ConfIn w B C) (hS:ScrIn w M S) (hsc:ckScr C S=0) (hc5:C.sl.length≤B.c5) (hd:(dom:Int)<C.d) :
  Calls Tryz.prog 4 #[cv C B,sv S M,.int .i64 (dom:Int)] w fun e w'=>e=.returned (.bool true)∧Below w.heap.size w w':=by
 have q1:=below_new w (.cells (cl C B) 27)
 have q2:=below_new (w.alloc (.cells (cl C B) 27)) (.cells (sl S M) 31)
 have HC:=hid ((hC.keep q1).keep q2)
 have HS:=hid ((hS.keep q1).keep q2)
 have HB:=hid (btrans q1 q2)
 have X0:=hid ((rowAt_new2 w w.heap.size (cl C B).toList 27 rfl).below q2 lr)
 have X1:=hid (rowAt_new2 (w.alloc (.cells (cl C B) 27)) (w.heap.size+1) (sl S M).toList 31 (by simp))
 have HSC:=hid hsc
 have HC5:=hid hc5
 have HD:=hid hd
 have HCF:=hid (scr_ok hsc).1.cfg
 have HLE:=hid (scr_ok hsc).2.1
 clear q1 q2 hC hS hsc hc5 hd
 obtain ⟨a5,a6,a7,a8,c5,c6,c7,c8⟩:=B
 obtain ⟨aA,aR,cA,cR⟩:=M
 obtain ⟨LL,RR,rd⟩:=S
 dsimp only [cv,cl,sv,sl] at *
 go_enter Tryz.func4,Tryz.ntmps4
 go_wp2_with fail
 refine (hA _).mono ?_
 rintro e w1 ⟨rfl,hb1⟩
 generalize World.alloc (World.alloc w _) _=W at *
 have HB1:=hid (btrans HB.out hb1)
 have HC1:=hid (HC.out.keep hb1)
 have HS1:=hid (HS.out.keep hb1)
 have Y10:=hid (X0.out.below hb1 lr)
 have Y11:=hid (X1.out.below hb1 lr)
 clear hb1 HB HC HS X0 X1
 go_wp2_with fail
 refine (hE _).mono ?_
 rintro e w2 ⟨rfl,hb2⟩
 have HB2:=hid (btrans HB1.out hb2)
 have HC2:=hid (HC1.out.keep hb2)
 have HS2:=hid (HS1.out.keep hb2)
 have Y20:=hid (Y10.out.below hb2 lr)
 have Y21:=hid (Y11.out.below hb2 lr)
 clear hb2 HB1 HC1 HS1 Y10 Y11
 have g0:=Y20.out.cell 0 _ rfl
 have g1:=Y20.out.cell 1 _ rfl
 have g2:=Y20.out.cell 2 _ rfl
 have g3:=Y20.out.cell 3 _ rfl
 have g4:=Y20.out.cell 4 _ rfl
 have g5:=Y20.out.cell 5 _ rfl
 have g6:=Y20.out.cell 6 _ rfl
 have g7:=Y20.out.cell 7 _ rfl
 have g8:=Y20.out.cell 8 _ rfl
 have s0:=Y21.out.cell 0 _ rfl
 have s1:=Y21.out.cell 1 _ rfl
 have s2:=Y21.out.cell 2 _ rfl
 have CE:=hid (runExec_ok C ⟨a5,a6,a7,a8,c5,c6,c7,c8⟩ ⟨LL,RR,rd⟩ ⟨aA,aR,cA,cR⟩ w2 HC2.out HS2.out HSC.out HC5.out)
 dsimp only [cv,cl,sv,sl] at CE
 go_wp2_with fail
 refine CE.out.mono ?_
 rintro e w3 ⟨gd,n,rfl,hout,hb3⟩
 have HB3:=hid (btrans HB2.out hb3)
 have HC3:=hid (HC2.out.keep hb3)
 have HS3:=hid (HS2.out.keep hb3)
 have Y30:=hid (Y20.out.below hb3 lr)
 have Y31:=hid (Y21.out.below hb3 lr)
 obtain ⟨hn,As,hds⟩:=hout
 have HN:=hid hn
 have HDS:=hid hds
 clear g0 g1 g2 g3 g4 g5 g6 g7 g8 s0 s1 s2 CE
 clear hb3 HB2 HC2 HS2 Y20 Y21 hn hds
 have g0:=Y30.out.cell 0 _ rfl
 have g1:=Y30.out.cell 1 _ rfl
 have g2:=Y30.out.cell 2 _ rfl
 have g3:=Y30.out.cell 3 _ rfl
 have g4:=Y30.out.cell 4 _ rfl
 have g5:=Y30.out.cell 5 _ rfl
 have g6:=Y30.out.cell 6 _ rfl
 have g7:=Y30.out.cell 7 _ rfl
 have g8:=Y30.out.cell 8 _ rfl
 have s0:=Y31.out.cell 0 _ rfl
 have s1:=Y31.out.cell 1 _ rfl
 have s2:=Y31.out.cell 2 _ rfl
 have hlt:(dom:Int)<C.d:=HD.out
 have hnl:¬ C.d≤(dom:Int):=by omega
 have hd0:(0:Int)≤(dom:Int):=by omega
 have hdn:dom<n:=by have:=HN.out;omega
 have hl:LL.length=n:=by have h1:(LL.length:Int)=C.d:=HLE.out;have:=HN.out;omega
 have HAS:=hid (alone_same (S:=⟨LL,RR,rd⟩) HCF.out HN.out hdn hl)
 have CA:=hid (alone_ok C ⟨a5,a6,a7,a8,c5,c6,c7,c8⟩ ⟨LL,RR,rd⟩ ⟨aA,aR,cA,cR⟩ n dom w3 HC3.out HS3.out HSC.out HN.out hdn HC5.out)
 rw [HAS.out] at CA
 dsimp only [cv,cl,sv,sl] at CA
 clear hl
 go_wp2_with fail
 refine CA.out.mono ?_
 rintro e w4 ⟨A',rfl,hd0',hb4⟩
 have hd4:=hd0' w4 (Ext.refl _ _)
 clear hd0'
 clear g0 g1 g2 g3 g4 g5 g6 g7 g8 s0 s1 s2 CA
 clear hlt hnl
 obtain ⟨hp,hdi⟩:=(HDS.out.keep hb4) dom hdn
 have HB4:=hid (btrans HB3.out hb4)
 have HNL:=hid hdn
 clear hb4 hdn HB3 HC3 HS3 Y30 Y31
 generalize (machF C (ps ⟨LL,RR,rd⟩)).1 dom=D at *
 generalize As dom=A at *
 have q5:=below_new w4 (.cells (dl D A') 46)
 have hp5:=hp.keep q5
 have CT:Hid (Calls Tryz.prog 12 #[dv D A',dv D A] (w4.alloc (.cells (dl D A') 46)).drew fun e w'=>e=.returned (.bool true)∧Below (w4.alloc (.cells (dl D A') 46)).drew.heap.size (w4.alloc (.cells (dl D A') 46)).drew w'):=hid (sameDomain_true D A' A _ ((hd4.keep q5).keep (Below.refl _ _).drew) ((hdi.keep q5).keep (Below.refl _ _).drew))
 have HB5:=hid (btrans HB4.out q5)
 have X5:=rowAt_new2 w4 w4.heap.size (dl D A').toList 46 rfl
 obtain ⟨p0,p1,p2,p3,p4,p5,p6⟩:=hp5
 obtain ⟨aJ,aR2,aI,aT,aO,aE,cJ,cR2,cI,cT,cO,cE⟩:=A
 obtain ⟨xJ,xR,xI,xT,xO,xE,yJ,yR,yI,yT,yO,yE⟩:=A'
 dsimp only [dv,dl] at *
 have r0:=X5.cell 0 _ rfl
 have r1:=X5.cell 1 _ rfl
 have r2:=X5.cell 2 _ rfl
 have r3:=X5.cell 3 _ rfl
 have r4:=X5.cell 4 _ rfl
 have r5:=X5.cell 5 _ rfl
 have r6:=X5.cell 6 _ rfl
 have hdn1:(dom:Int)<(n:Int):=by have:=HNL.out;omega
 simp only [Nat.zero_add] at p0 p1 p2 p3 p4 p5 p6
 clear hp hdi hd4 q5 X5
 go_upto_region 9 with fail
 generalize World.alloc w4 _=w5 at *
 go_region_with (first
  | (go_at_call 12;with_reducible refine Calls.mono CT.out ?_;rintro e w6 ⟨rfl,hb6⟩;have HB6:=hid (btrans HB5.out.drew hb6);clear hb6))
 all_goals
  go_wp2
  go_ret
  exact ⟨rfl,HB6.out⟩
end Go.Proofs.YtejhccmclanlmaaGreatDoor
