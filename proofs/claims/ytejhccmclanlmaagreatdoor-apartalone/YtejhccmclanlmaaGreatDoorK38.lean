/- Texts joined: Ws2 Ws3 Wu Ws1. -/
import Derived.Test.YtejhccmclanlmaaGreatDoorK34
import Derived.Test.YtejhccmclanlmaaGreatDoorK35
import Derived.Test.YtejhccmclanlmaaGreatDoorK37
set_option linter.unusedVariables false
set_option maxRecDepth 100000
namespace Go.Proofs.YtejhccmclanlmaaGreatDoor
open Go.RowKit
set_option maxHeartbeats 2000000 in
theorem step_idle (X:RC) (M:RM) (D:Dom) (K:KT) (now:Int) (w:World) (h:RO X w M D K now) (hz:ckD X.C X.dn (shownD D)=0) (hp:pickI X.C D.jobs<0) :
  Calls Tryz.prog 101 #[.pointer (some ⟨X.rb,0,none⟩)] w fun e w'=>e=.returned (.tuple #[])∧RO X w' M D K (dueW X.C X.dn D X.tq):=by
 have hrb:X.rb<w.heap.size:=h.row.lt
 have HH:=hid h
 have CP:=hid (pickW_ok X M D K now w h hz)
 have CD:Hid (∀ wx,Below w.heap.size w wx→Calls Tryz.prog 136 #[.pointer (some ⟨X.rb,0,none⟩),.int .i64 X.tq] wx fun e w'=>e=.returned (.int .i64 (dueW X.C X.dn D X.tq))∧Below wx.heap.size wx w'):=hid fun wx hb=>dueW_ok X M D K now wx (h.below hb) hz
 have HR:Hid (∀ wx,Below w.heap.size w wx→RowAt wx X.rb 152 (rl X M D K now)):=hid fun wx hb=>(h.below hb).row
 clear h
 generalize pickI X.C D.jobs=p at *
 generalize dueW X.C X.dn D X.tq=du at *
 go_enter Tryz.func101,Tryz.ntmps101
 go_wp2_with fail
 refine Calls.mono CP.out ?_
 rintro e w1 ⟨rfl,hb1⟩
 have hB:Below w.heap.size w w1.drew:=hb1.drew
 have HS:Hid (∀ w',Below w.heap.size w w'→w'.cell? ⟨X.rb,20,none⟩=some (.int .i64 X.tq)):=hid fun w' hb=>(HR.out w' hb).cell 20 _ rfl
 clear hb1 CP
 go_wp2_with fail
 go_region_held3 (fun w'=>w'.cell? ⟨X.rb,20,none⟩=some (.int .i64 X.tq))
  (first|with_reducible exact HS.out _ hB|with_reducible exact HS.out _ hB2|exact z20 _|go_keep)
  (first
   | (go_at_call 136;with_reducible refine Calls.mono (CD.out _ hB) ?_;rintro e w2 ⟨rfl,hb2⟩;have hB2:=btrans hB hb2;have R2:=HR.out _ hB2;have y19:=R2.cell 19 _ rfl;have g19:=R2.frozen 19;have z20:∀ u,(w2.setCell ⟨X.rb,19,none⟩ u).cell? ⟨X.rb,20,none⟩=some (.int .i64 X.tq):=fun u=>(rowAt_set1 R2 19 u).cell 20 _ rfl;clear R2 hb2))
 all_goals
  have HE:=hid ((HH.out.below hB2).setNow du)
  clear hB hB2 HS CD HR
  go_wp2
  exact bodyPost_ret (v:=.tuple #[]) (by simp [results,Tryz.results101,go_sem]) rfl ⟨rfl,HE.out⟩
set_option maxHeartbeats 2000000 in
theorem step_done (X:RC) (M:RM) (D:Dom) (K:KT) (now:Int) (w:World) (h:RO X w M D K now) (hz:ckD X.C X.dn (shownD D)=0) (hp:0≤pickI X.C D.jobs) (hx:(X.L.length:Int)≤D.nxt) :
  Calls Tryz.prog 101 #[.pointer (some ⟨X.rb,0,none⟩)] w fun e w'=>e=.returned (.tuple #[])∧RO X w' M D K X.tq:=by
 have hrb:X.rb<w.heap.size:=h.row.lt
 have hlL:=h.lL
 have HH:=hid h
 have CP:=hid (pickW_ok X M D K now w h hz)
 have HR:Hid (∀ wx,Below w.heap.size w wx→RowAt wx X.rb 152 (rl X M D K now)):=hid fun wx hb=>(h.below hb).row
 have hp':¬ pickI X.C D.jobs<0:=by omega
 clear h
 generalize pickI X.C D.jobs=p at *
 go_enter Tryz.func101,Tryz.ntmps101
 go_wp2_with fail
 refine Calls.mono CP.out ?_
 rintro e w1 ⟨rfl,hb1⟩
 have HB1:=hid hb1
 have R1:=HR.out _ hb1
 have x2:=R1.cell 2 _ rfl
 have x18:=R1.cell 18 _ rfl
 have x19:=R1.cell 19 _ rfl
 have x20:=R1.cell 20 _ rfl
 have g19:=R1.frozen 19
 have HE:=hid ((HH.out.below hb1).setNow X.tq)
 clear hb1 CP R1 HR
 go_wp2_with fail
 go_quiet (fail)
 go_wp2
 exact bodyPost_ret (v:=.tuple #[]) (by simp [results,Tryz.results101,go_sem]) rfl ⟨rfl,(HH.out.below (below_drewN HB1.out _)).setNow X.tq⟩
set_option maxHeartbeats 2000000 in
theorem step_late (X:RC) (M:RM) (D:Dom) (K:KT) (now:Int) (m:Nat) (w:World) (h:RO X w M D K now) (hz:ckD X.C X.dn (shownD D)=0) (hp:0≤pickI X.C D.jobs) (hm:D.nxt=(m:Int)) (hx:m<X.L.length) (hn:0≤now∧now≤100000) (hto:0≤X.tq∧X.tq≤100000) (hw:X.tq - now<wstA X.L[m]) :
  Calls Tryz.prog 101 #[.pointer (some ⟨X.rb,0,none⟩)] w fun e w'=>e=.returned (.tuple #[])∧RO X w' M D K X.tq:=by
 have hrb:X.rb<w.heap.size:=h.row.lt
 have hlL:=h.lL
 have HH:=hid h
 have CP:=hid (pickW_ok X M D K now w h hz)
 have HR:Hid (∀ wx,Below w.heap.size w wx→RowAt wx X.rb 152 (rl X M D K now)):=hid fun wx hb=>(h.below hb).row
 have hp':¬ pickI X.C D.jobs<0:=by omega
 obtain ⟨bA,oA,eA,t0,t1,t2⟩:=h.acts m hx
 have hbA:bA<w.heap.size:=World.block_lt_of_cell? _ _ t0
 have hxI:(m:Int)<(X.L.length:Int):=by omega
 have hxI':¬ (X.L.length:Int)≤(m:Int):=by omega
 generalize hA:X.L[m]=a0 at *
 obtain ⟨ak,an,av'⟩:=a0
 dsimp only at *
 have HAm:=hid hA
 have HM:=hid hm
 clear h hA
 generalize hpk:pickI X.C D.jobs=p at *
 have HPK:=hid hpk
 clear hpk
 go_enter Tryz.func101,Tryz.ntmps101
 go_wp2_with fail
 refine Calls.mono CP.out ?_
 rintro e w1 ⟨rfl,hb1⟩
 have HB1:=hid hb1
 have R1:=HR.out _ hb1
 have x2:=R1.cell 2 _ rfl
 rw [hm] at x2
 have x18:=R1.cell 18 _ rfl
 rw [eA] at x18
 have s0:=bkeep hb1 t0 lr
 have s1:=bkeep hb1 t1 lr
 have s2:=bkeep hb1 t2 lr
 clear hb1 CP R1 t0 t1 t2 hm
 go_wp2_with fail
 go_quiet (fail)
 go_upto_region 5 with fail
 generalize hW:World.drewN w1 _=W at *
 have HBW:Hid (Below w.heap.size w W):=by rw [← hW];exact hid (below_drewN HB1.out _)
 have X2:W.cell? ⟨X.rb,2,none⟩=some (.int .i64 (m:Int)):=by rw [← hW];exact x2
 have X18:W.cell? ⟨X.rb,18,none⟩=some (.slice (some ⟨bA,oA,none⟩) X.L.length X.cL):=by rw [← hW];exact x18
 have S0:W.cell? ⟨bA,oA+m * 3,none⟩=some (.int .i64 ak):=by rw [← hW];exact s0
 have S1:W.cell? ⟨bA,oA+m * 3+1,none⟩=some (.int .i64 an):=by rw [← hW];exact s1
 have S2:W.cell? ⟨bA,oA+m * 3+2,none⟩=some (.int .i64 av'):=by rw [← hW];exact s2
 have hrbW:X.rb<W.heap.size:=Nat.lt_of_lt_of_le hrb HBW.out.size
 have hbAW:bA<W.heap.size:=Nat.lt_of_lt_of_le hbA HBW.out.size
 clear hW x2 x18 s0 s1 s2 HB1
 go_cut [3] (fun q wx=>∃ b,q=.pointer (some ⟨b,0,none⟩)∧RO (X.more b (.cells #[.int .i64 ak,.int .i64 an,.int .i64 av'] 63)) wx M D K now)
 case first=>
  go_region
  all_goals
   go_wp2
   go_meet
   case rel=>exact ⟨_,rfl,((HH.out.below HBW.out).push _).below (Below.refl _ _).drew⟩
 case rest=>
  obtain ⟨b,rfl,hX1⟩:=hcut
  have HX1:=hid hX1
  clear hX1 X2 X18 S0 S1 S2
  have HS:Hid (∀ w',Below wc.heap.size wc w'→w'.cell? ⟨b,0,none⟩=some (.int .i64 ak)∧w'.cell? ⟨b,1,none⟩=some (.int .i64 an)∧w'.cell? ⟨b,2,none⟩=some (.int .i64 av')∧w'.cell? ⟨X.rb,19,none⟩=some (.int .i64 now)∧w'.cell? ⟨X.rb,20,none⟩=some (.int .i64 X.tq)):=hid fun w' hb=>⟨bkeep hb (HX1.out.topRow.cell 0 _ rfl) lr,bkeep hb (HX1.out.topRow.cell 1 _ rfl) lr,bkeep hb (HX1.out.topRow.cell 2 _ rfl) lr,bkeep hb (HX1.out.row.cell 19 _ rfl) lr,bkeep hb (HX1.out.row.cell 20 _ rfl) lr⟩
  have hB:Below wc.heap.size wc wc.drew:=(Below.refl _ _).drew
  have CW:Hid (∀ wx,Calls Tryz.prog 87 #[.agg #[.int .i64 ak,.int .i64 an,.int .i64 av']] wx fun e w'=>e=.returned (.int .i64 (wstA (ak,an,av')))∧Below wx.heap.size wx w'):=hid fun wx=>worst_any (ak,an,av') wx
  have wr1:IntKind.i64.wrap (X.tq - now)=X.tq - now:=by rw [IntKind.wrap_i64];omega
  generalize hws:wstA (ak,an,av')=ws at *
  clear hws
  go_wp2_with fail
  go_region_held3 (fun w'=>w'.cell? ⟨b,0,none⟩=some (.int .i64 ak)∧w'.cell? ⟨b,1,none⟩=some (.int .i64 an)∧w'.cell? ⟨b,2,none⟩=some (.int .i64 av')∧w'.cell? ⟨X.rb,19,none⟩=some (.int .i64 now)∧w'.cell? ⟨X.rb,20,none⟩=some (.int .i64 X.tq))
   (first|with_reducible exact HS.out _ hB|with_reducible exact HS.out _ hB2|go_keep)
   (first
    | (go_at_call 87;with_reducible refine Calls.mono (CW.out _) ?_;rintro e w2 ⟨rfl,hb2⟩;have hB2:=btrans hB hb2;clear hb2))
  all_goals
   have H2:=hid (HX1.out.below hB2)
   have y:=HS.out _ hB2
   have y0:=y.1
   have y1:=y.2.1
   have y2:=y.2.2.1
   have y19:=y.2.2.2.1
   have y20:=y.2.2.2.2
   have g19:=H2.out.row.frozen 19
   clear y hB hB2 HS CW wr1
   have HE:=hid ((H2.out.setNow X.tq).pop)
   go_wp2
   exact bodyPost_ret (v:=.tuple #[]) (by simp [results,Tryz.results101,go_sem]) rfl ⟨rfl,HE.out⟩
structure Near (D D':Dom):Prop where
 rel:D'.rel=D.rel
 nxt:D'.nxt=D.nxt
 ins:D'.ins.length=D.ins.length
 tak:D'.tak.length=D.tak.length
 out:D'.out.length=D.out.length
 jl:D'.jobs.length=D.jobs.length
theorem jat_set {D:Dom} {k:Nat} (hk:k<D.jobs.length) (j:JobT):jat (setJ D k j) k=j:=by simp [jat,setJ,hk]
theorem startD_near (D:Dom) (now:Int) (k:Nat):Near D (startD D now k):=by
 unfold startD
 split
 ·exact ⟨rfl,rfl,rfl,rfl,rfl,rfl⟩
 ·exact ⟨rfl,rfl,rfl,rfl,rfl,by simp [setJ,tellE]⟩
theorem startD_job {D:Dom} {now:Int} {k:Nat} (hk:k<D.jobs.length):(jat (startD D now k) k).1=(jat D k).1∧(jat (startD D now k) k).2.1=(jat D k).2.1∧(jat (startD D now k) k).2.2.1=(jat D k).2.2.1∧(jat (startD D now k) k).2.2.2.1=(jat D k).2.2.2.1:=by
 unfold startD
 split
 ·exact ⟨rfl,rfl,rfl,rfl⟩
 ·rw [jat_set (by simpa [tellE] using hk)]
  exact ⟨rfl,rfl,rfl,rfl⟩
theorem startD_jobs (D:Dom) (now:Int) (k:Nat):(startD D now k).jobs=D.jobs∨(startD D now k).jobs=D.jobs.set k (ranJ (jat D k)):=by
 unfold startD
 split
 ·exact .inl rfl
 ·exact .inr rfl
theorem startD_evs (D:Dom) (now:Int) (k:Nat):(startD D now k).evs=D.evs∨(startD D now k).evs=D.evs++[(now,3,(jat D k).1,(jat D k).2.1)]:=by
 unfold startD
 split
 ·exact .inl rfl
 ·exact .inr rfl
theorem startD_rest (D:Dom) (now:Int) (k:Nat):(startD D now k).ins=D.ins∧(startD D now k).tak=D.tak∧(startD D now k).out=D.out:=by
 unfold startD
 split <;> exact ⟨rfl,rfl,rfl⟩
theorem spendD_near (D:Dom) (k:Nat) (c:Int):Near D (spendD D k c):=⟨rfl,rfl,rfl,rfl,rfl,by simp [spendD,setJ]⟩
theorem actD_near (C:Conf) (dn:Int) (D:Dom) (now:Int) (a:ActT) (c:Int):Near D (actD C dn D now a c)∧(actD C dn D now a c).jobs=D.jobs:=by
 unfold actD
 split
 ·exact ⟨⟨rfl,rfl,rfl,rfl,rfl,rfl⟩,rfl⟩
 ·split
  ·exact ⟨⟨rfl,rfl,rfl,rfl,rfl,rfl⟩,rfl⟩
  ·split
   ·exact ⟨⟨rfl,rfl,rfl,rfl,by simp [tellE,sendD],rfl⟩,rfl⟩
   ·split
    ·exact ⟨⟨rfl,rfl,by simp [tellE,recvD],rfl,rfl,rfl⟩,rfl⟩
    ·split
     ·exact ⟨⟨rfl,rfl,rfl,rfl,rfl,rfl⟩,rfl⟩
     ·split
      ·exact ⟨⟨rfl,rfl,rfl,by simp [tellE,takeD],rfl,rfl⟩,rfl⟩
      ·exact ⟨⟨rfl,rfl,rfl,rfl,rfl,rfl⟩,rfl⟩
theorem actD_evs (C:Conf) (dn:Int) (D:Dom) (now:Int) (a:ActT) (c:Int) (hA:ckA a=0):(a.1≠8∧∃ e,(actD C dn D now a c).evs=D.evs++[e]∧e.1=now∧7≤e.2.1∧e.2.1≤12)∨(a.1=8∧(actD C dn D now a c).evs=D.evs):=by
 obtain ⟨h1,h2,_,_,_⟩:=ckA_ok hA
 by_cases e8:a.1=8
 ·right
  refine ⟨e8,?_⟩
  have hm:mayA C dn a=true:=by unfold mayA;rw [if_neg (by omega),if_neg (by omega),if_neg (by omega)]
  unfold actD
  rw [hm,if_neg (by decide),if_neg (by omega),if_neg (by omega),if_neg (by omega),if_neg (by omega),if_neg (by omega)]
 ·left
  refine ⟨e8,?_⟩
  unfold actD
  split
  ·exact ⟨_,rfl,rfl,by dsimp only;omega,by dsimp only;omega⟩
  ·split
   ·exact ⟨_,rfl,rfl,by dsimp only;omega,by dsimp only;omega⟩
   ·split
    ·exact ⟨_,rfl,rfl,by dsimp only;omega,by dsimp only;omega⟩
    ·split
     ·exact ⟨_,rfl,rfl,by dsimp only;omega,by dsimp only;omega⟩
     ·split
      ·exact ⟨_,rfl,rfl,by dsimp only;omega,by dsimp only;omega⟩
      ·split
       ·exact ⟨_,rfl,rfl,by dsimp only;omega,by dsimp only;omega⟩
       ·omega
theorem ckR_drop {V:List Int} {l s:Int} (h:ckR V l s=0):ckR (V.drop 1) l s=0:=by
 obtain ⟨⟨h1,h2⟩,h3,h4,h5,h6⟩:=ckR_ok h
 have h7:allR (V.drop 1) 0 255=true:=List.all_eq_true.2 fun x hx=>List.all_eq_true.1 h4 x (List.mem_of_mem_drop hx)
 have h8:((V.drop 1).length:Int)≤s:=by rw [List.length_drop];omega
 unfold ckR
 rw [if_neg (by simp [inR,h1,h2]),if_neg (by omega),if_neg (by rw [h7];decide),if_neg (by simp [inR,h5,h6])]
theorem actD_ins {C:Conf} {dn:Int} {D:Dom} {now:Int} {a:ActT} {c:Int} (h:ckIns C D=0):ckIns C (actD C dn D now a c)=0:=by
 have base:∀ D':Dom,D'.ins=D.ins→ckIns C D'=0:=fun D' e=>by
  have:ckIns C D'=ckIns C D:=by unfold ckIns ckIn1;rw [e]
  rw [this];exact h
 have recv:∀ i,ckIns C (recvD C D i)=0:=fun i=>by
  unfold ckIns
  refine fe_zero _ _ (fun j hj=>?_)
  have hjl:j<D.ins.length:=by simpa [recvD] using hj
  have hold:=fe_eq_zero h j hjl
  unfold ckIn1 at hold ⊢
  by_cases e:j=i
  ·subst e
   have e1:(recvD C D j).ins.getD j ([],0)=recvR C D j:=by simp [recvD,hjl]
   rw [e1]
   unfold recvR
   dsimp only
   generalize D.ins.getD j ([],0)=r at *
   obtain ⟨V,l⟩:=r
   dsimp only at *
   unfold recvV recvL
   rw [if_pos hold,if_pos hold]
   exact ckR_drop hold
  ·have e1:(recvD C D i).ins.getD j ([],0)=D.ins.getD j ([],0):=by
    simp [recvD,List.getD_eq_getElem?_getD,List.getElem?_set_ne (fun h=>e h.symm)]
   rw [e1];exact hold
 unfold actD
 split
 ·exact base _ rfl
 ·split
  ·exact base _ rfl
  ·split
   ·exact base _ rfl
   ·split
    ·exact recv _
    ·split
     ·exact base _ rfl
     ·split
      ·exact base _ rfl
      ·exact h
theorem actD_tak {C:Conf} {dn:Int} {D:Dom} {now:Int} {a:ActT} {c:Int} (h:allR D.tak 0 15=true):allR (actD C dn D now a c).tak 0 15=true:=by
 unfold actD
 split
 ·exact h
 ·split
  ·exact h
  ·split
   ·exact h
   ·split
    ·exact h
    ·split
     ·exact h
     ·split
      ·exact allR_set h _ (by decide)
      ·exact h
theorem actD_out {C:Conf} {dn:Int} {D:Dom} {now:Int} {a:ActT} {c:Int} {n:Int} (h:∀ l∈D.out,(l.length:Int)≤n) (h0:0≤n):∀ l∈(actD C dn D now a c).out,(l.length:Int)≤n+1:=by
 have same:∀ l∈D.out,(l.length:Int)≤n+1:=fun l hl=>by have:=h l hl;omega
 unfold actD
 split
 ·exact same
 ·split
  ·exact same
  ·split
   ·intro l hl
    simp only [tellE,sendD] at hl
    rcases List.mem_or_eq_of_mem_set hl with h'|h'
    ·exact same l h'
    ·subst h'
     rw [List.length_append,List.length_singleton]
     by_cases hc:a.2.1.toNat<D.out.length
     ·have:D.out.getD a.2.1.toNat []∈D.out:=by
       rw [show D.out.getD a.2.1.toNat []=D.out[a.2.1.toNat] by simp [hc]]
       exact List.getElem_mem hc
      have:=h _ this
      omega
     ·rw [show D.out.getD a.2.1.toNat []=[] by simp [List.getD_eq_getElem?_getD,List.getElem?_eq_none (by omega:D.out.length≤a.2.1.toNat)]]
      simp;omega
   ·split
    ·exact same
    ·split
     ·exact same
     ·split
      ·exact same
      ·exact same
theorem endD_evs (C:Conf) (D:Dom) (now:Int) (k:Nat) (a:ActT):(a.1=8∧(endD C D now k a).evs=D.evs++[(now,4,(jat D k).1,(jat D k).2.1)])∨(a.1≠8∧((endD C D now k a).evs=D.evs∨(endD C D now k a).evs=D.evs++[(now,5,(jat D k).1,(jat D k).2.1)])):=by
 unfold endD
 by_cases e:a.1=8
 ·rw [if_pos e];exact .inl ⟨e,rfl⟩
 ·rw [if_neg e]
  refine .inr ⟨e,?_⟩
  split
  ·exact .inr rfl
  ·exact .inl rfl
theorem endD_rest (C:Conf) (D:Dom) (now:Int) (k:Nat) (a:ActT):(endD C D now k a).rel=D.rel∧(endD C D now k a).nxt=D.nxt∧(endD C D now k a).ins=D.ins∧(endD C D now k a).tak=D.tak∧(endD C D now k a).out=D.out:=by
 unfold endD
 split
 ·exact ⟨rfl,rfl,rfl,rfl,rfl⟩
 ·split <;> exact ⟨rfl,rfl,rfl,rfl,rfl⟩
theorem endD_jobs (C:Conf) (D:Dom) (now:Int) (k:Nat) (a:ActT):(endD C D now k a).jobs=D.jobs.eraseIdx k∨((endD C D now k a).jobs=D.jobs∧(jat D k).2.2.2.1<(tk C (jat D k).1.toNat).2.2.1):=by
 unfold endD
 split
 ·exact .inl rfl
 ·split
  ·exact .inl rfl
  ·rename_i h
   exact .inr ⟨rfl,by omega⟩
structure StepOk (C:Conf) (dn:Int) (D D':Dom) (now now':Int):Prop where
 jl:D'.jobs.length≤D.jobs.length
 js:∀ j∈D'.jobs,ckJob C dn j=0
 rel:D'.rel=D.rel
 nxt:D'.nxt=D.nxt+1
 il:D'.ins.length=D.ins.length
 ins:ckIns C D'=0
 tl:D'.tak.length=D.tak.length
 tak:allR D'.tak 0 15=true
 ol:D'.out.length=D.out.length
 out:∀ n:Int,0≤n→(∀ l∈D.out,(l.length:Int)≤n)→∀ l∈D'.out,(l.length:Int)≤n+1
 evs:∃ E,D'.evs=D.evs++E∧E.countP tells1=1∧E.length≤3∧∀ e∈E,e.1=now∨e.1=now'
theorem step_ok {C:Conf} {dn:Int} {D:Dom} {K:KT} {now:Int} {k:Nat} {a:ActT} (hz:ckD C dn (shownD D)=0) (hk:k<D.jobs.length) (hK:ck K=0) (hA:ckA a=0):StepOk C dn D (stepA C dn D K now k a) now (now+spC K a):=by
 obtain ⟨c0,c1,c2,c3,c4,c5⟩:=ckD_iff.1 hz
 have hC:=ckPlace_ok c0
 have hN:=ckNums_iff.1 c2
 have hJ:=ckJobs_iff.1 c3
 obtain ⟨hc1,hc2,hc3⟩:=spC_ok hK hA
 have n1:=startD_near D now k
 have hk1:k<(startD D now k).jobs.length:=by rw [n1.jl];exact hk
 have n2:=spendD_near (startD D now k) k (spC K a)
 have r1:=startD_rest D now k
 generalize hc:spC K a=c at *
 have e2:jat (spendD (startD D now k) k c) k=useJ (jat (startD D now k) k) c:=jat_set hk1 _
 have j1:=startD_job (now:=now) hk
 have m3:=actD_near C dn (spendD (startD D now k) k c) (now+c) a c
 have v3:=actD_evs C dn (spendD (startD D now k) k c) (now+c) a c hA
 have i3:ckIns C (actD C dn (spendD (startD D now k) k c) (now+c) a c)=0:=actD_ins (by
  have:ckIns C (spendD (startD D now k) k c)=ckIns C (shownD D):=by unfold ckIns ckIn1;rw [show (spendD (startD D now k) k c).ins=(startD D now k).ins from rfl,r1.1];rfl
  rw [this];exact c4)
 have t3:allR (actD C dn (spendD (startD D now k) k c) (now+c) a c).tak 0 15=true:=actD_tak (by
  rw [show (spendD (startD D now k) k c).tak=(startD D now k).tak from rfl,r1.2.1];exact hN.2.2)
 have o3:∀ n:Int,0≤n→(∀ l∈D.out,(l.length:Int)≤n)→∀ l∈(actD C dn (spendD (startD D now k) k c) (now+c) a c).out,(l.length:Int)≤n+1:=fun n h0 hn=>actD_out (by
  rw [show (spendD (startD D now k) k c).out=(startD D now k).out from rfl,r1.2.2];exact hn) h0
 have jobs2:(spendD (startD D now k) k c).jobs=D.jobs.set k (useJ (jat (startD D now k) k) c):=by
  show (startD D now k).jobs.set k _=_
  rcases startD_jobs D now k with h|h
  ·rw [h]
  ·rw [h,List.set_set]
 have hjk:jat D k=D.jobs[k]:=by simp [jat,hk]
 have hold:=ckJob_iff.1 (hJ.2 D.jobs[k] (List.getElem_mem hk))
 rw [← hjk] at hold
 have ev1:=startD_evs D now k
 unfold stepA
 rw [hc]
 generalize hD3:actD C dn (spendD (startD D now k) k c) (now+c) a c=D3 at *
 have r4:=endD_rest C (nextD D3) (now+c) k a
 have v4:=endD_evs C (nextD D3) (now+c) k a
 have b4:=endD_jobs C (nextD D3) (now+c) k a
 have jobs3:(nextD D3).jobs=D.jobs.set k (useJ (jat (startD D now k) k) c):=by
  show D3.jobs=_
  rw [m3.2,jobs2]
 have jat3:jat (nextD D3) k=useJ (jat (startD D now k) k) c:=by
  show (nextD D3).jobs.getD k (0,0,0,0,false,false)=_
  rw [jobs3]
  simp [hk]
 refine ⟨?_,?_,?_,?_,?_,?_,?_,?_,?_,?_,?_⟩
 ·rcases b4 with h|⟨h,_⟩
  ·rw [h,jobs3]
   have:=List.length_eraseIdx_le (l:=D.jobs.set k (useJ (jat (startD D now k) k) c)) (i:=k)
   simpa using this
  ·rw [h,jobs3];simp
 ·intro j hj
  have hmem:j∈D.jobs.set k (useJ (jat (startD D now k) k) c):=by
   rcases b4 with h|⟨h,_⟩
   ·rw [h,jobs3] at hj;exact List.mem_of_mem_eraseIdx hj
   ·rw [h,jobs3] at hj;exact hj
  rcases b4 with h|⟨h,hlt⟩
  ·rw [h,jobs3,List.eraseIdx_set_eq] at hj
   exact hJ.2 j (List.mem_of_mem_eraseIdx hj)
  ·rcases List.mem_or_eq_of_mem_set hmem with h'|h'
   ·exact hJ.2 j h'
   ·subst h'
    rw [jat3] at hlt
    have hlt':(jat (startD D now k) k).2.2.2.1+c<(tk C (jat (startD D now k) k).1.toNat).2.2.1:=hlt
    refine ckJob_iff.2 ⟨?_,?_,?_,?_⟩
    ·show 0≤(jat (startD D now k) k).1∧_
     rw [show (useJ (jat (startD D now k) k) c).1=(jat (startD D now k) k).1 from rfl,j1.1]
     exact hold.1
    ·rw [show (useJ (jat (startD D now k) k) c).2.1=(jat (startD D now k) k).2.1 from rfl,j1.2.1]
     exact hold.2.1
    ·rw [show (useJ (jat (startD D now k) k) c).2.2.1=(jat (startD D now k) k).2.2.1 from rfl,j1.2.2.1]
     exact hold.2.2.1
    ·have hu:=(used_iff hC (jat D k).1.toNat (by have:=hold.1;omega) _).1 hold.2.2.2
     rw [j1.1,j1.2.2.2] at hlt'
     rw [show (useJ (jat (startD D now k) k) c).1=(jat (startD D now k) k).1 from rfl,show (useJ (jat (startD D now k) k) c).2.2.2.1=(jat (startD D now k) k).2.2.2.1+c from rfl,j1.1,j1.2.2.2]
     exact (used_iff hC (jat D k).1.toNat (by have:=hold.1;omega) _).2 ⟨by omega,hlt'⟩
 ·rw [r4.1]
  show D3.rel=_
  rw [m3.1.rel,n2.rel,n1.rel]
 ·rw [r4.2.1]
  show D3.nxt+1=_
  rw [m3.1.nxt,n2.nxt,n1.nxt]
 ·rw [r4.2.2.1]
  show D3.ins.length=_
  rw [m3.1.ins,n2.ins,n1.ins]
 ·have:ckIns C (endD C (nextD D3) (now+c) k a)=ckIns C D3:=by unfold ckIns ckIn1;rw [r4.2.2.1];rfl
  rw [this];exact i3
 ·rw [r4.2.2.2.1]
  show D3.tak.length=_
  rw [m3.1.tak,n2.tak,n1.tak]
 ·rw [r4.2.2.2.1];exact t3
 ·rw [r4.2.2.2.2]
  show D3.out.length=_
  rw [m3.1.out,n2.out,n1.out]
 ·intro n h0 hn
  rw [r4.2.2.2.2]
  exact o3 n h0 hn
 ·have e0:(spendD (startD D now k) k c).evs=(startD D now k).evs:=rfl
  have e1:(nextD D3).evs=D3.evs:=rfl
  rw [e0] at v3
  rw [e1] at v4
  obtain ⟨Z,hZ,hZ2⟩:∃ Z:List EvT,(startD D now k).evs=D.evs++Z∧(Z=[]∨Z=[(now,3,(jat D k).1,(jat D k).2.1)]):=by
   rcases ev1 with h|h
   ·exact ⟨[],by simp [h],.inl rfl⟩
   ·exact ⟨_,h,.inr rfl⟩
  have hZc:Z.countP tells1=0∧Z.length≤1∧∀ e∈Z,e.1=now∨e.1=now+c:=by
   rcases hZ2 with rfl|rfl
   ·exact ⟨rfl,by simp,fun e he=>by simp at he⟩
   ·exact ⟨by simp [tells1],by simp,fun e he=>by simp at he;subst he;exact .inl rfl⟩
  rw [hZ] at v3
  rcases v3 with ⟨h8,e,he,h1,h2,h3⟩|⟨h8,he⟩
  ·rcases v4 with ⟨h8',_⟩|⟨_,hv⟩
   ·exact absurd h8' h8
   ·have ht:tells1 e=true:=by simp [tells1];omega
    rcases hv with hv|hv
    ·refine ⟨Z++[e],by rw [hv,he,List.append_assoc],by rw [List.countP_append,hZc.1];simp [ht],by simp;omega,fun x hx=>?_⟩
     rcases List.mem_append.1 hx with hx|hx
     ·exact hZc.2.2 x hx
     ·simp at hx;subst hx;exact .inr h1
    ·refine ⟨Z++[e]++[(now+c,5,(jat (nextD D3) k).1,(jat (nextD D3) k).2.1)],by rw [hv,he,List.append_assoc,List.append_assoc,List.append_assoc],by rw [List.countP_append,List.countP_append,hZc.1,List.countP_singleton,List.countP_singleton,ht];simp [tells1],by simp;omega,fun x hx=>?_⟩
     rcases List.mem_append.1 hx with hx|hx
     ·rcases List.mem_append.1 hx with hx|hx
      ·exact hZc.2.2 x hx
      ·simp at hx;subst hx;exact .inr h1
     ·simp at hx;subst hx;exact .inr rfl
  ·rcases v4 with ⟨_,hv⟩|⟨h8',_⟩
   ·refine ⟨Z++[(now+c,4,(jat (nextD D3) k).1,(jat (nextD D3) k).2.1)],by rw [hv,he,List.append_assoc],by rw [List.countP_append,hZc.1];simp [tells1],by simp;omega,fun x hx=>?_⟩
    rcases List.mem_append.1 hx with hx|hx
    ·exact hZc.2.2 x hx
    ·simp at hx;subst hx;exact .inr rfl
   ·exact absurd h8 h8'
structure SI (C:Conf) (dn:Int) (D0:Dom) (fr te:Int) (s:Int) (D:Dom) (K:KT) (now:Int):Prop where
 win:Win C dn D0 fr te D now
 ck:ck K=0
 ev:(D.evs.length:Int)≤D0.evs.length+100 * (now - fr)+s
 out:∀ l∈D.out,(l.length:Int)≤60+D.nxt
theorem SI.release {C:Conf} {dn fr te now t s:Int} {D0 D:Dom} {K:KT} (h:SI C dn D0 fr te s D K now) (ht:inR t 0 100000=true) (hto:t≤te):SI C dn D0 fr te (s+40) (relW C dn t D) K now:=by
 refine ⟨h.win.release ht hto,h.ck,?_,h.out⟩
 have:=relD_evs h.win.ck ht
 have h1:=h.ev
 simp only [shownD,List.length_nil] at this
 show ((D.evs++_).length:Int)≤_
 rw [List.length_append]
 have e:(relD C dn t (shownD D)).evs.length≤40:=by simpa [shownD] using this
 omega
theorem SI.nx {C:Conf} {dn fr te now s:Int} {D0 D:Dom} {K:KT} (h:SI C dn D0 fr te s D K now):0≤D.nxt∧D.nxt≤100000:=by
 have:=(ckNums_iff.1 (ckD_iff.1 h.win.ck).2.2.1).2.1
 simp only [shownD,inR,Bool.and_eq_true] at this
 exact ⟨of_decide_eq_true this.1,of_decide_eq_true this.2⟩
theorem SI.step {C:Conf} {dn fr te now:Int} {D0 D:Dom} {K:KT} {L:List ActT} (h:SI C dn D0 fr te 40 (relW C dn now D) K now) (hz:ckD C dn (shownD D)=0) (h0:0≤fr) (hlt:now<te) (hte:te≤100000) (hL:L.length≤60) (hAs:∀ a∈L,ckA a=0) :
  SI C dn D0 fr te 0 (stD C dn L te (relW C dn now D) K now) (stK C L te (relW C dn now D) K now) (stN C dn L te (relW C dn now D) K now)∧now<stN C dn L te (relW C dn now D) K now∧stN C dn L te (relW C dn now D) K now≤te:=by
 have hlo:=h.win.lo
 have hnx:=h.nx
 have hd:=due_gt (te:=te) hz (by omega) hlt hte
 unfold stD stK stN
 cases hdo:does C L te (relW C dn now D) now with
 | false=>
  simp only [Bool.false_eq_true,if_false]
  have key:∀ t,now<t→t≤te→SI C dn D0 fr te 0 (relW C dn now D) K t:=fun t h1 h2=>⟨h.win.idle (by omega) h2,h.ck,by have:=h.ev;omega,h.out⟩
  split
  ·exact ⟨key _ hd.1 hd.2,hd.1,hd.2⟩
  ·exact ⟨key _ hlt (Int.le_refl _),hlt,Int.le_refl _⟩
 | true=>
  simp only [if_true]
  simp only [does,Bool.and_eq_true,decide_eq_true_eq] at hdo
  obtain ⟨⟨hp,hn⟩,hw⟩:=hdo
  obtain ⟨m,hm⟩:∃ m:Nat,(relW C dn now D).nxt=(m:Int):=⟨(relW C dn now D).nxt.toNat,by omega⟩
  have hml:m<L.length:=by omega
  have ha:aAt L (relW C dn now D)=L[m]:=by unfold aAt;rw [hm];simp [hml]
  have hA:ckA (aAt L (relW C dn now D))=0:=by rw [ha];exact hAs _ (List.getElem_mem hml)
  obtain ⟨k,hk,hpk⟩:∃ k:Nat,k<(relW C dn now D).jobs.length∧pickI C (relW C dn now D).jobs=(k:Int):=by
   rcases pickI_spec C (relW C dn now D).jobs with ⟨_,h'⟩|⟨k,h1,h2,_⟩
   ·omega
   ·exact ⟨k,h1,h2⟩
  rw [hpk,Int.toNat_natCast]
  have st:=step_ok (now:=now) h.win.ck hk h.ck hA
  obtain ⟨hc1,hc2,hc3⟩:=spC_ok h.ck hA
  generalize stepA C dn (relW C dn now D) K now k (aAt L (relW C dn now D))=D' at *
  generalize hcc:spC K (aAt L (relW C dn now D))=c at *
  obtain ⟨E,hE,hE1,hE2,hE3⟩:=st.evs
  have hin:ckIns C D'=0:=st.ins
  refine ⟨⟨h.win.acted (now2:=now+c) (by omega) (by omega) (by omega) st.jl st.js st.rel st.nxt st.il hin st.tl st.tak st.ol E hE (fun e he=>?_) hE1,spK_ok h.ck hA,?_,?_⟩,by omega,by omega⟩
  ·rcases hE3 e he with h'|h'
   ·exact ⟨by omega,.inl (by omega)⟩
   ·exact ⟨by omega,.inl (by omega)⟩
  ·have:=h.ev
   rw [hE,List.length_append]
   omega
  ·rw [st.nxt]
   intro l hl
   have:=st.out (60+(relW C dn now D).nxt) (by omega) h.out l hl
   omega
theorem actW_ok (X:RC) (M:RM) (D:Dom) (K:KT) (now:Int) (a:ActT) (cost:Int) (w:World) (h:RO X w M D K now) (hA:ckA a=0) (hl:D.evs.length≤1000000000000) (hI:D.ins.length=X.C.ch.length) (hO:D.out.length=X.C.ch.length) (hT:D.tak.length=X.C.ow.length) (hout:∀ l∈D.out,l.length≤1000000000) (hq:1≤X.C.q∧X.C.q≤100) (hn:0≤now∧now≤1000000) :
  Calls Tryz.prog 139 #[.pointer (some ⟨X.rb,0,none⟩),av a,.int .i64 cost] w fun e w'=>e=.returned (.tuple #[])∧∃ M',RO X w' M' (actD X.C X.dn D now a cost) K now:=by
 obtain ⟨k,n,v⟩:=a
 obtain ⟨h1,h2,h3,_,_⟩:=ckA_ok hA
 dsimp only at h1 h2 h3
 obtain ⟨m,rfl⟩:∃ m:Nat,n=(m:Int):=⟨n.toNat,by omega⟩
 cases hm:mayA X.C X.dn (k,(m:Int),v) with
 | false=>
  have e:actD X.C X.dn D now (k,(m:Int),v) cost=tellE D (now,12,D.nxt,0):=by unfold actD;rw [if_pos hm]
  rw [e]
  exact act_no X M D K now k m v cost w h hl hm
 | true=>
  have hm':¬ mayA X.C X.dn (k,(m:Int),v)=false:=by rw [hm];decide
  have hk:k=1∨k=2∨k=3∨k=4∨k=5∨k=6∨k=7∨k=8:=by omega
  rcases hk with rfl|rfl|rfl|rfl|rfl|rfl|rfl|rfl
  ·have e:actD X.C X.dn D now (1,(m:Int),v) cost=tellE D (now,11,cost,0):=by unfold actD;rw [if_neg hm'];rfl
   rw [e];exact act_1 X M D K now m v cost w h hl hm
  ·have e:actD X.C X.dn D now (2,(m:Int),v) cost=tellE D (now,11,cost,0):=by unfold actD;rw [if_neg hm'];rfl
   rw [e];exact act_2 X M D K now m v cost w h hl hm
  ·have e:actD X.C X.dn D now (3,(m:Int),v) cost=tellE D (now,11,cost,0):=by unfold actD;rw [if_neg hm'];rfl
   rw [e];exact act_3 X M D K now m v cost w h hl hm
  ·have e:actD X.C X.dn D now (4,(m:Int),v) cost=tellE (sendD D m v) (now,9,(m:Int),0):=by unfold actD;rw [if_neg hm'];simp
   rw [e];exact act_4 X M D K now m v cost w h hl hm hO hout
  ·have e:actD X.C X.dn D now (5,(m:Int),v) cost=tellE (recvD X.C D m) (now,8,(m:Int),recvZ X.C D m):=by unfold actD;rw [if_neg hm'];simp
   rw [e];exact act_5 X M D K now m v cost w h hl hm hI
  ·have e:actD X.C X.dn D now (6,(m:Int),v) cost=tellE D (now,7,now - now.tmod X.C.q,0):=by unfold actD;rw [if_neg hm'];simp
   rw [e];exact act_6 X M D K now m v cost w h hl hm hq hn
  ·have e:actD X.C X.dn D now (7,(m:Int),v) cost=tellE (takeD D m) (now,10,(m:Int),D.tak.getD m 0):=by unfold actD;rw [if_neg hm'];simp
   rw [e];exact act_7 X M D K now m v cost w h hl hm hT
  ·have e:actD X.C X.dn D now (8,(m:Int),v) cost=D:=by unfold actD;rw [if_neg hm'];simp
   rw [e];exact act_8 X M D K now m v cost w h hl hm
end Go.Proofs.YtejhccmclanlmaaGreatDoor
