/- Texts joined: Ws4. -/
import Derived.Test.YtejhccmclanlmaaGreatDoorK34
import Derived.Test.YtejhccmclanlmaaGreatDoorK35
import Derived.Test.YtejhccmclanlmaaGreatDoorK37
import Derived.Test.YtejhccmclanlmaaGreatDoorK38
set_option linter.unusedVariables false
set_option maxRecDepth 100000
namespace Go.Proofs.YtejhccmclanlmaaGreatDoor
open Go.RowKit
set_option maxHeartbeats 2000000 in
theorem step_act (X:RC) (M:RM) (D:Dom) (K:KT) (now:Int) (m:Nat) (w:World) (h:RO X w M D K now) (hz:ckD X.C X.dn (shownD D)=0) (hp:0≤pickI X.C D.jobs) (hm:D.nxt=(m:Int)) (hx:m<X.L.length) (hn:0≤now∧now≤100000) (hto:0≤X.tq∧X.tq≤100000) (k:Nat) (hpk0:pickI X.C D.jobs=(k:Int)) (hk:k<D.jobs.length) (hK:ck K=0) (hA0:ckA X.L[m]=0) (hw:wstA X.L[m]≤X.tq - now) (hl:D.evs.length≤100000000000) (hout:∀ l∈D.out,l.length≤100000000) :
  Calls Tryz.prog 101 #[.pointer (some ⟨X.rb,0,none⟩)] w fun e w'=>e=.returned (.tuple #[])∧∃ M',RO X w' M' (stepA X.C X.dn D K now k X.L[m]) (spK K X.L[m]) (now+spC K X.L[m]):=by
 have hrb:X.rb<w.heap.size:=h.row.lt
 have hlL:=h.lL
 have HH:=hid h
 have CP:=hid (pickW_ok X M D K now w h hz)
 have HR:Hid (∀ wx,Below w.heap.size w wx→RowAt wx X.rb 152 (rl X M D K now)):=hid fun wx hb=>(h.below hb).row
 have hp':¬ pickI X.C D.jobs<0:=by omega
 obtain ⟨bA,oA,eA,t0,t1,t2⟩:=h.acts m hx
 have hbA:bA<w.heap.size:=World.block_lt_of_cell? _ _ t0
 have hxI:(m:Int)<(X.L.length:Int):=by omega
 have hxI':¬ (X.L.length:Int)≤(m:Int):=by omega
 have HAk:Hid (ckA X.L[m]=0):=hid hA0
 have hq:1≤X.C.q∧X.C.q≤100:=by
  have:=(ck_ok (ckPlace_ok (ckD_iff.1 hz).1)).1
  unfold ckNum at this
  split at this
  ·rename_i hx
   simp only [inR,Bool.and_eq_true,decide_eq_true_eq] at hx
   omega
  ·omega
 have hshp:=ckShp_iff.1 (ckD_iff.1 hz).2.1
 simp only [shownD,List.length_replicate] at hshp
 have hJ:=(ckJobs_iff.1 (ckD_iff.1 hz).2.2.2.1).2 D.jobs[k] (List.getElem_mem hk)
 rw [show D.jobs[k]=jat D k by simp [jat,hk]] at hJ
 have hJ2:=ckJob_iff.1 hJ
 have hus:=(used_iff (ckPlace_ok (ckD_iff.1 hz).1) (jat D k).1.toNat (by have:=hJ2.1;omega) _).1 hJ2.2.2.2
 have hta:=taB_ok (ckPlace_ok (ckD_iff.1 hz).1) (jat D k).1.toNat (by have:=hJ2.1;omega)
 have hsp:=spC_ok hK HAk.out
 have n1:=startD_near D now k
 have j1:=startD_job (now:=now) hk
 have ev1:=startD_evs D now k
 have r1:=startD_rest D now k
 have HN1:Hid ((startD D now k).jobs.length=D.jobs.length∧(startD D now k).evs.length≤D.evs.length+1):=hid ⟨n1.jl,by rcases ev1 with e|e <;> rw [e] <;> simp⟩
 have m3:=actD_near X.C X.dn (spendD (startD D now k) k (spC K X.L[m])) (now+spC K X.L[m]) X.L[m] (spC K X.L[m])
 have v3:=actD_evs X.C X.dn (spendD (startD D now k) k (spC K X.L[m])) (now+spC K X.L[m]) X.L[m] (spC K X.L[m]) HAk.out
 have n2:=spendD_near (startD D now k) k (spC K X.L[m])
 have C44:Hid (∀ b o wx,RO (X.more b o) wx M D K now→Calls Tryz.prog 137 #[.pointer (some ⟨X.rb,0,none⟩),.int .i64 (k:Int)] wx fun e w'=>e=.returned (.tuple #[])∧∃ M',RO (X.more b o) w' M' (startD D now k) K now):=hid fun b o wx hx=>startW_ok _ M D K now k wx hx hk (by omega)
 have C45:Hid (∀ b o M' wx,RO (X.more b o) wx M' (startD D now k) K now→Calls Tryz.prog 138 #[.pointer (some ⟨X.rb,0,none⟩),.int .i64 (k:Int),av X.L[m]] wx fun e w'=>e=.returned (.int .i64 (spC K X.L[m]))∧∃ M',RO (X.more b o) w' M' (spendD (startD D now k) k (spC K X.L[m])) (spK K X.L[m]) (now+spC K X.L[m])):=hid fun b o M' wx hx=>spendW_ok _ M' _ K now k X.L[m] wx hx (by rw [n1.jl];exact hk) hK HAk.out (by rw [j1.2.2.2];omega) (by omega) (by omega)
 have C46:Hid (∀ b o M' wx,RO (X.more b o) wx M' (spendD (startD D now k) k (spC K X.L[m])) (spK K X.L[m]) (now+spC K X.L[m])→Calls Tryz.prog 139 #[.pointer (some ⟨X.rb,0,none⟩),av X.L[m],.int .i64 (spC K X.L[m])] wx fun e w'=>e=.returned (.tuple #[])∧∃ M',RO (X.more b o) w' M' (actD X.C X.dn (spendD (startD D now k) k (spC K X.L[m])) (now+spC K X.L[m]) X.L[m] (spC K X.L[m])) (spK K X.L[m]) (now+spC K X.L[m])):=hid fun b o M' wx hx=>actW_ok _ M' _ _ _ X.L[m] _ wx hx HAk.out (by show (startD D now k).evs.length≤_;have:=HN1.out.2;omega) (by show (startD D now k).ins.length=_;rw [r1.1];exact hshp.2.1) (by show (startD D now k).out.length=_;rw [r1.2.2];exact hshp.2.2.1) (by show (startD D now k).tak.length=_;rw [r1.2.1];exact hshp.2.2.2) (by show ∀ l∈(startD D now k).out,_;rw [r1.2.2];intro l hl';have:=hout l hl';omega) hq (by omega)
 have jl3:(actD X.C X.dn (spendD (startD D now k) k (spC K X.L[m])) (now+spC K X.L[m]) X.L[m] (spC K X.L[m])).jobs.length=D.jobs.length:=by rw [m3.1.jl,n2.jl,n1.jl]
 have ev3:(actD X.C X.dn (spendD (startD D now k) k (spC K X.L[m])) (now+spC K X.L[m]) X.L[m] (spC K X.L[m])).evs.length≤D.evs.length+2:=by
  have:=HN1.out.2
  have e0:(spendD (startD D now k) k (spC K X.L[m])).evs.length=(startD D now k).evs.length:=rfl
  rcases v3 with ⟨_,e,he,_⟩|⟨_,he⟩ <;> rw [he]
  ·rw [List.length_append];simp;omega
  ·omega
 have nx3:(actD X.C X.dn (spendD (startD D now k) k (spC K X.L[m])) (now+spC K X.L[m]) X.L[m] (spC K X.L[m])).nxt=(m:Int):=by rw [m3.1.nxt,n2.nxt,n1.nxt,hm]
 have jat3:(jat (actD X.C X.dn (spendD (startD D now k) k (spC K X.L[m])) (now+spC K X.L[m]) X.L[m] (spC K X.L[m])) k).1=(jat D k).1:=by
  have e1:jat (actD X.C X.dn (spendD (startD D now k) k (spC K X.L[m])) (now+spC K X.L[m]) X.L[m] (spC K X.L[m])) k=jat (spendD (startD D now k) k (spC K X.L[m])) k:=by unfold jat;rw [m3.2]
  have e2:jat (spendD (startD D now k) k (spC K X.L[m])) k=useJ (jat (startD D now k) k) (spC K X.L[m]):=jat_set (by rw [n1.jl];exact hk) _
  rw [e1,e2]
  exact j1.1
 have HST:Hid (stepA X.C X.dn D K now k X.L[m]=endD X.C (nextD (actD X.C X.dn (spendD (startD D now k) k (spC K X.L[m])) (now+spC K X.L[m]) X.L[m] (spC K X.L[m]))) (now+spC K X.L[m]) k X.L[m]):=hid rfl
 generalize actD X.C X.dn (spendD (startD D now k) k (spC K X.L[m])) (now+spC K X.L[m]) X.L[m] (spC K X.L[m])=D3 at *
 generalize spendD (startD D now k) k (spC K X.L[m])=D2 at *
 generalize startD D now k=D1 at *
 have C47:Hid (∀ b o M' wx,RO (X.more b o) wx M' (nextD D3) (spK K X.L[m]) (now+spC K X.L[m])→Calls Tryz.prog 140 #[.pointer (some ⟨X.rb,0,none⟩),.int .i64 (k:Int),av X.L[m]] wx fun e w'=>e=.returned (.tuple #[])∧∃ M',RO (X.more b o) w' M' (endD X.C (nextD D3) (now+spC K X.L[m]) k X.L[m]) (spK K X.L[m]) (now+spC K X.L[m])):=hid fun b o M' wx hx=>endW_ok _ M' (nextD D3) _ _ k X.L[m] wx hx (by show k<D3.jobs.length;rw [jl3];exact hk) (by show D3.evs.length≤_;omega) (by show 0≤(jat D3 k).1∧(jat D3 k).1<_;rw [jat3];exact ⟨hJ2.1.1,hJ2.1.2.1⟩)
 have HXN:Hid (∀ b o M' wx,RO (X.more b o) wx M' D3 (spK K X.L[m]) (now+spC K X.L[m])→RO (X.more b o) (wx.setCell ⟨X.rb,2,none⟩ (.int .i64 ((m:Int)+1))) M' (nextD D3) (spK K X.L[m]) (now+spC K X.L[m])):=hid fun b o M' wx hx=>by
  have:=hx.setNext (D3.nxt+1)
  rw [nx3] at this
  have e:nextD D3=⟨D3.jobs,D3.rel,(m:Int)+1,D3.ins,D3.tak,D3.out,D3.evs⟩:=by unfold nextD;rw [nx3]
  rw [e]
  exact this
 have NX3:=hid nx3
 clear hJ hJ2 hus hta n1 j1 ev1 r1 m3 v3 n2 jl3 ev3 nx3 jat3 hshp HN1 hout hl hsp
 generalize hsc:spC K X.L[m]=sc at *
 generalize hsk:spK K X.L[m]=sk at *
 have HSC:=hid hsc
 have HSK:=hid hsk
 clear hsc hsk
 generalize hA:X.L[m]=a0 at *
 obtain ⟨ak,an,av'⟩:=a0
 dsimp only at *
 have HAm:=hid hA
 have HM:=hid hm
 clear h hA
 rw [hpk0] at CP hp hp'
 clear hpk0
 go_enter Tryz.func101,Tryz.ntmps101
 go_wp2_with fail
 refine Calls.mono CP.out ?_
 rintro e w1 ⟨rfl,hb1⟩
 have HB1:=hid hb1
 have R1:=HR.out _ hb1
 have x2:=R1.cell 2 _ rfl
 rw [hm] at x2
 have x18:=R1.cell 18 _ rfl
 rw [eA] at x18
 have s0:=bkeep hb1 t0 lr
 have s1:=bkeep hb1 t1 lr
 have s2:=bkeep hb1 t2 lr
 clear hb1 CP R1 t0 t1 t2 hm
 go_wp2_with fail
 go_quiet (fail)
 go_upto_region 5 with fail
 generalize hW:World.drewN w1 _=W at *
 have HBW:Hid (Below w.heap.size w W):=by rw [← hW];exact hid (below_drewN HB1.out _)
 have X2:W.cell? ⟨X.rb,2,none⟩=some (.int .i64 (m:Int)):=by rw [← hW];exact x2
 have X18:W.cell? ⟨X.rb,18,none⟩=some (.slice (some ⟨bA,oA,none⟩) X.L.length X.cL):=by rw [← hW];exact x18
 have S0:W.cell? ⟨bA,oA+m * 3,none⟩=some (.int .i64 ak):=by rw [← hW];exact s0
 have S1:W.cell? ⟨bA,oA+m * 3+1,none⟩=some (.int .i64 an):=by rw [← hW];exact s1
 have S2:W.cell? ⟨bA,oA+m * 3+2,none⟩=some (.int .i64 av'):=by rw [← hW];exact s2
 have hrbW:X.rb<W.heap.size:=Nat.lt_of_lt_of_le hrb HBW.out.size
 have hbAW:bA<W.heap.size:=Nat.lt_of_lt_of_le hbA HBW.out.size
 clear hW x2 x18 s0 s1 s2 HB1
 go_cut [3] (fun q wx=>∃ b,q=.pointer (some ⟨b,0,none⟩)∧RO (X.more b (.cells #[.int .i64 ak,.int .i64 an,.int .i64 av'] 63)) wx M D K now)
 case first=>
  go_region
  all_goals
   go_wp2
   go_meet
   case rel=>exact ⟨_,rfl,((HH.out.below HBW.out).push _).below (Below.refl _ _).drew⟩
 case rest=>
  obtain ⟨b,rfl,hX1⟩:=hcut
  have HX1:=hid hX1
  clear hX1 X2 X18 S0 S1 S2
  have HS:Hid (∀ w',Below wc.heap.size wc w'→w'.cell? ⟨b,0,none⟩=some (.int .i64 ak)∧w'.cell? ⟨b,1,none⟩=some (.int .i64 an)∧w'.cell? ⟨b,2,none⟩=some (.int .i64 av')∧w'.cell? ⟨X.rb,19,none⟩=some (.int .i64 now)∧w'.cell? ⟨X.rb,20,none⟩=some (.int .i64 X.tq)):=hid fun w' hb=>⟨bkeep hb (HX1.out.topRow.cell 0 _ rfl) lr,bkeep hb (HX1.out.topRow.cell 1 _ rfl) lr,bkeep hb (HX1.out.topRow.cell 2 _ rfl) lr,bkeep hb (HX1.out.row.cell 19 _ rfl) lr,bkeep hb (HX1.out.row.cell 20 _ rfl) lr⟩
  have hB:Below wc.heap.size wc wc.drew:=(Below.refl _ _).drew
  have CW:Hid (∀ wx,Calls Tryz.prog 87 #[.agg #[.int .i64 ak,.int .i64 an,.int .i64 av']] wx fun e w'=>e=.returned (.int .i64 (wstA (ak,an,av')))∧Below wx.heap.size wx w'):=hid fun wx=>worst_any (ak,an,av') wx
  have wr1:IntKind.i64.wrap (X.tq - now)=X.tq - now:=by rw [IntKind.wrap_i64];omega
  generalize hws:wstA (ak,an,av')=ws at *
  clear hws
  go_wp2_with fail
  go_region_held3 (fun w'=>w'.cell? ⟨b,0,none⟩=some (.int .i64 ak)∧w'.cell? ⟨b,1,none⟩=some (.int .i64 an)∧w'.cell? ⟨b,2,none⟩=some (.int .i64 av')∧w'.cell? ⟨X.rb,19,none⟩=some (.int .i64 now)∧w'.cell? ⟨X.rb,20,none⟩=some (.int .i64 X.tq))
   (first|with_reducible exact HS.out _ hB|with_reducible exact HS.out _ hB2|go_keep)
   (first
    | (go_at_call 87;with_reducible refine Calls.mono (CW.out _) ?_;rintro e w2 ⟨rfl,hb2⟩;have hB2:=btrans hB hb2;clear hb2))
  all_goals
   have H2:=hid (HX1.out.below hB2)
   have y:=HS.out _ hB2
   have y0:=y.1
   have y1:=y.2.1
   have y2:=y.2.2.1
   have y19:=y.2.2.2.1
   have y20:=y.2.2.2.2
   have g19:=H2.out.row.frozen 19
   clear y hB hB2 HS CW wr1
   have hpos:True:=trivial
   go_wp2_with fail
   refine Calls.mono (C44.out _ _ _ H2.out) ?_
   rintro e w3 ⟨rfl,M3,h3⟩
   have y0:=h3.topRow.cell 0 _ rfl
   have y1:=h3.topRow.cell 1 _ rfl
   have y2:=h3.topRow.cell 2 _ rfl
   have H3:=hid h3
   clear h3
   go_wp2_with fail
   refine Calls.mono (C45.out _ _ _ _ H3.out) ?_
   rintro e w4 ⟨rfl,M4,h4⟩
   have y0:=h4.topRow.cell 0 _ rfl
   have y1:=h4.topRow.cell 1 _ rfl
   have y2:=h4.topRow.cell 2 _ rfl
   have H4:=hid h4
   clear h4
   go_wp2_with fail
   refine Calls.mono (C46.out _ _ _ _ H4.out) ?_
   rintro e w5 ⟨rfl,M5,h5⟩
   have y0:=h5.topRow.cell 0 _ rfl
   have y1:=h5.topRow.cell 1 _ rfl
   have y2:=h5.topRow.cell 2 _ rfl
   have z2:=h5.row.cell 2 _ rfl
   rw [NX3.out] at z2
   have g2:=h5.row.frozen 2
   have h6:=HXN.out _ _ _ _ h5
   have y0':=h6.topRow.cell 0 _ rfl
   have y1':=h6.topRow.cell 1 _ rfl
   have y2':=h6.topRow.cell 2 _ rfl
   have H6:=hid h6
   clear h6 h5
   go_wp2_with fail
   refine Calls.mono (C47.out _ _ _ _ H6.out) ?_
   rintro e w7 ⟨rfl,M7,h7⟩
   have H7:=hid h7.pop
   clear h7
   go_wp2
   go_end0
   exact ⟨rfl,M7,by rw [HST.out];exact H7.out⟩
end Go.Proofs.YtejhccmclanlmaaGreatDoor
