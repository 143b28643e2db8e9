/- Texts joined: Wn Wr2 Wr3. -/
import Derived.Test.YtejhccmclanlmaaGreatDoorK23
import Derived.Test.YtejhccmclanlmaaGreatDoorK29
import Derived.Test.YtejhccmclanlmaaGreatDoorK30
import Derived.Test.YtejhccmclanlmaaGreatDoorK32
import Derived.Test.YtejhccmclanlmaaGreatDoorK33
set_option linter.unusedVariables false
set_option maxRecDepth 100000
namespace Go.Proofs.YtejhccmclanlmaaGreatDoor
open Go.RowKit
theorem RO.jobAt {X:RC} {w:World} {M:RM} {D:Dom} {K:KT} {now:Int} (h:RO X w M D K now) (k:Nat) (hk:k<D.jobs.length):∃ g,M.A.aJ=some ⟨g,0,none⟩∧g<w.heap.size∧X.w0.heap.size≤g∧g≠X.rb∧(∀ o,w.frozen? ⟨g,o,none⟩=false)∧w.cell? ⟨g,k * 6,none⟩=some (.int .i64 (jat D k).1)∧w.cell? ⟨g,k * 6+1,none⟩=some (.int .i64 (jat D k).2.1)∧w.cell? ⟨g,k * 6+2,none⟩=some (.int .i64 (jat D k).2.2.1)∧w.cell? ⟨g,k * 6+3,none⟩=some (.int .i64 (jat D k).2.2.2.1)∧w.cell? ⟨g,k * 6+4,none⟩=some (.bool (jat D k).2.2.2.2.1)∧w.cell? ⟨g,k * 6+5,none⟩=some (.bool (jat D k).2.2.2.2.2):=by
 have o:=h.px.jobs
 dsimp only at o
 obtain ⟨g,hg,⟨cur,hcur⟩,hbg⟩:=owns_zero o (by omega)
 have hne:g≠X.rb:=owns_ne o h.row (by decide) g (by rw [hg];rfl)
 have hj:=h.dom.jobs k hk
 have e:jat D k=D.jobs[k]:=by simp [jat,hk]
 obtain ⟨b,of,e1,j0,j1,j2,j3,j4,j5⟩:=hj
 rw [hg] at e1
 cases e1
 simp only [Nat.zero_add] at j0 j1 j2 j3 j4 j5
 rw [e]
 exact ⟨g,hg,(Array.getElem?_eq_some_iff.1 hcur).1,hbg,hne,fun o=>by simp [World.frozen?,hcur],j0,j1,j2,j3,j4,j5⟩
set_option maxHeartbeats 2000000 in
theorem startW_ok (X:RC) (M:RM) (D:Dom) (K:KT) (now:Int) (k:Nat) (w:World) (h:RO X w M D K now) (hk:k<D.jobs.length) (hl:D.evs.length≤1000000000000) :
  Calls Tryz.prog 137 #[.pointer (some ⟨X.rb,0,none⟩),.int .i64 (k:Int)] w fun e w'=>e=.returned (.tuple #[])∧∃ M',RO X w' M' (startD D now k) K now:=by
 have c0:=h.row.cell 0 _ rfl
 have hrb:=h.row.lt
 obtain ⟨g,hg,hgl,hgb,hne,hfz,j0,j1,j2,j3,j4,j5⟩:=h.jobAt k hk
 have hlJ:=(owns_in h.px.jobs).2.2
 rw [hg] at c0
 have hki:(k:Int)<(D.jobs.length:Int):=by omega
 have HH:=hid h
 have CT:Hid (∀ wx,Below w.heap.size w wx→Calls Tryz.prog 159 #[.pointer (some ⟨X.rb,0,none⟩),.int .i64 3,.int .i64 (jat D k).1,.int .i64 (jat D k).2.1] wx fun e w'=>e=.returned (.tuple #[])∧∃ a' c',RO X w' (evM M a' c') (tellE D (now,3,(jat D k).1,(jat D k).2.1)) K now∧w'.cell? ⟨g,k * 6,none⟩=some (.int .i64 (jat D k).1)∧w'.cell? ⟨g,k * 6+1,none⟩=some (.int .i64 (jat D k).2.1)∧w'.cell? ⟨g,k * 6+4,none⟩=some (.bool (jat D k).2.2.2.2.1)∧w'.frozen? ⟨g,k * 6+4,none⟩=false):=hid fun wx hb=>(tellW_ok X M D K now 3 _ _ wx (h.below hb) hl).mono fun e w' ⟨h1,a',c',h2⟩=>by
  obtain ⟨g',hg',_,_,_,hfz',s0,s1,s2,s3,s4,s5⟩:=h2.jobAt k hk
  have hgg:g'=g:=by have:=hg'.symm.trans hg;cases this;rfl
  subst hgg
  exact ⟨h1,a',c',h2,s0,s1,s4,hfz' _⟩
 have hHJ:D.jobs[k]? = some (jat D k):=by simp [jat,hk]
 have HJ:=hid hHJ
 clear h hHJ
 cases hr:(jat D k).2.2.2.2.1 with
 | true=>
  have HD:Hid (startD D now k=D):=by unfold startD;rw [hr];exact hid rfl
  rw [hr] at j4
  go_enter Tryz.func137,Tryz.ntmps137
  go_wp2
  go_end0
  exact ⟨rfl,M,by rw [HD.out];exact HH.out⟩
 | false=>
  have HD:Hid (startD D now k=setJ (tellE D (now,3,(jat D k).1,(jat D k).2.1)) k (ranJ (jat D k))):=by unfold startD;rw [hr];exact hid rfl
  rw [hr] at j4
  have HR:=hid hr
  clear hr
  generalize hJ:jat D k=j at *
  obtain ⟨x0,x1,x2,x3,x4,x5⟩:=j
  dsimp only at *
  have HS:Hid (∀ w',Below w.heap.size w w'→w'.cell? ⟨g,k * 6,none⟩=some (.int .i64 x0)∧w'.cell? ⟨g,k * 6+1,none⟩=some (.int .i64 x1)):=hid fun w' hb=>⟨bkeep hb j0 lr,bkeep hb j1 lr⟩
  have hB:Below w.heap.size w w.drew:=(Below.refl _ _).drew
  clear hJ
  go_enter Tryz.func137,Tryz.ntmps137
  go_wp2_with fail
  go_region_held3 (fun w'=>w'.cell? ⟨g,k * 6,none⟩=some (.int .i64 x0)∧w'.cell? ⟨g,k * 6+1,none⟩=some (.int .i64 x1))
   (first|with_reducible exact HS.out _ hB|exact ⟨s0,s1⟩|go_keep)
   (first
    | (go_at_call 159;with_reducible refine Calls.mono (CT.out _ hB) ?_;rintro e w1 ⟨rfl,a',c',h1,s0,s1,s4,f4⟩;have H1:=hid h1;clear h1))
  all_goals
   have HE:Hid (RO X (w1.setCell ⟨g,k * 6+4,none⟩ (.bool true)) (evM M a' c') (startD D now k) K now):=by
    rw [HD.out]
    exact hid (H1.out.setJob (g:=g) hg k 4 (x0,x1,x2,x3,x4,x5) (x0,x1,x2,x3,true,x5) (.bool true) HJ.out (by omega) rfl)
   clear HS CT hB s0 s1 H1
   go_wp2
   go_end0
   exact ⟨rfl,_,HE.out⟩
set_option maxHeartbeats 2000000 in
theorem act_4 (X:RC) (M:RM) (D:Dom) (K:KT) (now:Int) (m:Nat) (v cost:Int) (w:World) (h:RO X w M D K now) (hl:D.evs.length≤1000000000000) (hm:mayA X.C X.dn (4,(m:Int),v)=true) (hO:D.out.length=X.C.ch.length) (hout:∀ l∈D.out,l.length≤1000000000) :
  Calls Tryz.prog 139 #[.pointer (some ⟨X.rb,0,none⟩),.agg #[.int .i64 4,.int .i64 (m:Int),.int .i64 v],.int .i64 cost] w fun e w'=>e=.returned (.tuple #[])∧∃ M',RO X w' M' (tellE (sendD D m v) (now,9,(m:Int),0)) K now:=by
 have h1:=h.push (.cells #[.int .i64 4,.int .i64 (m:Int),.int .i64 v] 63)
 have hrb:X.rb<w.heap.size:=h.row.lt
 have R1:=h1.topRow
 have HS:Hid (∀ w',Below (w.alloc (.cells #[.int .i64 4,.int .i64 (m:Int),.int .i64 v] 63)).heap.size (w.alloc (.cells #[.int .i64 4,.int .i64 (m:Int),.int .i64 v] 63)) w'→w'.cell? ⟨w.heap.size,0,none⟩=some (.int .i64 4)∧w'.cell? ⟨w.heap.size,1,none⟩=some (.int .i64 (m:Int))∧w'.cell? ⟨w.heap.size,2,none⟩=some (.int .i64 v)):=hid fun w' hb=>⟨bkeep hb (R1.cell 0 _ rfl) lr,bkeep hb (R1.cell 1 _ rfl) lr,bkeep hb (R1.cell 2 _ rfl) lr⟩
 have CM:Hid (∀ wx,Below (w.alloc (.cells #[.int .i64 4,.int .i64 (m:Int),.int .i64 v] 63)).heap.size (w.alloc (.cells #[.int .i64 4,.int .i64 (m:Int),.int .i64 v] 63)) wx→Calls Tryz.prog 161 #[.pointer (some ⟨X.rb,0,none⟩),.agg #[.int .i64 4,.int .i64 (m:Int),.int .i64 v]] wx fun e w'=>e=.returned (.bool true)∧Below wx.heap.size wx w'):=hid fun wx hb=>by
  have:=mayW_ok _ M D K now (4,(m:Int),v) wx (h1.below hb) (by simp)
  rw [hm] at this
  exact this
 have CT:Hid (∀ kd p q M' D' wx,RO (X.more w.heap.size (.cells #[.int .i64 4,.int .i64 (m:Int),.int .i64 v] 63)) wx M' D' K now→D'.evs.length≤1000000000000→Calls Tryz.prog 159 #[.pointer (some ⟨X.rb,0,none⟩),.int .i64 kd,.int .i64 p,.int .i64 q] wx fun e w'=>e=.returned (.tuple #[])∧∃ a' c',RO (X.more w.heap.size (.cells #[.int .i64 4,.int .i64 (m:Int),.int .i64 v] 63)) w' (evM M' a' c') (tellE D' (now,kd,p,q)) K now):=hid fun kd p q M' D' wx hx hl'=>tellW_ok _ M' D' K now kd p q wx hx hl'
 have HH:=hid h1
 have hlt:m<D.out.length:=by
  rw [hO]
  simp [mayA] at hm
  omega
 have hol:=hout _ (List.getElem_mem hlt)
 have CS:Hid (∀ wx,RO (X.more w.heap.size (.cells #[.int .i64 4,.int .i64 (m:Int),.int .i64 v] 63)) wx M D K now→Calls Tryz.prog 162 #[.pointer (some ⟨X.rb,0,none⟩),.int .i64 (m:Int),.int .i64 v] wx fun e w'=>e=.returned (.tuple #[])∧∃ M',RO (X.more w.heap.size (.cells #[.int .i64 4,.int .i64 (m:Int),.int .i64 v] 63)) w' M' (sendD D m v) K now):=hid fun wx hx=>(sendW_ok _ M D K now v m wx hx hlt hol).mono fun e w' ⟨h1,M',_,h2⟩=>⟨h1,M',h2⟩
 clear h h1 R1 hm
 go_enter Tryz.func139,Tryz.ntmps139
 go_wp2_with fail
 generalize hW:World.alloc w _=W at *
 clear hW
 have hB:Below W.heap.size W W.drew:=(Below.refl _ _).drew
 go_region_held3 (fun w'=>w'.cell? ⟨w.heap.size,0,none⟩=some (.int .i64 4)∧w'.cell? ⟨w.heap.size,1,none⟩=some (.int .i64 (m:Int))∧w'.cell? ⟨w.heap.size,2,none⟩=some (.int .i64 v))
  (first|with_reducible exact HS.out _ hB|with_reducible exact HS.out _ hB2|go_keep)
  (first
   | (go_at_call 161;with_reducible refine Calls.mono (CM.out _ hB) ?_;rintro e w2 ⟨rfl,hb2⟩;have hB2:=btrans hB hb2;clear hb2))
 all_goals
  have HB2:=hid hB2
  have H2:=hid (HH.out.below HB2.out)
  have s0:=(HS.out _ HB2.out).1
  have s1:=(HS.out _ HB2.out).2.1
  have s2:=(HS.out _ HB2.out).2.2
  clear hB hB2 CM
  have hR2:RO _ w2.drew M D K now:=H2.out.below (Below.refl _ _).drew
  have HR2:=hid hR2
  clear hR2
  go_wp2_with fail
  go_region_held3 (fun w'=>w'.cell? ⟨w.heap.size,0,none⟩=some (.int .i64 4)∧w'.cell? ⟨w.heap.size,1,none⟩=some (.int .i64 (m:Int))∧w'.cell? ⟨w.heap.size,2,none⟩=some (.int .i64 v))
   (first|exact ⟨s0,s1,s2⟩|exact ⟨r0,r1,r2⟩|go_keep)
   (first
    | (go_at_call 162;with_reducible refine Calls.mono (CS.out _ HR2.out) ?_;rintro e w3 ⟨rfl,M3,h3⟩;have R3:=h3.topRow;have r0:=R3.cell 0 _ rfl;have r1:=R3.cell 1 _ rfl;have r2:=R3.cell 2 _ rfl;have H3:=hid h3;clear h3 R3))
  all_goals
   clear s0 s1 s2
   go_wp2_with fail
   refine Calls.mono (CT.out 9 (m:Int) 0 _ _ _ H3.out hl) ?_
   rintro e w4 ⟨rfl,a',c',h4⟩
   have H4:=hid h4.pop
   clear h4 CT
   go_wp2
   first
    | (go_end0;exact ⟨rfl,_,H4.out⟩)
    | exact bodyPost_ret (v:=.tuple #[]) (by simp [results,Tryz.results139,go_sem]) rfl ⟨rfl,_,H4.out⟩
set_option maxHeartbeats 2000000 in
theorem act_5 (X:RC) (M:RM) (D:Dom) (K:KT) (now:Int) (m:Nat) (v cost:Int) (w:World) (h:RO X w M D K now) (hl:D.evs.length≤1000000000000) (hm:mayA X.C X.dn (5,(m:Int),v)=true) (hI:D.ins.length=X.C.ch.length) :
  Calls Tryz.prog 139 #[.pointer (some ⟨X.rb,0,none⟩),.agg #[.int .i64 5,.int .i64 (m:Int),.int .i64 v],.int .i64 cost] w fun e w'=>e=.returned (.tuple #[])∧∃ M',RO X w' M' (tellE (recvD X.C D m) (now,8,(m:Int),recvZ X.C D m)) K now:=by
 have h1:=h.push (.cells #[.int .i64 5,.int .i64 (m:Int),.int .i64 v] 63)
 have hrb:X.rb<w.heap.size:=h.row.lt
 have R1:=h1.topRow
 have HS:Hid (∀ w',Below (w.alloc (.cells #[.int .i64 5,.int .i64 (m:Int),.int .i64 v] 63)).heap.size (w.alloc (.cells #[.int .i64 5,.int .i64 (m:Int),.int .i64 v] 63)) w'→w'.cell? ⟨w.heap.size,0,none⟩=some (.int .i64 5)∧w'.cell? ⟨w.heap.size,1,none⟩=some (.int .i64 (m:Int))∧w'.cell? ⟨w.heap.size,2,none⟩=some (.int .i64 v)):=hid fun w' hb=>⟨bkeep hb (R1.cell 0 _ rfl) lr,bkeep hb (R1.cell 1 _ rfl) lr,bkeep hb (R1.cell 2 _ rfl) lr⟩
 have CM:Hid (∀ wx,Below (w.alloc (.cells #[.int .i64 5,.int .i64 (m:Int),.int .i64 v] 63)).heap.size (w.alloc (.cells #[.int .i64 5,.int .i64 (m:Int),.int .i64 v] 63)) wx→Calls Tryz.prog 161 #[.pointer (some ⟨X.rb,0,none⟩),.agg #[.int .i64 5,.int .i64 (m:Int),.int .i64 v]] wx fun e w'=>e=.returned (.bool true)∧Below wx.heap.size wx w'):=hid fun wx hb=>by
  have:=mayW_ok _ M D K now (5,(m:Int),v) wx (h1.below hb) (by simp)
  rw [hm] at this
  exact this
 have CT:Hid (∀ kd p q M' D' wx,RO (X.more w.heap.size (.cells #[.int .i64 5,.int .i64 (m:Int),.int .i64 v] 63)) wx M' D' K now→D'.evs.length≤1000000000000→Calls Tryz.prog 159 #[.pointer (some ⟨X.rb,0,none⟩),.int .i64 kd,.int .i64 p,.int .i64 q] wx fun e w'=>e=.returned (.tuple #[])∧∃ a' c',RO (X.more w.heap.size (.cells #[.int .i64 5,.int .i64 (m:Int),.int .i64 v] 63)) w' (evM M' a' c') (tellE D' (now,kd,p,q)) K now):=hid fun kd p q M' D' wx hx hl'=>tellW_ok _ M' D' K now kd p q wx hx hl'
 have HH:=hid h1
 have hlc:m<X.C.ch.length:=by
  simp [mayA] at hm
  omega
 have hlt:m<D.ins.length:=by omega
 have CS:Hid (∀ wx,RO (X.more w.heap.size (.cells #[.int .i64 5,.int .i64 (m:Int),.int .i64 v] 63)) wx M D K now→Calls Tryz.prog 163 #[.pointer (some ⟨X.rb,0,none⟩),.int .i64 (m:Int)] wx fun e w'=>e=.returned (.int .i64 (recvZ X.C D m))∧∃ M',RO (X.more w.heap.size (.cells #[.int .i64 5,.int .i64 (m:Int),.int .i64 v] 63)) w' M' (recvD X.C D m) K now):=hid fun wx hx=>(receiveW_ok _ M D K now m wx hx hlt hlc).mono fun e w' ⟨h1,M',_,h2⟩=>⟨h1,M',h2⟩
 clear h h1 R1 hm
 go_enter Tryz.func139,Tryz.ntmps139
 go_wp2_with fail
 generalize hW:World.alloc w _=W at *
 clear hW
 have hB:Below W.heap.size W W.drew:=(Below.refl _ _).drew
 go_region_held3 (fun w'=>w'.cell? ⟨w.heap.size,0,none⟩=some (.int .i64 5)∧w'.cell? ⟨w.heap.size,1,none⟩=some (.int .i64 (m:Int))∧w'.cell? ⟨w.heap.size,2,none⟩=some (.int .i64 v))
  (first|with_reducible exact HS.out _ hB|with_reducible exact HS.out _ hB2|go_keep)
  (first
   | (go_at_call 161;with_reducible refine Calls.mono (CM.out _ hB) ?_;rintro e w2 ⟨rfl,hb2⟩;have hB2:=btrans hB hb2;clear hb2))
 all_goals
  have HB2:=hid hB2
  have H2:=hid (HH.out.below HB2.out)
  have s0:=(HS.out _ HB2.out).1
  have s1:=(HS.out _ HB2.out).2.1
  have s2:=(HS.out _ HB2.out).2.2
  clear hB hB2 CM
  have hR2:RO _ w2.drew M D K now:=H2.out.below (Below.refl _ _).drew
  have HR2:=hid hR2
  clear hR2
  generalize hrz:recvZ X.C D m=rz at *
  have HZ:=hid hrz
  clear hrz
  have hl2:(recvD X.C D m).evs.length≤1000000000000:=hl
  go_wp2_with fail
  go_region_held3 (fun w'=>w'.cell? ⟨w.heap.size,0,none⟩=some (.int .i64 5)∧w'.cell? ⟨w.heap.size,1,none⟩=some (.int .i64 (m:Int))∧w'.cell? ⟨w.heap.size,2,none⟩=some (.int .i64 v))
   (first|exact ⟨s0,s1,s2⟩|exact ⟨r0,r1,r2⟩|exact ⟨q0,q1,q2⟩|go_keep)
   (first
    | (go_at_call 163;with_reducible refine Calls.mono (CS.out _ HR2.out) ?_;rintro e w3 ⟨rfl,M3,h3⟩;have R3:=h3.topRow;have r0:=R3.cell 0 _ rfl;have r1:=R3.cell 1 _ rfl;have r2:=R3.cell 2 _ rfl;have H3:=hid h3;clear h3 R3)
    | (go_at_call 159;with_reducible refine Calls.mono (CT.out 8 (m:Int) rz _ _ _ H3.out hl2) ?_;rintro e w4 ⟨rfl,a',c',h4⟩;have R4:=h4.topRow;have q0:=R4.cell 0 _ rfl;have q1:=R4.cell 1 _ rfl;have q2:=R4.cell 2 _ rfl;have H4:=hid h4.pop;clear h4 R4))
  all_goals
   clear s0 s1 s2 r0 r1 r2 CT
   go_wp2
   go_end0
   exact ⟨rfl,_,by rw [HZ.out];exact H4.out⟩
set_option maxHeartbeats 2000000 in
theorem act_7 (X:RC) (M:RM) (D:Dom) (K:KT) (now:Int) (m:Nat) (v cost:Int) (w:World) (h:RO X w M D K now) (hl:D.evs.length≤1000000000000) (hm:mayA X.C X.dn (7,(m:Int),v)=true) (hT:D.tak.length=X.C.ow.length) :
  Calls Tryz.prog 139 #[.pointer (some ⟨X.rb,0,none⟩),.agg #[.int .i64 7,.int .i64 (m:Int),.int .i64 v],.int .i64 cost] w fun e w'=>e=.returned (.tuple #[])∧∃ M',RO X w' M' (tellE (takeD D m) (now,10,(m:Int),D.tak.getD m 0)) K now:=by
 have h1:=h.push (.cells #[.int .i64 7,.int .i64 (m:Int),.int .i64 v] 63)
 have hrb:X.rb<w.heap.size:=h.row.lt
 have R1:=h1.topRow
 have HS:Hid (∀ w',Below (w.alloc (.cells #[.int .i64 7,.int .i64 (m:Int),.int .i64 v] 63)).heap.size (w.alloc (.cells #[.int .i64 7,.int .i64 (m:Int),.int .i64 v] 63)) w'→w'.cell? ⟨w.heap.size,0,none⟩=some (.int .i64 7)∧w'.cell? ⟨w.heap.size,1,none⟩=some (.int .i64 (m:Int))∧w'.cell? ⟨w.heap.size,2,none⟩=some (.int .i64 v)):=hid fun w' hb=>⟨bkeep hb (R1.cell 0 _ rfl) lr,bkeep hb (R1.cell 1 _ rfl) lr,bkeep hb (R1.cell 2 _ rfl) lr⟩
 have CM:Hid (∀ wx,Below (w.alloc (.cells #[.int .i64 7,.int .i64 (m:Int),.int .i64 v] 63)).heap.size (w.alloc (.cells #[.int .i64 7,.int .i64 (m:Int),.int .i64 v] 63)) wx→Calls Tryz.prog 161 #[.pointer (some ⟨X.rb,0,none⟩),.agg #[.int .i64 7,.int .i64 (m:Int),.int .i64 v]] wx fun e w'=>e=.returned (.bool true)∧Below wx.heap.size wx w'):=hid fun wx hb=>by
  have:=mayW_ok _ M D K now (7,(m:Int),v) wx (h1.below hb) (by simp)
  rw [hm] at this
  exact this
 have CT:Hid (∀ kd p q M' D' wx,RO (X.more w.heap.size (.cells #[.int .i64 7,.int .i64 (m:Int),.int .i64 v] 63)) wx M' D' K now→D'.evs.length≤1000000000000→Calls Tryz.prog 159 #[.pointer (some ⟨X.rb,0,none⟩),.int .i64 kd,.int .i64 p,.int .i64 q] wx fun e w'=>e=.returned (.tuple #[])∧∃ a' c',RO (X.more w.heap.size (.cells #[.int .i64 7,.int .i64 (m:Int),.int .i64 v] 63)) w' (evM M' a' c') (tellE D' (now,kd,p,q)) K now):=hid fun kd p q M' D' wx hx hl'=>tellW_ok _ M' D' K now kd p q wx hx hl'
 have HH:=hid h1
 have hlt:m<D.tak.length:=by
  rw [hT]
  simp [mayA] at hm
  omega
 have CS:Hid (∀ wx,RO (X.more w.heap.size (.cells #[.int .i64 7,.int .i64 (m:Int),.int .i64 v] 63)) wx M D K now→Calls Tryz.prog 164 #[.pointer (some ⟨X.rb,0,none⟩),.int .i64 (m:Int)] wx fun e w'=>e=.returned (.int .i64 (D.tak.getD m 0))∧∃ M',RO (X.more w.heap.size (.cells #[.int .i64 7,.int .i64 (m:Int),.int .i64 v] 63)) w' M' (takeD D m) K now):=hid fun wx hx=>(takeW_ok _ M D K now m wx hx hlt).mono fun e w' ⟨h1,h2⟩=>⟨h1,M,h2⟩
 clear h h1 R1 hm
 go_enter Tryz.func139,Tryz.ntmps139
 go_wp2_with fail
 generalize hW:World.alloc w _=W at *
 clear hW
 have hB:Below W.heap.size W W.drew:=(Below.refl _ _).drew
 go_region_held3 (fun w'=>w'.cell? ⟨w.heap.size,0,none⟩=some (.int .i64 7)∧w'.cell? ⟨w.heap.size,1,none⟩=some (.int .i64 (m:Int))∧w'.cell? ⟨w.heap.size,2,none⟩=some (.int .i64 v))
  (first|with_reducible exact HS.out _ hB|with_reducible exact HS.out _ hB2|go_keep)
  (first
   | (go_at_call 161;with_reducible refine Calls.mono (CM.out _ hB) ?_;rintro e w2 ⟨rfl,hb2⟩;have hB2:=btrans hB hb2;clear hb2))
 all_goals
  have HB2:=hid hB2
  have H2:=hid (HH.out.below HB2.out)
  have s0:=(HS.out _ HB2.out).1
  have s1:=(HS.out _ HB2.out).2.1
  have s2:=(HS.out _ HB2.out).2.2
  clear hB hB2 CM
  have hR2:RO _ w2.drew M D K now:=H2.out.below (Below.refl _ _).drew
  have HR2:=hid hR2
  clear hR2
  generalize hrz:D.tak.getD m 0=rz at *
  have HZ:=hid hrz
  clear hrz
  have hl2:(takeD D m).evs.length≤1000000000000:=hl
  go_wp2_with fail
  go_region_held3 (fun w'=>w'.cell? ⟨w.heap.size,0,none⟩=some (.int .i64 7)∧w'.cell? ⟨w.heap.size,1,none⟩=some (.int .i64 (m:Int))∧w'.cell? ⟨w.heap.size,2,none⟩=some (.int .i64 v))
   (first|exact ⟨s0,s1,s2⟩|exact ⟨r0,r1,r2⟩|exact ⟨q0,q1,q2⟩|go_keep)
   (first
    | (go_at_call 164;with_reducible refine Calls.mono (CS.out _ HR2.out) ?_;rintro e w3 ⟨rfl,M3,h3⟩;have R3:=h3.topRow;have r0:=R3.cell 0 _ rfl;have r1:=R3.cell 1 _ rfl;have r2:=R3.cell 2 _ rfl;have H3:=hid h3;clear h3 R3)
    | (go_at_call 159;with_reducible refine Calls.mono (CT.out 10 (m:Int) rz _ _ _ H3.out hl2) ?_;rintro e w4 ⟨rfl,a',c',h4⟩;have R4:=h4.topRow;have q0:=R4.cell 0 _ rfl;have q1:=R4.cell 1 _ rfl;have q2:=R4.cell 2 _ rfl;have H4:=hid h4.pop;clear h4 R4))
  all_goals
   clear s0 s1 s2 r0 r1 r2 CT
   go_wp2
   go_end0
   exact ⟨rfl,_,by rw [HZ.out];exact H4.out⟩
set_option maxHeartbeats 2000000 in
theorem act_6 (X:RC) (M:RM) (D:Dom) (K:KT) (now:Int) (m:Nat) (v cost:Int) (w:World) (h:RO X w M D K now) (hl:D.evs.length≤1000000000000) (hm:mayA X.C X.dn (6,(m:Int),v)=true) (hq:1≤X.C.q∧X.C.q≤100) (hn:0≤now∧now≤1000000) :
  Calls Tryz.prog 139 #[.pointer (some ⟨X.rb,0,none⟩),.agg #[.int .i64 6,.int .i64 (m:Int),.int .i64 v],.int .i64 cost] w fun e w'=>e=.returned (.tuple #[])∧∃ M',RO X w' M' (tellE D (now,7,now - now.tmod X.C.q,0)) K now:=by
 have h1:=h.push (.cells #[.int .i64 6,.int .i64 (m:Int),.int .i64 v] 63)
 have hrb:X.rb<w.heap.size:=h.row.lt
 have R1:=h1.topRow
 have HS:Hid (∀ w',Below (w.alloc (.cells #[.int .i64 6,.int .i64 (m:Int),.int .i64 v] 63)).heap.size (w.alloc (.cells #[.int .i64 6,.int .i64 (m:Int),.int .i64 v] 63)) w'→w'.cell? ⟨w.heap.size,0,none⟩=some (.int .i64 6)∧w'.cell? ⟨w.heap.size,1,none⟩=some (.int .i64 (m:Int))∧w'.cell? ⟨w.heap.size,2,none⟩=some (.int .i64 v)):=hid fun w' hb=>⟨bkeep hb (R1.cell 0 _ rfl) lr,bkeep hb (R1.cell 1 _ rfl) lr,bkeep hb (R1.cell 2 _ rfl) lr⟩
 have CM:Hid (∀ wx,Below (w.alloc (.cells #[.int .i64 6,.int .i64 (m:Int),.int .i64 v] 63)).heap.size (w.alloc (.cells #[.int .i64 6,.int .i64 (m:Int),.int .i64 v] 63)) wx→Calls Tryz.prog 161 #[.pointer (some ⟨X.rb,0,none⟩),.agg #[.int .i64 6,.int .i64 (m:Int),.int .i64 v]] wx fun e w'=>e=.returned (.bool true)∧Below wx.heap.size wx w'):=hid fun wx hb=>by
  have:=mayW_ok _ M D K now (6,(m:Int),v) wx (h1.below hb) (by simp)
  rw [hm] at this
  exact this
 have CT:Hid (∀ kd p q M' D' wx,RO (X.more w.heap.size (.cells #[.int .i64 6,.int .i64 (m:Int),.int .i64 v] 63)) wx M' D' K now→D'.evs.length≤1000000000000→Calls Tryz.prog 159 #[.pointer (some ⟨X.rb,0,none⟩),.int .i64 kd,.int .i64 p,.int .i64 q] wx fun e w'=>e=.returned (.tuple #[])∧∃ a' c',RO (X.more w.heap.size (.cells #[.int .i64 6,.int .i64 (m:Int),.int .i64 v] 63)) w' (evM M' a' c') (tellE D' (now,kd,p,q)) K now):=hid fun kd p q M' D' wx hx hl'=>tellW_ok _ M' D' K now kd p q wx hx hl'
 have HH:=hid h1
 have HQ:Hid (∀ w' M',RO (X.more w.heap.size (.cells #[.int .i64 6,.int .i64 (m:Int),.int .i64 v] 63)) w' M' D K now→w'.cell? ⟨X.rb,19,none⟩=some (.int .i64 now)∧w'.cell? ⟨X.rb,11,none⟩=some (.int .i64 X.C.q)):=hid fun w' M' hx=>⟨hx.row.cell 19 _ rfl,hx.row.cell 11 _ rfl⟩
 have hq0:¬ X.C.q=0:=by omega
 obtain ⟨r,hr⟩:∃ r,now.tmod X.C.q=r:=⟨_,rfl⟩
 have hr0:0≤r:=by rw [← hr];exact Int.tmod_nonneg _ hn.1
 have hr1:r≤now:=by
  rw [← hr,Int.tmod_eq_emod_of_nonneg hn.1]
  by_cases hlt:now<X.C.q
  ·rw [Int.emod_eq_of_lt hn.1 hlt]
   exact Int.le_refl _
  ·have:=Int.emod_lt_of_pos now (show 0<X.C.q by omega)
   omega
 have wr1:IntKind.i64.wrap (now - r)=now - r:=by rw [IntKind.wrap_i64];omega
 have wr2:IntKind.i64.wrap r=r:=by rw [IntKind.wrap_i64];omega
 clear h h1 R1 hm
 go_enter Tryz.func139,Tryz.ntmps139
 go_wp2_with fail
 generalize hW:World.alloc w _=W at *
 clear hW
 have hB:Below W.heap.size W W.drew:=(Below.refl _ _).drew
 go_region_held3 (fun w'=>w'.cell? ⟨w.heap.size,0,none⟩=some (.int .i64 6)∧w'.cell? ⟨w.heap.size,1,none⟩=some (.int .i64 (m:Int))∧w'.cell? ⟨w.heap.size,2,none⟩=some (.int .i64 v))
  (first|with_reducible exact HS.out _ hB|with_reducible exact HS.out _ hB2|go_keep)
  (first
   | (go_at_call 161;with_reducible refine Calls.mono (CM.out _ hB) ?_;rintro e w2 ⟨rfl,hb2⟩;have hB2:=btrans hB hb2;clear hb2))
 all_goals
  have HB2:=hid hB2
  have H2:=hid (HH.out.below HB2.out)
  have s0:=(HS.out _ HB2.out).1
  have s1:=(HS.out _ HB2.out).2.1
  have s2:=(HS.out _ HB2.out).2.2
  clear hB hB2 CM
  have hR2:RO _ w2.drew M D K now:=H2.out.below (Below.refl _ _).drew
  have HR2:=hid hR2
  have x19:=(HQ.out _ _ hR2).1
  have x11:=(HQ.out _ _ hR2).2
  clear hR2
  go_wp2_with fail
  go_region_held3 (fun w'=>w'.cell? ⟨X.rb,19,none⟩=some (.int .i64 now)∧w'.cell? ⟨X.rb,11,none⟩=some (.int .i64 X.C.q))
   (first|exact ⟨x19,x11⟩|exact ⟨y19,y11⟩|go_keep)
   (first
    | (go_at_call 159;with_reducible refine Calls.mono (CT.out 7 (now - r) 0 _ _ _ HR2.out hl) ?_;rintro e w4 ⟨rfl,a',c',h4⟩;have y19:=h4.row.cell 19 _ rfl;have y11:=h4.row.cell 11 _ rfl;have H4:=hid h4.pop;clear h4))
  all_goals
   have HRR:=hid hr
   clear s0 s1 s2 CT hr
   go_wp2
   go_end0
   exact ⟨rfl,_,by rw [HRR.out];exact H4.out⟩
end Go.Proofs.YtejhccmclanlmaaGreatDoor
