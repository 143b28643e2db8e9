/- Wn Wr2 Wr3 -/
import Derived.Test.YtejhccmclanlmaaGreatDoorV24
import Derived.Test.YtejhccmclanlmaaGreatDoorV25
set_option linter.all false
set_option maxRecDepth 100000
set_option maxHeartbeats 8000000
namespace Go.Proofs.YtejhccmclanlmaaGreatDoor
open Go.RowKit Go.Proofs.Tryz
theorem RO.jobAt {X:RC} {w:World} {M:RM} {D:Dom} {K:KT} {now:Int} (h:RO X w M D K now) (k:Nat) (hk:k<D.jobs.length):∃ g,M.A.aJ=some ⟨g,0,none⟩∧g<w.heap.size∧X.w0.heap.size≤g∧g≠X.rb∧(∀ o,w.frozen? ⟨g,o,none⟩=false)∧w.cell? ⟨g,k*6,none⟩=some (.int .i64 (jat D k).1)∧w.cell? ⟨g,k*6+1,none⟩=some (.int .i64 (jat D k).2.1)∧w.cell? ⟨g,k*6+2,none⟩=some (.int .i64 (jat D k).2.2.1)∧w.cell? ⟨g,k*6+3,none⟩=some (.int .i64 (jat D k).2.2.2.1)∧w.cell? ⟨g,k*6+4,none⟩=some (.bool (jat D k).2.2.2.2.1)∧w.cell? ⟨g,k*6+5,none⟩=some (.bool (jat D k).2.2.2.2.2):=by
 have o:=h.px.jobs;dsimp only at o;obtain ⟨g,hg,⟨a3,a0⟩,a1⟩:=Zb2 o (by omega);have a2:g≠X.rb:=Yi o h.row (by decide) g (by rw [hg];rfl);have hj:=h.dom.jobs k hk;have e:jat D k=D.jobs[k]:=by simp [jat,hk]
 obtain ⟨b,of,e1,j0,j1,j2,j3,j4,j5⟩:=hj;rw [hg] at e1;cases e1;simp only [Nat.zero_add] at j0 j1 j2 j3 j4 j5;rw [e];exact ⟨g,hg,(Array.getElem?_eq_some_iff.1 a0).1,a1,a2,fun o=>by simp [World.frozen?,a0],j0,j1,j2,j3,j4,j5⟩
theorem Zrb (X:RC) (M:RM) (D:Dom) (K:KT) (now:Int) (k:Nat) (w:World) (h:RO X w M D K now) (hk:k<D.jobs.length) (hl:D.evs.length≤1000000000000):
  Calls prog 137 #[.pointer (some ⟨X.rb,0,none⟩),.int .i64 (k:Int)] w fun e w'=>e=.returned (.tuple #[])∧∃ M',RO X w' M' (Zp D now k) K now:=by
 have c0:=h.row.cell 0 _ rfl;have a4:=h.row.lt;obtain ⟨g,hg,a5,a6,a7,a8,j0,j1,j2,j3,j4,j5⟩:=h.jobAt k hk;have a9:=(Zz h.px.jobs).2.2;rw [hg] at c0;have aa:(k:Int)<(D.jobs.length:Int):=by omega
 have HH:=hid h;have CT:Hid (∀ wx,Below w.heap.size w wx→Calls prog 159 #[.pointer (some ⟨X.rb,0,none⟩),.int .i64 3,.int .i64 (jat D k).1,.int .i64 (jat D k).2.1] wx fun e w'=>e=.returned (.tuple #[])∧∃ a' c',RO X w' (evM M a' c') (Y7 D (now,3,(jat D k).1,(jat D k).2.1)) K now∧w'.cell? ⟨g,k*6,none⟩=some (.int .i64 (jat D k).1)∧w'.cell? ⟨g,k*6+1,none⟩=some (.int .i64 (jat D k).2.1)∧w'.cell? ⟨g,k*6+4,none⟩=some (.bool (jat D k).2.2.2.2.1)∧w'.frozen? ⟨g,k*6+4,none⟩=false):=hid fun wx hb=>(J2 X M D K now 3 _ _ wx (h.below hb) hl).mono fun e w' ⟨h1,a',c',h2⟩=>by
  obtain ⟨g',a2,_,_,_,a0,s0,s1,s2,s3,s4,s5⟩:=h2.jobAt k hk;have a3:g'=g:=by have:=a2.symm.trans hg;cases this;rfl
  subst a3;exact ⟨h1,a',c',h2,s0,s1,s4,a0 _⟩
 have a1:D.jobs[k]? = some (jat D k):=by simp [jat,hk]
 have HJ:=hid a1;clear h a1
 cases hr:(jat D k).2.2.2.2.1 with
 | true=>
  have HD:Hid (Zp D now k=D):=by unfold Zp;rw [hr];exact hid rfl
  rw [hr] at j4;go_enter func137,ntmps137;go_wp2;go_end0;exact ⟨rfl,M,by rw [HD.out];exact HH.out⟩
 | false=>
  have HD:Hid (Zp D now k=Zs8 (Y7 D (now,3,(jat D k).1,(jat D k).2.1)) k (Zzu (jat D k))):=by unfold Zp;rw [hr];exact hid rfl
  rw [hr] at j4;have HR:=hid hr;clear hr;generalize hJ:jat D k=j at *
  obtain ⟨x0,x1,x2,x3,x4,x5⟩:=j;dsimp only at *
  have HS:Hid (∀ w',Below w.heap.size w w'→w'.cell? ⟨g,k*6,none⟩=some (.int .i64 x0)∧w'.cell? ⟨g,k*6+1,none⟩=some (.int .i64 x1)):=hid fun w' hb=>⟨Zg hb j0 lr,Zg hb j1 lr⟩
  have hB:Below w.heap.size w w.drew:=br.drew;clear hJ;go_enter func137,ntmps137;go_wp2_with fail;go_region_held3 (fun w'=>w'.cell? ⟨g,k*6,none⟩=some (.int .i64 x0)∧w'.cell? ⟨g,k*6+1,none⟩=some (.int .i64 x1))
   (first|with_reducible exact HS.out _ hB|exact ⟨s0,s1⟩|go_keep)
   (first
    | (go_at_call 159;with_reducible refine Calls.mono (CT.out _ hB) ?_;rintro e w1 ⟨rfl,a',c',h1,s0,s1,s4,f4⟩;have H1:=hid h1;clear h1))
  all_goals
   have HE:Hid (RO X (w1.setCell ⟨g,k*6+4,none⟩ (.bool true)) (evM M a' c') (Zp D now k) K now):=by
    rw [HD.out];exact hid (H1.out.setJob (g:=g) hg k 4 (x0,x1,x2,x3,x4,x5) (x0,x1,x2,x3,true,x5) (.bool true) HJ (by omega) rfl)
   clear HS CT hB s0 s1 H1;go_wp2;go_end0;exact ⟨rfl,_,HE.out⟩
theorem Zzt (X:RC) (M:RM) (D:Dom) (K:KT) (now:Int) (m:Nat) (v cost:Int) (w:World) (h:RO X w M D K now) (hl:D.evs.length≤1000000000000) (hm:Zht X.C X.dn (4,(m:Int),v)=true) (hO:D.out.length=X.C.ch.length) (hout:∀ l∈D.out,l.length≤1000000000):
  Calls prog 139 #[.pointer (some ⟨X.rb,0,none⟩),.agg #[.int .i64 4,.int .i64 (m:Int),.int .i64 v],.int .i64 cost] w fun e w'=>e=.returned (.tuple #[])∧∃ M',RO X w' M' (Y7 (Zjj D m v) (now,9,(m:Int),0)) K now:=by
 have h1:=h.push (.cells #[.int .i64 4,.int .i64 (m:Int),.int .i64 v] 63);have a6:X.rb<w.heap.size:=h.row.lt;have R1:=h1.topRow;have HS:Hid (∀ w',Below (w.alloc (.cells #[.int .i64 4,.int .i64 (m:Int),.int .i64 v] 63)).heap.size (w.alloc (.cells #[.int .i64 4,.int .i64 (m:Int),.int .i64 v] 63)) w'→w'.cell? ⟨w.heap.size,0,none⟩=some (.int .i64 4)∧w'.cell? ⟨w.heap.size,1,none⟩=some (.int .i64 (m:Int))∧w'.cell? ⟨w.heap.size,2,none⟩=some (.int .i64 v)):=hid fun w' hb=>⟨Zg hb (R1.cell 0 _ rfl) lr,Zg hb (R1.cell 1 _ rfl) lr,Zg hb (R1.cell 2 _ rfl) lr⟩
 have CM:Hid (∀ wx,Below (w.alloc (.cells #[.int .i64 4,.int .i64 (m:Int),.int .i64 v] 63)).heap.size (w.alloc (.cells #[.int .i64 4,.int .i64 (m:Int),.int .i64 v] 63)) wx→Calls prog 161 #[.pointer (some ⟨X.rb,0,none⟩),.agg #[.int .i64 4,.int .i64 (m:Int),.int .i64 v]] wx fun e w'=>e=.returned (.bool true)∧Below wx.heap.size wx w'):=hid fun wx hb=>by
  have:=Zb8 _ M D K now (4,(m:Int),v) wx (h1.below hb) (by simp)
  rw [hm] at this;exact this
 have CT:Hid (∀ kd p q M' D' wx,RO (X.more w.heap.size (.cells #[.int .i64 4,.int .i64 (m:Int),.int .i64 v] 63)) wx M' D' K now→D'.evs.length≤1000000000000→Calls prog 159 #[.pointer (some ⟨X.rb,0,none⟩),.int .i64 kd,.int .i64 p,.int .i64 q] wx fun e w'=>e=.returned (.tuple #[])∧∃ a' c',RO (X.more w.heap.size (.cells #[.int .i64 4,.int .i64 (m:Int),.int .i64 v] 63)) w' (evM M' a' c') (Y7 D' (now,kd,p,q)) K now):=hid fun kd p q M' D' wx hx hl'=>J2 _ M' D' K now kd p q wx hx hl'
 have HH:=hid h1;have a1:m<D.out.length:=by
  rw [hO];simp [Zht] at hm;omega
 have a4:=hout _ (List.getElem_mem a1);have CS:Hid (∀ wx,RO (X.more w.heap.size (.cells #[.int .i64 4,.int .i64 (m:Int),.int .i64 v] 63)) wx M D K now→Calls prog 162 #[.pointer (some ⟨X.rb,0,none⟩),.int .i64 (m:Int),.int .i64 v] wx fun e w'=>e=.returned (.tuple #[])∧∃ M',RO (X.more w.heap.size (.cells #[.int .i64 4,.int .i64 (m:Int),.int .i64 v] 63)) w' M' (Zjj D m v) K now):=hid fun wx hx=>(Zt8 _ M D K now v m wx hx a1 a4).mono fun e w' ⟨h1,M',_,h2⟩=>⟨h1,M',h2⟩
 clear h h1 R1 hm;go_enter func139,ntmps139;go_wp2_with fail;generalize hW:World.alloc w _=W at *
 clear hW;have hB:Below W.heap.size W W.drew:=br.drew;go_region_held3 (fun w'=>w'.cell? ⟨w.heap.size,0,none⟩=some (.int .i64 4)∧w'.cell? ⟨w.heap.size,1,none⟩=some (.int .i64 (m:Int))∧w'.cell? ⟨w.heap.size,2,none⟩=some (.int .i64 v))
  (first|with_reducible exact HS.out _ hB|with_reducible exact HS.out _ hB2|go_keep)
  (first
   | (go_at_call 161;with_reducible refine Calls.mono (CM.out _ hB) ?_;rintro e w2 ⟨rfl,a2⟩;have hB2:=Zb hB a2;clear a2))
 all_goals
  have a0:=hid hB2;have H2:=hid (HH.out.below a0);have s0:=(HS.out _ a0).1;have s1:=(HS.out _ a0).2.1;have s2:=(HS.out _ a0).2.2;clear hB hB2 CM;have a3:RO _ w2.drew M D K now:=H2.out.below br.drew;have a5:=hid a3;clear a3;go_wp2_with fail;go_region_held3 (fun w'=>w'.cell? ⟨w.heap.size,0,none⟩=some (.int .i64 4)∧w'.cell? ⟨w.heap.size,1,none⟩=some (.int .i64 (m:Int))∧w'.cell? ⟨w.heap.size,2,none⟩=some (.int .i64 v))
   (first|exact ⟨s0,s1,s2⟩|exact ⟨r0,r1,r2⟩|go_keep)
   (first
    | (go_at_call 162;with_reducible refine Calls.mono (CS.out _ a5.out) ?_;rintro e w3 ⟨rfl,M3,h3⟩;have R3:=h3.topRow;have r0:=R3.cell 0 _ rfl;have r1:=R3.cell 1 _ rfl;have r2:=R3.cell 2 _ rfl;have H3:=hid h3;clear h3 R3))
  all_goals
   clear s0 s1 s2;go_wp2_with fail;refine Calls.mono (CT.out 9 (m:Int) 0 _ _ _ H3 hl) ?_;rintro e w4 ⟨rfl,a',c',h4⟩;have H4:=hid h4.pop;clear h4 CT;go_wp2
   first
    | (go_end0;exact ⟨rfl,_,H4.out⟩)
    | exact bodyPost_ret (v:=.tuple #[]) (by simp [results,results139,go_sem]) rfl ⟨rfl,_,H4.out⟩
theorem Zzv (X:RC) (M:RM) (D:Dom) (K:KT) (now:Int) (m:Nat) (v cost:Int) (w:World) (h:RO X w M D K now) (hl:D.evs.length≤1000000000000) (hm:Zht X.C X.dn (5,(m:Int),v)=true) (hI:D.ins.length=X.C.ch.length):
  Calls prog 139 #[.pointer (some ⟨X.rb,0,none⟩),.agg #[.int .i64 5,.int .i64 (m:Int),.int .i64 v],.int .i64 cost] w fun e w'=>e=.returned (.tuple #[])∧∃ M',RO X w' M' (Y7 (Zds X.C D m) (now,8,(m:Int),Zlb X.C D m)) K now:=by
 have h1:=h.push (.cells #[.int .i64 5,.int .i64 (m:Int),.int .i64 v] 63);have a7:X.rb<w.heap.size:=h.row.lt;have R1:=h1.topRow;have HS:Hid (∀ w',Below (w.alloc (.cells #[.int .i64 5,.int .i64 (m:Int),.int .i64 v] 63)).heap.size (w.alloc (.cells #[.int .i64 5,.int .i64 (m:Int),.int .i64 v] 63)) w'→w'.cell? ⟨w.heap.size,0,none⟩=some (.int .i64 5)∧w'.cell? ⟨w.heap.size,1,none⟩=some (.int .i64 (m:Int))∧w'.cell? ⟨w.heap.size,2,none⟩=some (.int .i64 v)):=hid fun w' hb=>⟨Zg hb (R1.cell 0 _ rfl) lr,Zg hb (R1.cell 1 _ rfl) lr,Zg hb (R1.cell 2 _ rfl) lr⟩
 have CM:Hid (∀ wx,Below (w.alloc (.cells #[.int .i64 5,.int .i64 (m:Int),.int .i64 v] 63)).heap.size (w.alloc (.cells #[.int .i64 5,.int .i64 (m:Int),.int .i64 v] 63)) wx→Calls prog 161 #[.pointer (some ⟨X.rb,0,none⟩),.agg #[.int .i64 5,.int .i64 (m:Int),.int .i64 v]] wx fun e w'=>e=.returned (.bool true)∧Below wx.heap.size wx w'):=hid fun wx hb=>by
  have:=Zb8 _ M D K now (5,(m:Int),v) wx (h1.below hb) (by simp)
  rw [hm] at this;exact this
 have CT:Hid (∀ kd p q M' D' wx,RO (X.more w.heap.size (.cells #[.int .i64 5,.int .i64 (m:Int),.int .i64 v] 63)) wx M' D' K now→D'.evs.length≤1000000000000→Calls prog 159 #[.pointer (some ⟨X.rb,0,none⟩),.int .i64 kd,.int .i64 p,.int .i64 q] wx fun e w'=>e=.returned (.tuple #[])∧∃ a' c',RO (X.more w.heap.size (.cells #[.int .i64 5,.int .i64 (m:Int),.int .i64 v] 63)) w' (evM M' a' c') (Y7 D' (now,kd,p,q)) K now):=hid fun kd p q M' D' wx hx hl'=>J2 _ M' D' K now kd p q wx hx hl'
 have HH:=hid h1;have a3:m<X.C.ch.length:=by
  simp [Zht] at hm;omega
 have a4:m<D.ins.length:=by omega
 have CS:Hid (∀ wx,RO (X.more w.heap.size (.cells #[.int .i64 5,.int .i64 (m:Int),.int .i64 v] 63)) wx M D K now→Calls prog 163 #[.pointer (some ⟨X.rb,0,none⟩),.int .i64 (m:Int)] wx fun e w'=>e=.returned (.int .i64 (Zlb X.C D m))∧∃ M',RO (X.more w.heap.size (.cells #[.int .i64 5,.int .i64 (m:Int),.int .i64 v] 63)) w' M' (Zds X.C D m) K now):=hid fun wx hx=>(Znn _ M D K now m wx hx a4 a3).mono fun e w' ⟨h1,M',_,h2⟩=>⟨h1,M',h2⟩
 clear h h1 R1 hm;go_enter func139,ntmps139;go_wp2_with fail;generalize hW:World.alloc w _=W at *
 clear hW;have hB:Below W.heap.size W W.drew:=br.drew;go_region_held3 (fun w'=>w'.cell? ⟨w.heap.size,0,none⟩=some (.int .i64 5)∧w'.cell? ⟨w.heap.size,1,none⟩=some (.int .i64 (m:Int))∧w'.cell? ⟨w.heap.size,2,none⟩=some (.int .i64 v))
  (first|with_reducible exact HS.out _ hB|with_reducible exact HS.out _ hB2|go_keep)
  (first
   | (go_at_call 161;with_reducible refine Calls.mono (CM.out _ hB) ?_;rintro e w2 ⟨rfl,a1⟩;have hB2:=Zb hB a1;clear a1))
 all_goals
  have a0:=hid hB2;have H2:=hid (HH.out.below a0);have s0:=(HS.out _ a0).1;have s1:=(HS.out _ a0).2.1;have s2:=(HS.out _ a0).2.2;clear hB hB2 CM;have a2:RO _ w2.drew M D K now:=H2.out.below br.drew;have a5:=hid a2;clear a2;generalize hrz:Zlb X.C D m=rz at *
  have HZ:=hid hrz;clear hrz;have a6:(Zds X.C D m).evs.length≤1000000000000:=hl;go_wp2_with fail;go_region_held3 (fun w'=>w'.cell? ⟨w.heap.size,0,none⟩=some (.int .i64 5)∧w'.cell? ⟨w.heap.size,1,none⟩=some (.int .i64 (m:Int))∧w'.cell? ⟨w.heap.size,2,none⟩=some (.int .i64 v))
   (first|exact ⟨s0,s1,s2⟩|exact ⟨r0,r1,r2⟩|exact ⟨q0,q1,q2⟩|go_keep)
   (first
    | (go_at_call 163;with_reducible refine Calls.mono (CS.out _ a5.out) ?_;rintro e w3 ⟨rfl,M3,h3⟩;have R3:=h3.topRow;have r0:=R3.cell 0 _ rfl;have r1:=R3.cell 1 _ rfl;have r2:=R3.cell 2 _ rfl;have H3:=hid h3;clear h3 R3)
    | (go_at_call 159;with_reducible refine Calls.mono (CT.out 8 (m:Int) rz _ _ _ H3.out a6) ?_;rintro e w4 ⟨rfl,a',c',h4⟩;have R4:=h4.topRow;have q0:=R4.cell 0 _ rfl;have q1:=R4.cell 1 _ rfl;have q2:=R4.cell 2 _ rfl;have H4:=hid h4.pop;clear h4 R4))
  all_goals
   clear s0 s1 s2 r0 r1 r2 CT;go_wp2;go_end0;exact ⟨rfl,_,by rw [HZ.out];exact H4.out⟩
theorem Yae (X:RC) (M:RM) (D:Dom) (K:KT) (now:Int) (m:Nat) (v cost:Int) (w:World) (h:RO X w M D K now) (hl:D.evs.length≤1000000000000) (hm:Zht X.C X.dn (7,(m:Int),v)=true) (hT:D.tak.length=X.C.ow.length):
  Calls prog 139 #[.pointer (some ⟨X.rb,0,none⟩),.agg #[.int .i64 7,.int .i64 (m:Int),.int .i64 v],.int .i64 cost] w fun e w'=>e=.returned (.tuple #[])∧∃ M',RO X w' M' (Y7 (Znq D m) (now,10,(m:Int),D.tak.getD m 0)) K now:=by
 have h1:=h.push (.cells #[.int .i64 7,.int .i64 (m:Int),.int .i64 v] 63);have a6:X.rb<w.heap.size:=h.row.lt;have R1:=h1.topRow;have HS:Hid (∀ w',Below (w.alloc (.cells #[.int .i64 7,.int .i64 (m:Int),.int .i64 v] 63)).heap.size (w.alloc (.cells #[.int .i64 7,.int .i64 (m:Int),.int .i64 v] 63)) w'→w'.cell? ⟨w.heap.size,0,none⟩=some (.int .i64 7)∧w'.cell? ⟨w.heap.size,1,none⟩=some (.int .i64 (m:Int))∧w'.cell? ⟨w.heap.size,2,none⟩=some (.int .i64 v)):=hid fun w' hb=>⟨Zg hb (R1.cell 0 _ rfl) lr,Zg hb (R1.cell 1 _ rfl) lr,Zg hb (R1.cell 2 _ rfl) lr⟩
 have CM:Hid (∀ wx,Below (w.alloc (.cells #[.int .i64 7,.int .i64 (m:Int),.int .i64 v] 63)).heap.size (w.alloc (.cells #[.int .i64 7,.int .i64 (m:Int),.int .i64 v] 63)) wx→Calls prog 161 #[.pointer (some ⟨X.rb,0,none⟩),.agg #[.int .i64 7,.int .i64 (m:Int),.int .i64 v]] wx fun e w'=>e=.returned (.bool true)∧Below wx.heap.size wx w'):=hid fun wx hb=>by
  have:=Zb8 _ M D K now (7,(m:Int),v) wx (h1.below hb) (by simp)
  rw [hm] at this;exact this
 have CT:Hid (∀ kd p q M' D' wx,RO (X.more w.heap.size (.cells #[.int .i64 7,.int .i64 (m:Int),.int .i64 v] 63)) wx M' D' K now→D'.evs.length≤1000000000000→Calls prog 159 #[.pointer (some ⟨X.rb,0,none⟩),.int .i64 kd,.int .i64 p,.int .i64 q] wx fun e w'=>e=.returned (.tuple #[])∧∃ a' c',RO (X.more w.heap.size (.cells #[.int .i64 7,.int .i64 (m:Int),.int .i64 v] 63)) w' (evM M' a' c') (Y7 D' (now,kd,p,q)) K now):=hid fun kd p q M' D' wx hx hl'=>J2 _ M' D' K now kd p q wx hx hl'
 have HH:=hid h1;have a3:m<D.tak.length:=by
  rw [hT];simp [Zht] at hm;omega
 have CS:Hid (∀ wx,RO (X.more w.heap.size (.cells #[.int .i64 7,.int .i64 (m:Int),.int .i64 v] 63)) wx M D K now→Calls prog 164 #[.pointer (some ⟨X.rb,0,none⟩),.int .i64 (m:Int)] wx fun e w'=>e=.returned (.int .i64 (D.tak.getD m 0))∧∃ M',RO (X.more w.heap.size (.cells #[.int .i64 7,.int .i64 (m:Int),.int .i64 v] 63)) w' M' (Znq D m) K now):=hid fun wx hx=>(Zta _ M D K now m wx hx a3).mono fun e w' ⟨h1,h2⟩=>⟨h1,M,h2⟩
 clear h h1 R1 hm;go_enter func139,ntmps139;go_wp2_with fail;generalize hW:World.alloc w _=W at *
 clear hW;have hB:Below W.heap.size W W.drew:=br.drew;go_region_held3 (fun w'=>w'.cell? ⟨w.heap.size,0,none⟩=some (.int .i64 7)∧w'.cell? ⟨w.heap.size,1,none⟩=some (.int .i64 (m:Int))∧w'.cell? ⟨w.heap.size,2,none⟩=some (.int .i64 v))
  (first|with_reducible exact HS.out _ hB|with_reducible exact HS.out _ hB2|go_keep)
  (first
   | (go_at_call 161;with_reducible refine Calls.mono (CM.out _ hB) ?_;rintro e w2 ⟨rfl,a1⟩;have hB2:=Zb hB a1;clear a1))
 all_goals
  have a0:=hid hB2;have H2:=hid (HH.out.below a0);have s0:=(HS.out _ a0).1;have s1:=(HS.out _ a0).2.1;have s2:=(HS.out _ a0).2.2;clear hB hB2 CM;have a2:RO _ w2.drew M D K now:=H2.out.below br.drew;have a4:=hid a2;clear a2;generalize hrz:D.tak.getD m 0=rz at *
  have HZ:=hid hrz;clear hrz;have a5:(Znq D m).evs.length≤1000000000000:=hl;go_wp2_with fail;go_region_held3 (fun w'=>w'.cell? ⟨w.heap.size,0,none⟩=some (.int .i64 7)∧w'.cell? ⟨w.heap.size,1,none⟩=some (.int .i64 (m:Int))∧w'.cell? ⟨w.heap.size,2,none⟩=some (.int .i64 v))
   (first|exact ⟨s0,s1,s2⟩|exact ⟨r0,r1,r2⟩|exact ⟨q0,q1,q2⟩|go_keep)
   (first
    | (go_at_call 164;with_reducible refine Calls.mono (CS.out _ a4.out) ?_;rintro e w3 ⟨rfl,M3,h3⟩;have R3:=h3.topRow;have r0:=R3.cell 0 _ rfl;have r1:=R3.cell 1 _ rfl;have r2:=R3.cell 2 _ rfl;have H3:=hid h3;clear h3 R3)
    | (go_at_call 159;with_reducible refine Calls.mono (CT.out 10 (m:Int) rz _ _ _ H3.out a5) ?_;rintro e w4 ⟨rfl,a',c',h4⟩;have R4:=h4.topRow;have q0:=R4.cell 0 _ rfl;have q1:=R4.cell 1 _ rfl;have q2:=R4.cell 2 _ rfl;have H4:=hid h4.pop;clear h4 R4))
  all_goals
   clear s0 s1 s2 r0 r1 r2 CT;go_wp2;go_end0;exact ⟨rfl,_,by rw [HZ.out];exact H4.out⟩
theorem Yaf (X:RC) (M:RM) (D:Dom) (K:KT) (now:Int) (m:Nat) (v cost:Int) (w:World) (h:RO X w M D K now) (hl:D.evs.length≤1000000000000) (hm:Zht X.C X.dn (6,(m:Int),v)=true) (hq:1≤X.C.q∧X.C.q≤100) (hn:0≤now∧now≤1000000):
  Calls prog 139 #[.pointer (some ⟨X.rb,0,none⟩),.agg #[.int .i64 6,.int .i64 (m:Int),.int .i64 v],.int .i64 cost] w fun e w'=>e=.returned (.tuple #[])∧∃ M',RO X w' M' (Y7 D (now,7,now-now.tmod X.C.q,0)) K now:=by
 have h1:=h.push (.cells #[.int .i64 6,.int .i64 (m:Int),.int .i64 v] 63);have a7:X.rb<w.heap.size:=h.row.lt;have R1:=h1.topRow;have HS:Hid (∀ w',Below (w.alloc (.cells #[.int .i64 6,.int .i64 (m:Int),.int .i64 v] 63)).heap.size (w.alloc (.cells #[.int .i64 6,.int .i64 (m:Int),.int .i64 v] 63)) w'→w'.cell? ⟨w.heap.size,0,none⟩=some (.int .i64 6)∧w'.cell? ⟨w.heap.size,1,none⟩=some (.int .i64 (m:Int))∧w'.cell? ⟨w.heap.size,2,none⟩=some (.int .i64 v)):=hid fun w' hb=>⟨Zg hb (R1.cell 0 _ rfl) lr,Zg hb (R1.cell 1 _ rfl) lr,Zg hb (R1.cell 2 _ rfl) lr⟩
 have CM:Hid (∀ wx,Below (w.alloc (.cells #[.int .i64 6,.int .i64 (m:Int),.int .i64 v] 63)).heap.size (w.alloc (.cells #[.int .i64 6,.int .i64 (m:Int),.int .i64 v] 63)) wx→Calls prog 161 #[.pointer (some ⟨X.rb,0,none⟩),.agg #[.int .i64 6,.int .i64 (m:Int),.int .i64 v]] wx fun e w'=>e=.returned (.bool true)∧Below wx.heap.size wx w'):=hid fun wx hb=>by
  have:=Zb8 _ M D K now (6,(m:Int),v) wx (h1.below hb) (by simp)
  rw [hm] at this;exact this
 have CT:Hid (∀ kd p q M' D' wx,RO (X.more w.heap.size (.cells #[.int .i64 6,.int .i64 (m:Int),.int .i64 v] 63)) wx M' D' K now→D'.evs.length≤1000000000000→Calls prog 159 #[.pointer (some ⟨X.rb,0,none⟩),.int .i64 kd,.int .i64 p,.int .i64 q] wx fun e w'=>e=.returned (.tuple #[])∧∃ a' c',RO (X.more w.heap.size (.cells #[.int .i64 6,.int .i64 (m:Int),.int .i64 v] 63)) w' (evM M' a' c') (Y7 D' (now,kd,p,q)) K now):=hid fun kd p q M' D' wx hx hl'=>J2 _ M' D' K now kd p q wx hx hl'
 have HH:=hid h1;have HQ:Hid (∀ w' M',RO (X.more w.heap.size (.cells #[.int .i64 6,.int .i64 (m:Int),.int .i64 v] 63)) w' M' D K now→w'.cell? ⟨X.rb,19,none⟩=some (.int .i64 now)∧w'.cell? ⟨X.rb,11,none⟩=some (.int .i64 X.C.q)):=hid fun w' M' hx=>⟨hx.row.cell 19 _ rfl,hx.row.cell 11 _ rfl⟩
 have a8:¬ X.C.q=0:=by omega
 obtain ⟨r,hr⟩:∃ r,now.tmod X.C.q=r:=⟨_,rfl⟩
 have a9:0≤r:=by rw [← hr];exact Int.tmod_nonneg _ hn.1
 have aa:r≤now:=by
  rw [← hr,Int.tmod_eq_emod_of_nonneg hn.1];by_cases hlt:now<X.C.q
  ·rw [Int.emod_eq_of_lt hn.1 hlt]
   exact Int.le_refl _
  ·have:=Int.emod_lt_of_pos now (show 0<X.C.q by omega)
   omega
 have ab:IntKind.i64.wrap (now-r)=now-r:=by rw [IntKind.wrap_i64];omega
 have ac:IntKind.i64.wrap r=r:=by rw [IntKind.wrap_i64];omega
 clear h h1 R1 hm;go_enter func139,ntmps139;go_wp2_with fail;generalize hW:World.alloc w _=W at *
 clear hW;have hB:Below W.heap.size W W.drew:=br.drew;go_region_held3 (fun w'=>w'.cell? ⟨w.heap.size,0,none⟩=some (.int .i64 6)∧w'.cell? ⟨w.heap.size,1,none⟩=some (.int .i64 (m:Int))∧w'.cell? ⟨w.heap.size,2,none⟩=some (.int .i64 v))
  (first|with_reducible exact HS.out _ hB|with_reducible exact HS.out _ hB2|go_keep)
  (first
   | (go_at_call 161;with_reducible refine Calls.mono (CM.out _ hB) ?_;rintro e w2 ⟨rfl,a2⟩;have hB2:=Zb hB a2;clear a2))
 all_goals
  have a0:=hid hB2;have H2:=hid (HH.out.below a0);have s0:=(HS.out _ a0).1;have s1:=(HS.out _ a0).2.1;have s2:=(HS.out _ a0).2.2;clear hB hB2 CM;have a1:RO _ w2.drew M D K now:=H2.out.below br.drew;have a3:=hid a1;have a4:=(HQ.out _ _ a1).1;have a5:=(HQ.out _ _ a1).2;clear a1;go_wp2_with fail;go_region_held3 (fun w'=>w'.cell? ⟨X.rb,19,none⟩=some (.int .i64 now)∧w'.cell? ⟨X.rb,11,none⟩=some (.int .i64 X.C.q))
   (first|exact ⟨a4,a5⟩|exact ⟨y19,y11⟩|go_keep)
   (first
    | (go_at_call 159;with_reducible refine Calls.mono (CT.out 7 (now-r) 0 _ _ _ a3.out hl) ?_;rintro e w4 ⟨rfl,a',c',h4⟩;have y19:=h4.row.cell 19 _ rfl;have y11:=h4.row.cell 11 _ rfl;have H4:=hid h4.pop;clear h4))
  all_goals
   have a6:=hid hr;clear s0 s1 s2 CT hr;go_wp2;go_end0;exact ⟨rfl,_,by rw [a6.out];exact H4.out⟩
end Go.Proofs.YtejhccmclanlmaaGreatDoor
