/- Wh Wr1 -/
import Derived.Test.YtejhccmclanlmaaGreatDoorV20
import Derived.Test.YtejhccmclanlmaaGreatDoorV24
import Derived.Test.YtejhccmclanlmaaGreatDoorV25
set_option linter.all false
set_option maxRecDepth 100000
set_option maxHeartbeats 8000000
namespace Go.Proofs.YtejhccmclanlmaaGreatDoor
open Go.RowKit Go.Proofs.Tryz
abbrev shV (M:RM) (D:Dom) (g:Nat):Value:=.agg #[.slice M.A.aJ D.jobs.length M.A.cJ,.slice M.A.aR D.rel.length M.A.cR,.int .i64 D.nxt,.slice M.A.aI D.ins.length M.A.cI,.slice M.A.aT D.tak.length M.A.cT,.slice (some ⟨g,0,none⟩) D.out.length D.out.length,.slice none 0 0]
theorem Zip (M:RM) (D:Dom) (g:Nat):dv (Zq D) (shA M D g)=shV M D g:=by simp [Zq]
def Zy2 (C:Zm) (dn:Int) (D:Dom):Int:=Zq0 C (Zq D) (Za0 C dn C.ta.length)
def Zt3 (C:Zm) (dn:Int) (D:Dom) (te:Int):Int:=if Zy2 C dn D<0 then te else min (Zy2 C dn D) te
theorem Zf0 (X:RC) (M:RM) (D:Dom) (K:KT) (now:Int) (w:World) (h:RO X w M D K now) (hz:ckD X.C X.dn (Zq D)=0):
  Calls prog 135 #[.pointer (some ⟨X.rb,0,none⟩)] w fun e w'=>e=.returned (.int .i64 (J0 X.C D.jobs))∧Below w.heap.size w w':=by
 have a4:X.rb<w.heap.size:=h.row.lt;have HS:Hid (∀ w',Below w.heap.size w w'→w'.cell? ⟨X.rb,7,none⟩=some (.int .i64 X.C.s)∧w'.cell? ⟨X.rb,8,none⟩=some (.int .i64 X.C.w)∧w'.cell? ⟨X.rb,9,none⟩=some (.int .i64 X.C.d)∧w'.cell? ⟨X.rb,10,none⟩=some (.int .i64 X.C.p)∧w'.cell? ⟨X.rb,11,none⟩=some (.int .i64 X.C.q)∧w'.cell? ⟨X.rb,12,none⟩=some (.slice X.B.a5 X.C.sl.length X.B.c5)∧w'.cell? ⟨X.rb,13,none⟩=some (.slice X.B.a6 X.C.ow.length X.B.c6)∧w'.cell? ⟨X.rb,14,none⟩=some (.slice X.B.a7 X.C.ch.length X.B.c7)∧w'.cell? ⟨X.rb,15,none⟩=some (.slice X.B.a8 X.C.ta.length X.B.c8)∧w'.cell? ⟨X.rb,16,none⟩=some (.int .i64 X.dn)):=hid fun w' hb=>⟨Zg hb (h.row.cell 7 _ rfl) lr,Zg hb (h.row.cell 8 _ rfl) lr,Zg hb (h.row.cell 9 _ rfl) lr,Zg hb (h.row.cell 10 _ rfl) lr,Zg hb (h.row.cell 11 _ rfl) lr,Zg hb (h.row.cell 12 _ rfl) lr,Zg hb (h.row.cell 13 _ rfl) lr,Zg hb (h.row.cell 14 _ rfl) lr,Zg hb (h.row.cell 15 _ rfl) lr,Zg hb (h.row.cell 16 _ rfl) lr⟩
 have CX:Hid (∀ wx,Below w.heap.size w wx→Calls prog 134 #[.pointer (some ⟨X.rb,0,none⟩)] wx fun e w'=>∃ g,e=.returned (shV M D g)∧Yz w' (shA M D g) (Zq D)∧Below wx.heap.size wx w'):=hid fun wx hb=>(Zi8 X M D K now wx (h.below hb)).mono fun e w' ⟨g,h1,h2,h3⟩=>⟨g,by rw [h1,Zip],h2,h3⟩
 have CY:Hid (∀ wx g,Below w.heap.size w wx→Yz wx (shA M D g) (Zq D)→Calls prog 157 #[.agg #[.int .i64 X.C.s,.int .i64 X.C.w,.int .i64 X.C.d,.int .i64 X.C.p,.int .i64 X.C.q,.slice X.B.a5 X.C.sl.length X.B.c5,.slice X.B.a6 X.C.ow.length X.B.c6,.slice X.B.a7 X.C.ch.length X.B.c7,.slice X.B.a8 X.C.ta.length X.B.c8],.int .i64 X.dn,shV M D g] wx fun e w'=>e=.returned (.tuple #[.int .i64 (J0 X.C D.jobs),.int .i64 0])∧Below wx.heap.size wx w'):=hid fun wx g hb hd=>by
  have:=Zw8 (Zq D) (shA M D g) X.C X.B X.dn wx (h.confIn.keep hb) hd hz (Zio hz)
  rw [Zip] at this;exact this
 clear h;dsimp only [shV] at CX CY;generalize hr:(J0 X.C D.jobs)=r at *
 have HR:=hid hr;clear hr;have hB:Below w.heap.size w w.drew:=br.drew;go_enter func135,ntmps135;go_wp2_with fail;go_region_held3 (fun w'=>w'.cell? ⟨X.rb,7,none⟩=some (.int .i64 X.C.s)∧w'.cell? ⟨X.rb,8,none⟩=some (.int .i64 X.C.w)∧w'.cell? ⟨X.rb,9,none⟩=some (.int .i64 X.C.d)∧w'.cell? ⟨X.rb,10,none⟩=some (.int .i64 X.C.p)∧w'.cell? ⟨X.rb,11,none⟩=some (.int .i64 X.C.q)∧w'.cell? ⟨X.rb,12,none⟩=some (.slice X.B.a5 X.C.sl.length X.B.c5)∧w'.cell? ⟨X.rb,13,none⟩=some (.slice X.B.a6 X.C.ow.length X.B.c6)∧w'.cell? ⟨X.rb,14,none⟩=some (.slice X.B.a7 X.C.ch.length X.B.c7)∧w'.cell? ⟨X.rb,15,none⟩=some (.slice X.B.a8 X.C.ta.length X.B.c8)∧w'.cell? ⟨X.rb,16,none⟩=some (.int .i64 X.dn))
  (first|with_reducible exact HS.out _ hB|with_reducible exact HS.out _ hB2|with_reducible exact HS.out _ hB3|go_keep)
  (first
   | (go_at_call 134;with_reducible refine Calls.mono (CX.out _ hB) ?_;rintro e w2 ⟨g,rfl,a0,a1⟩;have hB2:=Zb hB a1;have a3:=hid a0;clear a0 a1)
   | (go_at_call 157;with_reducible refine Calls.mono (CY.out _ _ hB2 a3.out) ?_;rintro e w3 ⟨rfl,a2⟩;have hB3:=Zb hB2 a2;clear a2))
 all_goals
  have HF:=hid hB3;clear hB hB2 hB3 HS CX CY;go_wp2;go_ret;exact ⟨rfl,HF.out⟩
theorem Zvu (X:RC) (M:RM) (D:Dom) (K:KT) (now:Int) (w:World) (h:RO X w M D K now) (hz:ckD X.C X.dn (Zq D)=0):
  Calls prog 136 #[.pointer (some ⟨X.rb,0,none⟩),.int .i64 X.tq] w fun e w'=>e=.returned (.int .i64 (Zt3 X.C X.dn D X.tq))∧Below w.heap.size w w':=by
 have a4:X.rb<w.heap.size:=h.row.lt;have HS:Hid (∀ w',Below w.heap.size w w'→w'.cell? ⟨X.rb,7,none⟩=some (.int .i64 X.C.s)∧w'.cell? ⟨X.rb,8,none⟩=some (.int .i64 X.C.w)∧w'.cell? ⟨X.rb,9,none⟩=some (.int .i64 X.C.d)∧w'.cell? ⟨X.rb,10,none⟩=some (.int .i64 X.C.p)∧w'.cell? ⟨X.rb,11,none⟩=some (.int .i64 X.C.q)∧w'.cell? ⟨X.rb,12,none⟩=some (.slice X.B.a5 X.C.sl.length X.B.c5)∧w'.cell? ⟨X.rb,13,none⟩=some (.slice X.B.a6 X.C.ow.length X.B.c6)∧w'.cell? ⟨X.rb,14,none⟩=some (.slice X.B.a7 X.C.ch.length X.B.c7)∧w'.cell? ⟨X.rb,15,none⟩=some (.slice X.B.a8 X.C.ta.length X.B.c8)∧w'.cell? ⟨X.rb,16,none⟩=some (.int .i64 X.dn)):=hid fun w' hb=>⟨Zg hb (h.row.cell 7 _ rfl) lr,Zg hb (h.row.cell 8 _ rfl) lr,Zg hb (h.row.cell 9 _ rfl) lr,Zg hb (h.row.cell 10 _ rfl) lr,Zg hb (h.row.cell 11 _ rfl) lr,Zg hb (h.row.cell 12 _ rfl) lr,Zg hb (h.row.cell 13 _ rfl) lr,Zg hb (h.row.cell 14 _ rfl) lr,Zg hb (h.row.cell 15 _ rfl) lr,Zg hb (h.row.cell 16 _ rfl) lr⟩
 have CX:Hid (∀ wx,Below w.heap.size w wx→Calls prog 134 #[.pointer (some ⟨X.rb,0,none⟩)] wx fun e w'=>∃ g,e=.returned (shV M D g)∧Yz w' (shA M D g) (Zq D)∧Below wx.heap.size wx w'):=hid fun wx hb=>(Zi8 X M D K now wx (h.below hb)).mono fun e w' ⟨g,h1,h2,h3⟩=>⟨g,by rw [h1,Zip],h2,h3⟩
 have CY:Hid (∀ wx g,Below w.heap.size w wx→Yz wx (shA M D g) (Zq D)→Calls prog 158 #[.agg #[.int .i64 X.C.s,.int .i64 X.C.w,.int .i64 X.C.d,.int .i64 X.C.p,.int .i64 X.C.q,.slice X.B.a5 X.C.sl.length X.B.c5,.slice X.B.a6 X.C.ow.length X.B.c6,.slice X.B.a7 X.C.ch.length X.B.c7,.slice X.B.a8 X.C.ta.length X.B.c8],.int .i64 X.dn,shV M D g] wx fun e w'=>e=.returned (.tuple #[.int .i64 (Zy2 X.C X.dn D),.int .i64 0])∧Below wx.heap.size wx w'):=hid fun wx g hb hd=>by
  have:=Zyn (Zq D) (shA M D g) X.C X.B X.dn wx (h.confIn.keep hb) hd hz
  rw [Zip] at this;exact this
 clear h;dsimp only [shV] at CX CY;generalize hr:(Zy2 X.C X.dn D)=r at *
 have HR:=hid hr;clear hr;have hB:Below w.heap.size w w.drew:=br.drew;go_enter func136,ntmps136;go_wp2_with fail;go_region_held3 (fun w'=>w'.cell? ⟨X.rb,7,none⟩=some (.int .i64 X.C.s)∧w'.cell? ⟨X.rb,8,none⟩=some (.int .i64 X.C.w)∧w'.cell? ⟨X.rb,9,none⟩=some (.int .i64 X.C.d)∧w'.cell? ⟨X.rb,10,none⟩=some (.int .i64 X.C.p)∧w'.cell? ⟨X.rb,11,none⟩=some (.int .i64 X.C.q)∧w'.cell? ⟨X.rb,12,none⟩=some (.slice X.B.a5 X.C.sl.length X.B.c5)∧w'.cell? ⟨X.rb,13,none⟩=some (.slice X.B.a6 X.C.ow.length X.B.c6)∧w'.cell? ⟨X.rb,14,none⟩=some (.slice X.B.a7 X.C.ch.length X.B.c7)∧w'.cell? ⟨X.rb,15,none⟩=some (.slice X.B.a8 X.C.ta.length X.B.c8)∧w'.cell? ⟨X.rb,16,none⟩=some (.int .i64 X.dn))
  (first|with_reducible exact HS.out _ hB|with_reducible exact HS.out _ hB2|with_reducible exact HS.out _ hB3|go_keep)
  (first
   | (go_at_call 134;with_reducible refine Calls.mono (CX.out _ hB) ?_;rintro e w2 ⟨g,rfl,a0,a1⟩;have hB2:=Zb hB a1;have a3:=hid a0;clear a0 a1)
   | (go_at_call 158;with_reducible refine Calls.mono (CY.out _ _ hB2 a3.out) ?_;rintro e w3 ⟨rfl,a2⟩;have hB3:=Zb hB2 a2;clear a2))
 all_goals
  have HF:=hid hB3;clear hB hB2 hB3 HS CX CY;go_wp2
  all_goals go_ret
  all_goals exact ⟨Zh (by rw [Zt3,HR.out];first|omega|(split<;>first|omega|(rw [Int.min_def];split<;>omega))),HF.out⟩
theorem Zyz (X:RC) (M:RM) (D:Dom) (K:KT) (now:Int) (k:Int) (m:Nat) (v cost:Int) (w:World) (h:RO X w M D K now) (hl:D.evs.length≤1000000000000) (hm:Zht X.C X.dn (k,(m:Int),v)=false):
  Calls prog 139 #[.pointer (some ⟨X.rb,0,none⟩),.agg #[.int .i64 k,.int .i64 (m:Int),.int .i64 v],.int .i64 cost] w fun e w'=>e=.returned (.tuple #[])∧∃ M',RO X w' M' (Y7 D (now,12,D.nxt,0)) K now:=by
 have h1:=h.push (.cells #[.int .i64 k,.int .i64 (m:Int),.int .i64 v] 63);have a2:X.rb<w.heap.size:=h.row.lt;have R1:=h1.topRow;have HS:Hid (∀ w',Below (w.alloc (.cells #[.int .i64 k,.int .i64 (m:Int),.int .i64 v] 63)).heap.size (w.alloc (.cells #[.int .i64 k,.int .i64 (m:Int),.int .i64 v] 63)) w'→w'.cell? ⟨w.heap.size,0,none⟩=some (.int .i64 k)∧w'.cell? ⟨w.heap.size,1,none⟩=some (.int .i64 (m:Int))∧w'.cell? ⟨w.heap.size,2,none⟩=some (.int .i64 v)):=hid fun w' hb=>⟨Zg hb (R1.cell 0 _ rfl) lr,Zg hb (R1.cell 1 _ rfl) lr,Zg hb (R1.cell 2 _ rfl) lr⟩
 have CM:Hid (∀ wx,Below (w.alloc (.cells #[.int .i64 k,.int .i64 (m:Int),.int .i64 v] 63)).heap.size (w.alloc (.cells #[.int .i64 k,.int .i64 (m:Int),.int .i64 v] 63)) wx→Calls prog 161 #[.pointer (some ⟨X.rb,0,none⟩),.agg #[.int .i64 k,.int .i64 (m:Int),.int .i64 v]] wx fun e w'=>e=.returned (.bool false)∧Below wx.heap.size wx w'):=hid fun wx hb=>by
  have:=Zb8 _ M D K now (k,(m:Int),v) wx (h1.below hb) (by simp)
  rw [hm] at this;exact this
 have CT:Hid (∀ kd p q M' D' wx,RO (X.more w.heap.size (.cells #[.int .i64 k,.int .i64 (m:Int),.int .i64 v] 63)) wx M' D' K now→D'.evs.length≤1000000000000→Calls prog 159 #[.pointer (some ⟨X.rb,0,none⟩),.int .i64 kd,.int .i64 p,.int .i64 q] wx fun e w'=>e=.returned (.tuple #[])∧∃ a' c',RO (X.more w.heap.size (.cells #[.int .i64 k,.int .i64 (m:Int),.int .i64 v] 63)) w' (evM M' a' c') (Y7 D' (now,kd,p,q)) K now):=hid fun kd p q M' D' wx hx hl'=>J2 _ M' D' K now kd p q wx hx hl'
 have HH:=hid h1;have c2:Hid (∀ w',Below (w.alloc (.cells #[.int .i64 k,.int .i64 (m:Int),.int .i64 v] 63)).heap.size (w.alloc (.cells #[.int .i64 k,.int .i64 (m:Int),.int .i64 v] 63)) w'→w'.cell? ⟨X.rb,2,none⟩=some (.int .i64 D.nxt)):=hid fun w' hb=>Zg hb (h1.row.cell 2 _ rfl) lr
 clear h h1 R1 hm;go_enter func139,ntmps139;go_wp2_with fail;generalize hW:World.alloc w _=W at *
 clear hW;have hB:Below W.heap.size W W.drew:=br.drew;go_region_held3 (fun w'=>w'.cell? ⟨w.heap.size,0,none⟩=some (.int .i64 k)∧w'.cell? ⟨w.heap.size,1,none⟩=some (.int .i64 (m:Int))∧w'.cell? ⟨w.heap.size,2,none⟩=some (.int .i64 v))
  (first|with_reducible exact HS.out _ hB|with_reducible exact HS.out _ hB2|go_keep)
  (first
   | (go_at_call 161;with_reducible refine Calls.mono (CM.out _ hB) ?_;rintro e w2 ⟨rfl,a1⟩;have hB2:=Zb hB a1;clear a1))
 all_goals
  have a0:=hid hB2;have H2:=hid (HH.out.below a0);have s0:=(HS.out _ a0).1;have s1:=(HS.out _ a0).2.1;have s2:=(HS.out _ a0).2.2;clear hB hB2 CM;have x2:=c2.out _ a0.out;go_wp2_with fail;refine Calls.mono (CT.out 12 D.nxt 0 _ _ _ H2 hl) ?_;rintro e w3 ⟨rfl,a',c',h3⟩;have H3:=hid h3.pop;clear h3 CT;go_wp2
  first
   | (go_end0;exact ⟨rfl,_,H3.out⟩)
   | exact bodyPost_ret (v:=.tuple #[]) (by simp [results,results139,go_sem]) rfl ⟨rfl,_,H3.out⟩
theorem Yaa (X:RC) (M:RM) (D:Dom) (K:KT) (now:Int) (m:Nat) (v cost:Int) (w:World) (h:RO X w M D K now) (hl:D.evs.length≤1000000000000) (hm:Zht X.C X.dn (1,(m:Int),v)=true):
  Calls prog 139 #[.pointer (some ⟨X.rb,0,none⟩),.agg #[.int .i64 1,.int .i64 (m:Int),.int .i64 v],.int .i64 cost] w fun e w'=>e=.returned (.tuple #[])∧∃ M',RO X w' M' (Y7 D (now,11,cost,0)) K now:=by
 have h1:=h.push (.cells #[.int .i64 1,.int .i64 (m:Int),.int .i64 v] 63);have a2:X.rb<w.heap.size:=h.row.lt;have R1:=h1.topRow;have HS:Hid (∀ w',Below (w.alloc (.cells #[.int .i64 1,.int .i64 (m:Int),.int .i64 v] 63)).heap.size (w.alloc (.cells #[.int .i64 1,.int .i64 (m:Int),.int .i64 v] 63)) w'→w'.cell? ⟨w.heap.size,0,none⟩=some (.int .i64 1)∧w'.cell? ⟨w.heap.size,1,none⟩=some (.int .i64 (m:Int))∧w'.cell? ⟨w.heap.size,2,none⟩=some (.int .i64 v)):=hid fun w' hb=>⟨Zg hb (R1.cell 0 _ rfl) lr,Zg hb (R1.cell 1 _ rfl) lr,Zg hb (R1.cell 2 _ rfl) lr⟩
 have CM:Hid (∀ wx,Below (w.alloc (.cells #[.int .i64 1,.int .i64 (m:Int),.int .i64 v] 63)).heap.size (w.alloc (.cells #[.int .i64 1,.int .i64 (m:Int),.int .i64 v] 63)) wx→Calls prog 161 #[.pointer (some ⟨X.rb,0,none⟩),.agg #[.int .i64 1,.int .i64 (m:Int),.int .i64 v]] wx fun e w'=>e=.returned (.bool true)∧Below wx.heap.size wx w'):=hid fun wx hb=>by
  have:=Zb8 _ M D K now (1,(m:Int),v) wx (h1.below hb) (by simp)
  rw [hm] at this;exact this
 have CT:Hid (∀ kd p q M' D' wx,RO (X.more w.heap.size (.cells #[.int .i64 1,.int .i64 (m:Int),.int .i64 v] 63)) wx M' D' K now→D'.evs.length≤1000000000000→Calls prog 159 #[.pointer (some ⟨X.rb,0,none⟩),.int .i64 kd,.int .i64 p,.int .i64 q] wx fun e w'=>e=.returned (.tuple #[])∧∃ a' c',RO (X.more w.heap.size (.cells #[.int .i64 1,.int .i64 (m:Int),.int .i64 v] 63)) w' (evM M' a' c') (Y7 D' (now,kd,p,q)) K now):=hid fun kd p q M' D' wx hx hl'=>J2 _ M' D' K now kd p q wx hx hl'
 have HH:=hid h1;clear h h1 R1 hm;go_enter func139,ntmps139;go_wp2_with fail;generalize hW:World.alloc w _=W at *
 clear hW;have hB:Below W.heap.size W W.drew:=br.drew;go_region_held3 (fun w'=>w'.cell? ⟨w.heap.size,0,none⟩=some (.int .i64 1)∧w'.cell? ⟨w.heap.size,1,none⟩=some (.int .i64 (m:Int))∧w'.cell? ⟨w.heap.size,2,none⟩=some (.int .i64 v))
  (first|with_reducible exact HS.out _ hB|with_reducible exact HS.out _ hB2|go_keep)
  (first
   | (go_at_call 161;with_reducible refine Calls.mono (CM.out _ hB) ?_;rintro e w2 ⟨rfl,a1⟩;have hB2:=Zb hB a1;clear a1))
 all_goals
  have a0:=hid hB2;have H2:=hid (HH.out.below a0);have s0:=(HS.out _ a0).1;have s1:=(HS.out _ a0).2.1;have s2:=(HS.out _ a0).2.2;clear hB hB2 CM;go_wp2_with fail;refine Calls.mono (CT.out 11 cost 0 _ _ _ H2 hl) ?_;rintro e w3 ⟨rfl,a',c',h3⟩;have H3:=hid h3.pop;clear h3 CT;go_wp2
  first
   | (go_end0;exact ⟨rfl,_,H3.out⟩)
   | exact bodyPost_ret (v:=.tuple #[]) (by simp [results,results139,go_sem]) rfl ⟨rfl,_,H3.out⟩
theorem Zzo (X:RC) (M:RM) (D:Dom) (K:KT) (now:Int) (m:Nat) (v cost:Int) (w:World) (h:RO X w M D K now) (hl:D.evs.length≤1000000000000) (hm:Zht X.C X.dn (2,(m:Int),v)=true):
  Calls prog 139 #[.pointer (some ⟨X.rb,0,none⟩),.agg #[.int .i64 2,.int .i64 (m:Int),.int .i64 v],.int .i64 cost] w fun e w'=>e=.returned (.tuple #[])∧∃ M',RO X w' M' (Y7 D (now,11,cost,0)) K now:=by
 have h1:=h.push (.cells #[.int .i64 2,.int .i64 (m:Int),.int .i64 v] 63);have a2:X.rb<w.heap.size:=h.row.lt;have R1:=h1.topRow;have HS:Hid (∀ w',Below (w.alloc (.cells #[.int .i64 2,.int .i64 (m:Int),.int .i64 v] 63)).heap.size (w.alloc (.cells #[.int .i64 2,.int .i64 (m:Int),.int .i64 v] 63)) w'→w'.cell? ⟨w.heap.size,0,none⟩=some (.int .i64 2)∧w'.cell? ⟨w.heap.size,1,none⟩=some (.int .i64 (m:Int))∧w'.cell? ⟨w.heap.size,2,none⟩=some (.int .i64 v)):=hid fun w' hb=>⟨Zg hb (R1.cell 0 _ rfl) lr,Zg hb (R1.cell 1 _ rfl) lr,Zg hb (R1.cell 2 _ rfl) lr⟩
 have CM:Hid (∀ wx,Below (w.alloc (.cells #[.int .i64 2,.int .i64 (m:Int),.int .i64 v] 63)).heap.size (w.alloc (.cells #[.int .i64 2,.int .i64 (m:Int),.int .i64 v] 63)) wx→Calls prog 161 #[.pointer (some ⟨X.rb,0,none⟩),.agg #[.int .i64 2,.int .i64 (m:Int),.int .i64 v]] wx fun e w'=>e=.returned (.bool true)∧Below wx.heap.size wx w'):=hid fun wx hb=>by
  have:=Zb8 _ M D K now (2,(m:Int),v) wx (h1.below hb) (by simp)
  rw [hm] at this;exact this
 have CT:Hid (∀ kd p q M' D' wx,RO (X.more w.heap.size (.cells #[.int .i64 2,.int .i64 (m:Int),.int .i64 v] 63)) wx M' D' K now→D'.evs.length≤1000000000000→Calls prog 159 #[.pointer (some ⟨X.rb,0,none⟩),.int .i64 kd,.int .i64 p,.int .i64 q] wx fun e w'=>e=.returned (.tuple #[])∧∃ a' c',RO (X.more w.heap.size (.cells #[.int .i64 2,.int .i64 (m:Int),.int .i64 v] 63)) w' (evM M' a' c') (Y7 D' (now,kd,p,q)) K now):=hid fun kd p q M' D' wx hx hl'=>J2 _ M' D' K now kd p q wx hx hl'
 have HH:=hid h1;clear h h1 R1 hm;go_enter func139,ntmps139;go_wp2_with fail;generalize hW:World.alloc w _=W at *
 clear hW;have hB:Below W.heap.size W W.drew:=br.drew;go_region_held3 (fun w'=>w'.cell? ⟨w.heap.size,0,none⟩=some (.int .i64 2)∧w'.cell? ⟨w.heap.size,1,none⟩=some (.int .i64 (m:Int))∧w'.cell? ⟨w.heap.size,2,none⟩=some (.int .i64 v))
  (first|with_reducible exact HS.out _ hB|with_reducible exact HS.out _ hB2|go_keep)
  (first
   | (go_at_call 161;with_reducible refine Calls.mono (CM.out _ hB) ?_;rintro e w2 ⟨rfl,a1⟩;have hB2:=Zb hB a1;clear a1))
 all_goals
  have a0:=hid hB2;have H2:=hid (HH.out.below a0);have s0:=(HS.out _ a0).1;have s1:=(HS.out _ a0).2.1;have s2:=(HS.out _ a0).2.2;clear hB hB2 CM;go_wp2_with fail;refine Calls.mono (CT.out 11 cost 0 _ _ _ H2 hl) ?_;rintro e w3 ⟨rfl,a',c',h3⟩;have H3:=hid h3.pop;clear h3 CT;go_wp2
  first
   | (go_end0;exact ⟨rfl,_,H3.out⟩)
   | exact bodyPost_ret (v:=.tuple #[]) (by simp [results,results139,go_sem]) rfl ⟨rfl,_,H3.out⟩
theorem Zz4 (X:RC) (M:RM) (D:Dom) (K:KT) (now:Int) (m:Nat) (v cost:Int) (w:World) (h:RO X w M D K now) (hl:D.evs.length≤1000000000000) (hm:Zht X.C X.dn (3,(m:Int),v)=true):
  Calls prog 139 #[.pointer (some ⟨X.rb,0,none⟩),.agg #[.int .i64 3,.int .i64 (m:Int),.int .i64 v],.int .i64 cost] w fun e w'=>e=.returned (.tuple #[])∧∃ M',RO X w' M' (Y7 D (now,11,cost,0)) K now:=by
 have h1:=h.push (.cells #[.int .i64 3,.int .i64 (m:Int),.int .i64 v] 63);have a2:X.rb<w.heap.size:=h.row.lt;have R1:=h1.topRow;have HS:Hid (∀ w',Below (w.alloc (.cells #[.int .i64 3,.int .i64 (m:Int),.int .i64 v] 63)).heap.size (w.alloc (.cells #[.int .i64 3,.int .i64 (m:Int),.int .i64 v] 63)) w'→w'.cell? ⟨w.heap.size,0,none⟩=some (.int .i64 3)∧w'.cell? ⟨w.heap.size,1,none⟩=some (.int .i64 (m:Int))∧w'.cell? ⟨w.heap.size,2,none⟩=some (.int .i64 v)):=hid fun w' hb=>⟨Zg hb (R1.cell 0 _ rfl) lr,Zg hb (R1.cell 1 _ rfl) lr,Zg hb (R1.cell 2 _ rfl) lr⟩
 have CM:Hid (∀ wx,Below (w.alloc (.cells #[.int .i64 3,.int .i64 (m:Int),.int .i64 v] 63)).heap.size (w.alloc (.cells #[.int .i64 3,.int .i64 (m:Int),.int .i64 v] 63)) wx→Calls prog 161 #[.pointer (some ⟨X.rb,0,none⟩),.agg #[.int .i64 3,.int .i64 (m:Int),.int .i64 v]] wx fun e w'=>e=.returned (.bool true)∧Below wx.heap.size wx w'):=hid fun wx hb=>by
  have:=Zb8 _ M D K now (3,(m:Int),v) wx (h1.below hb) (by simp)
  rw [hm] at this;exact this
 have CT:Hid (∀ kd p q M' D' wx,RO (X.more w.heap.size (.cells #[.int .i64 3,.int .i64 (m:Int),.int .i64 v] 63)) wx M' D' K now→D'.evs.length≤1000000000000→Calls prog 159 #[.pointer (some ⟨X.rb,0,none⟩),.int .i64 kd,.int .i64 p,.int .i64 q] wx fun e w'=>e=.returned (.tuple #[])∧∃ a' c',RO (X.more w.heap.size (.cells #[.int .i64 3,.int .i64 (m:Int),.int .i64 v] 63)) w' (evM M' a' c') (Y7 D' (now,kd,p,q)) K now):=hid fun kd p q M' D' wx hx hl'=>J2 _ M' D' K now kd p q wx hx hl'
 have HH:=hid h1;clear h h1 R1 hm;go_enter func139,ntmps139;go_wp2_with fail;generalize hW:World.alloc w _=W at *
 clear hW;have hB:Below W.heap.size W W.drew:=br.drew;go_region_held3 (fun w'=>w'.cell? ⟨w.heap.size,0,none⟩=some (.int .i64 3)∧w'.cell? ⟨w.heap.size,1,none⟩=some (.int .i64 (m:Int))∧w'.cell? ⟨w.heap.size,2,none⟩=some (.int .i64 v))
  (first|with_reducible exact HS.out _ hB|with_reducible exact HS.out _ hB2|go_keep)
  (first
   | (go_at_call 161;with_reducible refine Calls.mono (CM.out _ hB) ?_;rintro e w2 ⟨rfl,a1⟩;have hB2:=Zb hB a1;clear a1))
 all_goals
  have a0:=hid hB2;have H2:=hid (HH.out.below a0);have s0:=(HS.out _ a0).1;have s1:=(HS.out _ a0).2.1;have s2:=(HS.out _ a0).2.2;clear hB hB2 CM;go_wp2_with fail;refine Calls.mono (CT.out 11 cost 0 _ _ _ H2 hl) ?_;rintro e w3 ⟨rfl,a',c',h3⟩;have H3:=hid h3.pop;clear h3 CT;go_wp2
  first
   | (go_end0;exact ⟨rfl,_,H3.out⟩)
   | exact bodyPost_ret (v:=.tuple #[]) (by simp [results,results139,go_sem]) rfl ⟨rfl,_,H3.out⟩
theorem Zzn (X:RC) (M:RM) (D:Dom) (K:KT) (now:Int) (m:Nat) (v cost:Int) (w:World) (h:RO X w M D K now) (hl:D.evs.length≤1000000000000) (hm:Zht X.C X.dn (8,(m:Int),v)=true):
  Calls prog 139 #[.pointer (some ⟨X.rb,0,none⟩),.agg #[.int .i64 8,.int .i64 (m:Int),.int .i64 v],.int .i64 cost] w fun e w'=>e=.returned (.tuple #[])∧∃ M',RO X w' M' (D) K now:=by
 have h1:=h.push (.cells #[.int .i64 8,.int .i64 (m:Int),.int .i64 v] 63);have a2:X.rb<w.heap.size:=h.row.lt;have R1:=h1.topRow;have HS:Hid (∀ w',Below (w.alloc (.cells #[.int .i64 8,.int .i64 (m:Int),.int .i64 v] 63)).heap.size (w.alloc (.cells #[.int .i64 8,.int .i64 (m:Int),.int .i64 v] 63)) w'→w'.cell? ⟨w.heap.size,0,none⟩=some (.int .i64 8)∧w'.cell? ⟨w.heap.size,1,none⟩=some (.int .i64 (m:Int))∧w'.cell? ⟨w.heap.size,2,none⟩=some (.int .i64 v)):=hid fun w' hb=>⟨Zg hb (R1.cell 0 _ rfl) lr,Zg hb (R1.cell 1 _ rfl) lr,Zg hb (R1.cell 2 _ rfl) lr⟩
 have CM:Hid (∀ wx,Below (w.alloc (.cells #[.int .i64 8,.int .i64 (m:Int),.int .i64 v] 63)).heap.size (w.alloc (.cells #[.int .i64 8,.int .i64 (m:Int),.int .i64 v] 63)) wx→Calls prog 161 #[.pointer (some ⟨X.rb,0,none⟩),.agg #[.int .i64 8,.int .i64 (m:Int),.int .i64 v]] wx fun e w'=>e=.returned (.bool true)∧Below wx.heap.size wx w'):=hid fun wx hb=>by
  have:=Zb8 _ M D K now (8,(m:Int),v) wx (h1.below hb) (by simp)
  rw [hm] at this;exact this
 have CT:Hid (∀ kd p q M' D' wx,RO (X.more w.heap.size (.cells #[.int .i64 8,.int .i64 (m:Int),.int .i64 v] 63)) wx M' D' K now→D'.evs.length≤1000000000000→Calls prog 159 #[.pointer (some ⟨X.rb,0,none⟩),.int .i64 kd,.int .i64 p,.int .i64 q] wx fun e w'=>e=.returned (.tuple #[])∧∃ a' c',RO (X.more w.heap.size (.cells #[.int .i64 8,.int .i64 (m:Int),.int .i64 v] 63)) w' (evM M' a' c') (Y7 D' (now,kd,p,q)) K now):=hid fun kd p q M' D' wx hx hl'=>J2 _ M' D' K now kd p q wx hx hl'
 have HH:=hid h1;clear h h1 R1 hm;go_enter func139,ntmps139;go_wp2_with fail;generalize hW:World.alloc w _=W at *
 clear hW;have hB:Below W.heap.size W W.drew:=br.drew;go_region_held3 (fun w'=>w'.cell? ⟨w.heap.size,0,none⟩=some (.int .i64 8)∧w'.cell? ⟨w.heap.size,1,none⟩=some (.int .i64 (m:Int))∧w'.cell? ⟨w.heap.size,2,none⟩=some (.int .i64 v))
  (first|with_reducible exact HS.out _ hB|with_reducible exact HS.out _ hB2|go_keep)
  (first
   | (go_at_call 161;with_reducible refine Calls.mono (CM.out _ hB) ?_;rintro e w2 ⟨rfl,a1⟩;have hB2:=Zb hB a1;clear a1))
 all_goals
  have a0:=hid hB2;have H2:=hid (HH.out.below a0);have s0:=(HS.out _ a0).1;have s1:=(HS.out _ a0).2.1;have s2:=(HS.out _ a0).2.2;clear hB hB2 CM;go_wp2;go_end0;exact ⟨rfl,_,H2.out.pop⟩
end Go.Proofs.YtejhccmclanlmaaGreatDoor
