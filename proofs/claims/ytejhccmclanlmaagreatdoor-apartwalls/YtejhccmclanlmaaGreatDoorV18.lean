/- Sb -/
import Derived.Test.YtejhccmclanlmaaGreatDoorV13
set_option linter.all false
set_option maxRecDepth 100000
set_option maxHeartbeats 8000000
namespace Go.Proofs.YtejhccmclanlmaaGreatDoor
open Go.RowKit Go.Proofs.Tryz
variable {C:Zm}
theorem Zvf (w:World):Calls prog 17 #[] w fun e w'=>∃ A,e=.returned (cv Jw A)∧Z1 w' A Jw∧Below w.heap.size w w':=by
 go_enter func17,ntmps17;go_wp2;have R1:Zf (((w.alloc (.cells #[.int .i64 1,.int .i64 1,.int .i64 1,.int .i64 10,.int .i64 4,.slice (some ⟨w.heap.size+1,0,none⟩) 1 1,.slice none 0 0,.slice none 0 0,.slice (some ⟨w.heap.size+1+1,0,none⟩) 1 1] 27)).alloc (.cells #[.int .i64 0,.int .i64 100] 106)).alloc (.cells #[.int .i64 0,.int .i64 50,.int .i64 40,.int .i64 30] 108)) (w.heap.size+1) 106 [.int .i64 0,.int .i64 100]:=(Zc _ _ [.int .i64 0,.int .i64 100] 106 (by simp)).alloc _;have R2:Zf (((w.alloc (.cells #[.int .i64 1,.int .i64 1,.int .i64 1,.int .i64 10,.int .i64 4,.slice (some ⟨w.heap.size+1,0,none⟩) 1 1,.slice none 0 0,.slice none 0 0,.slice (some ⟨w.heap.size+1+1,0,none⟩) 1 1] 27)).alloc (.cells #[.int .i64 0,.int .i64 100] 106)).alloc (.cells #[.int .i64 0,.int .i64 50,.int .i64 40,.int .i64 30] 108)) (w.heap.size+1+1) 108 [.int .i64 0,.int .i64 50,.int .i64 40,.int .i64 30]:=Zc _ _ [.int .i64 0,.int .i64 50,.int .i64 40,.int .i64 30] 108 (by simp);refine bodyPost_ret (v:=cv Jw ⟨some ⟨w.heap.size+1,0,none⟩,none,none,some ⟨w.heap.size+1+1,0,none⟩,1,0,0,1⟩) (by simp [results,results17,go_sem,Jw]) rfl ⟨_,rfl,?_,((br.alloc lr _).alloc (by simp) _).alloc (by simp;omega) _⟩;refine ⟨fun i hi=>?_,fun i hi=>absurd hi (by simp [Jw]),fun i hi=>absurd hi (by simp [Jw]),fun i hi=>?_,by simp [Jw],by simp [Jw],by simp [Jw],by simp [Jw],by simp [Jw]⟩
 ·obtain rfl:i=0:=by simp [Jw] at hi;exact hi
  exact ⟨_,_,rfl,R1.cell 0 _ rfl,R1.cell 1 _ rfl⟩
 ·obtain rfl:i=0:=by simp [Jw] at hi;exact hi
  exact ⟨_,_,rfl,R2.cell 0 _ rfl,R2.cell 1 _ rfl,R2.cell 2 _ rfl,R2.cell 3 _ rfl⟩
theorem Zxb (h:ckC C=0):Wr.encA C=.tuple #[.string (Zvd (en C)),.int .i64 0]:=by
 rw [Wr.encA,if_pos h,h]
theorem Zut (h:ckC C=0):dec (Zbg (Zvd (en C)))=(C,0,0):=by
 rw [Zkj _ (Zi1 (Zgr h)),Zy8 h]
theorem Zry (h:ckC C=0):(Zvd (en C)).size≤200:=by
 have hF:=Zgr h;have e:(Zvd (en C)).size=(en C).length:=by rw [← Zc9,Zkj _ (Zi1 hF)]
 have l5:=hF.l5;have l6:=hF.l6;have l7:=hF.l7;have l8:=hF.l8;rw [e,Zn4];omega
theorem Zsl (C:Zm) (h:ckC C=0) (w:World):Calls prog 30 #[.string (Zvd (en C))] w fun e w'=>∃ A,e=.returned (.tuple #[cv C A,.int .i64 0,.int .i64 0])∧Z1 w' A C∧Below w.heap.size w w':=by
 refine (Zp6 _ w (by have:=Zry h;omega)).mono ?_;rintro e w' ⟨hb,v,rfl,v5,v6,v7,v8,rfl,hO⟩;rw [Zut h] at hO ⊢;obtain ⟨A,rfl,rfl,rfl,rfl,hC⟩:=hO.conf;exact ⟨A,rfl,hC,hb⟩
theorem Zj3 (w:World):Calls prog 13 #[] w fun e w'=>e=.returned (.bool true)∧Below w.heap.size w w':=by
 have a0:=hid Zvf;have a1:=hid Zyu;have af:Hid (Jw.d=(1:Nat)):=hid rfl;have ag:Hid (itM Jw.ch (idM 1) 1 0=[true]):=hid rfl;generalize Jw=C at *
 go_enter func13,ntmps13;go_wp2_with fail;refine (a0.out _).mono ?_;rintro e w1 ⟨A1,rfl,a9,aa⟩;have H1:=hid a9;have B1:=hid aa;clear a9 aa;go_wp2_with fail;refine (Wr.encode_any C A1 _ H1).mono ?_;rintro e w2 ⟨rfl,ab⟩;have B2:=hid (Zb B1.out ab);clear ab H1 B1;rw [Zxb a1.out];go_wp2_with fail;refine (Zsl C a1 _).mono ?_;rintro e w3 ⟨A3,rfl,ac,a4⟩;have B3:=hid ((Zb B2.out a4).alloc (Zb B2.out a4).size (.cells (cl C A3) 27));have H3:=hid (ac.keep (Za w3 (.cells (cl C A3) 27)));have X3:=hid (Yq w3 C A3);clear B2 a4 ac;obtain ⟨a5,a6,a7,a8,c5,c6,c7,c8⟩:=A3;dsimp only [cv,cl] at *
 go_wp2_with fail;refine (a0.out _).mono ?_;rintro e w4 ⟨A4,rfl,ad,a2⟩;have B4:=hid (Zb B3.out a2);have H4:=hid ad;have D4:=hid (H3.out.keep a2);have X4:=hid (X3.out.keep a2);clear B3 H3 X3 ad a2;go_wp2_with fail;refine (Zjk C A4 _ H4 a1 1 af).mono ?_;rintro e w5 ⟨r,rfl,hM,hr,a3⟩;have B5:=hid (Zb B4.out a3);have D5:=hid (D4.out.keep a3);have X5:=hid (X4.out.keep a3);obtain ⟨L,m1,m2,m3⟩:=hM.outer;have m4:=hM.rows 0 (by omega);rw [ag.out] at m4;have n1:=m1.cell 0 _ (m3 0 (by omega));have n2:=m4.cell 0 _ rfl;clear B4 H4 D4 X4 hM a3 m1 m2 m3 m4 L;obtain ⟨g0,g1,g2,g3,g4,g5,g6,g7,g8⟩:=X5.out;dsimp only at g5 g6 g7 g8;have ae:Below w5.heap.size w5 w5.drew:=br.drew;have HS:Hid (∀ w',Below w5.heap.size w5 w'→w'.cell? ⟨w3.heap.size,0,none⟩=some (.int .i64 C.s)∧w'.cell? ⟨w3.heap.size,1,none⟩=some (.int .i64 C.w)∧w'.cell? ⟨w3.heap.size,2,none⟩=some (.int .i64 C.d)∧w'.cell? ⟨w3.heap.size,3,none⟩=some (.int .i64 C.p)∧w'.cell? ⟨w3.heap.size,4,none⟩=some (.int .i64 C.q)∧w'.cell? ⟨w3.heap.size,5,none⟩=some (.slice a5 C.sl.length c5)∧w'.cell? ⟨w3.heap.size,6,none⟩=some (.slice a6 C.ow.length c6)∧w'.cell? ⟨w3.heap.size,7,none⟩=some (.slice a7 C.ch.length c7)∧w'.cell? ⟨w3.heap.size,8,none⟩=some (.slice a8 C.ta.length c8)∧w'.cell? ⟨r,0,none⟩=some (.slice (some ⟨r+1+0,0,none⟩) 1 1)∧w'.cell? ⟨r+1+0,0,none⟩=some (.bool true)):=hid fun w' hb=>⟨Zg hb g0 lr,Zg hb g1 lr,Zg hb g2 lr,Zg hb g3 lr,Zg hb g4 lr,Zg hb g5 lr,Zg hb g6 lr,Zg hb g7 lr,Zg hb g8 lr,Zg hb n1 lr,Zg hb n2 lr⟩
 go_wp2_with fail;go_region_held3 (fun w'=>w'.cell? ⟨w3.heap.size,0,none⟩=some (.int .i64 C.s)∧w'.cell? ⟨w3.heap.size,1,none⟩=some (.int .i64 C.w)∧w'.cell? ⟨w3.heap.size,2,none⟩=some (.int .i64 C.d)∧w'.cell? ⟨w3.heap.size,3,none⟩=some (.int .i64 C.p)∧w'.cell? ⟨w3.heap.size,4,none⟩=some (.int .i64 C.q)∧w'.cell? ⟨w3.heap.size,5,none⟩=some (.slice a5 C.sl.length c5)∧w'.cell? ⟨w3.heap.size,6,none⟩=some (.slice a6 C.ow.length c6)∧w'.cell? ⟨w3.heap.size,7,none⟩=some (.slice a7 C.ch.length c7)∧w'.cell? ⟨w3.heap.size,8,none⟩=some (.slice a8 C.ta.length c8)∧w'.cell? ⟨r,0,none⟩=some (.slice (some ⟨r+1+0,0,none⟩) 1 1)∧w'.cell? ⟨r+1+0,0,none⟩=some (.bool true))
  (first|exact HS.out _ hB9|exact HS.out _ hB8|exact HS.out _ hB7|exact HS.out _ hB6|exact HS.out _ ae|assumption|go_keep)
  (first
   | (go_at_call 17;refine (a0.out _).mono ?_;rintro e w6 ⟨A6,rfl,ah,ai⟩;have hB6:=Zb ae ai)
   | (go_at_call 17;refine (a0.out _).mono ?_;rintro e w8 ⟨A8,rfl,aj,ak⟩;have hB8:=Zb hB7 ak)
   | (go_at_call 31;refine (Qz C A6 _ ah).mono ?_;rintro e w7 ⟨rfl,al⟩;have hB7:=Zb hB6 al;rw [a1.out])
   | (go_at_call 32;refine (Zg5 C ⟨a5,a6,a7,a8,c5,c6,c7,c8⟩ A8 _ (D5.out.keep hB8) aj).mono ?_;rintro e w9 ⟨rfl,am⟩;have hB9:=Zb hB8 am))
 clear HS hB8 hB7 hB6 g0 g1 g2 g3 g4 g5 g6 g7 g8 n1 n2;go_wp2;go_ret;exact ⟨rfl,Zb B5.out hB9⟩
end Go.Proofs.YtejhccmclanlmaaGreatDoor
