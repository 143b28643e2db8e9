/- Ear -/
import Derived.Test.YtejhccmclanlmaaGreatDoorV04
set_option linter.all false
set_option maxRecDepth 100000
set_option maxHeartbeats 8000000
namespace Go.Proofs.YtejhccmclanlmaaGreatDoor
open Go.RowKit Go.Proofs.Tryz
theorem Zfp (a:Option Addr) (l:List (Int×Int)) (cap:Nat) (w:World) (hw:Qs w a l) (hs:Zf7 l):
  Calls prog 66 #[.slice a l.length cap] w fun e w'=>e=.returned (.int .i64 (Ji l))∧Below w.heap.size w w':=by
 have hl:=hs.1;go_enter func66,ntmps66;go_wp2;go_loopw [3,8] (fun s i wr=>∃ k:Nat,k≤l.length∧i=.int .i64 k∧s=.int .i64 (Ji (l.take k))∧Below w.heap.size w wr) (fun _ i _=>l.length-(intOf i).toNat)
 case atStart=>exact ⟨0,zl,rfl,rfl,br⟩
 case round=>
  obtain ⟨k,hk,rfl,rfl,a0⟩:=hrel;by_cases hlt:k<l.length
  ·obtain ⟨b',o',rfl,c0,c1⟩:=hw k hlt
   replace c0:=Zg a0 c0 lr;replace c1:=Zg a0 c1 lr;have h1:=Zfe hs k hk;have h2:=hs.2 k hlt;have a1:wrap64 (Ji (l.take k)+l[k].2)=Ji (l.take (k+1)):=by rw [Zhc l k hlt];unfold wrap64;omega
   have HB:=hid (Zb a0 (Za wr (.cells #[.int .i64 l[k].1,.int .i64 l[k].2] 106)));clear h1 h2;go_wp2;go_roundw
   case rel=>exact ⟨k+1,by omega,by go_num,by simp [a1],HB.out⟩
   case measure=>simp [intOf];omega
  ·have a2:k=l.length:=by omega
   subst a2;go_wp2;go_ret;exact ⟨Zh (by rw [List.take_length]),a0⟩
theorem Zcf (C:Zm) (B:Mem) (s:Int) (w:World) (hC:Z1 w B C):
  Calls prog 65 #[cv C B,.int .i64 s] w fun e w'=>e=.returned (.int .i64 (Zbt C s))∧Below w.heap.size w w':=by
 have q1:=Za w (.cells (cl C B) 27);have HC:=hid (hC.keep q1);have HX:=hid (Yq w C B);have HB:=hid q1;clear q1 hC;obtain ⟨a5,a6,a7,a8,c5,c6,c7,c8⟩:=B;dsimp only [cv,cl] at *
 go_enter func65,ntmps65;go_wp2_with fail;refine (Qz C ⟨a5,a6,a7,a8,c5,c6,c7,c8⟩ _ HC).mono ?_;rintro e w1 ⟨rfl,a0⟩;have a1:=hid (Zb HB a0);have g5:=(HX.out.keep a0).h5;by_cases h0:ckC C=0
 ·have H0:=hid h0
  have hs:=(Zoj h0).1.1;rw [h0];clear h0 a0 HX HC HB;have a2:wrap64 ((C.sl.length:Int)-1)=(C.sl.length:Int)-1:=by unfold wrap64;omega
  go_wp2_with fail;refine (Zs _ _ _ _).mono ?_;rintro e w' ⟨rfl,rfl⟩
  cases h1:inR s 0 ((C.sl.length:Int)-1) with
  | true=>
   go_wp2;go_ret;exact ⟨Zh (by simp [Zbt,H0.out,h1]),a1.out⟩
  | false=>
   go_wp2;go_ret;exact ⟨Zh (by simp [Zbt,H0.out,h1]),a1.out⟩
 ·have hx:(ckC C != 0)=true:=by simp [h0]
  have HE:Hid (Zbt C s=ckC C):=hid (by simp [Zbt,h0]);clear h0 a0 HX HC HB g5;generalize ckC C=q at *
  go_wp2;go_ret;exact ⟨Zh HE.out.symm,a1.out⟩
theorem Zro (C:Zm) (B:Mem) (r s:Int) (w:World) (hC:Z1 w B C) (hc5:C.sl.length≤B.c5):
  Calls prog 44 #[cv C B,.int .i64 r,.int .i64 s] w fun e w'=>e=.returned (Zcn C r s)∧Below w.heap.size w w':=by
 have q1:=Za w (.cells (cl C B) 27);have HC:=hid (hC.keep q1);have HX:=hid (Yq w C B);have HB:=hid q1;clear q1 hC;obtain ⟨a5,a6,a7,a8,c5,c6,c7,c8⟩:=B;dsimp only [cv,cl] at *
 go_enter func44,ntmps44;go_wp2_with fail;refine (Qz C ⟨a5,a6,a7,a8,c5,c6,c7,c8⟩ _ HC).mono ?_;rintro e w1 ⟨rfl,a0⟩;have a4:=hid (Zb HB a0);have a1:=hid (HC.out.keep a0);have a2:=hid (HX.out.keep a0);by_cases h0:ckC C=0
 ·have H0:=hid h0
  have HS:=hid (Zoj h0).1;rw [h0];clear h0 a0 HX HC HB;go_wp2_with fail;refine (Zs _ _ _ _).mono ?_;rintro e w' ⟨rfl,rfl⟩
  cases h1:inR r 0 8 with
  | false=>
   have HE:Hid (Zcn C r s=.tuple #[.int .i64 0,.int .i64 3]):=hid (by simp [Zcn,Zwu,H0.out,h1]);clear h1;go_wp2;go_ret2;exact ⟨by rw [HE.out];rfl,a4.out⟩
  | true=>
   have H1:=hid h1;clear h1;obtain ⟨g0,g1,g2,g3,g4,g5,g6,g7,g8⟩:=a2.out;go_wp2_with fail;refine (Zcf C ⟨a5,a6,a7,a8,c5,c6,c7,c8⟩ s _ a1).mono ?_;rintro e w2 ⟨rfl,a3⟩;clear g0 g1 g2 g3 g4 g5 g6 g7 g8;have ab:=hid (Zb a4 a3);have a9:=hid (a1.out.keep a3);have g5:=(a2.out.keep a3).h5;by_cases h3:inR s 0 ((C.sl.length:Int)-1)=true
   ·have hz:Zbt C s=0:=by simp [Zbt,H0.out,h3]
    rw [hz];have HE:Hid (Zcn C r s=.tuple #[.int .i64 (Zlr C r s),.int .i64 0]):=hid (by simp [Zcn,Zwu,H0.out,H1.out,h3]);simp [inR] at h3;obtain ⟨k,rfl⟩:∃ k:Nat,s=k:=⟨s.toNat,by omega⟩
    have hk:k<C.sl.length:=by omega
    have HW:=hid (Zp1 HS.out r (by have:=H1.out;simp [inR] at this;omega) (by have:=H1.out;simp [inR] at this;omega) k (by omega));have ac:Hid (Zlr C r k=r*Ji C.sl+Ji (C.sl.take k)):=hid (by simp [Zlr]);have ad:(C.sl.take k).length=k:=by simp;omega
    have ag:(k:Int)≤(c5:Int):=by omega
    have ah:(0:Int)≤(k:Int):=by omega
    have CX:Hid (∀ wx,Below w2.heap.size w2 wx→Calls prog 66 #[.slice a5 C.sl.length c5] wx fun e w'=>e=.returned (.int .i64 (Ji C.sl))∧Below wx.heap.size wx w'):=hid fun wx h=>Zfp a5 C.sl c5 wx (a9.out.keep h).sl HS.out
    have CY:Hid (∀ wx,Below w2.heap.size w2 wx→Calls prog 66 #[.slice a5 k c5] wx fun e w'=>e=.returned (.int .i64 (Ji (C.sl.take k)))∧Below wx.heap.size wx w'):=hid fun wx h=>by
     have:=Zfp a5 (C.sl.take k) c5 wx ((a9.out.keep h).sl.take k) (HS.out.take k)
     rw [ad] at this;exact this
    have ae:Hid (∀ wx,Below w2.heap.size w2 wx→wx.cell? ⟨w.heap.size,5,none⟩=some (.slice a5 C.sl.length c5)):=hid fun wx h=>Zg h g5 lr
    have W1:Hid (IntKind.i64.wrap (r*Ji C.sl)=r*Ji C.sl):=hid (by rw [IntKind.wrap_i64];have:=HW.out.2.2;omega);have W2:Hid (IntKind.i64.wrap (r*Ji C.sl+Ji (C.sl.take k))=r*Ji C.sl+Ji (C.sl.take k)):=hid (by rw [IntKind.wrap_i64];have:=HW.out.2.2;omega);have hB:Below w2.heap.size w2 w2.drew:=br.drew;have af:Hid (Zcn C r k=.tuple #[.int .i64 (r*Ji C.sl+Ji (C.sl.take k)),.int .i64 0]):=hid (by rw [HE.out,ac.out]);clear hz h3 a3 HE ac HW a2 a1 a9 g5;generalize Ji C.sl=q1 at *
    generalize Ji (C.sl.take k)=q2 at *
    go_wp2;go_region_held3 (fun w'=>w'.cell? ⟨w.heap.size,5,none⟩=some (.slice a5 C.sl.length c5))
     (first|exact ae.out _ hB|go_keep)
     (first
      | (go_at_call 66;with_reducible refine Calls.mono (CX.out _ hB) ?_;rintro e w3 ⟨rfl,aa⟩;have hB:=Zb hB aa)
      | (go_at_call 66;with_reducible refine Calls.mono (CY.out _ hB) ?_;rintro e w3 ⟨rfl,aa⟩;have hB:=Zb hB aa))
    have HF:=hid (Zb ab hB);clear hB;go_wp2;go_ret2;refine ⟨?_,HF.out⟩;rw [af.out];show Ending.returned (.tuple #[.int .i64 (IntKind.i64.wrap (IntKind.i64.wrap (r*q1)+q2)),.int .i64 0])=_
    rw [W1.out,W2.out]
   ·have hz:Zbt C s=5:=by simp [Zbt,H0.out,h3]
    rw [hz];have HE:Hid (Zcn C r s=.tuple #[.int .i64 0,.int .i64 5]):=hid (by simp [Zcn,Zwu,H0.out,H1.out,h3]);clear hz h3;go_wp2;go_ret2;exact ⟨by rw [HE.out];rfl,ab.out⟩
 ·have hx:(ckC C != 0)=true:=by simp [h0]
  have HE:Hid (Zcn C r s=.tuple #[.int .i64 0,.int .i64 (ckC C)]):=hid (by simp [Zcn,Zwu,h0]);clear h0 a0 HX HC HB a1 a2;generalize ckC C=q at *
  go_wp2;go_ret2;exact ⟨by rw [HE.out];rfl,a4.out⟩
end Go.Proofs.YtejhccmclanlmaaGreatDoor
