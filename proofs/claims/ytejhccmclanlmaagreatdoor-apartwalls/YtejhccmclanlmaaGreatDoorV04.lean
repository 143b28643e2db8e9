/- Ne Nf Aa Xb Oa Xc Ob Ck Cl Cm Wc Sx Ta Ea Cn -/
import Derived.OwnWalk
import Derived.Lib.AppendZeros
import Derived.Laws.BitsLemmas
import Derived.Test.YtejhccmclanlmaaGreatDoorV03
set_option linter.all false
set_option maxRecDepth 100000
set_option maxHeartbeats 8000000
namespace Go.Proofs.YtejhccmclanlmaaGreatDoor
open Go.RowKit Go.Proofs.Tryz
variable {l:List (Int×Int)} {C:List (List (Int×Bool))} {L xs:List Value} {b base g g0 n size:Nat} {row:Option Nat} {t:TypeId} {v:Value} {w w':World}
theorem Ze2 (C:Zm) (A:Mem) (w:World) (hC:Z1 w A C) (hd1:1≤C.d) (hd4:C.d≤4):
  Calls prog 57 #[cv C A] w fun e w'=>e=.returned (.int .i64 (Ze3 C))∧Below w.heap.size w w':=by
 have l7:=hC.l7;have k7:=hC.k7;have ak:(C.ch.length:Int)≤(A.c7:Int):=by omega
 have q1:=Za w (.cells (cl C A) 27);have B1:=hid (Yq w C A);have hS:=hC.ch.keep q1;obtain ⟨a5,a6,a7,a8,c5,c6,c7,c8⟩:=A;dsimp only [cv,cl] at *
 go_enter func57,ntmps57;go_wp2;generalize hW:World.alloc _ _=W at *
 clear hW hC;go_loopw [9] (fun i wr=>∃ k:Nat,k≤C.ch.length∧i=.int .i64 k∧Below W.heap.size W wr∧∀ j,j<k→Zhr C.d C.ch j=0) (fun i _=>C.ch.length-(intOf i).toNat)
 case atStart=>exact ⟨0,zl,rfl,br,by omega⟩
 case round=>
  obtain ⟨k,hk,rfl,a0,ab⟩:=hrel;have a4:=hid ab;clear ab;by_cases hlt:k<C.ch.length
  ·obtain ⟨b',o',rfl,ac,ad,ae⟩:=hS k hlt
   have a1:=Zg a0 ac lr;have a2:=Zg a0 ad lr;have a3:=Zg a0 ae lr;have ag:(k:Int)<(C.ch.length:Int):=by omega
   have al:(k:Int)≤(c7:Int):=by omega
   have HD:Hid (C.ch[k]? = some C.ch[k]):=List.getElem?_eq_getElem hlt;have am:=(B1.out.keep a0).lt;obtain ⟨g0,g1,g2,g3,g4,g5,g6,g7,g8⟩:=B1.out.keep a0;dsimp only at g5 g6 g7 g8;have HF:Hid (Zhr C.d C.ch k≠0→Ze3 C=Zhr C.d C.ch k):=fun h0=>Zbe C.ch.length k (Zhr C.d C.ch) hlt h0 a4.out
   generalize C.ch[k]=x at *
   obtain ⟨x1,x2,x3⟩:=x;simp only at a1 a2 a3;clear ac ad ae;have q3:=Za wr (.cells #[.int .i64 x1,.int .i64 x2,.int .i64 x3] 99);have r3:Zf (wr.alloc (.cells #[.int .i64 x1,.int .i64 x2,.int .i64 x3] 99)) wr.heap.size 99 [.int .i64 x1,.int .i64 x2,.int .i64 x3]:=Zc wr _ [.int .i64 x1,.int .i64 x2,.int .i64 x3] 99 rfl;go_wp2_with fail;refine (Zan _ _ _ _ _ _ _ _ C.d x1 hd1 hd4 _).mono ?_;rintro e w2 ⟨rfl,a9⟩;have r4:=r3.below a9 lr;obtain ⟨d1,d2,d3⟩:=r4.q3 rfl rfl rfl;have ah:=r4.lt;have q2:=Zb q3 a9;have af:=hid r4;obtain ⟨p0,p1,p2,p3,p4,p5,p6,p7,p8⟩:=(B1.out.keep a0).keep q2;dsimp only at p5 p6 p7 p8;clear a9 q3 r3 r4 g0 g1 g2 g3 g4 g5 g6 g7 g8 a1 a2 a3
   cases hx:isD C.d x1 with
   | false=>
    have e1:Zhr C.d C.ch k=5:=by rw [Zhr,HD.out];simp [hx]
    have HE:=HF.out (by rw [e1];decide);rw [e1] at HE;clear HF e1 hx;have HE:=hid HE;go_wp2;go_ret;exact ⟨Zh HE.out.symm,Zb q1 (Zb a0 q2)⟩
   | true=>
    have HX:=hid hx;clear hx;go_wp2_with fail;refine (Zan _ _ _ _ _ _ _ _ C.d x2 hd1 hd4 _).mono ?_;rintro e w3 ⟨rfl,aa⟩;have r5:=af.out.below aa lr;obtain ⟨e1,e2,e3⟩:=r5.q3 rfl rfl rfl;have q4:=Zb q2 aa;have t7:=((B1.out.keep a0).keep q4).h7;dsimp only at t7;clear aa q2 af d1 d2 d3 p0 p1 p2 p3 p4 p5 p6 p7 p8 r5
    cases hy:isD C.d x2 with
    | false=>
     have z1:Zhr C.d C.ch k=5:=by rw [Zhr,HD.out];simp [hy]
     have HE:=HF.out (by rw [z1];decide);rw [z1] at HE;clear HF z1 hy;have HE:=hid HE;go_wp2;go_ret;exact ⟨Zh HE.out.symm,Zb q1 (Zb a0 q4)⟩
    | true=>
     have HY:=hid hy;clear hy;by_cases hz:x1=x2
     ·subst hz
      have z1:Zhr C.d C.ch k=1:=by rw [Zhr,HD.out];simp [HX.out]
      have HE:=HF.out (by rw [z1];decide);rw [z1] at HE;clear HF z1;have HE:=hid HE;go_wp2;go_ret;exact ⟨Zh HE.out.symm,Zb q1 (Zb a0 q4)⟩
     ·have an:(x1==x2)=false:=by simp [hz]
      have HZ:=hid hz;clear hz;go_wp2_with fail;refine (Zs _ _ _ _).mono ?_;rintro e w' ⟨rfl,rfl⟩
      cases hv:inR x3 1 4 with
      | false=>
       have z1:Zhr C.d C.ch k=3:=by rw [Zhr,HD.out];simp [HX.out,HY.out,HZ.out,hv]
       have HE:=HF.out (by rw [z1];decide);rw [z1] at HE;clear HF z1 hv;have HE:=hid HE;go_wp2;go_ret;exact ⟨Zh HE.out.symm,Zb q1 (Zb a0 q4)⟩
      | true=>
       have HV:=hid hv;clear hv;have ai:=(hS.keep a0).keep q4;go_wp2_with fail;refine (Zgg (x1,x2,x3) wr.heap.size _ C.ch k c7 _ ai hk l7 e1 e2).mono ?_;rintro e w5 ⟨rfl,aj⟩;have q6:=Zb q4 aj
       cases ht:(C.ch.take k).any (Zw3 (x1,x2,x3)) with
       | true=>
        have z1:Zhr C.d C.ch k=6:=by rw [Zhr,HD.out];simp only [HX.out,HY.out,HZ.out,HV.out,ht];simp
        have HE:=HF.out (by rw [z1];decide);rw [z1] at HE;clear HF z1 ht;have HE:=hid HE;go_wp2;go_ret;exact ⟨Zh HE.out.symm,Zb q1 (Zb a0 q6)⟩
       | false=>
        have HT:=hid ht;clear ht;go_wp2;go_roundw
        case rel=>
         refine ⟨k+1,by omega,by go_num,Zb a0 q6,fun j hj=>?_⟩;by_cases e:j=k
         ·subst e;rw [Zhr,HD.out];simp only [HX.out,HY.out,HZ.out,HV.out,HT.out];simp
         ·exact a4.out j (by omega)
        case measure=>simp [intOf];omega
  ·go_wp2
   go_ret;exact ⟨Zh (Qt _ _ (fun j hj=>a4.out j (by omega))).symm,Zb q1 a0⟩
theorem Zhx (C:Zm) (A:Mem) (w:World) (hC:Z1 w A C) (hd1:1≤C.d) (hd4:C.d≤4):
  Calls prog 58 #[cv C A] w fun e w'=>e=.returned (.int .i64 (Zfc C))∧Below w.heap.size w w':=by
 have l8:=hC.l8;have q1:=Za w (.cells (cl C A) 27);have B1:=hid (Yq w C A);have hS:=hC.ta.keep q1;obtain ⟨a5,a6,a7,a8,c5,c6,c7,c8⟩:=A;dsimp only [cv,cl] at *
 go_enter func58,ntmps58;go_wp2;generalize hW:World.alloc _ _=W at *
 clear hW hC;go_loopw [8] (fun i wr=>∃ k:Nat,k≤C.ta.length∧i=.int .i64 k∧Below W.heap.size W wr∧∀ j,j<k→Zl3 C.d (C.ta.getD j (0,0,0,0))=0) (fun i _=>C.ta.length-(intOf i).toNat)
 case atStart=>exact ⟨0,zl,rfl,br,by omega⟩
 case round=>
  obtain ⟨k,hk,rfl,a0,ab⟩:=hrel;have a9:=hid ab;clear ab;by_cases hlt:k<C.ta.length
  ·obtain ⟨b',o',rfl,ac,ad,ae,af⟩:=hS k hlt
   have a1:=Zg a0 ac lr;have a2:=Zg a0 ad lr;have a3:=Zg a0 ae lr;have a4:=Zg a0 af lr;have HD:Hid (C.ta.getD k (0,0,0,0)=C.ta[k]):=Zat _ _ hlt _;have ag:=(B1.out.keep a0).lt;obtain ⟨g0,g1,g2,g3,g4,g5,g6,g7,g8⟩:=B1.out.keep a0;dsimp only at g5 g6 g7 g8;have HF:Hid (Zl3 C.d C.ta[k]≠0→Zfc C=Zl3 C.d C.ta[k]):=by
    intro h0;show fe _ _=_
    have:=Zbe C.ta.length k (fun i=>Zl3 C.d (C.ta.getD i (0,0,0,0))) hlt (by simp only [Zat _ _ hlt];exact h0) a9.out
    rw [this];simp only [Zat _ _ hlt]
   generalize C.ta[k]=x at *
   obtain ⟨x1,x2,x3,x4⟩:=x;simp only at a1 a2 a3 a4;clear ac ad ae af;have q3:=Za wr (.cells #[.int .i64 x1,.int .i64 x2,.int .i64 x3,.int .i64 x4] 108);have r3:Zf (wr.alloc (.cells #[.int .i64 x1,.int .i64 x2,.int .i64 x3,.int .i64 x4] 108)) wr.heap.size 108 [.int .i64 x1,.int .i64 x2,.int .i64 x3,.int .i64 x4]:=Zc wr _ [.int .i64 x1,.int .i64 x2,.int .i64 x3,.int .i64 x4] 108 rfl;go_wp2_with fail;refine (Zan _ _ _ _ _ _ _ _ C.d x1 hd1 hd4 _).mono ?_;rintro e w2 ⟨rfl,aa⟩;have r4:=r3.below aa lr;obtain ⟨d1,d2,d3,d4⟩:=r4.q4 rfl rfl rfl rfl;have q2:=Zb q3 aa;clear aa q3 r3 r4 g0 g1 g2 g3 g4 g5 g6 g7 g8 a1 a2 a3 a4
   cases hx:isD C.d x1 with
   | false=>
    have e1:Zl3 C.d (x1,x2,x3,x4)=5:=by simp [Zl3,hx]
    have HE:=HF.out (by rw [e1];decide);rw [e1] at HE;clear HF e1 hx;have HE:=hid HE;go_wp2;go_ret;exact ⟨Zh HE.out.symm,Zb q1 (Zb a0 q2)⟩
   | true=>
    have HX:=hid hx;clear hx;go_wp2_with fail;refine (Zs _ _ _ _).mono ?_;rintro e w' ⟨rfl,rfl⟩
    cases h1:inR x2 1 5000 with
    | false=>
     have e1:Zl3 C.d (x1,x2,x3,x4)=3:=by simp [Zl3,HX.out,h1]
     have HE:=HF.out (by rw [e1];decide);rw [e1] at HE;clear HF e1 h1;have HE:=hid HE;go_wp2;go_ret;exact ⟨Zh HE.out.symm,Zb q1 (Zb a0 q2)⟩
    | true=>
     have H1:=hid h1;clear h1;go_wp2_with fail;refine (Zs _ _ _ _).mono ?_;rintro e w' ⟨rfl,rfl⟩
     cases h2:inR x3 1 x2 with
     | false=>
      have e1:Zl3 C.d (x1,x2,x3,x4)=3:=by simp [Zl3,HX.out,h2]
      have HE:=HF.out (by rw [e1];decide);rw [e1] at HE;clear HF e1 h2;have HE:=hid HE;go_wp2;go_ret;exact ⟨Zh HE.out.symm,Zb q1 (Zb a0 q2)⟩
     | true=>
      have H2:=hid h2;clear h2;go_wp2_with fail;refine (Zs _ _ _ _).mono ?_;rintro e w' ⟨rfl,rfl⟩
      cases h3:inR x4 1 x2 with
      | false=>
       have e1:Zl3 C.d (x1,x2,x3,x4)=3:=by simp [Zl3,HX.out,h3]
       have HE:=HF.out (by rw [e1];decide);rw [e1] at HE;clear HF e1 h3;have HE:=hid HE;go_wp2;go_ret;exact ⟨Zh HE.out.symm,Zb q1 (Zb a0 q2)⟩
      | true=>
       have H3:=hid h3;clear h3;go_wp2;go_roundw
       case rel=>
        refine ⟨k+1,by omega,by go_num,Zb a0 q2,fun j hj=>?_⟩;by_cases e:j=k
        ·subst e;rw [HD.out];simp [Zl3,HX.out,H1.out,H2.out,H3.out]
        ·exact a9.out j (by omega)
       case measure=>simp [intOf];omega
  ·go_wp2
   go_ret;exact ⟨Zh (Qt _ _ (fun j hj=>a9.out j (by omega))).symm,Zb q1 a0⟩
theorem Za2 (k:Nat) (hk:k<7) (C:Zm) (A:Mem) (w:World) (hC:Z1 w A C) (hno:∀ j,j<k→ck7 C j=0):
  Calls prog (52+k) #[cv C A] w (RB (.int .i64 (ck7 C k)) w):=by
 match k,hk with
 | 0,_=>exact Zfu C A w
 | 1,_=>
  obtain ⟨h1,h2,h3,h4,_⟩:=Zim (hno 0 (by omega));exact Zk7 C A w h1 h2 h3 h4
 | 2,_=>exact Zgt C A w hC
 | 3,_=>
  obtain ⟨_,_,_,_,h1,h2,_⟩:=Zim (hno 0 (by omega));exact Zh0 C A w hC h1 h2
 | 4,_=>
  obtain ⟨_,_,_,_,h1,h2,_⟩:=Zim (hno 0 (by omega));exact Zga C A w hC h1 h2
 | 5,_=>
  obtain ⟨_,_,_,_,h1,h2,_⟩:=Zim (hno 0 (by omega));exact Ze2 C A w hC h1 h2
 | 6,_=>
  obtain ⟨_,_,_,_,h1,h2,_⟩:=Zim (hno 0 (by omega));exact Zhx C A w hC h1 h2
theorem Yaw (k:Nat) (hk:k<7):([.func (.func 52) #[] #[],.func (.func 53) #[] #[],.func (.func 54) #[] #[],.func (.func 55) #[] #[],.func (.func 56) #[] #[],.func (.func 57) #[] #[],.func (.func 58) #[] #[]]:List Value)[k]? = some (.func (.func (52+k)) #[] #[]):=by
 match k,hk with
 | 0,_=>rfl
 | 1,_=>rfl
 | 2,_=>rfl
 | 3,_=>rfl
 | 4,_=>rfl
 | 5,_=>rfl
 | 6,_=>rfl
theorem Qz (C:Zm) (A:Mem) (w:World) (hC:Z1 w A C):
  Calls prog 31 #[cv C A] w fun e w'=>e=.returned (.int .i64 (ckC C))∧Below w.heap.size w w':=by
 have q1:=Za w (.cells (cl C A) 27);have B1:=hid (Yq w C A);have hS:=hid (hC.keep q1);clear hC;dsimp only [cv,cl] at *
 go_enter func31,ntmps31;go_wp2;generalize hW1:World.alloc w _=W1 at *
 have q2:=Za W1 (.cells #[.func (.func 52) #[] #[],.func (.func 53) #[] #[],.func (.func 54) #[] #[],.func (.func 55) #[] #[],.func (.func 56) #[] #[],.func (.func 57) #[] #[],.func (.func 58) #[] #[]] 96);have a5:W1.heap.size=w.heap.size+1:=by rw [← hW1];simp
 have R1:=hid (Zc W1 (w.heap.size+1) [.func (.func 52) #[] #[],.func (.func 53) #[] #[],.func (.func 54) #[] #[],.func (.func 55) #[] #[],.func (.func 56) #[] #[],.func (.func 57) #[] #[],.func (.func 58) #[] #[]] 96 a5);have B2:=hid (B1.out.keep q2);have a3:=hid (hS.out.keep q2);have q3:=Zb q1 q2;clear hW1 hS B1 q1 q2 a5;generalize hW2:World.alloc W1 _=W2 at *
 have a6:Zf W2 (w.heap.size+1) 96 [.func (.func 52) #[] #[],.func (.func 53) #[] #[],.func (.func 54) #[] #[],.func (.func 55) #[] #[],.func (.func 56) #[] #[],.func (.func 57) #[] #[],.func (.func 58) #[] #[]]:=R1.out;have R2:=hid a6;clear R1 a6 hW2;go_loopw [10] (fun i wr=>∃ k:Nat,k≤7∧i=.int .i64 k∧Below W2.heap.size W2 wr∧∀ j,j<k→ck7 C j=0) (fun i _=>7-(intOf i).toNat)
 case atStart=>exact ⟨0,zl,rfl,br,by omega⟩
 case round=>
  obtain ⟨k,hk,rfl,a0,a7⟩:=hrel;have a1:=hid a7;clear a7;by_cases hlt:k<7
  ·have hc:=(R2.out.below a0 lr).cell k _ (Yaw k hlt)
   have a8:(k:Int)<7:=by omega
   obtain ⟨g0,g1,g2,g3,g4,g5,g6,g7,g8⟩:=B2.out.keep a0;have a9:k=0∨k=1∨k=2∨k=3∨k=4∨k=5∨k=6:=by omega
   rcases a9 with rfl|rfl|rfl|rfl|rfl|rfl|rfl
   ·simp only [Nat.reduceAdd] at hc
    go_wp2_with fail;refine (Za2 0 hlt C A _ (a3.out.keep a0) a1.out).mono ?_;rintro e w3 ⟨rfl,a2⟩;by_cases hx:ck7 C 0=0
    ·have HX:=hid hx
     rw [hx];clear hx;go_wp2;go_roundw
     case rel=>
      refine ⟨1,by omega,by go_num,Zb a0 a2,fun j hj=>?_⟩;by_cases e:j=0
      ·subst e;exact HX.out
      ·exact a1.out j (by omega)
     case measure=>simp [intOf]
    ·have HE:=hid (Zbe 7 0 (ck7 C) hlt hx a1.out)
     have a4:(ck7 C 0 != 0)=true:=by simp [hx]
     clear hx;generalize ck7 C 0=q at *
     go_wp2;go_ret;exact ⟨Zh HE.out.symm,Zb q3 (Zb a0 a2)⟩
   ·simp only [Nat.reduceAdd] at hc
    go_wp2_with fail;refine (Za2 1 hlt C A _ (a3.out.keep a0) a1.out).mono ?_;rintro e w3 ⟨rfl,a2⟩;by_cases hx:ck7 C 1=0
    ·have HX:=hid hx
     rw [hx];clear hx;go_wp2;go_roundw
     case rel=>
      refine ⟨2,by omega,by go_num,Zb a0 a2,fun j hj=>?_⟩;by_cases e:j=1
      ·subst e;exact HX.out
      ·exact a1.out j (by omega)
     case measure=>simp [intOf]
    ·have HE:=hid (Zbe 7 1 (ck7 C) hlt hx a1.out)
     have a4:(ck7 C 1 != 0)=true:=by simp [hx]
     clear hx;generalize ck7 C 1=q at *
     go_wp2;go_ret;exact ⟨Zh HE.out.symm,Zb q3 (Zb a0 a2)⟩
   ·simp only [Nat.reduceAdd] at hc
    go_wp2_with fail;refine (Za2 2 hlt C A _ (a3.out.keep a0) a1.out).mono ?_;rintro e w3 ⟨rfl,a2⟩;by_cases hx:ck7 C 2=0
    ·have HX:=hid hx
     rw [hx];clear hx;go_wp2;go_roundw
     case rel=>
      refine ⟨3,by omega,by go_num,Zb a0 a2,fun j hj=>?_⟩;by_cases e:j=2
      ·subst e;exact HX.out
      ·exact a1.out j (by omega)
     case measure=>simp [intOf]
    ·have HE:=hid (Zbe 7 2 (ck7 C) hlt hx a1.out)
     have a4:(ck7 C 2 != 0)=true:=by simp [hx]
     clear hx;generalize ck7 C 2=q at *
     go_wp2;go_ret;exact ⟨Zh HE.out.symm,Zb q3 (Zb a0 a2)⟩
   ·simp only [Nat.reduceAdd] at hc
    go_wp2_with fail;refine (Za2 3 hlt C A _ (a3.out.keep a0) a1.out).mono ?_;rintro e w3 ⟨rfl,a2⟩;by_cases hx:ck7 C 3=0
    ·have HX:=hid hx
     rw [hx];clear hx;go_wp2;go_roundw
     case rel=>
      refine ⟨4,by omega,by go_num,Zb a0 a2,fun j hj=>?_⟩;by_cases e:j=3
      ·subst e;exact HX.out
      ·exact a1.out j (by omega)
     case measure=>simp [intOf]
    ·have HE:=hid (Zbe 7 3 (ck7 C) hlt hx a1.out)
     have a4:(ck7 C 3 != 0)=true:=by simp [hx]
     clear hx;generalize ck7 C 3=q at *
     go_wp2;go_ret;exact ⟨Zh HE.out.symm,Zb q3 (Zb a0 a2)⟩
   ·simp only [Nat.reduceAdd] at hc
    go_wp2_with fail;refine (Za2 4 hlt C A _ (a3.out.keep a0) a1.out).mono ?_;rintro e w3 ⟨rfl,a2⟩;by_cases hx:ck7 C 4=0
    ·have HX:=hid hx
     rw [hx];clear hx;go_wp2;go_roundw
     case rel=>
      refine ⟨5,by omega,by go_num,Zb a0 a2,fun j hj=>?_⟩;by_cases e:j=4
      ·subst e;exact HX.out
      ·exact a1.out j (by omega)
     case measure=>simp [intOf]
    ·have HE:=hid (Zbe 7 4 (ck7 C) hlt hx a1.out)
     have a4:(ck7 C 4 != 0)=true:=by simp [hx]
     clear hx;generalize ck7 C 4=q at *
     go_wp2;go_ret;exact ⟨Zh HE.out.symm,Zb q3 (Zb a0 a2)⟩
   ·simp only [Nat.reduceAdd] at hc
    go_wp2_with fail;refine (Za2 5 hlt C A _ (a3.out.keep a0) a1.out).mono ?_;rintro e w3 ⟨rfl,a2⟩;by_cases hx:ck7 C 5=0
    ·have HX:=hid hx
     rw [hx];clear hx;go_wp2;go_roundw
     case rel=>
      refine ⟨6,by omega,by go_num,Zb a0 a2,fun j hj=>?_⟩;by_cases e:j=5
      ·subst e;exact HX.out
      ·exact a1.out j (by omega)
     case measure=>simp [intOf]
    ·have HE:=hid (Zbe 7 5 (ck7 C) hlt hx a1.out)
     have a4:(ck7 C 5 != 0)=true:=by simp [hx]
     clear hx;generalize ck7 C 5=q at *
     go_wp2;go_ret;exact ⟨Zh HE.out.symm,Zb q3 (Zb a0 a2)⟩
   ·simp only [Nat.reduceAdd] at hc
    go_wp2_with fail;refine (Za2 6 hlt C A _ (a3.out.keep a0) a1.out).mono ?_;rintro e w3 ⟨rfl,a2⟩;by_cases hx:ck7 C 6=0
    ·have HX:=hid hx
     rw [hx];clear hx;go_wp2;go_roundw
     case rel=>
      refine ⟨7,by omega,by go_num,Zb a0 a2,fun j hj=>?_⟩;by_cases e:j=6
      ·subst e;exact HX.out
      ·exact a1.out j (by omega)
     case measure=>simp [intOf]
    ·have HE:=hid (Zbe 7 6 (ck7 C) hlt hx a1.out)
     have a4:(ck7 C 6 != 0)=true:=by simp [hx]
     clear hx;generalize ck7 C 6=q at *
     go_wp2;go_ret;exact ⟨Zh HE.out.symm,Zb q3 (Zb a0 a2)⟩
  ·have aa:k=7:=by omega
   subst aa;go_wp2;go_ret;exact ⟨Zh (Qt _ _ (fun j hj=>a1.out j (by omega))).symm,Zb q3 a0⟩
abbrev Zar:=Int×Int
def Zfr (a:Zar):Bool:=!inR a.1 0 100000
def Zao (n:Nat) (a:Zar):Bool:=!inR a.2 0 ((n:Int)-1)
def Yv (C:Zm) (l:List Zar) (dn fr te:Int):Int:=
 if ckC C≠0 then ckC C else if inR dn 0 (C.d-1)=false then 5 else if 40<l.length then 2 else if l.any Zfr then 3 else if l.any (Zao C.ow.length) then 5 else if inR fr 0 100000=false then 3 else if inR te 0 100000=false then 3 else 0
theorem Ztb (x:Zar) (w:World):Calls prog 120 #[.agg #[.int .i64 x.1,.int .i64 x.2]] w (RB (.bool (Zfr x)) w):=by
 obtain ⟨a,b⟩:=x;have HB:=fun o=>hid (Za w o)
 dsimp only;go_enter func120,ntmps120;go_wp2_with fail;refine (Zs a 0 100000 _).mono ?_;rintro e w1 ⟨rfl,rfl⟩;go_wp2;go_ret;exact ⟨rfl,(HB _).out⟩
theorem Zu9 (n:Nat) (a6:Option Addr) (c6:Nat) (x:Zar) (b:Nat) (w:World) (hn:n≤9223372036854775807) (h:w.cell? ⟨b,6,none⟩=some (.slice a6 n c6)):
  Calls prog 121 #[.agg #[.int .i64 x.1,.int .i64 x.2],.pointer (some ⟨b,0,none⟩)] w fun e w'=>e=.returned (.bool (Zao n x))∧Below w.heap.size w w':=by
 obtain ⟨a,l⟩:=x;have HB:=fun o=>hid (Za w o)
 have hk:=Zg (Za w (.cells #[.int .i64 a,.int .i64 l] 58)) h lr;have a0:=World.block_lt_of_cell? _ _ h;have hw:IntKind.i64.wrap ((n:Int)-1)=(n:Int)-1:=by rw [IntKind.wrap_i64];omega
 dsimp only;go_enter func121,ntmps121;go_wp2_with fail;refine (Zs l 0 ((n:Int)-1) _).mono ?_;rintro e w1 ⟨rfl,rfl⟩;go_wp2;go_ret;exact ⟨rfl,(HB _).out⟩
theorem Zo8 (p:Zar→Bool) (f:Nat) (cp:Array Value) (a:Option Addr) (L:List Zar) (cap:Nat) (w:World) (hw:Qs w a L) (hl:L.length≤9223372036854775807)
  (hf:f=120∧cp=#[]∨f=121∧∃ b,cp=#[.pointer (some ⟨b,0,none⟩)])
  (hF:∀ (x:Zar) (wr:World),Below w.heap.size w wr→Calls prog f (#[.agg #[.int .i64 x.1,.int .i64 x.2]]++cp) wr (RB (.bool (p x)) wr)) :
  Calls prog 147 #[.slice a L.length cap,.func (.func f) #[] cp] w fun e w'=>(∃ r:Int,e=.returned (.int .i64 r)∧(0≤r↔L.any p=true))∧Below w.heap.size w w':=by
 have HF:=hid hF;clear hF;have a1:∀ (g:Nat) (c:Array Value),g=f→c=cp→Calls prog 147 #[.slice a L.length cap,.func (.func g) #[] c] w fun e w'=>(∃ r:Int,e=.returned (.int .i64 r)∧(0≤r↔L.any p=true))∧Below w.heap.size w w':=by
  rcases hf with ⟨rfl,rfl⟩|⟨rfl,b,rfl⟩
  all_goals
   rintro g c rfl rfl;go_enter func147,ntmps147;go_wp2;go_loopw [8] (fun i wr=>∃ k:Nat,k≤L.length∧i=.int .i64 k∧Below w.heap.size w wr∧∀ j (hj:j<L.length),j<k→p L[j]=false) (fun i _=>L.length-(intOf i).toNat)
   case atStart=>exact ⟨0,zl,rfl,br,by omega⟩
   case round=>
    obtain ⟨k,hk,rfl,a0,a2⟩:=hrel;have a3:Hid (∀ j (hj:j<L.length),j<k→p L[j]=false):=a2;clear a2;by_cases hlt:k<L.length
    ·obtain ⟨b',o',rfl,a5,a6⟩:=hw k hlt
     have a7:=Zg a0 a5 lr;have a8:=Zg a0 a6 lr;go_wp2_with fail;refine (HF.out L[k] _ a0).mono ?_;rintro e w' ⟨rfl,a4⟩
     cases hx:p L[k] with
     | true=>
      have HX:=hid hx;clear hx;go_wp2;go_ret;refine ⟨⟨k,rfl,?_⟩,Zb a0 a4⟩;exact ⟨fun _=>List.any_eq_true.2 ⟨_,List.getElem_mem hlt,HX.out⟩,fun _=>by omega⟩
     | false=>
      have HX:=hid hx;clear hx;go_wp2;go_roundw
      case rel=>
       refine ⟨k+1,by omega,by go_num,Zb a0 a4,fun j hj hlt2=>?_⟩;by_cases e:j=k
       ·subst e;exact HX.out
       ·exact a3.out j hj (by omega)
      case measure=>simp [intOf];omega
    ·go_wp2
     go_ret;refine ⟨⟨-1,rfl,?_⟩,a0⟩;refine ⟨fun h=>absurd h (by omega),fun h=>?_⟩;obtain ⟨x,hx,hp⟩:=List.any_eq_true.1 h;obtain ⟨j,hj,rfl⟩:=List.getElem_of_mem hx;rw [a3.out j hj (by omega)] at hp;exact absurd hp (by simp)
 exact a1 f cp rfl rfl
theorem Zeg (p:Zar→Bool) (f:Nat) (cp:Array Value) (a:Option Addr) (L:List Zar) (cap:Nat) (w:World) (hw:Qs w a L) (hl:L.length≤9223372036854775807)
  (hf:f=120∧cp=#[]∨f=121∧∃ b,cp=#[.pointer (some ⟨b,0,none⟩)])
  (hF:∀ (x:Zar) (wr:World),Below w.heap.size w wr→Calls prog f (#[.agg #[.int .i64 x.1,.int .i64 x.2]]++cp) wr fun e w'=>e=.returned (.bool (p x))∧Below wr.heap.size wr w') :
  Calls prog 119 #[.slice a L.length cap,.func (.func f) #[] cp] w fun e w'=>e=.returned (.bool (L.any p))∧Below w.heap.size w w':=by
 have CI:=hid (Zo8 p f cp a L cap w hw hl hf hF);clear hF hf;go_enter func119,ntmps119;go_wp2_with fail;refine CI.out.mono ?_;rintro e w' ⟨⟨r,rfl,hr⟩,hb⟩;have HR:=hid hr;clear hr;go_wp2;go_ret;exact ⟨Yh (by rw [Bool.eq_iff_iff];simpa using HR.out),hb⟩
theorem Zfm (C:Zm) (B:Mem) (aL:Option Addr) (L:List Zar) (cL:Nat) (dn fr te:Int) (w:World) (hC:Z1 w B C) (hL:Qs w aL L) (hl:L.length≤9223372036854775807):
  Calls prog 85 #[cv C B,.slice aL L.length cL,.int .i64 dn,.int .i64 fr,.int .i64 te] w fun e w'=>e=.returned (.int .i64 (Yv C L dn fr te))∧Below w.heap.size w w':=by
 have q1:=Za w (.cells (cl C B) 27);have HC:=hid (hC.keep q1);have HL:=hid (hL.keep q1);have HX:=hid (Yq w C B);have HB:=hid q1;have ae:C.ow.length≤9223372036854775807:=hC.l6;clear q1 hC hL;obtain ⟨g0,g1,g2,g3,g4,g5,g6,g7,g8⟩:=HX.out;go_enter func85,ntmps85;go_wp2_with fail;refine (Qz C B _ HC).mono ?_;rintro e w1 ⟨rfl,a0⟩;generalize hW:World.alloc w _=W at *
 clear hW;have a1:=hid (Zb HB a0);have aa:=hid (HL.out.keep a0);have af:=hid (HX.out.keep a0);clear HC HL HX HB g0 g1 g2 g3 g4 g5 g6 g7 g8 a0;by_cases h0:ckC C=0
 case neg=>
  have HE:Hid (Yv C L dn fr te=ckC C):=hid (by rw [Yv,if_pos h0]);have hx:(ckC C != 0)=true:=by simp [h0]
  generalize ckC C=q at *
  go_wp2;go_ret;exact ⟨Zh HE.out.symm,a1.out⟩
 have H0:=hid h0;rw [h0];have hd:1≤C.d∧C.d≤4:=by
  have h1:=(Zcr h0).1;unfold Zep at h1
  split at h1
  ·rename_i h2
   simp only [inR,Bool.and_eq_true,decide_eq_true_eq] at h2;omega
  ·omega
 obtain ⟨aj,ak⟩:=hd;have al:IntKind.i64.wrap (C.d-1)=C.d-1:=by rw [IntKind.wrap_i64];omega
 clear h0;have a4:Hid (Yv C L dn fr te=if inR dn 0 (C.d-1)=false then 5 else if 40<L.length then 2 else if L.any Zfr then 3 else if L.any (Zao C.ow.length) then 5 else if inR fr 0 100000=false then 3 else if inR te 0 100000=false then 3 else 0):=hid (by rw [Yv,if_neg (by rw [H0.out];decide)]);obtain ⟨g0,g1,g2,g3,g4,g5,g6,g7,g8⟩:=af.out;have ag:=hid g6;go_wp2_with fail;refine (Zs dn 0 (C.d-1) _).mono ?_;rintro e w' ⟨rfl,rfl⟩
 cases h1:inR dn 0 (C.d-1) with
 | false=>
  have HE:Hid (Yv C L dn fr te=5):=hid (by rw [a4.out,if_pos h1]);clear h1;go_wp2;go_ret;exact ⟨Zh HE.out.symm,a1.out⟩
 | true=>
  have a5:Hid (Yv C L dn fr te=if 40<L.length then 2 else if L.any Zfr then 3 else if L.any (Zao C.ow.length) then 5 else if inR fr 0 100000=false then 3 else if inR te 0 100000=false then 3 else 0):=hid (by rw [a4.out,if_neg (by rw [h1];decide)]);clear h1 a4;by_cases h40:40<L.length
  ·have HE:Hid (Yv C L dn fr te=2):=hid (by rw [a5.out,if_pos h40])
   have hz:(40:Int)<(L.length:Int):=by omega
   go_wp2;go_ret;exact ⟨Zh HE.out.symm,a1.out⟩
  have a7:Hid (Yv C L dn fr te=if L.any Zfr then 3 else if L.any (Zao C.ow.length) then 5 else if inR fr 0 100000=false then 3 else if inR te 0 100000=false then 3 else 0):=hid (by rw [a5.out,if_neg h40]);have hz:(L.length:Int)≤40:=by omega
  clear h40 a5;have CA:=hid (Zeg Zfr 120 #[] aL L cL w1 aa.out hl (.inl ⟨rfl,rfl⟩) (fun x wr _=>by simpa using Ztb x wr));go_wp2_with fail;refine CA.out.mono ?_;rintro e w2 ⟨rfl,a2⟩;have ab:=hid (Zb a1 a2);have ah:=hid (aa.out.keep a2);have ai:=hid (Zg a2 ag lr);clear a2 CA g0 g1 g2 g3 g4 g5 g6 g7 g8
  cases h2:L.any Zfr with
  | true=>
   have HE:Hid (Yv C L dn fr te=3):=hid (by rw [a7.out,if_pos h2]);clear h2;go_wp2;go_ret;exact ⟨Zh HE.out.symm,ab.out⟩
  | false=>
   have a8:Hid (Yv C L dn fr te=if L.any (Zao C.ow.length) then 5 else if inR fr 0 100000=false then 3 else if inR te 0 100000=false then 3 else 0):=hid (by rw [a7.out,if_neg (by rw [h2];decide)]);clear h2 a7;have CB:=hid (Zeg (Zao C.ow.length) 121 #[.pointer (some ⟨w.heap.size,0,none⟩)] aL L cL w2 ah.out hl (.inr ⟨rfl,_,rfl⟩) (fun x wr hb=>by simpa using Zu9 C.ow.length B.a6 B.c6 x w.heap.size wr ae (Zg hb ai.out lr)));go_wp2_with fail;refine CB.out.mono ?_;rintro e w3 ⟨rfl,ac⟩;have a3:=hid (Zb ab ac);clear ac CB
   cases h3:L.any (Zao C.ow.length) with
   | true=>
    have HE:Hid (Yv C L dn fr te=5):=hid (by rw [a8.out,if_pos h3]);clear h3;go_wp2;go_ret;exact ⟨Zh HE.out.symm,a3.out⟩
   | false=>
    have a9:Hid (Yv C L dn fr te=if inR fr 0 100000=false then 3 else if inR te 0 100000=false then 3 else 0):=hid (by rw [a8.out,if_neg (by rw [h3];decide)]);clear h3 a8;go_wp2_with fail;refine (Zs fr 0 100000 _).mono ?_;rintro e w' ⟨rfl,rfl⟩
    cases h4:inR fr 0 100000 with
    | false=>
     have HE:Hid (Yv C L dn fr te=3):=hid (by rw [a9.out,if_pos h4]);clear h4;go_wp2;go_ret;exact ⟨Zh HE.out.symm,a3.out⟩
    | true=>
     have ad:Hid (Yv C L dn fr te=if inR te 0 100000=false then 3 else 0):=hid (by rw [a9.out,if_neg (by rw [h4];decide)]);clear h4 a9;go_wp2_with fail;refine (Zs te 0 100000 _).mono ?_;rintro e w' ⟨rfl,rfl⟩
     cases h5:inR te 0 100000 with
     | false=>
      have HE:Hid (Yv C L dn fr te=3):=hid (by rw [ad.out,if_pos h5]);clear h5;go_wp2;go_ret;exact ⟨Zh HE.out.symm,a3.out⟩
     | true=>
      have HE:Hid (Yv C L dn fr te=0):=hid (by rw [ad.out,if_neg (by rw [h5];decide)]);clear h5;go_wp2;go_ret;exact ⟨Zh HE.out.symm,a3.out⟩
theorem Ztc (x l m:Int) (b1 b2:Nat) (w:World) (h1:w.cell? ⟨b1,0,none⟩=some (.int .i64 l)) (h2:w.cell? ⟨b2,0,none⟩=some (.int .i64 m)):
  Calls prog 150 #[.int .i64 x,.pointer (some ⟨b1,0,none⟩),.pointer (some ⟨b2,0,none⟩)] w (RB (.bool (!inR x l m)) w):=by
 go_enter func150,ntmps150;go_wp2_with fail;refine (Zs _ _ _ _).mono ?_;rintro e w' ⟨rfl,rfl⟩;go_wp2;go_ret;exact ⟨rfl,br⟩
theorem Zlh (l m:Int) (b1 b2:Nat) (a:Option Addr) (L:List Int) (cap:Nat) (w:World) (hw:Z4 w a L) (hl:L.length≤9223372036854775807) (h1:w.cell? ⟨b1,0,none⟩=some (.int .i64 l)) (h2:w.cell? ⟨b2,0,none⟩=some (.int .i64 m)):
  Calls prog 117 #[.slice a L.length cap,.func (.func 150) #[] #[.pointer (some ⟨b1,0,none⟩),.pointer (some ⟨b2,0,none⟩)]] w fun e w'=>(∃ r:Int,e=.returned (.int .i64 r)∧(0≤r↔(L.any fun x=>!inR x l m)=true))∧Below w.heap.size w w':=by
 have H1:=hid h1;have H2:=hid h2;clear h1 h2;go_enter func117,ntmps117;go_wp2;go_loopw [8] (fun i wr=>∃ k:Nat,k≤L.length∧i=.int .i64 k∧Below w.heap.size w wr∧∀ j (hj:j<L.length),j<k→(!inR L[j] l m)=false) (fun i _=>L.length-(intOf i).toNat)
 case atStart=>exact ⟨0,zl,rfl,br,by omega⟩
 case round=>
  obtain ⟨k,hk,rfl,a0,a1⟩:=hrel;have a2:=hid a1;clear a1;by_cases hlt:k<L.length
  ·obtain ⟨b',o',rfl,a4⟩:=hw k hlt
   have a5:=Zg a0 a4 lr;go_wp2_with fail;refine (Ztc L[k] l m b1 b2 _ (Zg a0 H1 lr) (Zg a0 H2 lr)).mono ?_;rintro e w' ⟨rfl,a3⟩
   cases hx:!inR L[k] l m with
   | true=>
    have HX:=hid hx;clear hx;go_wp2;go_ret;refine ⟨⟨k,rfl,?_⟩,Zb a0 a3⟩;exact ⟨fun _=>List.any_eq_true.2 ⟨_,List.getElem_mem hlt,HX.out⟩,fun _=>by omega⟩
   | false=>
    have HX:=hid hx;clear hx;go_wp2;go_roundw
    case rel=>
     refine ⟨k+1,by omega,by go_num,Zb a0 a3,fun j hj hlt2=>?_⟩;by_cases e:j=k
     ·subst e;exact HX.out
     ·exact a2.out j hj (by omega)
    case measure=>simp [intOf];omega
  ·go_wp2
   go_ret;refine ⟨⟨-1,rfl,?_⟩,a0⟩;refine ⟨fun h=>absurd h (by omega),fun h=>?_⟩;obtain ⟨x,hx,hp⟩:=List.any_eq_true.1 h;obtain ⟨j,hj,rfl⟩:=List.getElem_of_mem hx;rw [a2.out j hj (by omega)] at hp;exact absurd hp (by simp)
theorem Zg8 (l m:Int) (b1 b2:Nat) (a:Option Addr) (L:List Int) (cap:Nat) (w:World) (hw:Z4 w a L) (hl:L.length≤9223372036854775807) (h1:w.cell? ⟨b1,0,none⟩=some (.int .i64 l)) (h2:w.cell? ⟨b2,0,none⟩=some (.int .i64 m)):
  Calls prog 81 #[.slice a L.length cap,.func (.func 150) #[] #[.pointer (some ⟨b1,0,none⟩),.pointer (some ⟨b2,0,none⟩)]] w fun e w'=>e=.returned (.bool (L.any fun x=>!inR x l m))∧Below w.heap.size w w':=by
 have H1:=hid h1;have H2:=hid h2;clear h1 h2;go_enter func81,ntmps81;go_wp2_with fail;refine (Zlh l m b1 b2 a L cap _ hw hl H1 H2).mono ?_;rintro e w' ⟨⟨r,rfl,hr⟩,hb⟩;have HR:=hid hr;clear hr;go_wp2;go_ret;exact ⟨Yh (by rw [Bool.eq_iff_iff];simpa using HR.out),hb⟩
theorem Zhe (l m:Int) (a:Option Addr) (L:List Int) (cap:Nat) (w:World) (hw:Z4 w a L) (hl:L.length≤9223372036854775807):
  Calls prog 127 #[.slice a L.length cap,.int .i64 l,.int .i64 m] w fun e w'=>e=.returned (.bool (Zbc L l m))∧Below w.heap.size w w':=by
 have q1:=Za w (.cells #[.int .i64 l] 3);have q2:=Za (w.alloc (.cells #[.int .i64 l] 3)) (.cells #[.int .i64 m] 3);have HB:=hid (Zb q1 q2);have HW:=hid (hw.keep (Zb q1 q2));have a0:∀ (fn:Fn) (first cap:Array Value) (w:World),(Instr.makeFunc fn first cap).run prog w=.ok (.func fn first cap) w:=fun _ _ _ _=>rfl
 clear q1 q2 hw;go_enter func127,ntmps127;go_wp2_with fail;refine (Zg8 l m w.heap.size (w.heap.size+1) a L cap _ HW.out hl (by simp) (by simp)).mono ?_;rintro e w' ⟨rfl,hb⟩;have HQ:=hid (Ztt L l m);generalize (L.any fun x=>!inR x l m)=q at *
 go_wp2;go_ret;exact ⟨Yh HQ,Zb HB hb⟩
theorem Jg (a:Option Addr) (V:List Int) (cap:Nat) (lost size:Int) (w:World) (hw:Z4 w a V) (hl:V.length≤9223372036854775807):
  Calls prog 129 #[.agg #[.slice a V.length cap,.int .i64 lost],.int .i64 size] w fun e w'=>e=.returned (.int .i64 (ckR V lost size))∧Below w.heap.size w w':=by
 have q1:=Za w (.cells #[.slice a V.length cap,.int .i64 lost] 90);have HW:=hid (hw.keep q1);have HB:=hid q1;clear hw q1;go_enter func129,ntmps129;go_wp2_with fail;refine (Zs _ _ _ _).mono ?_;rintro e w' ⟨rfl,rfl⟩
 cases h1:inR size 1 4 with
 | false=>
  go_wp2;go_ret;exact ⟨Zh (by simp [ckR,h1]),HB.out⟩
 | true=>
  have H1:=hid h1;clear h1;by_cases h2:size<(V.length:Int)
  ·have a2:(V.length:Int)>size:=h2
   go_wp2;go_ret;exact ⟨Zh (by simp [ckR,H1.out,h2]),HB.out⟩
  ·have a2:¬ (V.length:Int)>size:=h2
   have H2:=hid h2;clear h2;go_wp2_with fail;refine (Zhe 0 255 a V cap _ HW hl).mono ?_;rintro e w2 ⟨rfl,a1⟩;have c1:=Zg a1 (show (w.alloc (.cells #[.slice a V.length cap,.int .i64 lost] 90)).cell? ⟨w.heap.size,1,none⟩=some (.int .i64 lost) by simp) lr;have a0:=hid (Zb HB a1)
   cases h3:Zbc V 0 255 with
   | false=>
    go_wp2;go_ret;exact ⟨Zh (by simp [ckR,H1.out,H2.out,h3]),a0.out⟩
   | true=>
    have H3:=hid h3;clear h3;go_wp2_with fail;refine (Zs _ _ _ _).mono ?_;rintro e w' ⟨rfl,rfl⟩
    cases h4:inR lost 0 100000 with
    | false=>
     go_wp2;go_ret;exact ⟨Zh (by simp [ckR,H1.out,H2.out,H3.out,h4]),a0.out⟩
    | true=>
     go_wp2;go_ret;exact ⟨Zh (by simp [ckR,H1.out,H2.out,H3.out,h4]),a0.out⟩
theorem Zf.grown' (h:Zf w g t L) (hg:w.grownBy w' row) (hne:some g≠row):Zf w' g t L:=by
 show w'.heap[g]? = _
 rw [hg.block g h.lt hne];exact h
theorem Zba {e:Nat} (h:w.ownsRow base e size v n xs) (hb:Below w.heap.size w w'):w'.ownsRow base e size v n xs:=
 h.kept (row:=none) ⟨hb.os,hb.tape,hb.output,hb.size,fun k hk _=>hb.block k hk⟩ (by cases v.ownBlock<;>simp)
abbrev by8 (l:List Int):List Value:=l.map fun n=>.int .u8 n
theorem Tryz.info3x:(prog.info? 3).map (fun i=>(i.zero,i.size,i.bytes))=some (some (.int .i64 0),1,8):=by kernel_rfl
def ivs (l:List Int):List Value:=l.map fun n=>.int .i64 n
theorem Zqf (l:List Int):(ivs l).length=l.length:=by simp [ivs]
theorem Zsi (l m:List Int):ivs (l++m)=ivs l++ivs m:=by simp [ivs]
theorem Ztq (l:List Int):∀ u∈ivs l,u.oneCell'=true:=by
 intro u hu;simp only [ivs,List.mem_map] at hu;obtain ⟨n,_,rfl⟩:=hu;rfl
theorem Zg1 {P:Program} (w:World) (t ty e:TypeId) (i:TypeInfo) (ht:P.underlying t=some (.slice e)) (hi:P.info? e=some i) (p:Option Addr) (n cap:Nat) (ax:Option Addr) (c:Nat) (hroom:n≤cap):
  (Builtin.append_ #[t,t] ty #[.slice p n cap,.slice ax 0 c]).run P w=.ok (.slice p n cap) w:=by
 cases p<;>cases ax<;>simp [Builtin.append_,run_underlying ht,sizeOf,typeInfo,hi,Builtin.lenOf,hroom,Builtin.firstCells,loadCells,loadCellsFrom,storeCells]
theorem Zb7 {ops:Array Oper} {rest:List Oper} {o:Oper} {a:Act} {w:World} {Q:Exit→Act→World→Prop} (hgd:o.guard=none) (s x:Operand)
  (ho:o.op=.call {callee:=.builtin .append,args:=#[s,x],argTypes:=#[23,23]})
  (base:Nat) (v:Value) (n:Nat) (xs:List Value) (hs:a.eval s=v) (hown:w.ownsRow base 3 1 v n xs)
  (L:List Int) (a6:Option Addr) (c6:Nat) (hx:a.eval x=.slice a6 L.length c6) (hL:Z4 w a6 L) (h63:n+L.length≤maxLen) (hbytes:(n+L.length)*8≤140737488355328) (hbase:base≤w.heap.size)
  (h:∀ v' w',w'.ownsRow base 3 1 v' (n+L.length) (xs++ivs L)→w.grownBy w' v.ownBlock→wpList prog ops Q rest (a.put o.dst v') w'):wpList prog ops Q (o::rest) a w:=by
 obtain ⟨i3,hi,hz,a4,a5⟩:=Zbk Tryz.info3x;by_cases hL0:L=[]
 ·subst hL0
  have a0:∃ p cap,v=.slice p n cap∧n≤cap:=by
   rcases hown.2 with ⟨e,e2⟩|⟨g,cap,_,e,_,_,h,_⟩
   ·exact ⟨none,0,by rw [e,e2],by omega⟩
   ·exact ⟨_,cap,e,h⟩
  obtain ⟨p,cap,rfl,hr⟩:=a0;refine wpList_plain hgd fun K hK=>?_
  have a1:=Zg1 (P:=prog) w 23 o.type 3 i3 underlying23 hi p n cap a6 c6 hr;unfold Oper.wp;simp [execOp,ho,resolve,invoke,builtin,hs,hx,a1,Result.andThen];exact hK _ _ (h _ _ (by simpa [ivs] using hown) ⟨rfl,rfl,rfl,lr,fun _ _ _=>rfl⟩)
 ·obtain ⟨b,a2,rfl,_⟩:=hL 0 (List.length_pos_iff.2 hL0)
  refine wpList_append_own w hgd s x 23 ho base 3 i3 _ 1 8 underlying23 hi hz a4 a5 rfl (by decide) v n xs hs hown ⟨b,a2,none⟩ L.length c6 (ivs L) hx (by simp [ivs]) ?_ (Ztq L) h63 hbytes hbase (fun v' w' h1 h2 _=>h v' w' h1 h2);intro j u hu;have hj:j<L.length:=by
   have:=(List.getElem?_eq_some_iff.1 hu).1
   rwa [Zqf] at this
  obtain ⟨b2,o2,e,hc⟩:=hL j hj;simp only [Option.some.injEq,Addr.mk.injEq,and_true] at e;obtain ⟨rfl,rfl⟩:=e;have a3:(⟨b,a2,none⟩:Addr).add j=⟨b,a2+j,none⟩:=by unfold Addr.add;split<;>simp_all
  rw [a3,hc];simp only [ivs,List.getElem?_map,List.getElem?_eq_getElem hj,Option.map_some] at hu;rw [← hu]
theorem Zen {l:List Int} (h:w.ownsRow base 3 1 v n (ivs l)):∃ a c,v=.slice a l.length c∧n=l.length∧Z4 w a l∧l.length≤c∧l.length≤9223372036854775807∧∀ b o,a=some ⟨b,o,none⟩→base≤b∧b<w.heap.size:=by
 have a0:n=l.length:=by have:=h.1;simp [ivs] at this;omega
 subst a0;have h':=h;obtain ⟨hl,hv⟩:=h;rcases hv with ⟨rfl,hn⟩|⟨g,a1,a3,rfl,hb,hg,a2,hm,a4,ht⟩
 ·exact ⟨none,0,by rw [hn],rfl,fun i hi=>by omega,by omega,by omega,fun b o e=>by simp at e⟩
 ·refine ⟨_,a1,rfl,rfl,fun i hi=>?_,a2,by simp only [maxLen] at hm;omega,fun b o e=>?_⟩
  ·refine ⟨g,0,rfl,?_⟩
   have:=h'.cells (g:=g) rfl i (.int .i64 l[i]) (by simp [ivs,hi])
   rw [Zvb] at this;rw [Nat.zero_add];exact this
  ·simp at e
   obtain ⟨rfl,_⟩:=e;exact ⟨hb,(Array.getElem?_eq_some_iff.1 hg).1⟩
theorem Ys {base' e:Nat} (h:w.ownsRow base e size v n xs) (hb:base'≤base):w.ownsRow base' e size v n xs:=by
 refine ⟨h.1,?_⟩;rcases h.2 with q|⟨g,a0,a1,e1,e2,r⟩
 ·exact .inl q
 ·exact .inr ⟨g,a0,a1,e1,by omega,r⟩
theorem Zpz {e:Nat} (h:w.ownsRow base e size v n xs) (hg:w.grownBy w' (some b)) (hb:b<base):w'.ownsRow base e size v n xs:=by
 refine h.kept hg ?_
 cases hv:v.ownBlock with
 | none=>exact .inl rfl
 | some g=>right;have:=(h.lt g hv).1;simp;omega
theorem Jn {e:Nat} (h:w.ownsRow base e size v n xs) (i:Nat) (u:Value) (hb:b<base):(w.setCell ⟨b,i,none⟩ u).ownsRow base e size v n xs:=Zpz h (Zo _ _ _ _) hb
theorem Zf8 (a:Option Addr) (L:List Int) (cap:Nat) (w:World) (hw:Z4 w a L) (hl:L.length≤4) (hnil:a=none→L=[]):
  Calls prog 97 #[.slice a L.length cap] w fun e w'=>∃ v,e=.returned v∧w'.ownsRow w.heap.size 3 1 v L.length (ivs L)∧Below w.heap.size w w':=by
 have a3:=fun (w:World) (a:Option Addr) (n c:Nat)=>Lib.run_eql_slice_nil (P:=prog) w 23 3 a n c 0 0 underlying23
 cases a with
 | none=>
  obtain rfl:=hnil rfl;go_enter func97,ntmps97;go_wp2;go_ret;exact ⟨_,rfl,World.ownsRow_nil _ _ _ _,br⟩
 | some p=>
  have h1:Below w.heap.size w (w.alloc (.cells #[] 3)):=Za _ _;have a2:Hid ((w.alloc (.cells #[] 3)).ownsRow w.heap.size 3 1 (.slice (some ⟨w.heap.size,0,none⟩) 0 0) 0 []):=hid (World.ownsRow_made w #[] 0 lr (by simp [maxLen]) rfl);have Hw:=hid (hw.keep h1);go_enter func97,ntmps97;go_wp2_with (at_builtin;refine Zb7 rfl _ _ rfl w.heap.size (.slice (some ⟨w.heap.size,0,none⟩) 0 0) 0 [] rfl a2.out L _ _ rfl Hw.out (by simp [maxLen];omega) (by omega) (by simp) ?_);intro v' w1 a0 a1;have HE:=hid (show w1.ownsRow w.heap.size 3 1 v' L.length (ivs L)∧Below w.heap.size w w1 from ⟨by simpa using a0,h1.grown a1 (by simp) (fun k hk=>by simp [Value.ownBlock] at hk;omega)⟩);clear a0 a1 a2 h1 Hw;go_wp2;go_ret;exact ⟨_,rfl,HE.out⟩
def Qb (N n:Nat):List (List (Int×Bool)):=List.replicate N (List.replicate n (0,false))
theorem Zaz (N n:Nat):(Qb N n).length=N:=by simp [Qb]
theorem Zk4 (N n j:Nat) (h:j<(Qb N n).length):(Qb N n)[j]=List.replicate n (0,false):=by simp [Qb]
theorem Zt1 (w:World):(Instr.makeSlice 123 (.int .i64 1) (.int .i64 1)).run prog w=.ok (.slice (some ⟨w.heap.size,0,none⟩) 1 1) (w.alloc (.cells (flat (List.replicate 1 (0,false))).toArray 125)):=by kernel_rfl
theorem Ztu (w:World):(Instr.makeSlice 123 (.int .i64 2) (.int .i64 2)).run prog w=.ok (.slice (some ⟨w.heap.size,0,none⟩) 2 2) (w.alloc (.cells (flat (List.replicate 2 (0,false))).toArray 125)):=by kernel_rfl
theorem Ztd (w:World):(Instr.makeSlice 123 (.int .i64 3) (.int .i64 3)).run prog w=.ok (.slice (some ⟨w.heap.size,0,none⟩) 3 3) (w.alloc (.cells (flat (List.replicate 3 (0,false))).toArray 125)):=by kernel_rfl
theorem Zy4 (n:Nat) (h1:1≤n) (h3:n≤3) (w:World):
  (Instr.makeSlice 123 (.int .i64 n) (.int .i64 n)).run prog w=.ok (.slice (some ⟨w.heap.size,0,none⟩) n n) (w.alloc (.cells (flat (List.replicate n (0,false))).toArray 125)):=by
 match n,h1,h3 with
 | 1,_,_=>exact Zt1 w
 | 2,_,_=>exact Ztu w
 | 3,_,_=>exact Ztd w
theorem Zs4 (w:World) (n:Nat) (hn:n≤3):(w.alloc (.cells (flat (List.replicate n (0,false))).toArray 125)).ownsRow w.heap.size 125 2 (.slice (some ⟨w.heap.size,0,none⟩) n n) n (flat (List.replicate n (0,false))):=by
 have h:=Z5 w _ (flat (List.replicate n (0,false))++[]) 125 rfl;rw [List.append_nil] at h;refine Zej (r:=[]) (by rw [List.append_nil];exact h) (by rw [List.append_nil,Zeb];simp) lr (by simp [maxLen];omega) lr (by simp)
theorem Zky (N n:Nat) (w:World) (hl:(N:Int)≤4) (hl1:(1:Int)≤N) (hn:1≤n) (hn3:n≤3):
  Calls prog 42 #[.int .i64 N,.int .i64 n] w fun e w'=>∃ g0,e=.returned (.agg #[.slice (some ⟨g0,0,none⟩) N N])∧w.heap.size≤g0∧Zbo w' g0 (Qb N n) N∧Below w.heap.size w w':=by
 have a5:=run_make_row' (P:=prog) 70 123 (.slice none 0 0) 24 underlying70 Tryz.info123 rfl .i64 .i64 N (by omega) (by omega);have a0:=Zy4 n hn hn3;go_enter func42,ntmps42;go_wp2;clear a5;have ad:Hid (Below w.heap.size w (((w.alloc (Obj.cells #[Value.slice none 0 0] 72)).alloc (Obj.cells (madeCells #[Value.slice none 0 0] N) 123)).alloc (Obj.cells #[Value.slice (some ⟨w.heap.size+1,0,none⟩) N N] 72))):=
  ((br.alloc lr _).alloc (by simp) _).alloc (by simp;omega) _
 have ae:Hid (Zbo (((w.alloc (Obj.cells #[Value.slice none 0 0] 72)).alloc (Obj.cells (madeCells #[Value.slice none 0 0] N) 123)).alloc (Obj.cells #[Value.slice (some ⟨w.heap.size+1,0,none⟩) N N] 72)) (w.heap.size+1) (Qb N n) 0):=by
  refine ⟨(madeCells #[Value.slice none 0 0] N).toList,fun _=>0,fun _=>0,?_,by simp [madeCells,Qb],fun j _ h=>by omega,fun i j _ h=>by omega⟩;refine Zf.alloc ?_ _
  have:=Z5 (w.alloc (Obj.cells #[Value.slice none 0 0] 72)) (w.heap.size+1) (madeCells #[Value.slice none 0 0] N).toList 123 (by simp)
  simpa using this
 have a6:Hid ((((w.alloc (Obj.cells #[Value.slice none 0 0] 72)).alloc (Obj.cells (madeCells #[Value.slice none 0 0] N) 123)).alloc (Obj.cells #[Value.slice (some ⟨w.heap.size+1,0,none⟩) N N] 72)).cell? ⟨w.heap.size+1+1,0,none⟩=some (.slice (some ⟨w.heap.size+1,0,none⟩) N N)):=by
  show _=_
  rw [Z7 _ _ _ _ _ (by simp)];rfl
 have a2:Hid (Zf (((w.alloc (Obj.cells #[Value.slice none 0 0] 72)).alloc (Obj.cells (madeCells #[Value.slice none 0 0] N) 123)).alloc (Obj.cells #[Value.slice (some ⟨w.heap.size+1,0,none⟩) N N] 72)) w.heap.size 72 [Value.slice none 0 0]):=
  ((Z5 w w.heap.size [Value.slice none 0 0] 72 rfl).alloc _).alloc _
 go_loopw [13] (fun i wr=>∃ k:Nat,k≤N∧i=.int .i64 k∧Below w.heap.size w wr∧Zbo wr (w.heap.size+1) (Qb N n) k∧wr.cell? ⟨w.heap.size+1+1,0,none⟩=some (.slice (some ⟨w.heap.size+1,0,none⟩) N N)∧wr.cell? ⟨w.heap.size,0,none⟩=some (.slice none 0 0)∧wr.frozen? ⟨w.heap.size,0,none⟩=false) (fun i _=>N-(intOf i).toNat)
 case atStart=>exact ⟨0,zl,rfl,ad.out,ae.out,a6.out,a2.out.cell 0 _ rfl,a2.out.frozen 0⟩
 case round=>
  clear ad ae a6 a2;obtain ⟨k,hk,rfl,af,hO,hA,hR,ag⟩:=hrel;have HO:=hid hO;clear hO;by_cases hlt:k<N
  ·have a7:k<(Qb N n).length:=by rw [Zaz];exact hlt
   have ai:(k:Int)<(N:Int):=by omega
   have aj:(0:Int)≤(k:Int):=by omega
   have aa:w.heap.size<wr.heap.size:=World.block_lt_of_cell? _ _ hR;have ah:w.heap.size+1+1<wr.heap.size:=World.block_lt_of_cell? _ _ hA;obtain ⟨⟨v5,a3⟩,a8⟩:=HO.out.cellAt k a7;have a4:w.heap.size+1<wr.heap.size:=World.block_lt_of_cell? _ _ a3;have ab:∀ o,(wr.alloc o).cell? ⟨w.heap.size+1,k,none⟩=some v5:=fun o=>by rw [World.cell?_alloc_lt _ _ _ (by exact a4)];exact a3
   have ac:∀ o,(wr.alloc o).frozen? ⟨w.heap.size+1,k,none⟩=false:=fun o=>by rw [((Below.refl wr.heap.size wr).alloc lr o).frozen (p:=⟨w.heap.size+1,k,none⟩) a4];exact a8
   go_wp2;go_region_held3 (fun w'=>w'.cell? ⟨w.heap.size+1+1,0,none⟩=some (.slice (some ⟨w.heap.size+1,0,none⟩) N N)) (go_keep) (fail)
   have a9:=hid (HO.out.drew.step a7 (br.alloc lr _) (by rw [Zk4];simpa using Zs4 wr.drew n hn3));rw [World.setCell_alloc_past (w:=wr.drew) _ _ _ _ (by exact a4),show (Qb N n)[k].length=n by rw [Zk4];simp] at a9;have a1:Hid (Below w.heap.size w (((wr.drew.setCell ⟨w.heap.size+1,k,none⟩ (.slice (some ⟨wr.heap.size,0,none⟩) n n)).alloc (.cells (flat (List.replicate n (0,false))).toArray 125)))
     ∧ ((wr.drew.setCell ⟨w.heap.size+1,k,none⟩ (.slice (some ⟨wr.heap.size,0,none⟩) n n)).alloc (.cells (flat (List.replicate n (0,false))).toArray 125)).cell? ⟨w.heap.size+1+1,0,none⟩=some (.slice (some ⟨w.heap.size+1,0,none⟩) N N)
     ∧ ((wr.drew.setCell ⟨w.heap.size+1,k,none⟩ (.slice (some ⟨wr.heap.size,0,none⟩) n n)).alloc (.cells (flat (List.replicate n (0,false))).toArray 125)).cell? ⟨w.heap.size,0,none⟩=some (.slice none 0 0)
     ∧ ((wr.drew.setCell ⟨w.heap.size+1,k,none⟩ (.slice (some ⟨wr.heap.size,0,none⟩) n n)).alloc (.cells (flat (List.replicate n (0,false))).toArray 125)).frozen? ⟨w.heap.size,0,none⟩=false):=by
    have q1:Below w.heap.size w (wr.drew.setCell ⟨w.heap.size+1,k,none⟩ (.slice (some ⟨wr.heap.size,0,none⟩) n n)):=af.drew.setCell (by show w.heap.size≤w.heap.size+1;omega) _;have q2:∀ x:World,Below x.heap.size x (x.alloc (.cells (flat (List.replicate n (0,false))).toArray 125)):=fun x=>br.alloc lr _
    refine ⟨Zb q1 (q2 _),Zg (q2 _) ?_ lr,Zg (q2 _) ?_ lr,?_⟩
    ·rw [World.cell?_setCell_other _ _ _ _ (by simp)];exact hA
    ·rw [World.cell?_setCell_other _ _ _ _ (by simp)];exact hR
    ·rw [(q2 _).frozen (p:=⟨w.heap.size,0,none⟩) (by simpa using aa)];simpa using ag
   clear hA hR ag a3 a8 ab ac a0;go_wp2;go_roundw
   case rel=>exact ⟨k+1,by omega,by go_num,a1.out.1,a9.out,a1.out.2⟩
   case measure=>simp [intOf];omega
  ·obtain rfl:k=N:=by omega
   clear a0;go_wp2;exact bodyPost_ret (v:=.agg #[.slice (some ⟨w.heap.size+1,0,none⟩) k k]) (by simp [results,results42,go_sem,World.cell?_setCell_same wr _ _ hR]) rfl ⟨_,rfl,by omega,HO.out.setOther _ _ (by show w.heap.size<w.heap.size+1;omega),af.setCell lr _⟩
theorem Jm {k:Nat} (h:Zbo w g0 C k) (hk:C.length≤k) (hn:∀ ls∈C,ls.length≤3):Z8 w (some ⟨g0,0,none⟩) C:=by
 obtain ⟨L,G,cp,h1,h2,h3,h4⟩:=h;intro j hj;obtain ⟨e1,e2⟩:=h3 j hj (by omega);obtain ⟨r,_,_,q3,_,_⟩:=Zeh e2;exact ⟨g0,0,some ⟨G j,0,none⟩,cp j,rfl,by rw [Nat.zero_add];exact h1.cell j _ e1,Zhq e2,q3,by have:=hn C[j] (List.getElem_mem hj);omega⟩
theorem Zvr (N n:Nat) (w:World) (hN1:1≤N) (hN:N≤4) (hn1:1≤n) (hn:n≤3):
  Calls prog 21 #[.int .i64 N,.int .i64 n] w fun e w'=>∃ g0,e=.returned (.tuple #[.agg #[.slice (some ⟨g0,0,none⟩) N N],.int .i64 0])∧Zbo w' g0 (Qb N n) N∧w.heap.size≤g0∧Below w.heap.size w w':=by
 have h1:inR N 1 4=true:=by simp [inR];omega
 have h2:inR n 1 3=true:=by simp [inR];omega
 go_enter func21,ntmps21;go_wp2_with fail;refine (Zs _ _ _ _).mono ?_;rintro e w' ⟨rfl,rfl⟩;rw [h1];clear h1;go_wp2_with fail;refine (Zs _ _ _ _).mono ?_;rintro e w' ⟨rfl,rfl⟩;rw [h2];clear h2;go_wp2_with fail;refine (Zky N n _ (by omega) (by omega) hn1 hn).mono ?_;rintro e w1 ⟨g0,rfl,a2,hO,a0⟩;have HO:=hid hO;clear hO;have hr:Zf (w.alloc (.cells #[.slice none 0 0] 72)) w.heap.size 72 [.slice none 0 0]:=Z5 w _ [.slice none 0 0] 72 rfl;have a1:=hr.below a0 lr;have a3:=a1.cell 0 _ rfl;have a5:=a1.frozen 0;have a4:w.heap.size<g0:=by simp at a2;omega
 have h0:Below w.heap.size w (w.alloc (.cells #[.slice none 0 0] 72)):=br.alloc lr _;go_wp2;exact bodyPost_ret (v:=.tuple #[.agg #[.slice (some ⟨g0,0,none⟩) N N],.int .i64 0]) (by simp [results,results21,go_sem,World.cell?_setCell_same w1 _ _ a3]) rfl ⟨_,rfl,HO.out.setOther _ _ a4,by omega,(Zb h0 a0).setCell lr _⟩
theorem Zf.grown (h:Zf w g t L) (hg:w.grownBy w' row) (hne:some g≠row):Zf w' g t L:=by
 show w'.heap[g]? = _
 rw [hg.block g h.lt hne];exact h
theorem Zbo.parts {s:Nat} (h:Zbo w g0 C C.length) (hs:s<C.length):
  ∃ g cap,w.cell? ⟨g0,s,none⟩=some (.slice (some ⟨g,0,none⟩) C[s].length cap)∧w.ownsRow (g0+1) 125 2 (.slice (some ⟨g,0,none⟩) C[s].length cap) C[s].length (flat C[s])∧g0<g ∧
   ∀ (w':World) (ls:List (Int×Bool)),ls.length=C[s].length→w.grownBy w' (some g)→w'.ownsRow (g0+1) 125 2 (.slice (some ⟨g,0,none⟩) C[s].length cap) C[s].length (flat ls)→Zbo w' g0 (C.set s ls) C.length:=by
 obtain ⟨L,G,cp,h1,h2,h3,h4⟩:=h;obtain ⟨e1,e2⟩:=h3 s hs hs;have a1:g0+1≤G s:=(e2.lt (G s) rfl).1;refine ⟨G s,cp s,h1.cell s _ e1,e2,a1,fun w' ls hl hg ho=>?_⟩;refine ⟨L,G,cp,h1.grown hg (by simp;omega),by simp [h2],fun j hj hk=>?_,h4⟩;have a0:j<C.length:=by simpa using hj
 by_cases e:j=s
 ·subst e
  simp only [List.getElem_set_self,hl];exact ⟨e1,ho⟩
 ·have a2:G j≠G s:=by
   rcases Nat.lt_or_gt_of_ne e with h|h
   ·have:=h4 j s h hs;omega
   ·have:=h4 s j h hk;omega
  simp only [List.getElem_set_ne (fun h=>e h.symm)];exact ⟨(h3 j a0 hk).1,(h3 j a0 hk).2.kept hg (.inr (by simpa [Value.ownBlock] using a2))⟩
theorem Zh8 (h:ck C=0):Qr C=0∧1≤C.length∧C.length≤4∧∀ ls∈C,0<ls.length∧ls.length≤3:=by
 have hs:Qr C=0:=by
  unfold ck at h;by_cases e:Qr C=0
  ·exact e
  ·simp [e] at h
 refine ⟨hs,?_⟩;unfold Qr at hs
 split at hs
 ·omega
 ·rename_i h1
  split at hs
  ·omega
  ·rename_i h2
   simp [inR] at h1 h2;refine ⟨by omega,by omega,fun ls hls=>?_⟩
   have:=h2 ls hls
   omega
theorem Ze8 (ls:List (Int×Bool)) (ln:Int) (wr:Bool) (h:0<ls.length):(Qp ls ln wr).1.length=ls.length:=by
 rcases Zc2 ln ls with ⟨hx,_⟩|⟨k,hk,hx,_,_⟩
 ·rw [Zcb hx];simp;omega
 ·rw [Qc hx];simp [List.length_eraseIdx,hk];omega
theorem Zr3 (a:Option Addr) (C:List (List (Int×Bool))) (cap:Nat) (l:Int) (wr:Bool) (s:Nat) (w:World) (hw:Z8 w a C) (hl:C.length≤9223372036854775807) (h:ck C=0) (hr0:inR l 1 1000=true) (hs:l%(C.length:Int)=(s:Int)) (hsl:s<C.length):
  Calls prog 177 #[.agg #[.slice a C.length cap],.int .i64 l,.bool wr] w fun e w'=>∃ g0,e=.returned (.tuple #[.agg #[.slice (some ⟨g0,0,none⟩) C.length C.length],.int .i64 (Qp C[s] l wr).2,.int .i64 0])∧Zbo w' g0 (C.set s (Qp C[s] l wr).1) C.length∧w.heap.size≤g0∧Below w.heap.size w w':=by
 have h1:Below w.heap.size w (w.alloc (.cells #[.slice a C.length cap] 72)):=br.alloc lr _;have h2:Below w.heap.size w ((w.alloc (.cells #[.slice a C.length cap] 72)).alloc (.cells #[.slice none 0 0] 72)):=h1.alloc (by simp) _;have hr:Zf ((w.alloc (.cells #[.slice a C.length cap] 72)).alloc (.cells #[.slice none 0 0] 72)) (w.heap.size+1) 72 [.slice none 0 0]:=Z5 _ _ [.slice none 0 0] 72 (by simp);have ha:Zf ((w.alloc (.cells #[.slice a C.length cap] 72)).alloc (.cells #[.slice none 0 0] 72)) w.heap.size 72 [.slice a C.length cap]:=(Z5 w _ [.slice a C.length cap] 72 rfl).alloc _;obtain ⟨_,ar,au,ab⟩:=Zh8 h;have a5:=hid ab;have ai:1≤l∧l≤1000:=by simpa [inR] using hr0
 obtain ⟨aw,ax⟩:=ai;have a6:(1:Int)≤C.length:=by omega
 have a7:(C.length:Int)≤4:=by omega
 have aj:(s:Int)<C.length:=by omega
 have ay:(0:Int)≤s:=by omega
 have az:l.tmod (C.length:Int)=(s:Int):=by rw [Int.tmod_eq_emod_of_nonneg (by omega)];exact hs
 have ac:¬ C.length=0:=by omega
 have b0:¬ C=[]:=by intro e;rw [e] at ac;exact ac rfl
 clear ab;go_enter func177,ntmps177;go_wp2_with fail;refine (Zea a C cap _ (hw.keep h2) hl).mono ?_;rintro e w1 ⟨rfl,a3⟩;have a8:=hr.below a3 lr;have ad:=ha.below a3 lr;have ae:=(hw.keep h2).keep a3;have ak:=ad.cell 0 _ rfl;have h3:=Zb h2 a3;rw [h];clear h hr hw ha h1 h2 a3;go_wp2_with fail;refine (Zs _ _ _ _).mono ?_;rintro e w' ⟨rfl,rfl⟩;rw [hr0];clear hr0;go_wp2_with fail;refine (Zgc a C cap _ ae a7 a6 a5).mono ?_;rintro e w2 ⟨g0,rfl,b1,hO,a9⟩;have af:=a8.below a9 lr;have h4:=Zb h3 a9;obtain ⟨g,a0,q1,q2,q3,q4⟩:=hO.parts hsl;have b2:g<w2.heap.size:=(q2.lt g rfl).2;have al:g0<w2.heap.size:=by omega
 have a2:Below w2.heap.size w2 (w2.alloc (.cells #[.slice (some ⟨g0,0,none⟩) C.length C.length] 72)):=br.alloc lr _;have Q2:Hid ((w2.alloc (.cells #[.slice (some ⟨g0,0,none⟩) C.length C.length] 72)).drew.ownsRow (g0+1) 125 2 (.slice (some ⟨g,0,none⟩) C[s].length a0) C[s].length (flat C[s])):=Zdx q2 a2.drew;have Q4:=hid q4;have ag:(w2.alloc (.cells #[.slice (some ⟨g0,0,none⟩) C.length C.length] 72)).cell? ⟨g0,s,none⟩=some (.slice (some ⟨g,0,none⟩) C[s].length a0):=Zg a2 q1 lr;have a1:Hid (w2.grownBy (w2.alloc (.cells #[.slice (some ⟨g0,0,none⟩) C.length C.length] 72)).drew (some g)):=(Yx g a2).trans (Y2 _ _);have a4:1≤(Qp C[s] l wr).2∧(Qp C[s] l wr).2≤15:=by
  unfold Qp;split
  ·simp
  ·have:=Zhs (C[s].getLastD (0,false)).2
   simp only;omega
 obtain ⟨am,an⟩:=a4;have ao:=a8.lt;clear q1 q2 q4 hO ae ak ad a8 h3 a9;go_wp2_with fail;go_region_held3 (fun w'=>w'.cell? ⟨w2.heap.size,0,none⟩=some (.slice (some ⟨g0,0,none⟩) C.length C.length)∧w'.cell? ⟨g0,s,none⟩=some (.slice (some ⟨g,0,none⟩) C[s].length a0)) (first|go_keep|exact ⟨hg5.cell (by simp) (by simp;omega),hg5.cell ag (by simp;omega)⟩)
  (first|(go_at_call 190;refine (Zxg g a0 (g0+1) C[s] l wr _ Q2.out (a5.out C[s] (List.getElem_mem hsl)).1 (a5.out C[s] (List.getElem_mem hsl)).2).mono ?_;rintro e w5 ⟨rfl,ah,hg5⟩))
 have HG:=hid (a1.out.trans hg5);have ap:=hid (Q4.out w5 _ (Ze8 _ _ _ (a5.out C[s] (List.getElem_mem hsl)).1) (a1.out.trans hg5) ah);have aa:=af.grown (a1.out.trans hg5) (by simp;omega);have b3:w5.cell? ⟨w2.heap.size,0,none⟩=some (.slice (some ⟨g0,0,none⟩) C.length C.length):=hg5.cell (by simp) (by simp;omega);have aq:=aa.cell 0 _ rfl;have b4:=aa.frozen 0;clear ah Q2 Q4 ag af aa a1;go_wp2;refine bodyPost_ret (v:=.tuple #[.agg #[.slice (some ⟨g0,0,none⟩) C.length C.length],.int .i64 (Qp C[s] l wr).2,.int .i64 0]) (by simp [results,results177,go_sem,World.cell?_setCell_same w5 _ _ aq]) rfl ⟨g0,rfl,ap.out.setOther _ _ (by show w.heap.size+1<g0;omega),by omega,?_⟩;exact (h4.grown HG.out (by have:=h4.size;omega) (fun k hk=>by simp at hk;omega)).setCell (by show w.heap.size≤w.heap.size+1;omega) _
abbrev Qg:=Int×Int×Int
abbrev KT:=List (List (Int×Bool))
def Zmx (a:Qg):Bool:=if a.1=1 then inR a.2.1 1 200 else if a.1=2∨a.1=3 then inR a.2.1 1 1000 else if a.1=4 then decide (0≤a.2.1)&&inR a.2.2 0 255 else decide (0≤a.2.1)
def Zux (a:Qg):Bool:=if a.1=4 then true else if a.1=6∨a.1=8 then decide (a.2.1=0)&&decide (a.2.2=0) else decide (a.2.2=0)
def ckA (a:Qg):Int:=if inR a.1 1 8 then (if Zmx a then (if Zux a then 0 else 1) else 3) else 7
def Zie (a:Qg):Int:=if a.1=1 then a.2.1 else if a.1=2∨a.1=3 then 15 else 3
def Zdj (L:List Qg):Int:=if 60<L.length then 2 else fe L.length fun i=>ckA (L.getD i (0,0,0))
def Zad (K:KT) (l:Int):Nat:=(l%(K.length:Int)).toNat
def spK (K:KT) (a:Qg):KT:=if a.1=2∨a.1=3 then K.set (Zad K a.2.1) (Qp (K.getD (Zad K a.2.1) []) a.2.1 (decide (a.1=3))).1 else K
def spC (K:KT) (a:Qg):Int:=if a.1=2∨a.1=3 then (Qp (K.getD (Zad K a.2.1) []) a.2.1 (decide (a.1=3))).2 else Zie a
abbrev av (a:Qg):Value:=.agg #[.int .i64 a.1,.int .i64 a.2.1,.int .i64 a.2.2]
theorem Zmq (a:Qg) (w:World):Calls prog 122 #[av a] w fun e w'=>e=.returned (.bool (Zmx a))∧Below w.heap.size w w':=by
 obtain ⟨k,n,v⟩:=a;have HB:=fun o=>hid (Za w o)
 have R1:=Z5 w _ [.int .i64 k,.int .i64 n,.int .i64 v] 63 rfl;obtain ⟨c0,c1,c2⟩:=R1.q3 rfl rfl rfl;clear R1;unfold Zmx;dsimp only;go_enter func122,ntmps122;by_cases h1:k=1
 ·subst h1
  go_wp2_with fail;refine (Zs n 1 200 _).mono ?_;rintro e w1 ⟨rfl,rfl⟩;go_wp2;go_ret;exact ⟨rfl,(HB _).out⟩
 ·by_cases h2:k=2∨k=3
  ·have h4:¬ k=4:=by omega
   simp only [h1,h2,if_false,if_true];go_wp2_with fail
   all_goals
    refine (Zs n 1 1000 _).mono ?_;rintro e w1 ⟨rfl,rfl⟩;go_wp2;go_ret;exact ⟨rfl,(HB _).out⟩
  ·have a0:¬ k=2:=by omega
   have a1:¬ k=3:=by omega
   simp only [h1,h2,if_false];by_cases h3:k=4
   ·subst h3
    by_cases hn:0≤n
    ·go_wp2_with fail
     refine (Zs v 0 255 _).mono ?_;rintro e w1 ⟨rfl,rfl⟩;go_wp2;go_ret;exact ⟨Yh (by simp),(HB _).out⟩
    ·have hd:decide (0≤n)=false:=by simp;omega
     go_wp2;go_ret;exact ⟨Yh (by simp),(HB _).out⟩
   ·simp only [h3,if_false]
    go_wp2
    all_goals go_ret
    all_goals exact ⟨Yh (by simp;try omega),(HB _).out⟩
theorem Zjo (a:Qg) (w:World):Calls prog 123 #[av a] w fun e w'=>e=.returned (.bool (Zux a))∧Below w.heap.size w w':=by
 obtain ⟨k,n,v⟩:=a;have HB:=fun o=>hid (Za w o)
 have R1:=Z5 w _ [.int .i64 k,.int .i64 n,.int .i64 v] 63 rfl;obtain ⟨c0,c1,c2⟩:=R1.q3 rfl rfl rfl;clear R1;unfold Zux;dsimp only;go_enter func123,ntmps123;go_wp2
 all_goals go_ret
 all_goals exact ⟨Yh (by simp_all<;>rfl),(HB _).out⟩
theorem Zee (a:Qg) (w:World):Calls prog 87 #[av a] w (RB (.int .i64 (Zie a)) w):=by
 obtain ⟨k,n,v⟩:=a;have HB:=fun o=>hid (Za w o)
 have R1:=Z5 w _ [.int .i64 k,.int .i64 n,.int .i64 v] 63 rfl;obtain ⟨c0,c1⟩:=R1.q2 rfl rfl;clear R1;unfold Zie;dsimp only;go_enter func87,ntmps87;go_wp2
 all_goals go_ret
 all_goals exact ⟨by simp_all,(HB _).out⟩
theorem Za3 (a:Qg) (w:World):Calls prog 86 #[av a] w fun e w'=>e=.returned (.int .i64 (ckA a))∧Below w.heap.size w w':=by
 obtain ⟨k,n,v⟩:=a;have q1:=Za w (.cells #[.int .i64 k,.int .i64 n,.int .i64 v] 63);have HB:=hid q1;have R1:=hid (Z5 w _ [.int .i64 k,.int .i64 n,.int .i64 v] 63 rfl);obtain ⟨c0,c1,c2⟩:=R1.out.q3 rfl rfl rfl;clear q1;go_enter func86,ntmps86;go_wp2_with fail;refine (Zs k 1 8 _).mono ?_;rintro e w1 ⟨rfl,rfl⟩;generalize hp:inR k 1 8=p at *
 have HP:=hid hp;clear hp;cases p
 ·go_wp2
  go_ret;exact ⟨by simp [ckA,HP.out],HB.out⟩
 go_wp2_with fail;refine (Zmq (k,n,v) _).mono ?_;rintro e w2 ⟨rfl,a1⟩;have R2:=hid (R1.out.below a1 lr);have a2:=hid (Zb HB a1);obtain ⟨d0,d1,d2⟩:=R2.out.q3 rfl rfl rfl;clear c0 c1 c2;generalize hp:Zmx (k,n,v)=p at *
 have a0:=hid hp;clear hp;cases p
 ·go_wp2
  go_ret;exact ⟨by simp [ckA,HP.out,a0.out],a2.out⟩
 go_wp2_with fail;refine (Zjo (k,n,v) _).mono ?_;rintro e w3 ⟨rfl,a5⟩;have a3:=hid (Zb a2 a5);generalize hp:Zux (k,n,v)=p at *
 have a4:=hid hp;clear hp;cases p
 ·go_wp2
  go_ret;exact ⟨by simp [ckA,HP.out,a0.out,a4.out],a3.out⟩
 go_wp2;go_ret;exact ⟨by simp [ckA,HP.out,a0.out,a4.out],a3.out⟩
def Jw:Zm:=⟨1,1,1,10,4,[(0,100)],[],[],[(0,50,40,30)]⟩
theorem Zyu:ckC Jw=0:=by decide
def Ji (l:List (Int×Int)):Int:=(l.map (·.2)).sum
theorem Zhc (l:List (Int×Int)) (k:Nat) (h:k<l.length):Ji (l.take (k+1))=Ji (l.take k)+l[k].2:=by
 rw [List.take_add_one,List.getElem?_eq_getElem h];simp only [Ji,List.map_append,List.sum_append,Option.toList,List.map_cons,List.map_nil,List.sum_cons,List.sum_nil];omega
def Zf7 (l:List (Int×Int)):Prop:=l.length≤6∧∀ i (h:i<l.length),0≤l[i].2∧l[i].2≤1000
theorem Zfe (h:Zf7 l):∀ k,k≤l.length→0≤Ji (l.take k)∧Ji (l.take k)≤1000*k:=by
 intro k
 induction k with
 | zero=>intro _;simp [Ji]
 | succ k ih=>
  intro hk;have h1:=ih (by omega);have h2:=h.2 k (by omega);rw [Zhc l k (by omega)];omega
theorem Zoj {C:Zm} (h:ckC C=0):Zf7 C.sl∧1≤C.sl.length:=by
 obtain ⟨_,_,h2,h3,_⟩:=Zcr h;have hl:1≤C.sl.length∧C.sl.length≤6:=by
  unfold Zc0 at h2
  split at h2
  ·rename_i hx;simp [inR] at hx;omega
  ·omega
 refine ⟨⟨hl.2,fun i hi=>?_⟩,hl.1⟩
 have:=Zx h3 i hi
 simp only [Zat _ _ hi,Zpy] at this
 split at this
 ·split at this
  ·rename_i hx;simp [inR] at hx;omega
  ·omega
 ·omega
theorem Zf7.take (h:Zf7 l) (k:Nat):Zf7 (l.take k):=by
 refine ⟨by rw [List.length_take];have:=h.1;omega,fun i hi=>?_⟩;have a0:i<l.length:=by rw [List.length_take] at hi;omega
 rw [List.getElem_take];exact h.2 i a0
theorem Qs.take {a:Option Addr} (h:Qs w a l) (k:Nat):Qs w a (l.take k):=by
 intro i hi;have a0:i<l.length:=by rw [List.length_take] at hi;omega
 simp only [List.getElem_take];exact h i a0
def Zbt (C:Zm) (s:Int):Int:=if ckC C=0 then (if inR s 0 ((C.sl.length:Int)-1) then 0 else 5) else ckC C
def Zwu (C:Zm) (r s:Int):Int:=if ckC C=0 then (if inR r 0 8 then (if inR s 0 ((C.sl.length:Int)-1) then 0 else 5) else 3) else ckC C
def Zlr (C:Zm) (r s:Int):Int:=r*Ji C.sl+Ji (C.sl.take s.toNat)
def Zcn (C:Zm) (r s:Int):Value:=.tuple #[.int .i64 (if Zwu C r s=0 then Zlr C r s else 0),.int .i64 (Zwu C r s)]
theorem Zp1 (h:Zf7 l) (r:Int) (h0:0≤r) (h8:r≤8) (k:Nat) (hk:k≤l.length):wrap64 (r*Ji l)=r*Ji l∧wrap64 (r*Ji l+Ji (l.take k))=r*Ji l+Ji (l.take k)∧0≤r*Ji l∧r*Ji l≤48000∧0≤Ji (l.take k)∧Ji (l.take k)≤6000:=by
 have h1:=Zfe h l.length lr;rw [List.take_length] at h1;have h2:=Zfe h k hk;have h6:=h.1;have h3:0≤r*Ji l:=Int.mul_nonneg h0 h1.1;have h4:r*Ji l≤8*Ji l:=Int.mul_le_mul_of_nonneg_right h8 h1.1;refine ⟨?_,?_,h3,by omega,h2.1,by omega⟩<;>(unfold wrap64;omega)
def Zl4 (ls:List (Int×Bool)):Int:=(ls.map fun x=>wb x.2).sum
def Zgo (C:List (List (Int×Bool))):Int:=(C.map Zl4).sum
theorem Zs5 (ls:List (Int×Bool)) (k:Nat) (h:k<ls.length):Zl4 (ls.take (k+1))=Zl4 (ls.take k)+wb ls[k].2:=by
 rw [Zl4,List.take_succ_eq_append_getElem h];simp only [Zl4,List.map_append,List.sum_append,List.map_cons,List.map_nil,List.sum_cons,List.sum_nil];omega
theorem Zrs (C:List (List (Int×Bool))) (k:Nat) (h:k<C.length):Zgo (C.take (k+1))=Zgo (C.take k)+Zl4 C[k]:=by
 rw [Zgo,List.take_succ_eq_append_getElem h];simp only [Zgo,List.map_append,List.sum_append,List.map_cons,List.map_nil,List.sum_cons,List.sum_nil];omega
theorem Zr7 (ls:List (Int×Bool)):0≤Zl4 ls∧Zl4 ls≤5*ls.length:=by
 induction ls with
 | nil=>simp [Zl4]
 | cons x r ih=>
  have:=Zhs x.2
  simp only [Zl4,List.map_cons,List.sum_cons,List.length_cons] at ih ⊢;omega
theorem Zq2 (C:List (List (Int×Bool))) (m:Nat) (h:∀ ls∈C,ls.length≤m):0≤Zgo C∧Zgo C≤(5*m*C.length:Nat):=by
 induction C with
 | nil=>simp [Zgo]
 | cons x r ih=>
  have h1:=Zr7 x;have h2:=ih (fun ls hls=>h ls (by simp [hls]));have h3:=h x (by simp);simp only [Zgo,List.map_cons,List.sum_cons,List.length_cons] at h2 ⊢;have e:5*m*(r.length+1)=5*m*r.length+5*m:=by rw [Nat.mul_add,Nat.mul_one]
  rw [e];omega
theorem Zk2 (C:List (List (Int×Bool))) (k:Nat) (hC4:C.length≤4) (h:∀ ls∈C,0<ls.length∧ls.length≤3):0≤Zgo (C.take k)∧Zgo (C.take k)≤60:=by
 have:=Zq2 (C.take k) 3 (fun ls hls=>(h ls (List.mem_of_mem_take hls)).2)
 have e:(C.take k).length≤4:=by simp;omega
 omega
theorem Zlo (ls:List (Int×Bool)) (k:Nat) (h:ls.length≤3):0≤Zl4 (ls.take k)∧Zl4 (ls.take k)≤15:=by
 have:=Zr7 (ls.take k)
 have e:(ls.take k).length≤3:=by simp;omega
 omega
theorem Zus (a:Option Addr) (C:List (List (Int×Bool))) (cap:Nat) (w:World) (hw:Z8 w a C) (hl:C.length≤9223372036854775807) (h:ck C=0) (n:Nat) (hn:(C.headD []).length=n):
  Calls prog 24 #[.agg #[.slice a C.length cap]] w fun e w'=>∃ g0,e=.returned (.tuple #[.agg #[.slice (some ⟨g0,0,none⟩) C.length C.length],.int .i64 (2+Zgo C),.int .i64 0])∧Zbo w' g0 (Qb C.length n) C.length∧w.heap.size≤g0∧Below w.heap.size w w':=by
 have h1:Below w.heap.size w (w.alloc (.cells #[.slice a C.length cap] 72)):=br.alloc lr _;have h2:Below w.heap.size w ((w.alloc (.cells #[.slice a C.length cap] 72)).alloc (.cells #[.slice none 0 0] 72)):=h1.alloc (by simp) _;have hr:Zf ((w.alloc (.cells #[.slice a C.length cap] 72)).alloc (.cells #[.slice none 0 0] 72)) (w.heap.size+1) 72 [.slice none 0 0]:=Z5 _ _ [.slice none 0 0] 72 (by simp);have ha:Zf ((w.alloc (.cells #[.slice a C.length cap] 72)).alloc (.cells #[.slice none 0 0] 72)) w.heap.size 72 [.slice a C.length cap]:=(Z5 w _ [.slice a C.length cap] 72 rfl).alloc _;obtain ⟨_,ao,az,ap⟩:=Zh8 h;have ab:=hid ap;have ac:Hid (∀ b o,a=some ⟨b,o,none⟩→b<w.heap.size):=by
  intro b o e;obtain ⟨b1,o1,_,_,e1,q1,_⟩:=hw 0 ao;rw [e] at e1;simp only [Option.some.injEq,Addr.mk.injEq,and_true] at e1
  have:=World.block_lt_of_cell? _ _ q1
  simp only at this;omega
 have ad:(1:Int)≤C.length:=by omega
 have ae:(C.length:Int)≤4:=by omega
 clear ap;go_enter func24,ntmps24;go_wp2_with fail;refine (Zea a C cap _ (hw.keep h2) hl).mono ?_;rintro e w1 ⟨rfl,a3⟩;have aq:=hr.below a3 lr;have b0:=ha.below a3 lr;have af:=(hw.keep h2).keep a3;have ar:=b0.cell 0 _ rfl;have h3:=Zb h2 a3;rw [h];clear h hr hw ha h1 h2 a3;go_wp2;go_loopw [6,20] (fun c i wr=>∃ k:Nat,k≤C.length∧i=.int .i64 k∧c=.int .i64 (2+Zgo (C.take k))∧Below w1.heap.size w1 wr) (fun _ i _=>C.length-(intOf i).toNat)
 case atStart=>exact ⟨0,zl,rfl,rfl,br⟩
 case round=>
  obtain ⟨k,hk,rfl,rfl,a0⟩:=hrel;have b3:=Zk2 C k az ab.out;obtain ⟨ag,ah⟩:=b3;by_cases hlt:k<C.length
  ·obtain ⟨b',o',a2,a4,rfl,a1,ai,a5,a6⟩:=af k hlt
   have b4:=Zg a0 a1 lr;have aj:=ai.keep a0;have b5:=(ab.out C[k] (List.getElem_mem hlt)).2;have b6:=hid (Zrs C k hlt);generalize hcv:Zgo (C.take k)=cv at *
   clear hcv;go_wp2;go_loopw [6,26] (fun c i wi=>∃ m:Nat,m≤C[k].length∧i=.int .i64 m∧c=.int .i64 (2+cv+Zl4 (C[k].take m))∧Below wr.heap.size wr wi) (fun _ i _=>C[k].length-(intOf i).toNat)
   case atStart=>exact ⟨0,zl,rfl,by simp [Zl4],br⟩
   case round=>
    obtain ⟨m,hm,rfl,rfl,a9⟩:=hrel;obtain ⟨b7,b8⟩:=Zlo C[k] m b5;by_cases hlm:m<C[k].length
    ·obtain ⟨b2,o2,rfl,bs,bt⟩:=(aj.keep a9) m hlm
     have b9:=hid (Zs5 C[k] m hlm);have ba:=Zhs C[k][m].2;obtain ⟨bb,bc⟩:=ba;generalize hwv:Zl4 (C[k].take m)=wv at *
     clear hwv;go_wp2_with fail;refine (Zay _ _ _).mono ?_;rintro e w7 ⟨rfl,bd⟩;generalize hq:wb C[k][m].2=q at *
     clear hq;have be:=Zb (a9.alloc (by have:=a9.size;omega) _) bd;go_wp2;go_roundw
     case rel=>exact ⟨m+1,by omega,by go_num,by rw [b9.out];go_num,be⟩
     case measure=>simp [intOf];omega
    ·obtain rfl:m=C[k].length:=by omega
     have a7:Hid (2+cv+Zl4 (C[k].take C[k].length)=2+Zgo (C.take (k+1))):=by
      show _=_
      rw [b6.out,List.take_length];omega
     go_wp2;go_roundw
     case rel=>exact ⟨k+1,by omega,by go_num,by rw [a7.out],Zb a0 a9⟩
     case measure=>simp [intOf];omega
  ·obtain rfl:k=C.length:=by omega
   obtain ⟨b',o',a2,a4,rfl,a1,ai,a5,a6⟩:=(af.keep a0) 0 (by omega);have ak:C[0].length=n:=by
    rw [← hn]
    cases C with
    | nil=>simp at ao
    | cons x r=>rfl
   rw [ak] at a1;rw [Nat.add_zero] at a1;have a8:=ab.out C[0] (List.getElem_mem (by omega));rw [ak] at a8;obtain ⟨bf,bg⟩:=a8;have au:=Zg a0 ar lr;have al:=aq.below a0 lr;have am:Zgo (C.take C.length)=Zgo C:=by rw [List.take_length]
   rw [am];rw [am] at ag ah;clear am ai a5 a6 hn ak;have bh:(0:Int)<C.length:=by omega
   have aw:¬ C.length=0:=by omega
   have bu:¬ C=[]:=by intro e;rw [e] at aw;exact aw rfl
   have bv:0<C.length:=by omega
   have bi:=ac.out b' o' rfl;go_wp2_with fail;go_region_held3 (fun w'=>w'.cell? ⟨w.heap.size,0,none⟩=some (.slice (some ⟨b',o',none⟩) C.length cap)∧w'.cell? ⟨b',o',none⟩=some (.slice a2 n a4)) (go_keep)
    (first|(go_at_call 42;refine (Zky C.length n _ ae ad bf bg).mono ?_;rintro e w9 ⟨g0,rfl,ax,ay,aa⟩;have an:=al.drew.below aa lr;have bj:=an.cell 0 _ rfl;have bw:=an.frozen 0;have bk:=Zg aa (show wr.drew.cell? _=_ from au) lr;have bm:=Zg aa (show wr.drew.cell? _=_ from a1) lr;have bn:¬ w.heap.size+1=b':=by omega))
   have bo:=hid ay;have bp:=Zb h3 (Zb a0.drew aa);have bq:=al.lt;clear ay an al aq af ar au a1;go_wp2;refine bodyPost_ret (v:=.tuple #[.agg #[.slice (some ⟨g0,0,none⟩) C.length C.length],.int .i64 (2+Zgo C),.int .i64 0]) (by simp [results,results24,go_sem,World.cell?_setCell_same w9 _ _ bj]) rfl ⟨g0,rfl,bo.out.setOther _ _ (by show w.heap.size+1<g0;simp at ax;omega),by simp at ax;omega,bp.setCell (by show w.heap.size≤w.heap.size+1;omega) _⟩
end Go.Proofs.YtejhccmclanlmaaGreatDoor
