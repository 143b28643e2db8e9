/- Qg Sa -/
import Derived.Test.YtejhccmclanlmaaGreatDoorV09
set_option linter.all false
set_option maxRecDepth 100000
set_option maxHeartbeats 8000000
namespace Go.Proofs.YtejhccmclanlmaaGreatDoor
open Go.RowKit Go.Proofs.Tryz
theorem Zdv (base:Nat) (w:World):Zom base Zmv Zjp w:=
 ⟨_,_,_,_,rfl,World.ownsRow_nil _ _ _ _,World.ownsRow_nil _ _ _ _,World.ownsRow_nil _ _ _ _,World.ownsRow_nil _ _ _ _⟩
def Zng (w:World) (s:ByteArray) (e:Ending) (w':World):Prop:=
 Below w.heap.size w w'∧∃ v,e=.returned (.tuple #[v,.int .i64 (dec (Zbg s)).2.1,.int .i64 (dec (Zbg s)).2.2])∧Zom w.heap.size (dec (Zbg s)).1 v w'
theorem Zm9 (s:ByteArray) (w:World) (hs:200<s.size) (hm:s.size≤9223372036854775807):Calls prog 30 #[.string s] w (Zng w s):=by
 have HD:Hid (dec (Zbg s)=(Zmv,0,2)):=hid (by rw [dec,if_pos (by rw [Zc9];exact hs)]);have R0:Hid (Zf (w.alloc (.cells #[.int .i64 0,.int .i64 0,.int .i64 0,.int .i64 0,.int .i64 0,.slice none 0 0,.slice none 0 0,.slice none 0 0,.slice none 0 0] 27)) w.heap.size 27 Zhu):=hid (Zc w _ Zhu 27 rfl);have B0:=hid (Za w (.cells #[.int .i64 0,.int .i64 0,.int .i64 0,.int .i64 0,.int .i64 0,.slice none 0 0,.slice none 0 0,.slice none 0 0,.slice none 0 0] 27));go_enter func30,ntmps30;go_wp2;obtain ⟨d0,d1,d2,d3,d4,d5,d6,d7,d8⟩:=R0.out.q9 rfl rfl rfl rfl rfl rfl rfl rfl rfl;refine bodyPost_ret (v:=.tuple #[Zjp,.int .i64 0,.int .i64 2]) (by simp [results,results30,go_sem]) rfl ⟨B0.out,Zjp,by rw [HD.out];rfl,by rw [HD.out];exact Zdv _ _⟩
theorem Zkv (s:ByteArray) (w:World) (hs:s.size≤200):Calls prog 30 #[.string s] w (Zng w s):=by
 have HD:Hid (dec (Zbg s)=Zye (Zcc (Zbg s))):=hid (by rw [dec,if_neg (by rw [Zc9];omega)]);have R0:Hid (Zf (w.alloc (.cells #[.int .i64 0,.int .i64 0,.int .i64 0,.int .i64 0,.int .i64 0,.slice none 0 0,.slice none 0 0,.slice none 0 0,.slice none 0 0] 27)) w.heap.size 27 Zhu):=hid (Zc w _ Zhu 27 rfl);have B0:=hid (Za w (.cells #[.int .i64 0,.int .i64 0,.int .i64 0,.int .i64 0,.int .i64 0,.slice none 0 0,.slice none 0 0,.slice none 0 0,.slice none 0 0] 27));go_enter func30,ntmps30;go_wp2_with fail;refine (Zq4 s _ hs).mono ?_;rintro e w1 ⟨hb,⟨C,k,v,hp,rfl,⟨v5,v6,v7,v8,rfl,hO⟩⟩|⟨n,hp,rfl⟩⟩
 ·obtain ⟨A,rfl,rfl,rfl,rfl,hC⟩:=hO.conf
  have HC:=hid (hC.keep (Za w1 (.cells (cl C A) 27)));have HO:=hid (hO.below (Za w1 (.cells (cl C A) 27)));have R1:=hid ((R0.out.below hb lr).alloc (.cells (cl C A) 27));have B1:=hid ((Zb B0.out hb).alloc (by have:=hb.size;simp at this;omega) (.cells (cl C A) 27));have HX:=hid (Yq w1 C A);have a3:w.heap.size<w1.heap.size:=by have:=hb.size;simp at this;omega
  rw [hp] at HD;clear hb hp hO hC R0 B0;obtain ⟨a5,a6,a7,a8,c5,c6,c7,c8⟩:=A;dsimp only [cl,cv] at *
  go_wp2_with fail;refine (Qz C ⟨a5,a6,a7,a8,c5,c6,c7,c8⟩ _ HC).mono ?_;rintro e w2 ⟨rfl,a0⟩;have R2:=hid (R1.out.below a0 lr);have B2:=hid (B1.out.trans (a0.mono (by simp;omega)));have a2:=hid (HO.out.below a0);have a1:=hid (HX.out.keep a0);have a4:=a1.out.lt;clear a0 R1 B1 HO HX HC;obtain ⟨g0,g1,g2,g3,g4,g5,g6,g7,g8⟩:=a1.out;dsimp only at g5 g6 g7 g8;have x0:=R2.out.cell 0 _ rfl;have y0:=R2.out.frozen 0;have x1:=R2.out.cell 1 _ rfl;have y1:=R2.out.frozen 1;have x2:=R2.out.cell 2 _ rfl;have y2:=R2.out.frozen 2;have x3:=R2.out.cell 3 _ rfl;have y3:=R2.out.frozen 3;have x4:=R2.out.cell 4 _ rfl;have y4:=R2.out.frozen 4;have x5:=R2.out.cell 5 _ rfl;have y5:=R2.out.frozen 5;have x6:=R2.out.cell 6 _ rfl;have y6:=R2.out.frozen 6;have x7:=R2.out.cell 7 _ rfl;have y7:=R2.out.frozen 7;have x8:=R2.out.cell 8 _ rfl;have y8:=R2.out.frozen 8;by_cases h0:ckC C=0
  ·have HE:Hid (dec (Zbg s)=(C,0,0)):=hid (by rw [HD.out,Zye,if_pos h0])
   rw [h0];clear h0 HD;have R3:=hid ((((((((((R2.out.setCell 0 (.int .i64 C.s)).setCell 1 (.int .i64 C.w)).setCell 2 (.int .i64 C.d)).setCell 3 (.int .i64 C.p)).setCell 4 (.int .i64 C.q)).setCell 5 (.slice a5 C.sl.length c5)).setCell 6 (.slice a6 C.ow.length c6)).setCell 7 (.slice a7 C.ch.length c7)).setCell 8 (.slice a8 C.ta.length c8)));have B3:=hid ((((((((((B2.out.setCell (p:=⟨w.heap.size,0,none⟩) lr (.int .i64 C.s)).setCell (p:=⟨w.heap.size,1,none⟩) lr (.int .i64 C.w)).setCell (p:=⟨w.heap.size,2,none⟩) lr (.int .i64 C.d)).setCell (p:=⟨w.heap.size,3,none⟩) lr (.int .i64 C.p)).setCell (p:=⟨w.heap.size,4,none⟩) lr (.int .i64 C.q)).setCell (p:=⟨w.heap.size,5,none⟩) lr (.slice a5 C.sl.length c5)).setCell (p:=⟨w.heap.size,6,none⟩) lr (.slice a6 C.ow.length c6)).setCell (p:=⟨w.heap.size,7,none⟩) lr (.slice a7 C.ch.length c7)).setCell (p:=⟨w.heap.size,8,none⟩) lr (.slice a8 C.ta.length c8)));have O3:=hid ((((((((((a2.out.set 0 (.int .i64 C.s) (b:=w.heap.size) (by simp)).set 1 (.int .i64 C.w) (b:=w.heap.size) (by simp)).set 2 (.int .i64 C.d) (b:=w.heap.size) (by simp)).set 3 (.int .i64 C.p) (b:=w.heap.size) (by simp)).set 4 (.int .i64 C.q) (b:=w.heap.size) (by simp)).set 5 (.slice a5 C.sl.length c5) (b:=w.heap.size) (by simp)).set 6 (.slice a6 C.ow.length c6) (b:=w.heap.size) (by simp)).set 7 (.slice a7 C.ch.length c7) (b:=w.heap.size) (by simp)).set 8 (.slice a8 C.ta.length c8) (b:=w.heap.size) (by simp)).mono (base':=w.heap.size) (by simp));clear R2 B2 a2 a1;go_wp2;obtain ⟨d0,d1,d2,d3,d4,d5,d6,d7,d8⟩:=R3.out.q9 rfl rfl rfl rfl rfl rfl rfl rfl rfl;refine bodyPost_ret (v:=.tuple #[.agg #[(.int .i64 C.s),(.int .i64 C.w),(.int .i64 C.d),(.int .i64 C.p),(.int .i64 C.q),(.slice a5 C.sl.length c5),(.slice a6 C.ow.length c6),(.slice a7 C.ch.length c7),(.slice a8 C.ta.length c8)],.int .i64 0,.int .i64 0]) (by simp [results,results30,go_sem,d0,d1,d2,d3,d4,d5,d6,d7,d8]) rfl ⟨B3.out,_,by rw [HE.out];rfl,by rw [HE.out];exact ⟨_,_,_,_,rfl,O3.out⟩⟩
  ·have HE:Hid (dec (Zbg s)=(Zmv,0,ckC C)):=hid (by rw [HD.out,Zye,if_neg h0])
   have a9:(ckC C != 0)=true:=by simp [h0]
   clear h0 HD;generalize hq:ckC C=q at *
   clear hq;have R3:=hid ((((((((((R2.out.setCell 0 (.int .i64 0)).setCell 1 (.int .i64 0)).setCell 2 (.int .i64 0)).setCell 3 (.int .i64 0)).setCell 4 (.int .i64 0)).setCell 5 (.slice none 0 0)).setCell 6 (.slice none 0 0)).setCell 7 (.slice none 0 0)).setCell 8 (.slice none 0 0)));have B3:=hid ((((((((((B2.out.setCell (p:=⟨w.heap.size,0,none⟩) lr (.int .i64 0)).setCell (p:=⟨w.heap.size,1,none⟩) lr (.int .i64 0)).setCell (p:=⟨w.heap.size,2,none⟩) lr (.int .i64 0)).setCell (p:=⟨w.heap.size,3,none⟩) lr (.int .i64 0)).setCell (p:=⟨w.heap.size,4,none⟩) lr (.int .i64 0)).setCell (p:=⟨w.heap.size,5,none⟩) lr (.slice none 0 0)).setCell (p:=⟨w.heap.size,6,none⟩) lr (.slice none 0 0)).setCell (p:=⟨w.heap.size,7,none⟩) lr (.slice none 0 0)).setCell (p:=⟨w.heap.size,8,none⟩) lr (.slice none 0 0)));clear R2 B2 a2 a1;go_wp2;obtain ⟨d0,d1,d2,d3,d4,d5,d6,d7,d8⟩:=R3.out.q9 rfl rfl rfl rfl rfl rfl rfl rfl rfl;refine bodyPost_ret (v:=.tuple #[Zjp,.int .i64 0,.int .i64 q]) (by simp [results,results30,go_sem,d0,d1,d2,d3,d4,d5,d6,d7,d8]) rfl ⟨B3.out,Zjp,by rw [HE.out];rfl,by rw [HE.out];exact Zdv _ _⟩
 ·have R1:=hid ((R0.out.below hb lr).alloc (.cells #[.int .i64 0,.int .i64 0,.int .i64 0,.int .i64 0,.int .i64 0,.slice none 0 0,.slice none 0 0,.slice none 0 0,.slice none 0 0] 27))
  have B1:=hid ((Zb B0.out hb).alloc (by have:=hb.size;simp at this;omega) (.cells #[.int .i64 0,.int .i64 0,.int .i64 0,.int .i64 0,.int .i64 0,.slice none 0 0,.slice none 0 0,.slice none 0 0,.slice none 0 0] 27));have a3:w.heap.size<w1.heap.size:=by have:=hb.size;simp at this;omega
  have RR:=(R0.out.below hb lr)
  have BB:=hid (Zb B0.out hb);have HE:Hid (dec (Zbg s)=(Zmv,n,1)):=hid (by rw [HD.out,hp];rfl);have x0:=RR.cell 0 _ rfl;have y0:=RR.frozen 0;have x1:=RR.cell 1 _ rfl;have y1:=RR.frozen 1;have x2:=RR.cell 2 _ rfl;have y2:=RR.frozen 2;have x3:=RR.cell 3 _ rfl;have y3:=RR.frozen 3;have x4:=RR.cell 4 _ rfl;have y4:=RR.frozen 4;have x5:=RR.cell 5 _ rfl;have y5:=RR.frozen 5;have x6:=RR.cell 6 _ rfl;have y6:=RR.frozen 6;have x7:=RR.cell 7 _ rfl;have y7:=RR.frozen 7;have x8:=RR.cell 8 _ rfl;have y8:=RR.frozen 8;clear hb hp R0 B0 HD;have R3:=hid ((((((((((RR.setCell 0 (.int .i64 0)).setCell 1 (.int .i64 0)).setCell 2 (.int .i64 0)).setCell 3 (.int .i64 0)).setCell 4 (.int .i64 0)).setCell 5 (.slice none 0 0)).setCell 6 (.slice none 0 0)).setCell 7 (.slice none 0 0)).setCell 8 (.slice none 0 0)).alloc (.cells #[.int .i64 0,.int .i64 0,.int .i64 0,.int .i64 0,.int .i64 0,.slice none 0 0,.slice none 0 0,.slice none 0 0,.slice none 0 0] 27));have B3:=hid ((((((((((BB.out.setCell (p:=⟨w.heap.size,0,none⟩) lr (.int .i64 0)).setCell (p:=⟨w.heap.size,1,none⟩) lr (.int .i64 0)).setCell (p:=⟨w.heap.size,2,none⟩) lr (.int .i64 0)).setCell (p:=⟨w.heap.size,3,none⟩) lr (.int .i64 0)).setCell (p:=⟨w.heap.size,4,none⟩) lr (.int .i64 0)).setCell (p:=⟨w.heap.size,5,none⟩) lr (.slice none 0 0)).setCell (p:=⟨w.heap.size,6,none⟩) lr (.slice none 0 0)).setCell (p:=⟨w.heap.size,7,none⟩) lr (.slice none 0 0)).setCell (p:=⟨w.heap.size,8,none⟩) lr (.slice none 0 0)).alloc (by simp [World.setCell];omega) (.cells #[.int .i64 0,.int .i64 0,.int .i64 0,.int .i64 0,.int .i64 0,.slice none 0 0,.slice none 0 0,.slice none 0 0,.slice none 0 0] 27));clear RR R1 B1 BB;go_wp2;obtain ⟨d0,d1,d2,d3,d4,d5,d6,d7,d8⟩:=R3.out.q9 rfl rfl rfl rfl rfl rfl rfl rfl rfl;refine bodyPost_ret (v:=.tuple #[Zjp,.int .i64 n,.int .i64 1]) (by simp [results,results30,go_sem,d0,d1,d2,d3,d4,d5,d6,d7,d8]) rfl ⟨B3.out,Zjp,by rw [HE.out],by rw [HE.out];exact Zdv _ _⟩
theorem Zp6 (s:ByteArray) (w:World) (hm:s.size≤9223372036854775807):Calls prog 30 #[.string s] w (Zng w s):=by
 by_cases hs:200<s.size
 ·exact Zm9 s w hs hm
 ·exact Zkv s w (by omega)
theorem Yaq (x y:Int) (w:World):(Op.equalIn 10000 106 (.agg #[.int .i64 x,.int .i64 y]) (.agg #[.int .i64 x,.int .i64 y])).run prog w=.ok true w:=by
 have u3:=underlying3;have a3:=Tryz.isAgg3;have z3:=Tryz.sizeOf3;have hS:prog.underlying 106=some (.struct (prog.fieldsOf 106)):=by kernel_rfl
 have hp:prog.stoodInHeld 106=false:=by kernel_rfl
 rw [show (10000:Nat)=9999+1 from rfl,run_equalIn_agg w 9999 106 _ _ hS hp];simp only [Program.fieldsOf,underlying106];go_simp
theorem Yao (x y z:Int) (w:World):(Op.equalIn 10000 99 (.agg #[.int .i64 x,.int .i64 y,.int .i64 z]) (.agg #[.int .i64 x,.int .i64 y,.int .i64 z])).run prog w=.ok true w:=by
 have u3:=underlying3;have a3:=Tryz.isAgg3;have z3:=Tryz.sizeOf3;have hS:prog.underlying 99=some (.struct (prog.fieldsOf 99)):=by kernel_rfl
 have hp:prog.stoodInHeld 99=false:=by kernel_rfl
 rw [show (10000:Nat)=9999+1 from rfl,run_equalIn_agg w 9999 99 _ _ hS hp];simp only [Program.fieldsOf,underlying99];go_simp
theorem Yar (x y z u:Int) (w:World):(Op.equalIn 10000 108 (.agg #[.int .i64 x,.int .i64 y,.int .i64 z,.int .i64 u]) (.agg #[.int .i64 x,.int .i64 y,.int .i64 z,.int .i64 u])).run prog w=.ok true w:=by
 have u3:=underlying3;have a3:=Tryz.isAgg3;have z3:=Tryz.sizeOf3;have hS:prog.underlying 108=some (.struct (prog.fieldsOf 108)):=by kernel_rfl
 have hp:prog.stoodInHeld 108=false:=by kernel_rfl
 rw [show (10000:Nat)=9999+1 from rfl,run_equalIn_agg w 9999 108 _ _ hS hp];simp only [Program.fieldsOf,underlying108];go_simp
theorem Zjm (a a':Option Addr) (L:List Int) (cap cap':Nat) (w:World) (h1:Z4 w a L) (h2:Z4 w a' L) (hl:L.length≤9223372036854775807):
  Calls prog 27 #[.slice a L.length cap,.slice a' L.length cap'] w fun e w'=>e=.returned (.bool true)∧∃ n,w'=w.drewN n:=by
 go_enter func27,ntmps27;go_wp2;go_loopw [5] (fun i wr=>(∃ n,wr=w.drewN n)∧∃ k:Nat,k≤L.length∧i=.int .i64 k) (fun i _=>L.length-(intOf i).toNat)
 case atStart=>exact ⟨⟨0,rfl⟩,0,zl,rfl⟩
 case round=>
  obtain ⟨⟨nd,rfl⟩,k,hk,rfl⟩:=hrel;by_cases hlt:k<L.length
  ·obtain ⟨b1,o1,rfl,e1⟩:=h1 k hlt
   obtain ⟨b2,o2,rfl,e2⟩:=h2 k hlt;have a0:(k:Int)<L.length:=by omega
   have a1:(0:Int)≤k:=by omega
   generalize L[k]=y at *
   go_wp2;go_quiet (fail)
   go_wp2;go_roundw
   case rel=>exact ⟨⟨_,rfl⟩,k+1,by omega,by go_num⟩
   case measure=>simp [intOf];omega
  ·go_wp2
   go_ret;exact ⟨rfl,_,rfl⟩
theorem Zg5 (C:Zm) (A A':Mem) (w:World) (h1:Z1 w A C) (h2:Z1 w A' C):
  Calls prog 32 #[cv C A,cv C A'] w fun e w'=>e=.returned (.bool true)∧Below w.heap.size w w':=by
 have q1:=Za w (.cells (cl C A) 27);have q2:=Za (w.alloc (.cells (cl C A) 27)) (.cells (cl C A') 27);have HQ:=hid (Zb q1 q2);have a0:=hid (h1.keep (Zb q1 q2));have a1:=hid (h2.keep (Zb q1 q2));have a3:=hid ((Yq w C A).keep q2);have a2:=hid (Yq (w.alloc (.cells (cl C A) 27)) C A');have hs:(w.alloc (.cells (cl C A) 27)).heap.size=w.heap.size+1:=by simp
 rw [hs] at a2;have l5:=h1.l5;have l6:=h1.l6;have l7:=h1.l7;have l8:=h1.l8;have ad:=Yaq;have ae:=Yao;have af:=Yar;have aa:prog.eqGuardType prog.depth 106=false:=by kernel_rfl
 have ab:prog.eqGuardType prog.depth 99=false:=by kernel_rfl
 have ac:prog.eqGuardType prog.depth 108=false:=by kernel_rfl
 clear q1 q2 h1 h2 hs;obtain ⟨a5,a6,a7,a8,c5,c6,c7,c8⟩:=A;obtain ⟨b5,b6,b7,b8,d5,d6,d7,d8⟩:=A';dsimp only [cv,cl] at *
 go_enter func32,ntmps32;go_wp2_with fail;refine (Zjm a6 b6 C.ow c6 d6 _ a0.out.ow a1.out.ow l6).mono ?_;rintro e w1 ⟨rfl,nn,rfl⟩;generalize World.alloc _ _=w0 at *
 obtain ⟨g0,g1,g2,g3,g4,g5,g6,g7,g8⟩:=a3.out;obtain ⟨k0,k1,k2,k3,k4,k5,k6,k7,k8⟩:=a2.out;dsimp only at g5 g6 g7 g8 k5 k6 k7 k8;clear a3 a2;go_wp2;go_loopw [5] (fun i wr=>(∃ n,wr=w0.drewN n)∧∃ k:Nat,k≤C.sl.length∧i=.int .i64 k) (fun i _=>C.sl.length-(intOf i).toNat)
 case atStart=>exact ⟨⟨_,rfl⟩,0,zl,rfl⟩
 case round=>
  obtain ⟨⟨ag,rfl⟩,k,hk,rfl⟩:=hrel;by_cases hlt:k<C.sl.length
  ·obtain ⟨b1,o1,rfl,p0,p1⟩:=a0.out.sl k hlt
   obtain ⟨b2,o2,rfl,q0,q1⟩:=a1.out.sl k hlt;have a4:(k:Int)<C.sl.length:=by omega
   have a9:(0:Int)≤k:=by omega
   generalize C.sl[k].1=y0 at *
   generalize C.sl[k].2=y1 at *
   go_wp2;go_quiet (fail)
   go_wp2;go_roundw
   case rel=>exact ⟨⟨_,rfl⟩,k+1,by omega,by go_num⟩
   case measure=>simp [intOf];omega
  ·go_wp2
   go_loopw [6] (fun i wr=>(∃ n,wr=w0.drewN n)∧∃ k:Nat,k≤C.ch.length∧i=.int .i64 k) (fun i _=>C.ch.length-(intOf i).toNat)
   case atStart=>exact ⟨⟨_,rfl⟩,0,zl,rfl⟩
   case round=>
    obtain ⟨⟨ah,rfl⟩,k,hk,rfl⟩:=hrel;by_cases hlt:k<C.ch.length
    ·obtain ⟨b1,o1,rfl,p0,p1,p2⟩:=a0.out.ch k hlt
     obtain ⟨b2,o2,rfl,q0,q1,q2⟩:=a1.out.ch k hlt;have a4:(k:Int)<C.ch.length:=by omega
     have a9:(0:Int)≤k:=by omega
     generalize C.ch[k].1=y0 at *
     generalize C.ch[k].2.1=y1 at *
     generalize C.ch[k].2.2=y2 at *
     go_wp2;go_quiet (fail)
     go_wp2;go_roundw
     case rel=>exact ⟨⟨_,rfl⟩,k+1,by omega,by go_num⟩
     case measure=>simp [intOf];omega
    ·go_wp2
     go_loopw [7] (fun i wr=>(∃ n,wr=w0.drewN n)∧∃ k:Nat,k≤C.ta.length∧i=.int .i64 k) (fun i _=>C.ta.length-(intOf i).toNat)
     case atStart=>exact ⟨⟨_,rfl⟩,0,zl,rfl⟩
     case round=>
      obtain ⟨⟨ai,rfl⟩,k,hk,rfl⟩:=hrel;by_cases hlt:k<C.ta.length
      ·obtain ⟨b1,o1,rfl,p0,p1,p2,p3⟩:=a0.out.ta k hlt
       obtain ⟨b2,o2,rfl,q0,q1,q2,q3⟩:=a1.out.ta k hlt;have a4:(k:Int)<C.ta.length:=by omega
       have a9:(0:Int)≤k:=by omega
       generalize C.ta[k].1=y0 at *
       generalize C.ta[k].2.1=y1 at *
       generalize C.ta[k].2.2.1=y2 at *
       generalize C.ta[k].2.2.2=y3 at *
       go_wp2;go_quiet (fail)
       go_wp2;go_roundw
       case rel=>exact ⟨⟨_,rfl⟩,k+1,by omega,by go_num⟩
       case measure=>simp [intOf];omega
      ·go_wp2
       go_ret;exact ⟨rfl,below_drewN HQ _⟩
end Go.Proofs.YtejhccmclanlmaaGreatDoor
