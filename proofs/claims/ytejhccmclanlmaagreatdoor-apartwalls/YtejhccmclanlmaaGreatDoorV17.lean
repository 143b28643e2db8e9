/- Ac Ad Ae -/
import Derived.Test.YtejhccmclanlmaaGreatDoorV11
set_option linter.all false
set_option maxRecDepth 100000
set_option maxHeartbeats 8000000
namespace Go.Proofs.YtejhccmclanlmaaGreatDoor
open Go.RowKit Go.Proofs.Tryz
variable {w w':World}
theorem Zmb (C:Zm) (B:Mem) (aL:Option Addr) (L:List Zar) (cL:Nat) (dn fr te:Int) (w:World) (hC:Z1 w B C) (hL:Qs w aL L) (hl:L.length≤9223372036854775807) (h0:Yv C L dn fr te≠0):
  Calls prog 59 #[cv C B,.slice aL L.length cL,.int .i64 dn,.int .i64 fr,.int .i64 te] w fun e w'=>e=.returned (.tuple #[.slice none 0 0,.int .i64 (Yv C L dn fr te)])∧Below w.heap.size w w':=by
 have q1:=Za w (.cells (cl C B) 27);have CK:=hid (Zfm C B aL L cL dn fr te _ (hC.keep q1) (hL.keep q1) hl);have HB:=hid q1;clear q1 hC hL;generalize Yv C L dn fr te=z at *
 have a2:(z != 0)=true:=by simp [h0]
 go_enter func59,ntmps59;go_wp2_with fail;refine CK.out.mono ?_;rintro e w1 ⟨rfl,a0⟩;have a1:=hid (Zb HB a0);clear a0;go_wp2;go_ret2;exact ⟨rfl,a1.out⟩
theorem Zeu (C:Zm) (B:Mem) (aL:Option Addr) (L:List Zar) (cL:Nat) (w:World) (hC:Z1 w B C) (hL:Qs w aL L) (hl:L.length≤9223372036854775807):
  Calls prog 35 #[cv C B,.slice aL L.length cL] w fun e w'=>e=.returned (.int .i64 (Yv C L 0 0 0))∧Below w.heap.size w w':=by
 have q1:=Za w (.cells (cl C B) 27);have CK:Hid (Calls prog 59 #[cv C B,.slice aL L.length cL,.int .i64 0,.int .i64 0,.int .i64 0] (w.alloc (.cells (cl C B) 27)) fun e w'=>∃ v,e=.returned (.tuple #[v,.int .i64 (Yv C L 0 0 0)])∧Below (w.alloc (.cells (cl C B) 27)).heap.size (w.alloc (.cells (cl C B) 27)) w'):=by
  by_cases h0:Yv C L 0 0 0=0
  ·refine hid ((Zf5 C B aL L cL 0 0 0 _ (hC.keep q1) (hL.keep q1) hl h0).mono ?_)
   rintro e w' ⟨g,rfl,_,_,hb⟩;exact ⟨_,by rw [h0],hb⟩
  ·refine hid ((Zmb C B aL L cL 0 0 0 _ (hC.keep q1) (hL.keep q1) hl h0).mono ?_)
   rintro e w' ⟨rfl,hb⟩;exact ⟨_,rfl,hb⟩
 have HB:=hid q1;clear q1 hC hL;generalize Yv C L 0 0 0=z at *
 go_enter func35,ntmps35;go_wp2_with fail;refine CK.out.mono ?_;rintro e w1 ⟨v,rfl,a0⟩;have a1:=hid (Zb HB a0);clear a0;go_wp2;go_ret;exact ⟨rfl,a1.out⟩
def Zzi (a:Qg):Int:=if ckA a=0 then Zie a else 0
theorem Zmr (a:Qg) (w:World):Calls prog 60 #[av a] w fun e w'=>e=.returned (.tuple #[.int .i64 (Zzi a),.int .i64 (ckA a)])∧Below w.heap.size w w':=by
 have CA:=hid (fun wx=>Za3 a wx);have CB:=hid (fun wx=>Zee a wx);have HW:Hid (ckA a=0→Zzi a=Zie a):=hid fun h=>if_pos h
 have HZ:Hid (ckA a≠0→Zzi a=0):=hid fun h=>if_neg h
 generalize Zzi a=r at *
 generalize Zie a=z at *
 generalize ckA a=q at *
 obtain ⟨k,n,v⟩:=a;have q1:=Za w (.cells #[.int .i64 k,.int .i64 n,.int .i64 v] 63);have HB:=hid q1;have R1:=hid (Z5 w _ [.int .i64 k,.int .i64 n,.int .i64 v] 63 rfl);obtain ⟨c0,c1,c2⟩:=R1.out.q3 rfl rfl rfl;clear q1;go_enter func60,ntmps60;go_wp2_with fail;refine (CA.out _).mono ?_;rintro e w1 ⟨rfl,a0⟩;have T1:=hid (R1.out.below a0 lr);have a1:=hid (Zb HB a0);obtain ⟨e0,e1,e2⟩:=T1.out.q3 rfl rfl rfl;clear a0 c0 c1 c2;by_cases hq:q=0
 ·subst hq
  have hr:=HW.out rfl;subst hr;go_wp2_with fail;refine (CB.out _).mono ?_;rintro e w2 ⟨rfl,a2⟩;go_wp2;go_ret2;exact ⟨rfl,Zb a1 a2⟩
 ·have hr:=HZ.out hq
  subst hr;have a3:(q != 0)=true:=by simp [hq]
  go_wp2;go_ret2;exact ⟨rfl,a1.out⟩
theorem Zft (aL:Option Addr) (L:List Qg) (cL:Nat) (w:World) (hL:Yn w aL L) (hl:List.length L≤9223372036854775807):
  Calls prog 36 #[.slice aL L.length cL] w fun e w'=>e=.returned (.int .i64 (Zdj L))∧Below w.heap.size w w':=by
 have a6:=hid hL;clear hL;go_enter func36,ntmps36;by_cases h60:60<List.length L
 ·have HE:Hid (Zdj L=2):=hid (by rw [Zdj,if_pos h60])
  have hz:(60:Int)<(List.length L:Int):=by omega
  go_wp2;go_ret;exact ⟨Zh HE.out.symm,br⟩
 have hz:(List.length L:Int)≤60:=by omega
 have HA:Hid (Zdj L=fe (List.length L) fun i=>ckA (L.getD i (0,0,0))):=hid (by rw [Zdj,if_neg h60]);clear h60;go_wp2;go_loopw [12] (fun i wr=>∃ k:Nat,k≤List.length L∧i=.int .i64 k∧Below w.heap.size w wr∧∀ j,j<k→ckA (L.getD j (0,0,0))=0) (fun i _=>List.length L-(intOf i).toNat)
 case atStart=>exact ⟨0,zl,rfl,br,by omega⟩
 case round=>
  obtain ⟨k,hk,rfl,a1,a3⟩:=hrel;have a2:=hid a3;clear a3;by_cases hlt:k<List.length L
  ·obtain ⟨b1,o1,rfl,p0,p1,p2⟩:=(a6.out.keep a1) k hlt
   have HV:Hid (L.getD k (0,0,0)=L[k]):=hid (by simp [hlt]);have aa:(k:Int)<(List.length L:Int):=by omega
   have ab:(0:Int)≤(k:Int):=by omega
   generalize L[k]=a at *
   obtain ⟨ak,an,a0⟩:=a;dsimp only at *
   have HQ:=hid (Zb a1 (Za wr (.cells #[.int .i64 ak,.int .i64 an,.int .i64 a0] 63)));clear a1;go_wp2_with fail;refine (Zmr (ak,an,a0) _).mono ?_;rintro e w3 ⟨rfl,a4⟩;have a5:=hid (Zb HQ a4);clear a4 HQ p0 p1 p2;by_cases h0:ckA (ak,an,a0)=0
   ·have H0:=hid h0
    rw [h0];clear h0;go_wp2;go_roundw
    case rel=>
     refine ⟨k+1,by omega,by go_num,a5.out,fun j hj=>?_⟩;by_cases e:j=k
     ·subst e;rw [HV.out];exact H0.out
     ·exact a2.out j (by omega)
    case measure=>simp [intOf];omega
   ·have a7:Hid (Zdj L=ckA (ak,an,a0)):=hid (by
     rw [HA.out,Zbe _ k _ hlt (by rw [HV.out];exact h0) (fun j hj=>a2.out j hj),HV.out])
    have hx:(ckA (ak,an,a0) != 0)=true:=by simp [h0]
    clear h0 HV;generalize ckA (ak,an,a0)=q at *
    go_wp2;go_ret;exact ⟨Zh a7.out.symm,a5.out⟩
  ·have a8:Hid (Zdj L=0):=hid (by rw [HA.out];exact Qt _ _ (fun j hj=>a2.out j (by omega)))
   have a9:=hid a1;clear a1;go_wp2;go_ret;exact ⟨Zh a8.out.symm,a9.out⟩
def Zfk (w:World) (a:Option Addr) (LL:List (List Qg)):Prop:=
 ∀ i (h:i<LL.length),∃ b o a' c',a=some ⟨b,o,none⟩∧w.cell? ⟨b,o+i,none⟩=some (.slice a' LL[i].length c')∧Yn w a' LL[i]∧LL[i].length≤c'∧LL[i].length≤9223372036854775807
theorem Zfk.keep {a:Option Addr} {LL:List (List Qg)} (h:Zfk w a LL) (hb:Below w.heap.size w w'):Zfk w' a LL:=by
 intro i hi;obtain ⟨b,o,a',c',e,h1,h2,h3,h4⟩:=h i hi;exact ⟨b,o,a',c',e,Zg hb h1 lr,h2.keep hb,h3,h4⟩
structure Zcm where
 acts:List (List Qg)
 arr:List Zar
 rounds:Int
structure Zg0 where
 aA:Option Addr
 aR:Option Addr
 cA:Nat
 cR:Nat
abbrev sl (S:Zcm) (M:Zg0):Array Value:=#[.slice M.aA S.acts.length M.cA,.slice M.aR S.arr.length M.cR,.int .i64 S.rounds]
abbrev sv (S:Zcm) (M:Zg0):Value:=.agg (sl S M)
structure Q8 (w:World) (M:Zg0) (S:Zcm):Prop where
 acts:Zfk w M.aA S.acts
 arr:Qs w M.aR S.arr
 lA:S.acts.length≤9223372036854775807
 lR:S.arr.length≤9223372036854775807
theorem Q8.keep {M:Zg0} {S:Zcm} (h:Q8 w M S) (hb:Below w.heap.size w w'):Q8 w' M S:=⟨h.acts.keep hb,h.arr.keep hb,h.lA,h.lR⟩
def Qo (C:Zm) (S:Zcm):Int:=
 if ckC C≠0 then ckC C else if (S.acts.length:Int)≠C.d then 1 else if inR S.rounds 0 8=false then 3 else if Yv C S.arr 0 0 0≠0 then Yv C S.arr 0 0 0 else fe S.acts.length fun i=>Zdj (S.acts.getD i [])
theorem Jv (C:Zm) (B:Mem) (S:Zcm) (M:Zg0) (w:World) (hC:Z1 w B C) (hS:Q8 w M S):
  Calls prog 15 #[cv C B,sv S M] w fun e w'=>e=.returned (.int .i64 (Qo C S))∧Below w.heap.size w w':=by
 obtain ⟨LL,R,a0⟩:=S;obtain ⟨aA,aR,cA,cR⟩:=M;have q1:=Za w (.cells (cl C B) 27);have q2:=Za (w.alloc (.cells (cl C B) 27)) (.cells #[.slice aA LL.length cA,.slice aR R.length cR,.int .i64 a0] 31);have hb:=Zb q1 q2;have HB:=hid hb;have HC:=hid (hC.keep hb);have HS:=hid (hS.keep hb);have HX:=hid ((Yq w C B).keep q2);have R2:=hid (Z5 (w.alloc (.cells (cl C B) 27)) (w.heap.size+1) [.slice aA LL.length cA,.slice aR R.length cR,.int .i64 a0] 31 (by simp));have ar:LL.length≤9223372036854775807:=hS.lA;have al:R.length≤9223372036854775807:=hS.lR;clear q1 q2 hb hC hS;obtain ⟨a5,a6,a7,a8,c5,c6,c7,c8⟩:=B;dsimp only [cv,cl,sv,sl] at *
 obtain ⟨g0,g1,g2,g3,g4,g5,g6,g7,g8⟩:=HX.out;go_enter func15,ntmps15;go_wp2_with fail;refine (Qz C ⟨a5,a6,a7,a8,c5,c6,c7,c8⟩ _ HC).mono ?_;rintro e w1 ⟨rfl,a1⟩;generalize hW:World.alloc (World.alloc w _) _=W at *
 clear hW;have a2:=hid (Zb HB a1);have af:=hid (HC.out.keep a1);have a9:=hid (HS.out.keep a1);have ag:=hid (HX.out.keep a1);have T2:=hid (R2.out.below a1 lr);clear HB HC HS HX R2 a1 g0 g1 g2 g3 g4 g5 g6 g7 g8;by_cases h0:ckC C=0
 case neg=>
  have HE:Hid (Qo C ⟨LL,R,a0⟩=ckC C):=hid (by rw [Qo,if_pos h0]);have hx:(ckC C != 0)=true:=by simp [h0]
  generalize ckC C=q at *
  go_wp2;go_ret;exact ⟨Zh HE.out.symm,a2.out⟩
 have H0:=hid h0;rw [h0];clear h0;obtain ⟨g0,g1,g2,g3,g4,g5,g6,g7,g8⟩:=ag.out;obtain ⟨d0,d1,d2⟩:=T2.out.q3 rfl rfl rfl;have aa:Hid (Qo C ⟨LL,R,a0⟩=if (LL.length:Int)≠C.d then 1 else if inR a0 0 8=false then 3 else if Yv C R 0 0 0≠0 then Yv C R 0 0 0 else fe LL.length fun i=>Zdj (LL.getD i [])):=hid (by rw [Qo,if_neg (by rw [H0.out];decide)]);by_cases h1:(LL.length:Int)=C.d
 case neg=>
  have HE:Hid (Qo C ⟨LL,R,a0⟩=1):=hid (by rw [aa.out,if_pos h1]);have hx:((LL.length:Int) != C.d)=true:=by simp [h1]
  go_wp2;go_ret;exact ⟨Zh HE.out.symm,a2.out⟩
 have ab:Hid (Qo C ⟨LL,R,a0⟩=if inR a0 0 8=false then 3 else if Yv C R 0 0 0≠0 then Yv C R 0 0 0 else fe LL.length fun i=>Zdj (LL.getD i [])):=hid (by rw [aa.out,if_neg (by simp [h1])]);have am:((LL.length:Int) != C.d)=false:=by simp [h1]
 clear aa;go_wp2_with fail;refine (Zs a0 0 8 _).mono ?_;rintro e w' ⟨rfl,rfl⟩;clear am h1
 cases h2:inR a0 0 8 with
 | false=>
  have HE:Hid (Qo C ⟨LL,R,a0⟩=3):=hid (by rw [ab.out,if_pos h2]);clear h2;go_wp2;go_ret;exact ⟨Zh HE.out.symm,a2.out⟩
 | true=>
  have ac:Hid (Qo C ⟨LL,R,a0⟩=if Yv C R 0 0 0≠0 then Yv C R 0 0 0 else fe LL.length fun i=>Zdj (LL.getD i [])):=hid (by rw [ab.out,if_neg (by rw [h2];decide)]);clear h2 ab;go_wp2_with fail;refine (Zeu C ⟨a5,a6,a7,a8,c5,c6,c7,c8⟩ aR R cR _ af a9.out.arr al).mono ?_;rintro e w2 ⟨rfl,a4⟩;have ad:=hid (Zb a2 a4);have an:=hid (a9.out.acts.keep a4);have T3:=hid (T2.out.below a4 lr);clear a4 af a9 ag T2 g0 g1 g2 g3 g4 g5 g6 g7 g8 d0 d1 d2 a2;by_cases h3:Yv C R 0 0 0=0
  case neg=>
   have HE:Hid (Qo C ⟨LL,R,a0⟩=Yv C R 0 0 0):=hid (by rw [ac.out,if_pos h3]);have hx:(Yv C R 0 0 0 != 0)=true:=by simp [h3]
   generalize Yv C R 0 0 0=q at *
   go_wp2;go_ret;exact ⟨Zh HE.out.symm,ad.out⟩
  have ah:Hid (Qo C ⟨LL,R,a0⟩=fe LL.length fun i=>Zdj (LL.getD i [])):=hid (by rw [ac.out,if_neg (by rw [h3];decide)]);rw [h3];clear h3 ac;have d0:=T3.out.cell 0 _ rfl;go_wp2;go_loopw [35] (fun i wr=>∃ k:Nat,k≤LL.length∧i=.int .i64 k∧Below w2.heap.size w2 wr∧∀ j,j<k→Zdj (LL.getD j [])=0) (fun i _=>LL.length-(intOf i).toNat)
  case atStart=>exact ⟨0,zl,rfl,br,by omega⟩
  case round=>
   obtain ⟨k,hk,rfl,a3,ai⟩:=hrel;have ae:=hid ai;clear ai;by_cases hlt:k<LL.length
   ·obtain ⟨b1,o1,a',c',rfl,p0,p1,p2,p3⟩:=(an.out.keep a3) k hlt
    have HV:Hid (LL.getD k []=LL[k]):=hid (by simp [hlt]);have au:(k:Int)<(LL.length:Int):=by omega
    have aw:(0:Int)≤(k:Int):=by omega
    have HQ:=hid a3;have HP:=hid p1;generalize LL[k]=L at *
    clear a3 p1;go_wp2_with fail;refine (Zft a' L c' _ HP p3).mono ?_;rintro e w3 ⟨rfl,aj⟩;have ak:=hid (Zb HQ aj);clear aj HQ p0;by_cases h4:Zdj L=0
    ·have H4:=hid h4
     rw [h4];clear h4;go_wp2;go_roundw
     case rel=>
      refine ⟨k+1,by omega,by go_num,ak.out,fun j hj=>?_⟩;by_cases e:j=k
      ·subst e;rw [HV.out];exact H4.out
      ·exact ae.out j (by omega)
     case measure=>simp [intOf];omega
    ·have ao:Hid (Qo C ⟨LL,R,a0⟩=Zdj L):=hid (by
      rw [ah.out,Zbe _ k _ hlt (by rw [HV.out];exact h4) (fun j hj=>ae.out j hj),HV.out])
     have hx:(Zdj L != 0)=true:=by simp [h4]
     clear h4 HV;generalize Zdj L=q at *
     go_wp2;go_ret;exact ⟨Zh ao.out.symm,Zb ad ak⟩
   ·have ap:Hid (Qo C ⟨LL,R,a0⟩=0):=hid (by rw [ah.out];exact Qt _ _ (fun j hj=>ae.out j (by omega)))
    have aq:=hid (Zb ad a3);clear a3;go_wp2;go_ret;exact ⟨Zh ap.out.symm,aq.out⟩
end Go.Proofs.YtejhccmclanlmaaGreatDoor
