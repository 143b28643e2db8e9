/- Texts joined: Ad Ae Ai Aj. -/
import Derived.Deep.DeepCutAuto
import Derived.BigQuiet
import Derived.Test.YtejhccmclanlmaaGreatDoorK09
import Derived.Test.YtejhccmclanlmaaGreatDoorK10
import Derived.Test.YtejhccmclanlmaaGreatDoorK17
set_option linter.unusedVariables false
set_option maxRecDepth 100000
namespace Go.Proofs.YtejhccmclanlmaaGreatDoor
open Go.RowKit
def wstV (a:ActT):Int:=if ckA a=0 then wstA a else 0
set_option maxHeartbeats 1000000 in
theorem worst60_any (a:ActT) (w:World):Calls Tryz.prog 60 #[av a] w fun e w'=>e=.returned (.tuple #[.int .i64 (wstV a),.int .i64 (ckA a)])∧Below w.heap.size w w':=by
 have CA:=hid (fun wx=>checkAction_any a wx)
 have CB:=hid (fun wx=>worst_any a wx)
 have HW:Hid (ckA a=0→wstV a=wstA a):=hid fun h=>if_pos h
 have HZ:Hid (ckA a≠0→wstV a=0):=hid fun h=>if_neg h
 generalize wstV a=r at *
 generalize wstA a=z at *
 generalize ckA a=q at *
 obtain ⟨k,n,v⟩:=a
 have q1:=below_new w (.cells #[.int .i64 k,.int .i64 n,.int .i64 v] 63)
 have HB:=hid q1
 have R1:=hid (rowAt_new w _ [.int .i64 k,.int .i64 n,.int .i64 v] 63 rfl)
 have c0:=R1.out.cell 0 _ rfl
 have c1:=R1.out.cell 1 _ rfl
 have c2:=R1.out.cell 2 _ rfl
 clear q1
 go_enter Tryz.func60,Tryz.ntmps60
 go_wp2_with fail
 refine (CA.out _).mono ?_
 rintro e w1 ⟨rfl,hb1⟩
 have T1:=hid (R1.out.below hb1 lr)
 have HB1:=hid (btrans HB.out hb1)
 have e0:=T1.out.cell 0 _ rfl
 have e1:=T1.out.cell 1 _ rfl
 have e2:=T1.out.cell 2 _ rfl
 clear hb1 c0 c1 c2
 by_cases hq:q=0
 ·subst hq
  have hr:=HW.out rfl
  subst hr
  go_wp2_with fail
  refine (CB.out _).mono ?_
  rintro e w2 ⟨rfl,hb2⟩
  go_wp2
  go_ret2
  exact ⟨rfl,btrans HB1.out hb2⟩
 ·have hr:=HZ.out hq
  subst hr
  have hqb:(q != 0)=true:=by simp [hq]
  go_wp2
  go_ret2
  exact ⟨rfl,HB1.out⟩
set_option maxHeartbeats 1000000 in
theorem checkActions_any (aL:Option Addr) (L:List ActT) (cL:Nat) (w:World) (hL:ChansIn w aL L) (hl:List.length L≤9223372036854775807) :
  Calls Tryz.prog 36 #[.slice aL L.length cL] w fun e w'=>e=.returned (.int .i64 (ckAs L))∧Below w.heap.size w w':=by
 have HL2:=hid hL
 clear hL
 go_enter Tryz.func36,Tryz.ntmps36
 by_cases h60:60<List.length L
 ·have HE:Hid (ckAs L=2):=hid (by rw [ckAs,if_pos h60])
  have hz:(60:Int)<(List.length L:Int):=by omega
  go_wp2
  go_ret
  exact ⟨ret_int HE.out.symm,Below.refl _ _⟩
 have hz:(List.length L:Int)≤60:=by omega
 have HA:Hid (ckAs L=fe (List.length L) fun i=>ckA (L.getD i (0,0,0))):=hid (by rw [ckAs,if_neg h60])
 clear h60
 go_wp2
 go_loopw [12] (fun i wr=>∃ k:Nat,k≤List.length L∧i=.int .i64 k∧Below w.heap.size w wr∧∀ j,j<k→ckA (L.getD j (0,0,0))=0) (fun i _=>List.length L - (intOf i).toNat)
 case atStart=>exact ⟨0,Nat.zero_le _,rfl,Below.refl _ _,by omega⟩
 case round=>
  obtain ⟨k,hk,rfl,hbl,hno⟩:=hrel
  have Hno:=hid hno
  clear hno
  by_cases hlt:k<List.length L
  ·obtain ⟨b1,o1,rfl,p0,p1,p2⟩:=(HL2.out.keep hbl) k hlt
   have HV:Hid (L.getD k (0,0,0)=L[k]):=hid (by simp [hlt])
   have hk1:(k:Int)<(List.length L:Int):=by omega
   have hk0:(0:Int)≤(k:Int):=by omega
   generalize L[k]=a at *
   obtain ⟨ak,an,av'⟩:=a
   dsimp only at *
   have HQ:=hid (btrans hbl (below_new wr (.cells #[.int .i64 ak,.int .i64 an,.int .i64 av'] 63)))
   clear hbl
   go_wp2_with fail
   refine (worst60_any (ak,an,av') _).mono ?_
   rintro e w3 ⟨rfl,hb3⟩
   have HB3:=hid (btrans HQ.out hb3)
   clear hb3 HQ p0 p1 p2
   by_cases h0:ckA (ak,an,av')=0
   ·have H0:=hid h0
    rw [h0]
    clear h0
    go_wp2
    go_roundw
    case rel=>
     refine ⟨k+1,by omega,by go_num,HB3.out,fun j hj=>?_⟩
     by_cases e:j=k
     ·subst e;rw [HV.out];exact H0.out
     ·exact Hno.out j (by omega)
    case measure=>simp [intOf];omega
   ·have HE2:Hid (ckAs L=ckA (ak,an,av')):=hid (by
     rw [HA.out,fe_at _ k _ hlt (by rw [HV.out];exact h0) (fun j hj=>Hno.out j hj),HV.out])
    have hx:(ckA (ak,an,av') != 0)=true:=by simp [h0]
    clear h0 HV
    generalize ckA (ak,an,av')=q at *
    go_wp2
    go_ret
    exact ⟨ret_int HE2.out.symm,HB3.out⟩
  ·have HE3:Hid (ckAs L=0):=hid (by rw [HA.out];exact fe_zero _ _ (fun j hj=>Hno.out j (by omega)))
   have HBl:=hid hbl
   clear hbl
   go_wp2
   go_ret
   exact ⟨ret_int HE3.out.symm,HBl.out⟩
def ActsIn (w:World) (a:Option Addr) (LL:List (List ActT)):Prop:=
 ∀ i (h:i<LL.length),∃ b o a' c',a=some ⟨b,o,none⟩∧w.cell? ⟨b,o+i,none⟩=some (.slice a' LL[i].length c')∧ChansIn w a' LL[i]∧LL[i].length≤c'∧LL[i].length≤9223372036854775807
theorem ActsIn.keep {w w':World} {a:Option Addr} {LL:List (List ActT)} (h:ActsIn w a LL) (hb:Below w.heap.size w w'):ActsIn w' a LL:=by
 intro i hi
 obtain ⟨b,o,a',c',e,h1,h2,h3,h4⟩:=h i hi
 exact ⟨b,o,a',c',e,bkeep hb h1 lr,h2.keep hb,h3,h4⟩
structure ScrT where
 acts:List (List ActT)
 arr:List ArrT
 rounds:Int
structure SMem where
 aA:Option Addr
 aR:Option Addr
 cA:Nat
 cR:Nat
abbrev sl (S:ScrT) (M:SMem):Array Value:=#[.slice M.aA S.acts.length M.cA,.slice M.aR S.arr.length M.cR,.int .i64 S.rounds]
abbrev sv (S:ScrT) (M:SMem):Value:=.agg (sl S M)
structure ScrIn (w:World) (M:SMem) (S:ScrT):Prop where
 acts:ActsIn w M.aA S.acts
 arr:SlotsIn w M.aR S.arr
 lA:S.acts.length≤9223372036854775807
 lR:S.arr.length≤9223372036854775807
theorem ScrIn.keep {w w':World} {M:SMem} {S:ScrT} (h:ScrIn w M S) (hb:Below w.heap.size w w'):ScrIn w' M S:=⟨h.acts.keep hb,h.arr.keep hb,h.lA,h.lR⟩
def ckScr (C:Conf) (S:ScrT):Int:=
 if ckC C≠0 then ckC C else if (S.acts.length:Int)≠C.d then 1 else if inR S.rounds 0 8=false then 3 else if ckArr C S.arr 0 0 0≠0 then ckArr C S.arr 0 0 0 else fe S.acts.length fun i=>ckAs (S.acts.getD i [])
set_option maxHeartbeats 2000000 in
theorem checkScr_any (C:Conf) (B:Mem) (S:ScrT) (M:SMem) (w:World) (hC:ConfIn w B C) (hS:ScrIn w M S) :
  Calls Tryz.prog 15 #[cv C B,sv S M] w fun e w'=>e=.returned (.int .i64 (ckScr C S))∧Below w.heap.size w w':=by
 obtain ⟨LL,R,rounds⟩:=S
 obtain ⟨aA,aR,cA,cR⟩:=M
 have q1:=below_new w (.cells (cl C B) 27)
 have q2:=below_new (w.alloc (.cells (cl C B) 27)) (.cells #[.slice aA LL.length cA,.slice aR R.length cR,.int .i64 rounds] 31)
 have hb:=btrans q1 q2
 have HB:=hid hb
 have HC:=hid (hC.keep hb)
 have HS:=hid (hS.keep hb)
 have HX:=hid ((boxC_new w C B).keep q2)
 have R2:=hid (rowAt_new (w.alloc (.cells (cl C B) 27)) (w.heap.size+1) [.slice aA LL.length cA,.slice aR R.length cR,.int .i64 rounds] 31 (by simp))
 have hlA:LL.length≤9223372036854775807:=hS.lA
 have hlR:R.length≤9223372036854775807:=hS.lR
 clear q1 q2 hb hC hS
 obtain ⟨a5,a6,a7,a8,c5,c6,c7,c8⟩:=B
 dsimp only [cv,cl,sv,sl] at *
 obtain ⟨g0,g1,g2,g3,g4,g5,g6,g7,g8⟩:=HX.out
 go_enter Tryz.func15,Tryz.ntmps15
 go_wp2_with fail
 refine (checkC_any C ⟨a5,a6,a7,a8,c5,c6,c7,c8⟩ _ HC.out).mono ?_
 rintro e w1 ⟨rfl,hb1⟩
 generalize hW:World.alloc (World.alloc w _) _=W at *
 clear hW
 have HB1:=hid (btrans HB.out hb1)
 have HC1:=hid (HC.out.keep hb1)
 have HS1:=hid (HS.out.keep hb1)
 have HX1:=hid (HX.out.keep hb1)
 have T2:=hid (R2.out.below hb1 lr)
 clear HB HC HS HX R2 hb1 g0 g1 g2 g3 g4 g5 g6 g7 g8
 by_cases h0:ckC C=0
 case neg=>
  have HE:Hid (ckScr C ⟨LL,R,rounds⟩=ckC C):=hid (by rw [ckScr,if_pos h0])
  have hx:(ckC C != 0)=true:=by simp [h0]
  generalize ckC C=q at *
  go_wp2
  go_ret
  exact ⟨ret_int HE.out.symm,HB1.out⟩
 have H0:=hid h0
 rw [h0]
 clear h0
 obtain ⟨g0,g1,g2,g3,g4,g5,g6,g7,g8⟩:=HX1.out
 have d0:=T2.out.cell 0 _ rfl
 have d1:=T2.out.cell 1 _ rfl
 have d2:=T2.out.cell 2 _ rfl
 have HE0:Hid (ckScr C ⟨LL,R,rounds⟩=if (LL.length:Int)≠C.d then 1 else if inR rounds 0 8=false then 3 else if ckArr C R 0 0 0≠0 then ckArr C R 0 0 0 else fe LL.length fun i=>ckAs (LL.getD i [])):=hid (by rw [ckScr,if_neg (by rw [H0.out];decide)])
 by_cases h1:(LL.length:Int)=C.d
 case neg=>
  have HE:Hid (ckScr C ⟨LL,R,rounds⟩=1):=hid (by rw [HE0.out,if_pos h1])
  have hx:((LL.length:Int) != C.d)=true:=by simp [h1]
  go_wp2
  go_ret
  exact ⟨ret_int HE.out.symm,HB1.out⟩
 have HE1:Hid (ckScr C ⟨LL,R,rounds⟩=if inR rounds 0 8=false then 3 else if ckArr C R 0 0 0≠0 then ckArr C R 0 0 0 else fe LL.length fun i=>ckAs (LL.getD i [])):=hid (by rw [HE0.out,if_neg (by simp [h1])])
 have hx1:((LL.length:Int) != C.d)=false:=by simp [h1]
 clear HE0
 go_wp2_with fail
 refine (within_any rounds 0 8 _).mono ?_
 rintro e w' ⟨rfl,rfl⟩
 clear hx1 h1
 cases h2:inR rounds 0 8 with
 | false=>
  have HE:Hid (ckScr C ⟨LL,R,rounds⟩=3):=hid (by rw [HE1.out,if_pos h2])
  clear h2
  go_wp2
  go_ret
  exact ⟨ret_int HE.out.symm,HB1.out⟩
 | true=>
  have HE2:Hid (ckScr C ⟨LL,R,rounds⟩=if ckArr C R 0 0 0≠0 then ckArr C R 0 0 0 else fe LL.length fun i=>ckAs (LL.getD i [])):=hid (by rw [HE1.out,if_neg (by rw [h2];decide)])
  clear h2 HE1
  go_wp2_with fail
  refine (checkArrivals_any C ⟨a5,a6,a7,a8,c5,c6,c7,c8⟩ aR R cR _ HC1.out HS1.out.arr hlR).mono ?_
  rintro e w2 ⟨rfl,hb2⟩
  have HB2:=hid (btrans HB1.out hb2)
  have HA2:=hid (HS1.out.acts.keep hb2)
  have T3:=hid (T2.out.below hb2 lr)
  clear hb2 HC1 HS1 HX1 T2 g0 g1 g2 g3 g4 g5 g6 g7 g8 d0 d1 d2 HB1
  by_cases h3:ckArr C R 0 0 0=0
  case neg=>
   have HE:Hid (ckScr C ⟨LL,R,rounds⟩=ckArr C R 0 0 0):=hid (by rw [HE2.out,if_pos h3])
   have hx:(ckArr C R 0 0 0 != 0)=true:=by simp [h3]
   generalize ckArr C R 0 0 0=q at *
   go_wp2
   go_ret
   exact ⟨ret_int HE.out.symm,HB2.out⟩
  have HE3:Hid (ckScr C ⟨LL,R,rounds⟩=fe LL.length fun i=>ckAs (LL.getD i [])):=hid (by rw [HE2.out,if_neg (by rw [h3];decide)])
  rw [h3]
  clear h3 HE2
  have d0:=T3.out.cell 0 _ rfl
  go_wp2
  go_loopw [35] (fun i wr=>∃ k:Nat,k≤LL.length∧i=.int .i64 k∧Below w2.heap.size w2 wr∧∀ j,j<k→ckAs (LL.getD j [])=0) (fun i _=>LL.length - (intOf i).toNat)
  case atStart=>exact ⟨0,Nat.zero_le _,rfl,Below.refl _ _,by omega⟩
  case round=>
   obtain ⟨k,hk,rfl,hbl,hno⟩:=hrel
   have Hno:=hid hno
   clear hno
   by_cases hlt:k<LL.length
   ·obtain ⟨b1,o1,a',c',rfl,p0,p1,p2,p3⟩:=(HA2.out.keep hbl) k hlt
    have HV:Hid (LL.getD k []=LL[k]):=hid (by simp [hlt])
    have hk1:(k:Int)<(LL.length:Int):=by omega
    have hk0:(0:Int)≤(k:Int):=by omega
    have HQ:=hid hbl
    have HP:=hid p1
    generalize LL[k]=L at *
    clear hbl p1
    go_wp2_with fail
    refine (checkActions_any a' L c' _ HP.out p3).mono ?_
    rintro e w3 ⟨rfl,hb3⟩
    have HB3:=hid (btrans HQ.out hb3)
    clear hb3 HQ p0
    by_cases h4:ckAs L=0
    ·have H4:=hid h4
     rw [h4]
     clear h4
     go_wp2
     go_roundw
     case rel=>
      refine ⟨k+1,by omega,by go_num,HB3.out,fun j hj=>?_⟩
      by_cases e:j=k
      ·subst e;rw [HV.out];exact H4.out
      ·exact Hno.out j (by omega)
     case measure=>simp [intOf];omega
    ·have HE4:Hid (ckScr C ⟨LL,R,rounds⟩=ckAs L):=hid (by
      rw [HE3.out,fe_at _ k _ hlt (by rw [HV.out];exact h4) (fun j hj=>Hno.out j hj),HV.out])
     have hx:(ckAs L != 0)=true:=by simp [h4]
     clear h4 HV
     generalize ckAs L=q at *
     go_wp2
     go_ret
     exact ⟨ret_int HE4.out.symm,btrans HB2.out HB3.out⟩
   ·have HE5:Hid (ckScr C ⟨LL,R,rounds⟩=0):=hid (by rw [HE3.out];exact fe_zero _ _ (fun j hj=>Hno.out j (by omega)))
    have HBl:=hid (btrans HB2.out hbl)
    clear hbl
    go_wp2
    go_ret
    exact ⟨ret_int HE5.out.symm,HBl.out⟩
structure DomsAt (w:World) (b o i:Nat) (D:Dom) (A:DMem):Prop where
 c0:w.cell? ⟨b,o+i * 7,none⟩=some (.slice A.aJ D.jobs.length A.cJ)
 c1:w.cell? ⟨b,o+i * 7+1,none⟩=some (.slice A.aR D.rel.length A.cR)
 c2:w.cell? ⟨b,o+i * 7+2,none⟩=some (.int .i64 D.nxt)
 c3:w.cell? ⟨b,o+i * 7+3,none⟩=some (.slice A.aI D.ins.length A.cI)
 c4:w.cell? ⟨b,o+i * 7+4,none⟩=some (.slice A.aT D.tak.length A.cT)
 c5:w.cell? ⟨b,o+i * 7+5,none⟩=some (.slice A.aO D.out.length A.cO)
 c6:w.cell? ⟨b,o+i * 7+6,none⟩=some (.slice A.aE D.evs.length A.cE)
def DomsIn (w:World) (b o n:Nat) (Ds:Nat→Dom) (As:Nat→DMem):Prop:=∀ i,i<n→DomsAt w b o i (Ds i) (As i)∧DomIn w (As i) (Ds i)
theorem DomsAt.keep {w w':World} {b o i:Nat} {D:Dom} {A:DMem} (h:DomsAt w b o i D A) (hb:Below w.heap.size w w'):DomsAt w' b o i D A:=
 ⟨bkeep hb h.c0 lr,bkeep hb h.c1 lr,bkeep hb h.c2 lr,bkeep hb h.c3 lr,bkeep hb h.c4 lr,bkeep hb h.c5 lr,bkeep hb h.c6 lr⟩
theorem DomsIn.keep {w w':World} {b o n:Nat} {Ds:Nat→Dom} {As:Nat→DMem} (h:DomsIn w b o n Ds As) (hb:Below w.heap.size w w'):DomsIn w' b o n Ds As:=fun i hi=>⟨(h i hi).1.keep hb,(h i hi).2.keep hb⟩
set_option maxHeartbeats 2000000 in
theorem checkClose_ok (C:Conf) (B:Mem) (b o n c:Nat) (Ds:Nat→Dom) (As:Nat→DMem) (s:Nat) (w:World) (hC:ConfIn w B C) (hD:DomsIn w b o n Ds As) (h0:ckC C=0) (hs:s<C.sl.length) (hn:C.d=(n:Int)) (hn4:n≤4) (hz:∀ i,i<n→ckD C i (Ds i)=0) :
  Calls Tryz.prog 74 #[cv C B,.slice (some ⟨b,o,none⟩) n c,.int .i64 s] w fun e w'=>e=.returned (.int .i64 0)∧Below w.heap.size w w':=by
 have q1:=below_new w (.cells (cl C B) 27)
 have HC:=hid (hC.keep q1)
 have HD:=hid (hD.keep q1)
 have HX:=hid (boxC_new w C B)
 have HB:=hid q1
 have HS0:Hid (ckSlot C s=0):=hid (by simp [ckSlot,h0,inR];omega)
 have HZ:=hid hz
 have HN:=hid hn
 clear q1 hC hD hz h0 hn
 obtain ⟨a5,a6,a7,a8,c5,c6,c7,c8⟩:=B
 dsimp only [cv,cl] at *
 obtain ⟨g0,g1,g2,g3,g4,g5,g6,g7,g8⟩:=HX.out
 go_enter Tryz.func74,Tryz.ntmps74
 go_wp2_with fail
 refine (checkSlot_any C ⟨a5,a6,a7,a8,c5,c6,c7,c8⟩ s _ HC.out).mono ?_
 rintro e w1 ⟨rfl,hb1⟩
 rw [HS0.out]
 generalize hW:World.alloc w _=W at *
 clear hW g0 g1 g2 g3 g4 g5 g6 g7 g8
 have HB1:=hid (btrans HB.out hb1)
 have HC1:=hid (HC.out.keep hb1)
 have HD1:=hid (HD.out.keep hb1)
 have HX1:=hid (HX.out.keep hb1)
 clear HB HC HD HX hb1
 obtain ⟨g0,g1,g2,g3,g4,g5,g6,g7,g8⟩:=HX1.out
 have hx1:((n:Int) != C.d)=false:=by have:=HN.out;simp [this]
 go_wp2
 clear hx1 g0 g1 g2 g3 g4 g5 g6 g7 g8
 go_loopw [24] (fun i wr=>∃ k:Nat,k≤n∧i=.int .i64 k∧Below w1.heap.size w1 wr) (fun i _=>n - (intOf i).toNat)
 case atStart=>exact ⟨0,Nat.zero_le _,rfl,Below.refl _ _⟩
 case round=>
  obtain ⟨k,hk,rfl,hbl⟩:=hrel
  by_cases hlt:k<n
  ·have hk1:(k:Int)<(n:Int):=by omega
   have hk0:(0:Int)≤(k:Int):=by omega
   obtain ⟨⟨p0,p1,p2,p3,p4,p5,p6⟩,hdi⟩:=(HD1.out.keep hbl) k hlt
   have hzk:=HZ.out k hlt
   have HZK:=hid hzk
   have q4:=below_new wr (.cells (dl (Ds k) (As k)) 46)
   have HC4:=hid ((HC1.out.keep hbl).keep q4)
   have HD4:=hid (hdi.keep q4)
   have HX4:=hid ((HX1.out.keep hbl).keep q4)
   have R4:=hid (rowAt_new2 wr wr.heap.size (dl (Ds k) (As k)).toList 46 rfl)
   have HQ:=hid (btrans hbl q4)
   generalize Ds k=D at *
   generalize As k=A at *
   obtain ⟨aJ,aR,aI,aT,aO,aE,cJ,cR,cI,cT,cO,cE⟩:=A
   dsimp only [dl] at *
   clear hdi q4 hzk hbl
   go_upto_region 9 with fail
   generalize World.alloc wr _=w4 at *
   obtain ⟨g0,g1,g2,g3,g4,g5,g6,g7,g8⟩:=HX4.out
   have d0:=R4.out.cell 0 _ rfl
   have d1:=R4.out.cell 1 _ rfl
   have d2:=R4.out.cell 2 _ rfl
   have d3:=R4.out.cell 3 _ rfl
   have d4:=R4.out.cell 4 _ rfl
   have d5:=R4.out.cell 5 _ rfl
   have d6:=R4.out.cell 6 _ rfl
   clear p0 p1 p2 p3 p4 p5 p6
   go_wp2_with fail
   refine (checkD_any D ⟨aJ,aR,aI,aT,aO,aE,cJ,cR,cI,cT,cO,cE⟩ C ⟨a5,a6,a7,a8,c5,c6,c7,c8⟩ k _ HC4.out HD4.out).mono ?_
   rintro e w5 ⟨rfl,hb5⟩
   rw [HZK.out]
   have HQ5:=hid (btrans HQ.out hb5)
   clear hb5 g0 g1 g2 g3 g4 g5 g6 g7 g8 d0 d1 d2 d3 d4 d5 d6
   go_wp2
   go_roundw
   case rel=>exact ⟨k+1,by omega,by go_num,HQ5.out⟩
   case measure=>simp [intOf];omega
  ·have hkk:¬ (k:Int)<(n:Int):=by omega
   have HF:=hid (btrans HB1.out hbl)
   clear hbl
   go_wp2
   go_ret
   exact ⟨rfl,HF.out⟩
set_option maxHeartbeats 4000000 in
theorem sameDomains_true (b o c b' o' c' n:Nat) (Ds:Nat→Dom) (As As':Nat→DMem) (w:World) (h1:DomsIn w b o n Ds As) (h2:DomsIn w b' o' n Ds As') (hn4:n≤1000) :
  Calls Tryz.prog 10 #[.slice (some ⟨b,o,none⟩) n c,.slice (some ⟨b',o',none⟩) n c'] w fun e w'=>e=.returned (.bool true)∧Below w.heap.size w w':=by
 have H1:=hid h1
 have H2:=hid h2
 clear h1 h2
 go_enter Tryz.func10,Tryz.ntmps10
 go_wp2
 go_loopw [5] (fun i wr=>∃ k:Nat,k≤n∧i=.int .i64 k∧Below w.heap.size w wr) (fun i _=>n - (intOf i).toNat)
 case atStart=>exact ⟨0,Nat.zero_le _,rfl,Below.refl _ _⟩
 case round=>
  obtain ⟨k,hk,rfl,hbl⟩:=hrel
  by_cases hlt:k<n
  ·have hk1:(k:Int)<(n:Int):=by omega
   have hk0:(0:Int)≤(k:Int):=by omega
   obtain ⟨⟨p0,p1,p2,p3,p4,p5,p6⟩,hd1⟩:=(H1.out.keep hbl) k hlt
   obtain ⟨⟨r0,r1,r2,r3,r4,r5,r6⟩,hd2⟩:=(H2.out.keep hbl) k hlt
   have CS:Hid (∀ m,Calls Tryz.prog 12 #[dv (Ds k) (As k),dv (Ds k) (As' k)] (wr.drewN m) fun e w'=>e=.returned (.bool true)∧Below (wr.drewN m).heap.size (wr.drewN m) w'):=hid fun m=>sameDomain_true (Ds k) (As k) (As' k) _ (hd1.keep (below_drewN (Below.refl _ _) m)) (hd2.keep (below_drewN (Below.refl _ _) m))
   have CT:Hid (Calls Tryz.prog 12 #[dv (Ds k) (As k),dv (Ds k) (As' k)] wr.drew fun e w'=>e=.returned (.bool true)∧Below wr.drew.heap.size wr.drew w'):=hid (sameDomain_true (Ds k) (As k) (As' k) _ (hd1.keep (Below.refl _ _).drew) (hd2.keep (Below.refl _ _).drew))
   have HQ:=hid hbl
   generalize Ds k=D at *
   generalize As k=A at *
   generalize As' k=A' at *
   obtain ⟨aJ,aR,aI,aT,aO,aE,cJ,cR,cI,cT,cO,cE⟩:=A
   obtain ⟨xJ,xR,xI,xT,xO,xE,yJ,yR,yI,yT,yO,yE⟩:=A'
   dsimp only [dv,dl] at *
   clear hd1 hd2 hbl
   go_wp2_with fail
   go_region_with (first
    | (go_at_call 12;with_reducible refine Calls.mono CT.out ?_;rintro e w2 ⟨rfl,hb2⟩;have HB2:=hid (btrans HQ.out.drew hb2);clear hb2))
   all_goals
    go_wp2
    go_roundw
    case rel=>exact ⟨k+1,by omega,by go_num,HB2.out⟩
    case measure=>simp [intOf];omega
  ·have hkk:¬ (k:Int)<(n:Int):=by omega
   have HF:=hid hbl
   clear hbl
   go_wp2
   go_ret
   exact ⟨rfl,HF.out⟩
end Go.Proofs.YtejhccmclanlmaaGreatDoor
