/- Texts joined: Wc Ea Ear Cn. -/
import Derived.Test.YtejhccmclanlmaaGreatDoorK05
import Derived.Test.YtejhccmclanlmaaGreatDoorK06
import Derived.Test.YtejhccmclanlmaaGreatDoorK07
set_option linter.unusedVariables false
set_option maxRecDepth 100000
namespace Go.Proofs.YtejhccmclanlmaaGreatDoor
open Go.RowKit
abbrev ActT:=Int×Int×Int
abbrev KT:=List (List (Int×Bool))
def inRng (a:ActT):Bool:=if a.1=1 then inR a.2.1 1 200 else if a.1=2∨a.1=3 then inR a.2.1 1 1000 else if a.1=4 then decide (0≤a.2.1) && inR a.2.2 0 255 else decide (0≤a.2.1)
def onlyN (a:ActT):Bool:=if a.1=4 then true else if a.1=6∨a.1=8 then decide (a.2.1=0) && decide (a.2.2=0) else decide (a.2.2=0)
def ckA (a:ActT):Int:=if inR a.1 1 8 then (if inRng a then (if onlyN a then 0 else 1) else 3) else 7
def wstA (a:ActT):Int:=if a.1=1 then a.2.1 else if a.1=2∨a.1=3 then 15 else 3
def ckAs (L:List ActT):Int:=if 60<L.length then 2 else fe L.length fun i=>ckA (L.getD i (0,0,0))
def setAt (K:KT) (l:Int):Nat:=(l % (K.length:Int)).toNat
def spK (K:KT) (a:ActT):KT:=if a.1=2∨a.1=3 then K.set (setAt K a.2.1) (useSet (K.getD (setAt K a.2.1) []) a.2.1 (decide (a.1=3))).1 else K
def spC (K:KT) (a:ActT):Int:=if a.1=2∨a.1=3 then (useSet (K.getD (setAt K a.2.1) []) a.2.1 (decide (a.1=3))).2 else wstA a
abbrev av (a:ActT):Value:=.agg #[.int .i64 a.1,.int .i64 a.2.1,.int .i64 a.2.2]
set_option maxHeartbeats 1000000 in
theorem inRange_any (a:ActT) (w:World):Calls Tryz.prog 122 #[av a] w fun e w'=>e=.returned (.bool (inRng a))∧Below w.heap.size w w':=by
 obtain ⟨k,n,v⟩:=a
 have HB:=fun o=>hid (below_new w o)
 have R1:=rowAt_new w _ [.int .i64 k,.int .i64 n,.int .i64 v] 63 rfl
 have c0:=R1.cell 0 _ rfl
 have c1:=R1.cell 1 _ rfl
 have c2:=R1.cell 2 _ rfl
 clear R1
 unfold inRng
 dsimp only
 go_enter Tryz.func122,Tryz.ntmps122
 by_cases h1:k=1
 ·subst h1
  go_wp2_with fail
  refine (within_any n 1 200 _).mono ?_
  rintro e w1 ⟨rfl,rfl⟩
  go_wp2
  go_ret
  exact ⟨rfl,(HB _).out⟩
 ·by_cases h2:k=2∨k=3
  ·have h4:¬ k=4:=by omega
   simp only [h1,h2,if_false,if_true]
   go_wp2_with fail
   all_goals
    refine (within_any n 1 1000 _).mono ?_
    rintro e w1 ⟨rfl,rfl⟩
    go_wp2
    go_ret
    exact ⟨rfl,(HB _).out⟩
  ·have h21:¬ k=2:=by omega
   have h22:¬ k=3:=by omega
   simp only [h1,h2,if_false]
   by_cases h3:k=4
   ·subst h3
    by_cases hn:0≤n
    ·go_wp2_with fail
     refine (within_any v 0 255 _).mono ?_
     rintro e w1 ⟨rfl,rfl⟩
     go_wp2
     go_ret
     exact ⟨ret_bool (by simp),(HB _).out⟩
    ·have hd:decide (0≤n)=false:=by simp;omega
     go_wp2
     go_ret
     exact ⟨ret_bool (by simp),(HB _).out⟩
   ·simp only [h3,if_false]
    go_wp2
    all_goals go_ret
    all_goals exact ⟨ret_bool (by simp;try omega),(HB _).out⟩
set_option maxHeartbeats 1000000 in
theorem onlyNamed_any (a:ActT) (w:World):Calls Tryz.prog 123 #[av a] w fun e w'=>e=.returned (.bool (onlyN a))∧Below w.heap.size w w':=by
 obtain ⟨k,n,v⟩:=a
 have HB:=fun o=>hid (below_new w o)
 have R1:=rowAt_new w _ [.int .i64 k,.int .i64 n,.int .i64 v] 63 rfl
 have c0:=R1.cell 0 _ rfl
 have c1:=R1.cell 1 _ rfl
 have c2:=R1.cell 2 _ rfl
 clear R1
 unfold onlyN
 dsimp only
 go_enter Tryz.func123,Tryz.ntmps123
 go_wp2
 all_goals go_ret
 all_goals exact ⟨ret_bool (by simp_all <;> rfl),(HB _).out⟩
set_option maxHeartbeats 1000000 in
theorem worst_any (a:ActT) (w:World):Calls Tryz.prog 87 #[av a] w fun e w'=>e=.returned (.int .i64 (wstA a))∧Below w.heap.size w w':=by
 obtain ⟨k,n,v⟩:=a
 have HB:=fun o=>hid (below_new w o)
 have R1:=rowAt_new w _ [.int .i64 k,.int .i64 n,.int .i64 v] 63 rfl
 have c0:=R1.cell 0 _ rfl
 have c1:=R1.cell 1 _ rfl
 clear R1
 unfold wstA
 dsimp only
 go_enter Tryz.func87,Tryz.ntmps87
 go_wp2
 all_goals go_ret
 all_goals exact ⟨by simp_all,(HB _).out⟩
set_option maxHeartbeats 1000000 in
theorem checkAction_any (a:ActT) (w:World):Calls Tryz.prog 86 #[av a] w fun e w'=>e=.returned (.int .i64 (ckA a))∧Below w.heap.size w w':=by
 obtain ⟨k,n,v⟩:=a
 have q1:=below_new w (.cells #[.int .i64 k,.int .i64 n,.int .i64 v] 63)
 have HB:=hid q1
 have R1:=hid (rowAt_new w _ [.int .i64 k,.int .i64 n,.int .i64 v] 63 rfl)
 have c0:=R1.out.cell 0 _ rfl
 have c1:=R1.out.cell 1 _ rfl
 have c2:=R1.out.cell 2 _ rfl
 clear q1
 go_enter Tryz.func86,Tryz.ntmps86
 go_wp2_with fail
 refine (within_any k 1 8 _).mono ?_
 rintro e w1 ⟨rfl,rfl⟩
 generalize hp:inR k 1 8=p at *
 have HP:=hid hp
 clear hp
 cases p
 ·go_wp2
  go_ret
  exact ⟨by simp [ckA,HP.out],HB.out⟩
 go_wp2_with fail
 refine (inRange_any (k,n,v) _).mono ?_
 rintro e w2 ⟨rfl,hb2⟩
 have R2:=hid (R1.out.below hb2 lr)
 have HB2:=hid (btrans HB.out hb2)
 have d0:=R2.out.cell 0 _ rfl
 have d1:=R2.out.cell 1 _ rfl
 have d2:=R2.out.cell 2 _ rfl
 clear c0 c1 c2
 generalize hp:inRng (k,n,v)=p at *
 have HP2:=hid hp
 clear hp
 cases p
 ·go_wp2
  go_ret
  exact ⟨by simp [ckA,HP.out,HP2.out],HB2.out⟩
 go_wp2_with fail
 refine (onlyNamed_any (k,n,v) _).mono ?_
 rintro e w3 ⟨rfl,hb3⟩
 have HB3:=hid (btrans HB2.out hb3)
 generalize hp:onlyN (k,n,v)=p at *
 have HP3:=hid hp
 clear hp
 cases p
 ·go_wp2
  go_ret
  exact ⟨by simp [ckA,HP.out,HP2.out,HP3.out],HB3.out⟩
 go_wp2
 go_ret
 exact ⟨by simp [ckA,HP.out,HP2.out,HP3.out],HB3.out⟩
def sumS (l:List (Int×Int)):Int:=(l.map (·.2)).sum
theorem sumS_take (l:List (Int×Int)) (k:Nat) (h:k<l.length):sumS (l.take (k+1))=sumS (l.take k)+l[k].2:=by
 rw [List.take_add_one,List.getElem?_eq_getElem h]
 simp only [sumS,List.map_append,List.sum_append,Option.toList,List.map_cons,List.map_nil,List.sum_cons,List.sum_nil]
 omega
def SmallS (l:List (Int×Int)):Prop:=l.length≤6∧∀ i (h:i<l.length),0≤l[i].2∧l[i].2≤1000
theorem sumS_bound {l:List (Int×Int)} (h:SmallS l):∀ k,k≤l.length→0≤sumS (l.take k)∧sumS (l.take k)≤1000 * k:=by
 intro k
 induction k with
 | zero=>intro _;simp [sumS]
 | succ k ih=>
  intro hk
  have h1:=ih (by omega)
  have h2:=h.2 k (by omega)
  rw [sumS_take l k (by omega)]
  omega
theorem small_of {C:Conf} (h:ckC C=0):SmallS C.sl∧1≤C.sl.length:=by
 obtain ⟨_,_,h2,h3,_⟩:=ck_ok h
 have hl:1≤C.sl.length∧C.sl.length≤6:=by
  unfold ckCnt at h2
  split at h2
  ·rename_i hx;simp [inR] at hx;omega
  ·omega
 refine ⟨⟨hl.2,fun i hi=>?_⟩,hl.1⟩
 have:=fe_eq_zero h3 i hi
 simp only [getD_of _ _ hi,ckSl] at this
 split at this
 ·split at this
  ·rename_i hx;simp [inR] at hx;omega
  ·omega
 ·omega
theorem SmallS.take {l:List (Int×Int)} (h:SmallS l) (k:Nat):SmallS (l.take k):=by
 refine ⟨by rw [List.length_take];have:=h.1;omega,fun i hi=>?_⟩
 have hi':i<l.length:=by rw [List.length_take] at hi;omega
 rw [List.getElem_take]
 exact h.2 i hi'
theorem SlotsIn.take {w:World} {a:Option Addr} {l:List (Int×Int)} (h:SlotsIn w a l) (k:Nat):SlotsIn w a (l.take k):=by
 intro i hi
 have hi':i<l.length:=by rw [List.length_take] at hi;omega
 simp only [List.getElem_take]
 exact h i hi'
def ckSlot (C:Conf) (s:Int):Int:=if ckC C=0 then (if inR s 0 ((C.sl.length:Int) - 1) then 0 else 5) else ckC C
def ckRS (C:Conf) (r s:Int):Int:=if ckC C=0 then (if inR r 0 8 then (if inR s 0 ((C.sl.length:Int) - 1) then 0 else 5) else 3) else ckC C
def startI (C:Conf) (r s:Int):Int:=r * sumS C.sl+sumS (C.sl.take s.toNat)
def startV (C:Conf) (r s:Int):Value:=.tuple #[.int .i64 (if ckRS C r s=0 then startI C r s else 0),.int .i64 (ckRS C r s)]
theorem start_wrap {l:List (Int×Int)} (h:SmallS l) (r:Int) (h0:0≤r) (h8:r≤8) (k:Nat) (hk:k≤l.length):wrap64 (r * sumS l)=r * sumS l∧wrap64 (r * sumS l+sumS (l.take k))=r * sumS l+sumS (l.take k)∧0≤r * sumS l∧r * sumS l≤48000∧0≤sumS (l.take k)∧sumS (l.take k)≤6000:=by
 have h1:=sumS_bound h l.length lr
 rw [List.take_length] at h1
 have h2:=sumS_bound h k hk
 have h6:=h.1
 have h3:0≤r * sumS l:=Int.mul_nonneg h0 h1.1
 have h4:r * sumS l≤8 * sumS l:=Int.mul_le_mul_of_nonneg_right h8 h1.1
 refine ⟨?_,?_,h3,by omega,h2.1,by omega⟩ <;> (unfold wrap64;omega)
set_option maxHeartbeats 1000000 in
theorem together_any (a:Option Addr) (l:List (Int×Int)) (cap:Nat) (w:World) (hw:SlotsIn w a l) (hs:SmallS l) :
  Calls Tryz.prog 66 #[.slice a l.length cap] w fun e w'=>e=.returned (.int .i64 (sumS l))∧Below w.heap.size w w':=by
 have hl:=hs.1
 go_enter Tryz.func66,Tryz.ntmps66
 go_wp2
 go_loopw [3,8] (fun s i wr=>∃ k:Nat,k≤l.length∧i=.int .i64 k∧s=.int .i64 (sumS (l.take k))∧Below w.heap.size w wr) (fun _ i _=>l.length - (intOf i).toNat)
 case atStart=>exact ⟨0,Nat.zero_le _,rfl,rfl,Below.refl _ _⟩
 case round=>
  obtain ⟨k,hk,rfl,rfl,hbl⟩:=hrel
  by_cases hlt:k<l.length
  ·obtain ⟨b',o',rfl,c0,c1⟩:=hw k hlt
   replace c0:=bkeep hbl c0 lr
   replace c1:=bkeep hbl c1 lr
   have h1:=sumS_bound hs k hk
   have h2:=hs.2 k hlt
   have hwr:wrap64 (sumS (l.take k)+l[k].2)=sumS (l.take (k+1)):=by rw [sumS_take l k hlt];unfold wrap64;omega
   have HB:=hid (btrans hbl (below_new wr (.cells #[.int .i64 l[k].1,.int .i64 l[k].2] 106)))
   clear h1 h2
   go_wp2
   go_roundw
   case rel=>exact ⟨k+1,by omega,by go_num,by simp [hwr],HB.out⟩
   case measure=>simp [intOf];omega
  ·have hkn:k=l.length:=by omega
   subst hkn
   go_wp2
   go_ret
   exact ⟨ret_int (by rw [List.take_length]),hbl⟩
set_option maxHeartbeats 1000000 in
theorem checkSlot_any (C:Conf) (B:Mem) (s:Int) (w:World) (hC:ConfIn w B C) :
  Calls Tryz.prog 65 #[cv C B,.int .i64 s] w fun e w'=>e=.returned (.int .i64 (ckSlot C s))∧Below w.heap.size w w':=by
 have q1:=below_new w (.cells (cl C B) 27)
 have HC:=hid (hC.keep q1)
 have HX:=hid (boxC_new w C B)
 have HB:=hid q1
 clear q1 hC
 obtain ⟨a5,a6,a7,a8,c5,c6,c7,c8⟩:=B
 dsimp only [cv,cl] at *
 go_enter Tryz.func65,Tryz.ntmps65
 go_wp2_with fail
 refine (checkC_any C ⟨a5,a6,a7,a8,c5,c6,c7,c8⟩ _ HC.out).mono ?_
 rintro e w1 ⟨rfl,hb1⟩
 have HB1:=hid (btrans HB.out hb1)
 have g5:=(HX.out.keep hb1).h5
 by_cases h0:ckC C=0
 ·have H0:=hid h0
  have hs:=(small_of h0).1.1
  rw [h0]
  clear h0 hb1 HX HC HB
  have hw1:wrap64 ((C.sl.length:Int) - 1)=(C.sl.length:Int) - 1:=by unfold wrap64;omega
  go_wp2_with fail
  refine (within_any _ _ _ _).mono ?_
  rintro e w' ⟨rfl,rfl⟩
  cases h1:inR s 0 ((C.sl.length:Int) - 1) with
  | true=>
   go_wp2
   go_ret
   exact ⟨ret_int (by simp [ckSlot,H0.out,h1]),HB1.out⟩
  | false=>
   go_wp2
   go_ret
   exact ⟨ret_int (by simp [ckSlot,H0.out,h1]),HB1.out⟩
 ·have hx:(ckC C != 0)=true:=by simp [h0]
  have HE:Hid (ckSlot C s=ckC C):=hid (by simp [ckSlot,h0])
  clear h0 hb1 HX HC HB g5
  generalize ckC C=q at *
  go_wp2
  go_ret
  exact ⟨ret_int HE.out.symm,HB1.out⟩
set_option maxHeartbeats 2000000 in
theorem start_any (C:Conf) (B:Mem) (r s:Int) (w:World) (hC:ConfIn w B C) (hc5:C.sl.length≤B.c5) :
  Calls Tryz.prog 44 #[cv C B,.int .i64 r,.int .i64 s] w fun e w'=>e=.returned (startV C r s)∧Below w.heap.size w w':=by
 have q1:=below_new w (.cells (cl C B) 27)
 have HC:=hid (hC.keep q1)
 have HX:=hid (boxC_new w C B)
 have HB:=hid q1
 clear q1 hC
 obtain ⟨a5,a6,a7,a8,c5,c6,c7,c8⟩:=B
 dsimp only [cv,cl] at *
 go_enter Tryz.func44,Tryz.ntmps44
 go_wp2_with fail
 refine (checkC_any C ⟨a5,a6,a7,a8,c5,c6,c7,c8⟩ _ HC.out).mono ?_
 rintro e w1 ⟨rfl,hb1⟩
 have HB1:=hid (btrans HB.out hb1)
 have HC1:=hid (HC.out.keep hb1)
 have HX1:=hid (HX.out.keep hb1)
 by_cases h0:ckC C=0
 ·have H0:=hid h0
  have HS:=hid (small_of h0).1
  rw [h0]
  clear h0 hb1 HX HC HB
  go_wp2_with fail
  refine (within_any _ _ _ _).mono ?_
  rintro e w' ⟨rfl,rfl⟩
  cases h1:inR r 0 8 with
  | false=>
   have HE:Hid (startV C r s=.tuple #[.int .i64 0,.int .i64 3]):=hid (by simp [startV,ckRS,H0.out,h1])
   clear h1
   go_wp2
   go_ret2
   exact ⟨by rw [HE.out];rfl,HB1.out⟩
  | true=>
   have H1:=hid h1
   clear h1
   obtain ⟨g0,g1,g2,g3,g4,g5,g6,g7,g8⟩:=HX1.out
   go_wp2_with fail
   refine (checkSlot_any C ⟨a5,a6,a7,a8,c5,c6,c7,c8⟩ s _ HC1.out).mono ?_
   rintro e w2 ⟨rfl,hb2⟩
   clear g0 g1 g2 g3 g4 g5 g6 g7 g8
   have HB2:=hid (btrans HB1.out hb2)
   have HC2:=hid (HC1.out.keep hb2)
   have g5:=(HX1.out.keep hb2).h5
   by_cases h3:inR s 0 ((C.sl.length:Int) - 1)=true
   ·have hz:ckSlot C s=0:=by simp [ckSlot,H0.out,h3]
    rw [hz]
    have HE:Hid (startV C r s=.tuple #[.int .i64 (startI C r s),.int .i64 0]):=hid (by simp [startV,ckRS,H0.out,H1.out,h3])
    simp [inR] at h3
    obtain ⟨k,rfl⟩:∃ k:Nat,s=k:=⟨s.toNat,by omega⟩
    have hk:k<C.sl.length:=by omega
    have HW:=hid (start_wrap HS.out r (by have:=H1.out;simp [inR] at this;omega) (by have:=H1.out;simp [inR] at this;omega) k (by omega))
    have HE2:Hid (startI C r k=r * sumS C.sl+sumS (C.sl.take k)):=hid (by simp [startI])
    have hlk:(C.sl.take k).length=k:=by simp;omega
    have hkc:(k:Int)≤(c5:Int):=by omega
    have hk0:(0:Int)≤(k:Int):=by omega
    have CX:Hid (∀ wx,Below w2.heap.size w2 wx→Calls Tryz.prog 66 #[.slice a5 C.sl.length c5] wx fun e w'=>e=.returned (.int .i64 (sumS C.sl))∧Below wx.heap.size wx w'):=hid fun wx h=>together_any a5 C.sl c5 wx (HC2.out.keep h).sl HS.out
    have CY:Hid (∀ wx,Below w2.heap.size w2 wx→Calls Tryz.prog 66 #[.slice a5 k c5] wx fun e w'=>e=.returned (.int .i64 (sumS (C.sl.take k)))∧Below wx.heap.size wx w'):=hid fun wx h=>by
     have:=together_any a5 (C.sl.take k) c5 wx ((HC2.out.keep h).sl.take k) (HS.out.take k)
     rw [hlk] at this
     exact this
    have HS5:Hid (∀ wx,Below w2.heap.size w2 wx→wx.cell? ⟨w.heap.size,5,none⟩=some (.slice a5 C.sl.length c5)):=hid fun wx h=>bkeep h g5 lr
    have W1:Hid (IntKind.i64.wrap (r * sumS C.sl)=r * sumS C.sl):=hid (by rw [IntKind.wrap_i64];have:=HW.out.2.2;omega)
    have W2:Hid (IntKind.i64.wrap (r * sumS C.sl+sumS (C.sl.take k))=r * sumS C.sl+sumS (C.sl.take k)):=hid (by rw [IntKind.wrap_i64];have:=HW.out.2.2;omega)
    have hB:Below w2.heap.size w2 w2.drew:=(Below.refl _ _).drew
    have HST:Hid (startV C r k=.tuple #[.int .i64 (r * sumS C.sl+sumS (C.sl.take k)),.int .i64 0]):=hid (by rw [HE.out,HE2.out])
    clear hz h3 hb2 HE HE2 HW HX1 HC1 HC2 g5
    generalize sumS C.sl=q1 at *
    generalize sumS (C.sl.take k)=q2 at *
    go_wp2
    go_region_held3 (fun w'=>w'.cell? ⟨w.heap.size,5,none⟩=some (.slice a5 C.sl.length c5))
     (first|exact HS5.out _ hB|go_keep)
     (first
      | (go_at_call 66;with_reducible refine Calls.mono (CX.out _ hB) ?_;rintro e w3 ⟨rfl,hb3⟩;have hB:=btrans hB hb3)
      | (go_at_call 66;with_reducible refine Calls.mono (CY.out _ hB) ?_;rintro e w3 ⟨rfl,hb3⟩;have hB:=btrans hB hb3))
    have HF:=hid (btrans HB2.out hB)
    clear hB
    go_wp2
    go_ret2
    refine ⟨?_,HF.out⟩
    rw [HST.out]
    show Ending.returned (.tuple #[.int .i64 (IntKind.i64.wrap (IntKind.i64.wrap (r * q1)+q2)),.int .i64 0])=_
    rw [W1.out,W2.out]
   ·have hz:ckSlot C s=5:=by simp [ckSlot,H0.out,h3]
    rw [hz]
    have HE:Hid (startV C r s=.tuple #[.int .i64 0,.int .i64 5]):=hid (by simp [startV,ckRS,H0.out,H1.out,h3])
    clear hz h3
    go_wp2
    go_ret2
    exact ⟨by rw [HE.out];rfl,HB2.out⟩
 ·have hx:(ckC C != 0)=true:=by simp [h0]
  have HE:Hid (startV C r s=.tuple #[.int .i64 0,.int .i64 (ckC C)]):=hid (by simp [startV,ckRS,h0])
  clear h0 hb1 HX HC HB HC1 HX1
  generalize ckC C=q at *
  go_wp2
  go_ret2
  exact ⟨by rw [HE.out];rfl,HB1.out⟩
def wsum (ls:List (Int×Bool)):Int:=(ls.map fun x=>wb x.2).sum
def csum (C:List (List (Int×Bool))):Int:=(C.map wsum).sum
theorem wsum_take (ls:List (Int×Bool)) (k:Nat) (h:k<ls.length):wsum (ls.take (k+1))=wsum (ls.take k)+wb ls[k].2:=by
 rw [wsum,List.take_succ_eq_append_getElem h]
 simp only [wsum,List.map_append,List.sum_append,List.map_cons,List.map_nil,List.sum_cons,List.sum_nil];omega
theorem csum_take (C:List (List (Int×Bool))) (k:Nat) (h:k<C.length):csum (C.take (k+1))=csum (C.take k)+wsum C[k]:=by
 rw [csum,List.take_succ_eq_append_getElem h]
 simp only [csum,List.map_append,List.sum_append,List.map_cons,List.map_nil,List.sum_cons,List.sum_nil];omega
theorem wsum_le (ls:List (Int×Bool)):0≤wsum ls∧wsum ls≤5 * ls.length:=by
 induction ls with
 | nil=>simp [wsum]
 | cons x r ih=>
  have:=wb_le x.2
  simp only [wsum,List.map_cons,List.sum_cons,List.length_cons] at ih ⊢
  omega
theorem csum_le (C:List (List (Int×Bool))) (m:Nat) (h:∀ ls∈C,ls.length≤m):0≤csum C∧csum C≤(5 * m * C.length:Nat):=by
 induction C with
 | nil=>simp [csum]
 | cons x r ih=>
  have h1:=wsum_le x
  have h2:=ih (fun ls hls=>h ls (by simp [hls]))
  have h3:=h x (by simp)
  simp only [csum,List.map_cons,List.sum_cons,List.length_cons] at h2 ⊢
  have e:5 * m * (r.length+1)=5 * m * r.length+5 * m:=by rw [Nat.mul_add,Nat.mul_one]
  rw [e]
  omega
theorem csum_take_le (C:List (List (Int×Bool))) (k:Nat) (hC4:C.length≤4) (h:∀ ls∈C,0<ls.length∧ls.length≤3):0≤csum (C.take k)∧csum (C.take k)≤60:=by
 have:=csum_le (C.take k) 3 (fun ls hls=>(h ls (List.mem_of_mem_take hls)).2)
 have e:(C.take k).length≤4:=by simp;omega
 omega
theorem wsum_take_le (ls:List (Int×Bool)) (k:Nat) (h:ls.length≤3):0≤wsum (ls.take k)∧wsum (ls.take k)≤15:=by
 have:=wsum_le (ls.take k)
 have e:(ls.take k).length≤3:=by simp;omega
 omega
set_option maxHeartbeats 1000000 in
theorem flush_ok (a:Option Addr) (C:List (List (Int×Bool))) (cap:Nat) (w:World) (hw:CacheIn w a C) (hl:C.length≤9223372036854775807) (h:ck C=0) (n:Nat) (hn:(C.headD []).length=n) :
  Calls Tryz.prog 24 #[.agg #[.slice a C.length cap]] w fun e w'=>∃ g0,e=.returned (.tuple #[.agg #[.slice (some ⟨g0,0,none⟩) C.length C.length],.int .i64 (2+csum C),.int .i64 0])∧OwnC w' g0 (emptyC C.length n) C.length∧w.heap.size≤g0∧Below w.heap.size w w':=by
 have h1:Below w.heap.size w (w.alloc (.cells #[.slice a C.length cap] 72)):=(Below.refl _ _).alloc lr _
 have h2:Below w.heap.size w ((w.alloc (.cells #[.slice a C.length cap] 72)).alloc (.cells #[.slice none 0 0] 72)):=h1.alloc (by simp) _
 have hr:RowAt ((w.alloc (.cells #[.slice a C.length cap] 72)).alloc (.cells #[.slice none 0 0] 72)) (w.heap.size+1) 72 [.slice none 0 0]:=rowAt_new _ _ [.slice none 0 0] 72 (by simp)
 have ha:RowAt ((w.alloc (.cells #[.slice a C.length cap] 72)).alloc (.cells #[.slice none 0 0] 72)) w.heap.size 72 [.slice a C.length cap]:=(rowAt_new w _ [.slice a C.length cap] 72 rfl).alloc _
 obtain ⟨_,hC1,hC4,hCn⟩:=ckK_ok h
 have HCn:=hid hCn
 have Hblk:Hid (∀ b o,a=some ⟨b,o,none⟩→b<w.heap.size):=by
  intro b o e
  obtain ⟨b1,o1,_,_,e1,q1,_⟩:=hw 0 hC1
  rw [e] at e1
  simp only [Option.some.injEq,Addr.mk.injEq,and_true] at e1
  have:=World.block_lt_of_cell? _ _ q1
  simp only at this
  omega
 have hC1':(1:Int)≤C.length:=by omega
 have hC4':(C.length:Int)≤4:=by omega
 clear hCn
 go_enter Tryz.func24,Tryz.ntmps24
 go_wp2_with fail
 refine (check_any a C cap _ (hw.keep h2) hl).mono ?_
 rintro e w1 ⟨rfl,hb1⟩
 have hr1:=hr.below hb1 lr
 have ha1:=ha.below hb1 lr
 have hw1:=(hw.keep h2).keep hb1
 have hc1:=ha1.cell 0 _ rfl
 have h3:=btrans h2 hb1
 rw [h]
 clear h hr hw ha h1 h2 hb1
 go_wp2
 go_loopw [6,20] (fun c i wr=>∃ k:Nat,k≤C.length∧i=.int .i64 k∧c=.int .i64 (2+csum (C.take k))∧Below w1.heap.size w1 wr) (fun _ i _=>C.length - (intOf i).toNat)
 case atStart=>exact ⟨0,Nat.zero_le _,rfl,rfl,Below.refl _ _⟩
 case round=>
  obtain ⟨k,hk,rfl,rfl,hbl⟩:=hrel
  have hcs:=csum_take_le C k hC4 HCn.out
  obtain ⟨hcs1,hcs2⟩:=hcs
  by_cases hlt:k<C.length
  ·obtain ⟨b',o',a2,cap2,rfl,hd1,hws,hcap,hlen⟩:=hw1 k hlt
   have hd1':=bkeep hbl hd1 lr
   have hws':=hws.keep hbl
   have h3k:=(HCn.out C[k] (List.getElem_mem hlt)).2
   have Hct:=hid (csum_take C k hlt)
   generalize hcv:csum (C.take k)=cv at *
   clear hcv
   go_wp2
   go_loopw [6,26] (fun c i wi=>∃ m:Nat,m≤C[k].length∧i=.int .i64 m∧c=.int .i64 (2+cv+wsum (C[k].take m))∧Below wr.heap.size wr wi) (fun _ i _=>C[k].length - (intOf i).toNat)
   case atStart=>exact ⟨0,Nat.zero_le _,rfl,by simp [wsum],Below.refl _ _⟩
   case round=>
    obtain ⟨m,hm,rfl,rfl,hbi⟩:=hrel
    obtain ⟨hwq1,hwq2⟩:=wsum_take_le C[k] m h3k
    by_cases hlm:m<C[k].length
    ·obtain ⟨b2,o2,rfl,he1,he2⟩:=(hws'.keep hbi) m hlm
     have Hwt:=hid (wsum_take C[k] m hlm)
     have hwb:=wb_le C[k][m].2
     obtain ⟨hwb1,hwb2⟩:=hwb
     generalize hwv:wsum (C[k].take m)=wv at *
     clear hwv
     go_wp2_with fail
     refine (writeBack_any _ _ _).mono ?_
     rintro e w7 ⟨rfl,hb7⟩
     generalize hq:wb C[k][m].2=q at *
     clear hq
     have hb8:=btrans (hbi.alloc (by have:=hbi.size;omega) _) hb7
     go_wp2
     go_roundw
     case rel=>exact ⟨m+1,by omega,by go_num,by rw [Hwt.out];go_num,hb8⟩
     case measure=>simp [intOf];omega
    ·obtain rfl:m=C[k].length:=by omega
     have Hfull:Hid (2+cv+wsum (C[k].take C[k].length)=2+csum (C.take (k+1))):=by
      show _=_
      rw [Hct.out,List.take_length];omega
     go_wp2
     go_roundw
     case rel=>exact ⟨k+1,by omega,by go_num,by rw [Hfull.out],btrans hbl hbi⟩
     case measure=>simp [intOf];omega
  ·obtain rfl:k=C.length:=by omega
   obtain ⟨b',o',a2,cap2,rfl,hd1,hws,hcap,hlen⟩:=(hw1.keep hbl) 0 (by omega)
   have hn0:C[0].length=n:=by
    rw [← hn]
    cases C with
    | nil=>simp at hC1
    | cons x r=>rfl
   rw [hn0] at hd1
   rw [Nat.add_zero] at hd1
   have hn13:=HCn.out C[0] (List.getElem_mem (by omega))
   rw [hn0] at hn13
   obtain ⟨hn1,hn3⟩:=hn13
   have hc2:=bkeep hbl hc1 lr
   have hr2:=hr1.below hbl lr
   have hct:csum (C.take C.length)=csum C:=by rw [List.take_length]
   rw [hct]
   rw [hct] at hcs1 hcs2
   clear hct hws hcap hlen hn hn0
   have hpos:(0:Int)<C.length:=by omega
   have hz1:¬ C.length=0:=by omega
   have hz2:¬ C=[]:=by intro e;rw [e] at hz1;exact hz1 rfl
   have hz3:0<C.length:=by omega
   have hblk:=Hblk.out b' o' rfl
   go_wp2_with fail
   go_region_held3 (fun w'=>w'.cell? ⟨w.heap.size,0,none⟩=some (.slice (some ⟨b',o',none⟩) C.length cap)∧w'.cell? ⟨b',o',none⟩=some (.slice a2 n cap2)) (go_keep)
    (first|(go_at_call 42;refine (empty_any C.length n _ hC4' hC1' hn1 hn3).mono ?_;rintro e w9 ⟨g0,rfl,hg0,hO9,hb9⟩;have hr9:=hr2.drew.below hb9 lr;have hc9:=hr9.cell 0 _ rfl;have hf9:=hr9.frozen 0;have hc9a:=bkeep hb9 (show wr.drew.cell? _=_ from hc2) lr;have hc9b:=bkeep hb9 (show wr.drew.cell? _=_ from hd1) lr;have hne9:¬ w.heap.size+1=b':=by omega))
   have HO9:=hid hO9
   have h10:=btrans h3 (btrans hbl.drew hb9)
   have hlt2:=hr2.lt
   clear hO9 hr9 hr2 hr1 hw1 hc1 hc2 hd1
   go_wp2
   refine bodyPost_ret (v:=.tuple #[.agg #[.slice (some ⟨g0,0,none⟩) C.length C.length],.int .i64 (2+csum C),.int .i64 0]) (by simp [results,Tryz.results24,go_sem,World.cell?_setCell_same w9 _ _ hc9]) rfl ⟨g0,rfl,HO9.out.setOther _ _ (by show w.heap.size+1<g0;simp at hg0;omega),by simp at hg0;omega,h10.setCell (by show w.heap.size≤w.heap.size+1;omega) _⟩
end Go.Proofs.YtejhccmclanlmaaGreatDoor
