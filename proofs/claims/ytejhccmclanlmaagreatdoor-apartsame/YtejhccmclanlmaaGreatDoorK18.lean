/- Texts joined: Eb Ec. -/
import Derived.Test.YtejhccmclanlmaaGreatDoorK09
import Derived.Test.YtejhccmclanlmaaGreatDoorK14
import Derived.Test.YtejhccmclanlmaaGreatDoorK17
set_option linter.unusedVariables false
set_option maxRecDepth 100000
namespace Go.Proofs.YtejhccmclanlmaaGreatDoor
open Go.RowKit
theorem make42_any (n:Nat) (h:n≤1000000000000) (w:World):(Instr.makeSlice 23 (.int .i64 (n:Int)) (.int .i64 (n:Int))).run Tryz.prog w=.ok (.slice (some ⟨w.heap.size,0,none⟩) n n) (w.alloc (.cells (madeCells #[.int .i64 0] n) 3)):=
 run_make_row' (P:=Tryz.prog) 23 3 (.int .i64 0) 8 Tryz.underlying23 Tryz.info3x rfl .i64 .i64 n (by omega) (by omega) w
theorem made_ints {w:World} {g n:Nat} (h:w.heap[g]? = some (.cells (madeCells #[.int .i64 0] n) 3 (0,0))):IntsIn w (some ⟨g,0,none⟩) (List.replicate n 0):=by
 intro i hi
 refine ⟨g,0,rfl,?_⟩
 have hi':i<n:=by simpa using hi
 simp [World.cell?,h,madeCells,hi',Nat.mod_one]
structure RPg (F:Nat→(Nat→Value)→World→Prop) (dO:Nat→List Nat) (N M:Nat) (W:World) (l:Array Bool) (x:Nat→Value) (w:World):Prop where
 sz:l.size=M
 b:Below W.heap.size W w
 un:∀ i,N≤i→l.getD i false=false
 cl:∀ i,l.getD i false=true→∀ j∈dO i,l.getD j false=true
 fc:∀ i,l.getD i false=true→F i x w
theorem rpg_next {F:Nat→(Nat→Value)→World→Prop} {dS:Nat→Nat} {dO:Nat→List Nat} {N M:Nat} {W:World} {l:Array Bool} {x:Nat→Value} {w w':World}
  (hF:∀ i x x' (w w':World),Below w.heap.size w w'→(∀ j∈dO i,x' (dS j)=x (dS j))→F i x w→F i x' w') (hinj:∀ i,i<N→∀ j,j<N→i≠j→dS i≠dS j) (hO:∀ i,i<N→∀ j∈dO i,j<N)
  (h:RPg F dO N M W l x w) (i:Nat) (v:Value) (hi:i<N) (hl:l.getD i false=false) (hb:Below w.heap.size w w') (hFi:F i (upd x (dS i) v) w') (hdep:∀ j∈dO i,j≠i→l.getD j false=true) (hiM:i<M:=by decide) :
  RPg F dO N M W (l.setIfInBounds i true) (upd x (dS i) v) w':=by
 have up:∀ {j},l.getD j false=true→(l.setIfInBounds i true).getD j false=true:=fun hj=>getD_set_true hj
 have dn:∀ {j},j≠i→(l.setIfInBounds i true).getD j false=true→l.getD j false=true:=fun hne hj=>by rw [getD_set_ne false (Ne.symm hne)] at hj;exact hj
 have hself:(l.setIfInBounds i true).getD i false=true:=getD_set_self (by rw [h.sz];exact hiM)
 refine ⟨by simpa using h.sz,btrans h.b hb,fun j hj=>?_,fun j hj k hk=>?_,fun j hj=>?_⟩
 ·rw [getD_set_ne false (by omega)];exact h.un j hj
 ·by_cases e:j=i
  ·subst e
   by_cases e2:k=j
   ·subst e2;exact hself
   ·exact up (hdep k hk e2)
  ·exact up (h.cl j (dn e hj) k hk)
 ·by_cases e:j=i
  ·subst e;exact hFi
  ·have hlj:=dn e hj
   have hjN:j<N:=by
    rcases Nat.lt_or_ge j N with h'|h'
    ·exact h'
    ·rw [h.un j h'] at hlj;cases hlj
   refine hF j x _ w w' hb (fun k hk=>?_) (h.fc j hlj)
   have hlk:=h.cl j hlj k hk
   have hne:dS k≠dS i:=hinj k (hO j hjN k hk) i hi (fun e=>by rw [e,hl] at hlk;cases hlk)
   simp [upd,hne]
def MadeI (n0:Nat) (w:World) (v:Value) (n:Nat):Prop:=∃ g,v=.slice (some ⟨g,0,none⟩) n n∧n0≤g∧w.heap[g]? = some (.cells (madeCells #[.int .i64 0] n) 3 (0,0))
theorem MadeI.keep {n0:Nat} {w w':World} {v:Value} {n:Nat} (h:MadeI n0 w v n) (hb:Below w.heap.size w w'):MadeI n0 w' v n:=by
 obtain ⟨g,e,h1,h2⟩:=h
 exact ⟨g,e,h1,by rw [hb.block g (Array.getElem?_eq_some_iff.1 h2).1];exact h2⟩
theorem made_rings {w:World} {g n:Nat} (h:w.heap[g]? = some (.cells (madeCells #[.slice none 0 0,.int .i64 0] (n * 2)) 90 (0,0))):RingsIn w (some ⟨g,0,none⟩) (List.replicate n ([],0)):=by
 intro i hi
 have hi':i<n:=by simpa using hi
 refine ⟨g,0,none,0,rfl,?_,?_,?_,?_,?_⟩
 ·simp [World.cell?,h,madeCells,show i * 2<n * 2 by omega]
 ·simp [World.cell?,h,madeCells,show i * 2+1<n * 2 by omega,show (i * 2+1) % 2=1 by omega]
 ·intro j hj;simp at hj
 ·simp
 ·simp
theorem made_lists {w:World} {g n:Nat} (h:w.heap[g]? = some (.cells (madeCells #[.slice none 0 0] n) 23 (0,0))):ListsIn w (some ⟨g,0,none⟩) (List.replicate n []):=by
 intro i hi
 have hi':i<n:=by simpa using hi
 refine ⟨g,0,none,0,rfl,?_,?_,?_,?_⟩
 ·simp [World.cell?,h,madeCells,hi',Nat.mod_one]
 ·intro j hj;simp at hj
 ·simp
 ·simp
def dSN:Nat→Nat
 | 0=>14
 | 1=>15
 | 2=>16
 | 3=>17
 | 4=>18
 | 5=>19
 | 6=>20
 | 7=>21
 | 8=>22
 | 9=>23
 | 10=>24
 | 11=>25
 | 12=>26
 | 13=>27
 | 14=>28
 | 15=>29
 | 16=>30
 | _=>99
def dON:Nat→List Nat
 | 16=>[3,7,11,15,16]
 | i=>[i]
def FCN (C:Conf) (B:Mem) (n0 cb:Nat) (i:Nat) (x:Nat→Value) (w:World):Prop:=
 match i with
 | 0=>x 14=.pointer (some ⟨cb,8,none⟩)
 | 1=>x 15=.slice B.a8 C.ta.length B.c8
 | 2=>x 16=.int .i64 C.ta.length
 | 4=>x 18=.pointer (some ⟨cb,7,none⟩)
 | 5=>x 19=.slice B.a7 C.ch.length B.c7
 | 6=>x 20=.int .i64 C.ch.length
 | 8=>x 22=.pointer (some ⟨cb,6,none⟩)
 | 9=>x 23=.slice B.a6 C.ow.length B.c6
 | 10=>x 24=.int .i64 C.ow.length
 | 12=>x 26=.pointer (some ⟨cb,7,none⟩)
 | 13=>x 27=.slice B.a7 C.ch.length B.c7
 | 14=>x 28=.int .i64 C.ch.length
 | 3=>MadeI n0 w (x 17) C.ta.length
 | 7=>Made2 n0 w (x 21) C.ch.length
 | 11=>MadeI n0 w (x 25) C.ow.length
 | 15=>Made1 n0 w (x 29) C.ch.length
 | 16=>x 30=.agg #[.slice none 0 0,x 17,.int .i64 0,x 21,x 25,x 29,.slice none 0 0]
 | _=>True
def AFN (C:Conf) (B:Mem) (dn:Int) (cb rb:Nat) (x:Nat→Value):Act:={ tmps:=#[cv C B,.int .i64 dn,.pointer (some ⟨cb,0,none⟩),undef,.pointer (some ⟨rb,0,none⟩),.int .i64 0,.int .i64 0,cv C B,.int .i64 dn,.int .i64 0,.int .i64 0,.bool false,undef,undef,x 14,x 15,x 16,x 17,x 18,x 19,x 20,x 21,x 22,x 23,x 24,x 25,x 26,x 27,x 28,x 29,x 30],defers:=[] }
theorem fcn_keep {C:Conf} {B:Mem} {n0 cb:Nat} (i:Nat) (x x':Nat→Value) (w w':World) (hb:Below w.heap.size w w') (hx:∀ j∈dON i,x' (dSN j)=x (dSN j)) (h:FCN C B n0 cb i x w):FCN C B n0 cb i x' w':=by
 match i with
 | 0=>exact (hx 0 (by simp [dON])).trans h
 | 1=>exact (hx 1 (by simp [dON])).trans h
 | 2=>exact (hx 2 (by simp [dON])).trans h
 | 3=>have e:x' 17=x 17:=hx 3 (by simp [dON]);show MadeI _ _ (x' 17) _;rw [e];exact MadeI.keep h hb
 | 4=>exact (hx 4 (by simp [dON])).trans h
 | 5=>exact (hx 5 (by simp [dON])).trans h
 | 6=>exact (hx 6 (by simp [dON])).trans h
 | 7=>have e:x' 21=x 21:=hx 7 (by simp [dON]);show Made2 _ _ (x' 21) _;rw [e];exact Made2.keep h hb
 | 8=>exact (hx 8 (by simp [dON])).trans h
 | 9=>exact (hx 9 (by simp [dON])).trans h
 | 10=>exact (hx 10 (by simp [dON])).trans h
 | 11=>have e:x' 25=x 25:=hx 11 (by simp [dON]);show MadeI _ _ (x' 25) _;rw [e];exact MadeI.keep h hb
 | 12=>exact (hx 12 (by simp [dON])).trans h
 | 13=>exact (hx 13 (by simp [dON])).trans h
 | 14=>exact (hx 14 (by simp [dON])).trans h
 | 15=>have e:x' 29=x 29:=hx 15 (by simp [dON]);show Made1 _ _ (x' 29) _;rw [e];exact Made1.keep h hb
 | 16=>
  have e0:x' 30=x 30:=hx 16 (by simp [dON])
  have e1:x' 17=x 17:=hx 3 (by simp [dON])
  have e2:x' 21=x 21:=hx 7 (by simp [dON])
  have e3:x' 25=x 25:=hx 11 (by simp [dON])
  have e4:x' 29=x 29:=hx 15 (by simp [dON])
  show x' 30=.agg #[.slice none 0 0,x' 17,.int .i64 0,x' 21,x' 25,x' 29,.slice none 0 0]
  rw [e0,e1,e2,e3,e4]
  exact h
 | n+17=>trivial
theorem dSN_inj:∀ i,i<17→∀ j,j<17→i≠j→dSN i≠dSN j:=by decide
theorem dON_lt:∀ i,i<17→∀ j∈dON i,j<17:=by decide
theorem all_dep {o:Oper} {l:Array Bool} (n:Nat) (hdep:∀ e∈o.after,Region.binds .any e=true→l.getD e.on false=true) (hk:((List.range n).all fun k=>o.after.any fun e=>Region.binds .any e && e.on == k)=true):∀ i,i<n→l.getD i false=true:=
 fun i hi=>dep_of hdep i (List.all_eq_true.1 hk i (List.mem_range.2 hi))
theorem all_set17 {l:Array Bool} (hs:l.size=19) (h:∀ i,i<17→l.getD i false=true):∀ i,i<18→(l.setIfInBounds 17 true).getD i false=true:=by
 intro i hi
 by_cases e:i=17
 ·subst e;exact getD_set_self (by omega)
 ·exact getD_set_true (h i (by omega))
def newD (C:Conf):Dom:=⟨[],List.replicate C.ta.length 0,0,List.replicate C.ch.length ([],0),List.replicate C.ow.length 0,List.replicate C.ch.length [],[]⟩
def DN (C:Conf) (w0 w:World) (rb:Nat):Prop:=∃ b1 b2 b3 b4,RowAt w rb 46 [.slice none 0 0,.slice (some ⟨b1,0,none⟩) C.ta.length C.ta.length,.int .i64 0,.slice (some ⟨b2,0,none⟩) C.ch.length C.ch.length,.slice (some ⟨b3,0,none⟩) C.ow.length C.ow.length,.slice (some ⟨b4,0,none⟩) C.ch.length C.ch.length,.slice none 0 0]∧w.heap[b1]? = some (.cells (madeCells #[.int .i64 0] C.ta.length) 3 (0,0))∧w.heap[b2]? = some (.cells (madeCells #[.slice none 0 0,.int .i64 0] (C.ch.length * 2)) 90 (0,0))∧w.heap[b3]? = some (.cells (madeCells #[.int .i64 0] C.ow.length) 3 (0,0))∧w.heap[b4]? = some (.cells (madeCells #[.slice none 0 0] C.ch.length) 23 (0,0))∧Below w0.heap.size w0 w∧w0.heap.size≤b1∧w0.heap.size≤b2∧w0.heap.size≤b3∧w0.heap.size≤b4
set_option maxHeartbeats 4000000 in
theorem newD_any (C:Conf) (B:Mem) (dn:Int) (w:World) (hC:ConfIn w B C) (h0:ckC C=0) (hd:inR dn 0 (C.d - 1)=true) :
  Calls Tryz.prog 41 #[cv C B,.int .i64 dn] w fun e w'=>∃ A,e=.returned (.tuple #[dv (newD C) A,.int .i64 0])∧(∀ wx:World,(∀ x,w.heap.size≤x→wx.heap[x]? = w'.heap[x]?)→DomIn wx A (newD C))∧Below w.heap.size w w':=by
 have hcn:C.ta.length≤6∧C.ch.length≤4∧C.ow.length≤4:=by
  have:=(ck_ok h0).2.2.1
  unfold ckCnt at this
  split at this <;> rename_i hx <;> simp [inR] at hx <;> omega
 have hm1:=make42_any C.ta.length (by omega)
 have hm2:=make87_any C.ch.length (by omega)
 have hm3:=make42_any C.ow.length (by omega)
 have hm4:=make83_any C.ch.length (by omega)
 have q1:=below_new w (.cells (cl C B) 27)
 have q2:=below_new (w.alloc (.cells (cl C B) 27)) (.cells #[.slice none 0 0,.slice none 0 0,.int .i64 0,.slice none 0 0,.slice none 0 0,.slice none 0 0,.slice none 0 0] 46)
 have HC:=hid ((hC.keep q1).keep q2)
 have HR0:=hid ((rowAt_new2 w w.heap.size (cl C B).toList 27 rfl).below q2 lr)
 have HRB0:=hid (rowAt_new2 (w.alloc (.cells (cl C B) 27)) (w.heap.size+1) [.slice none 0 0,.slice none 0 0,.int .i64 0,.slice none 0 0,.slice none 0 0,.slice none 0 0,.slice none 0 0] 46 (by simp))
 have HB:=hid (btrans q1 q2)
 have HZ:Hid (ckPlace C dn=0):=hid (by simp [ckPlace,h0,hd])
 have HCN:=hid hcn
 have hsz0:((w.alloc (.cells (cl C B) 27)).alloc (.cells #[.slice none 0 0,.slice none 0 0,.int .i64 0,.slice none 0 0,.slice none 0 0,.slice none 0 0,.slice none 0 0] 46)).heap.size=w.heap.size+2:=by simp
 have HSZ0:=hid hsz0
 clear q1 q2 hC h0 hd hcn hsz0
 obtain ⟨a5,a6,a7,a8,c5,c6,c7,c8⟩:=B
 dsimp only [cv,cl] at *
 go_enter Tryz.func41,Tryz.ntmps41
 have g0:=HR0.out.cell 0 _ rfl
 have g1:=HR0.out.cell 1 _ rfl
 have g2:=HR0.out.cell 2 _ rfl
 have g3:=HR0.out.cell 3 _ rfl
 have g4:=HR0.out.cell 4 _ rfl
 have g5:=HR0.out.cell 5 _ rfl
 have g6:=HR0.out.cell 6 _ rfl
 have g7:=HR0.out.cell 7 _ rfl
 have g8:=HR0.out.cell 8 _ rfl
 go_wp2_with fail
 refine (checkPlace_any C ⟨a5,a6,a7,a8,c5,c6,c7,c8⟩ dn _ HC.out).mono ?_
 rintro e w1 ⟨rfl,hb1⟩
 rw [HZ.out]
 have HR:=hid (HR0.out.below hb1 lr)
 have HRB':=hid (HRB0.out.below hb1 lr)
 have HBx:=hid (btrans HB.out hb1)
 have hs1:=hb1.size
 rw [HSZ0.out] at hs1
 clear g0 g1 g2 g3 g4 g5 g6 g7 g8 hb1 HC HR0 HRB0 HSZ0
 go_wp2
 refine wp_region_any (by kernel_rfl) ?_
 change wpAny _ _ _ _ _ _ _ (World.drew _)
 have HRB:=hid (HRB'.out.below (Below.refl _ _).drew lr)
 have HRW:=hid (HR.out.below (Below.refl _ _).drew lr)
 have HW2:Hid (w.heap.size+2≤w1.drew.heap.size):=hid (by simpa using hs1)
 have HBW:Hid (∀ wx,Below w1.drew.heap.size w1.drew wx→Below w.heap.size w wx):=hid fun wx h=>btrans (btrans HBx.out (Below.refl _ _).drew) h
 generalize World.drew w1=W at *
 have HS:Hid (∀ wx,Below W.heap.size W wx→∀ i v,(cl C ⟨a5,a6,a7,a8,c5,c6,c7,c8⟩).toList[i]? = some v→wx.cell? ⟨w.heap.size,i,none⟩=some v):=hid fun wx hb i v hv=>(HRW.out.below hb lr).cell i v hv
 refine wpAny_inv (fun l a w'=>∃ x,a=AFN C ⟨a5,a6,a7,a8,c5,c6,c7,c8⟩ dn w.heap.size (w.heap.size+1) x∧(RPg (FCN C ⟨a5,a6,a7,a8,c5,c6,c7,c8⟩ W.heap.size w.heap.size) dON 17 19 W l x w'∨((∀ i,i<18→l.getD i false=true)∧l.size=19∧DN C w w' (w.heap.size+1)))) (by kernel_rfl) ?step ?fin _ _ _ _ rfl (by decide) ?start
 case start=>exact ⟨fun _=>undef,rfl,.inl ⟨rfl,Below.refl _ _,fun i hi=>by simp [Array.getD_eq_getD_getElem?,Array.getElem?_replicate];split <;> simp,fun i h=>absurd h (by simp [Array.getD_eq_getD_getElem?,Array.getElem?_replicate];split <;> simp),fun i h=>absurd h (by simp [Array.getD_eq_getD_getElem?,Array.getElem?_replicate];split <;> simp)⟩⟩
 case step=>
  intro l a w1 i o h ho hl hdep K' hK
  have hi:i<19:=by
   have:=(Array.getElem?_eq_some_iff.1 ho).1
   simpa using this
  obtain ⟨x,rfl,h⟩:=h
  have hcs:i=0∨i=1∨i=2∨i=3∨i=4∨i=5∨i=6∨i=7∨i=8∨i=9∨i=10∨i=11∨i=12∨i=13∨i=14∨i=15∨i=16∨i=17∨i=18:=by omega
  rcases hcs with rfl|rfl|rfl|rfl|rfl|rfl|rfl|rfl|rfl|rfl|rfl|rfl|rfl|rfl|rfl|rfl|rfl|rfl|rfl
  ·simp only [List.getElem?_toArray,List.getElem?_cons_zero,Option.some.injEq] at ho
   subst ho
   rcases h with h|⟨hall,-,-⟩
   case inr=>rw [hall 0 (by decide)] at hl;cases hl
   clear hdep
   simp only [AFN]
   go_simp
   exact hK.out _ _ ⟨upd x 14 (.pointer (some ⟨w.heap.size,8,none⟩)),rfl,.inl (rpg_next fcn_keep dSN_inj dON_lt h 0 _ (by decide) hl (Below.refl _ _) rfl (fun j hj hne=>absurd hj (by simp [dON,hne])))⟩
  ·simp only [List.getElem?_toArray,List.getElem?_cons_zero,List.getElem?_cons_succ,Option.some.injEq] at ho
   subst ho
   rcases h with h|⟨hall,-,-⟩
   case inr=>rw [hall 1 (by decide)] at hl;cases hl
   have hd0:=dep_of hdep 0 (by kernel_rfl)
   have f0:x 14=.pointer (some ⟨w.heap.size,8,none⟩):=h.fc 0 hd0
   clear hdep
   have c1:=HS.out _ h.b 8 _ rfl
   simp only [AFN,f0]
   go_simp
   exact hK.out _ _ ⟨upd x 15 (.slice a8 C.ta.length c8),(by simp only [AFN,upd,reduceIte,Nat.reduceEqDiff,f0]),.inl (rpg_next fcn_keep dSN_inj dON_lt h 1 _ (by decide) hl (Below.refl _ _) rfl (fun j hj hne=>absurd hj (by simp [dON,hne])))⟩
  ·simp only [List.getElem?_toArray,List.getElem?_cons_zero,List.getElem?_cons_succ,Option.some.injEq] at ho
   subst ho
   rcases h with h|⟨hall,-,-⟩
   case inr=>rw [hall 2 (by decide)] at hl;cases hl
   have hd1:=dep_of hdep 1 (by kernel_rfl)
   have f1:x 15=.slice a8 C.ta.length c8:=h.fc 1 hd1
   clear hdep
   simp only [AFN,f1]
   go_simp
   exact hK.out _ _ ⟨upd x 16 (.int .i64 C.ta.length),(by simp only [AFN,upd,reduceIte,Nat.reduceEqDiff,f1]),.inl (rpg_next fcn_keep dSN_inj dON_lt h 2 _ (by decide) hl (Below.refl _ _) rfl (fun j hj hne=>absurd hj (by simp [dON,hne])))⟩
  ·simp only [List.getElem?_toArray,List.getElem?_cons_zero,List.getElem?_cons_succ,Option.some.injEq] at ho
   subst ho
   rcases h with h|⟨hall,-,-⟩
   case inr=>rw [hall 3 (by decide)] at hl;cases hl
   have hd2:=dep_of hdep 2 (by kernel_rfl)
   have f2:x 16=.int .i64 C.ta.length:=h.fc 2 hd2
   clear hdep
   simp only [AFN,f2]
   go_simp
   have hsz:=h.b.size
   exact hK.out _ _ ⟨upd x 17 (.slice (some ⟨w1.heap.size,0,none⟩) C.ta.length C.ta.length),(by simp only [AFN,upd,reduceIte,Nat.reduceEqDiff,f2]),.inl (rpg_next fcn_keep dSN_inj dON_lt h 3 _ (by decide) hl (below_new _ _) ⟨_,rfl,hsz,heap_alloc_new _ _⟩ (fun j hj hne=>absurd hj (by simp [dON,hne])))⟩
  ·simp only [List.getElem?_toArray,List.getElem?_cons_zero,List.getElem?_cons_succ,Option.some.injEq] at ho
   subst ho
   rcases h with h|⟨hall,-,-⟩
   case inr=>rw [hall 4 (by decide)] at hl;cases hl
   clear hdep
   simp only [AFN]
   go_simp
   exact hK.out _ _ ⟨upd x 18 (.pointer (some ⟨w.heap.size,7,none⟩)),rfl,.inl (rpg_next fcn_keep dSN_inj dON_lt h 4 _ (by decide) hl (Below.refl _ _) rfl (fun j hj hne=>absurd hj (by simp [dON,hne])))⟩
  ·simp only [List.getElem?_toArray,List.getElem?_cons_zero,List.getElem?_cons_succ,Option.some.injEq] at ho
   subst ho
   rcases h with h|⟨hall,-,-⟩
   case inr=>rw [hall 5 (by decide)] at hl;cases hl
   have hd4:=dep_of hdep 4 (by kernel_rfl)
   have f4:x 18=.pointer (some ⟨w.heap.size,7,none⟩):=h.fc 4 hd4
   clear hdep
   have c5:=HS.out _ h.b 7 _ rfl
   simp only [AFN,f4]
   go_simp
   exact hK.out _ _ ⟨upd x 19 (.slice a7 C.ch.length c7),(by simp only [AFN,upd,reduceIte,Nat.reduceEqDiff,f4]),.inl (rpg_next fcn_keep dSN_inj dON_lt h 5 _ (by decide) hl (Below.refl _ _) rfl (fun j hj hne=>absurd hj (by simp [dON,hne])))⟩
  ·simp only [List.getElem?_toArray,List.getElem?_cons_zero,List.getElem?_cons_succ,Option.some.injEq] at ho
   subst ho
   rcases h with h|⟨hall,-,-⟩
   case inr=>rw [hall 6 (by decide)] at hl;cases hl
   have hd5:=dep_of hdep 5 (by kernel_rfl)
   have f5:x 19=.slice a7 C.ch.length c7:=h.fc 5 hd5
   clear hdep
   simp only [AFN,f5]
   go_simp
   exact hK.out _ _ ⟨upd x 20 (.int .i64 C.ch.length),(by simp only [AFN,upd,reduceIte,Nat.reduceEqDiff,f5]),.inl (rpg_next fcn_keep dSN_inj dON_lt h 6 _ (by decide) hl (Below.refl _ _) rfl (fun j hj hne=>absurd hj (by simp [dON,hne])))⟩
  ·simp only [List.getElem?_toArray,List.getElem?_cons_zero,List.getElem?_cons_succ,Option.some.injEq] at ho
   subst ho
   rcases h with h|⟨hall,-,-⟩
   case inr=>rw [hall 7 (by decide)] at hl;cases hl
   have hd6:=dep_of hdep 6 (by kernel_rfl)
   have f6:x 20=.int .i64 C.ch.length:=h.fc 6 hd6
   clear hdep
   simp only [AFN,f6]
   go_simp
   have hsz:=h.b.size
   exact hK.out _ _ ⟨upd x 21 (.slice (some ⟨w1.heap.size,0,none⟩) C.ch.length C.ch.length),(by simp only [AFN,upd,reduceIte,Nat.reduceEqDiff,f6]),.inl (rpg_next fcn_keep dSN_inj dON_lt h 7 _ (by decide) hl (below_new _ _) ⟨_,rfl,hsz,heap_alloc_new _ _⟩ (fun j hj hne=>absurd hj (by simp [dON,hne])))⟩
  ·simp only [List.getElem?_toArray,List.getElem?_cons_zero,List.getElem?_cons_succ,Option.some.injEq] at ho
   subst ho
   rcases h with h|⟨hall,-,-⟩
   case inr=>rw [hall 8 (by decide)] at hl;cases hl
   clear hdep
   simp only [AFN]
   go_simp
   exact hK.out _ _ ⟨upd x 22 (.pointer (some ⟨w.heap.size,6,none⟩)),rfl,.inl (rpg_next fcn_keep dSN_inj dON_lt h 8 _ (by decide) hl (Below.refl _ _) rfl (fun j hj hne=>absurd hj (by simp [dON,hne])))⟩
  ·simp only [List.getElem?_toArray,List.getElem?_cons_zero,List.getElem?_cons_succ,Option.some.injEq] at ho
   subst ho
   rcases h with h|⟨hall,-,-⟩
   case inr=>rw [hall 9 (by decide)] at hl;cases hl
   have hd8:=dep_of hdep 8 (by kernel_rfl)
   have f8:x 22=.pointer (some ⟨w.heap.size,6,none⟩):=h.fc 8 hd8
   clear hdep
   have c9:=HS.out _ h.b 6 _ rfl
   simp only [AFN,f8]
   go_simp
   exact hK.out _ _ ⟨upd x 23 (.slice a6 C.ow.length c6),(by simp only [AFN,upd,reduceIte,Nat.reduceEqDiff,f8]),.inl (rpg_next fcn_keep dSN_inj dON_lt h 9 _ (by decide) hl (Below.refl _ _) rfl (fun j hj hne=>absurd hj (by simp [dON,hne])))⟩
  ·simp only [List.getElem?_toArray,List.getElem?_cons_zero,List.getElem?_cons_succ,Option.some.injEq] at ho
   subst ho
   rcases h with h|⟨hall,-,-⟩
   case inr=>rw [hall 10 (by decide)] at hl;cases hl
   have hd9:=dep_of hdep 9 (by kernel_rfl)
   have f9:x 23=.slice a6 C.ow.length c6:=h.fc 9 hd9
   clear hdep
   simp only [AFN,f9]
   go_simp
   exact hK.out _ _ ⟨upd x 24 (.int .i64 C.ow.length),(by simp only [AFN,upd,reduceIte,Nat.reduceEqDiff,f9]),.inl (rpg_next fcn_keep dSN_inj dON_lt h 10 _ (by decide) hl (Below.refl _ _) rfl (fun j hj hne=>absurd hj (by simp [dON,hne])))⟩
  ·simp only [List.getElem?_toArray,List.getElem?_cons_zero,List.getElem?_cons_succ,Option.some.injEq] at ho
   subst ho
   rcases h with h|⟨hall,-,-⟩
   case inr=>rw [hall 11 (by decide)] at hl;cases hl
   have hd10:=dep_of hdep 10 (by kernel_rfl)
   have f10:x 24=.int .i64 C.ow.length:=h.fc 10 hd10
   clear hdep
   simp only [AFN,f10]
   go_simp
   have hsz:=h.b.size
   exact hK.out _ _ ⟨upd x 25 (.slice (some ⟨w1.heap.size,0,none⟩) C.ow.length C.ow.length),(by simp only [AFN,upd,reduceIte,Nat.reduceEqDiff,f10]),.inl (rpg_next fcn_keep dSN_inj dON_lt h 11 _ (by decide) hl (below_new _ _) ⟨_,rfl,hsz,heap_alloc_new _ _⟩ (fun j hj hne=>absurd hj (by simp [dON,hne])))⟩
  ·simp only [List.getElem?_toArray,List.getElem?_cons_zero,List.getElem?_cons_succ,Option.some.injEq] at ho
   subst ho
   rcases h with h|⟨hall,-,-⟩
   case inr=>rw [hall 12 (by decide)] at hl;cases hl
   clear hdep
   simp only [AFN]
   go_simp
   exact hK.out _ _ ⟨upd x 26 (.pointer (some ⟨w.heap.size,7,none⟩)),rfl,.inl (rpg_next fcn_keep dSN_inj dON_lt h 12 _ (by decide) hl (Below.refl _ _) rfl (fun j hj hne=>absurd hj (by simp [dON,hne])))⟩
  ·simp only [List.getElem?_toArray,List.getElem?_cons_zero,List.getElem?_cons_succ,Option.some.injEq] at ho
   subst ho
   rcases h with h|⟨hall,-,-⟩
   case inr=>rw [hall 13 (by decide)] at hl;cases hl
   have hd12:=dep_of hdep 12 (by kernel_rfl)
   have f12:x 26=.pointer (some ⟨w.heap.size,7,none⟩):=h.fc 12 hd12
   clear hdep
   have c13:=HS.out _ h.b 7 _ rfl
   simp only [AFN,f12]
   go_simp
   exact hK.out _ _ ⟨upd x 27 (.slice a7 C.ch.length c7),(by simp only [AFN,upd,reduceIte,Nat.reduceEqDiff,f12]),.inl (rpg_next fcn_keep dSN_inj dON_lt h 13 _ (by decide) hl (Below.refl _ _) rfl (fun j hj hne=>absurd hj (by simp [dON,hne])))⟩
  ·simp only [List.getElem?_toArray,List.getElem?_cons_zero,List.getElem?_cons_succ,Option.some.injEq] at ho
   subst ho
   rcases h with h|⟨hall,-,-⟩
   case inr=>rw [hall 14 (by decide)] at hl;cases hl
   have hd13:=dep_of hdep 13 (by kernel_rfl)
   have f13:x 27=.slice a7 C.ch.length c7:=h.fc 13 hd13
   clear hdep
   simp only [AFN,f13]
   go_simp
   exact hK.out _ _ ⟨upd x 28 (.int .i64 C.ch.length),(by simp only [AFN,upd,reduceIte,Nat.reduceEqDiff,f13]),.inl (rpg_next fcn_keep dSN_inj dON_lt h 14 _ (by decide) hl (Below.refl _ _) rfl (fun j hj hne=>absurd hj (by simp [dON,hne])))⟩
  ·simp only [List.getElem?_toArray,List.getElem?_cons_zero,List.getElem?_cons_succ,Option.some.injEq] at ho
   subst ho
   rcases h with h|⟨hall,-,-⟩
   case inr=>rw [hall 15 (by decide)] at hl;cases hl
   have hd14:=dep_of hdep 14 (by kernel_rfl)
   have f14:x 28=.int .i64 C.ch.length:=h.fc 14 hd14
   clear hdep
   simp only [AFN,f14]
   go_simp
   have hsz:=h.b.size
   exact hK.out _ _ ⟨upd x 29 (.slice (some ⟨w1.heap.size,0,none⟩) C.ch.length C.ch.length),(by simp only [AFN,upd,reduceIte,Nat.reduceEqDiff,f14]),.inl (rpg_next fcn_keep dSN_inj dON_lt h 15 _ (by decide) hl (below_new _ _) ⟨_,rfl,hsz,heap_alloc_new _ _⟩ (fun j hj hne=>absurd hj (by simp [dON,hne])))⟩
  ·simp only [List.getElem?_toArray,List.getElem?_cons_zero,List.getElem?_cons_succ,Option.some.injEq] at ho
   subst ho
   rcases h with h|⟨hall,-,-⟩
   case inr=>rw [hall 16 (by decide)] at hl;cases hl
   have hd3:=dep_of hdep 3 (by kernel_rfl)
   have hd7:=dep_of hdep 7 (by kernel_rfl)
   have hd11:=dep_of hdep 11 (by kernel_rfl)
   have hd15:=dep_of hdep 15 (by kernel_rfl)
   clear hdep
   obtain ⟨b1,e1,-⟩:=(show MadeI _ _ (x 17) _ from h.fc 3 hd3)
   obtain ⟨b2,e2,-⟩:=(show Made2 _ _ (x 21) _ from h.fc 7 hd7)
   obtain ⟨b3,e3,-⟩:=(show MadeI _ _ (x 25) _ from h.fc 11 hd11)
   obtain ⟨b4,e4,-⟩:=(show Made1 _ _ (x 29) _ from h.fc 15 hd15)
   simp only [AFN,e1,e2,e3,e4]
   rw [if_pos (by rfl)]
   refine step_run (v:=.agg #[.slice none 0 0,.slice (some ⟨b1,0,none⟩) C.ta.length C.ta.length,.int .i64 0,.slice (some ⟨b2,0,none⟩) C.ch.length C.ch.length,.slice (some ⟨b3,0,none⟩) C.ow.length C.ow.length,.slice (some ⟨b4,0,none⟩) C.ch.length C.ch.length,.slice none 0 0]) (by kernel_rfl) ?_
   refine hK.out _ _ ⟨upd x 30 (.agg #[.slice none 0 0,.slice (some ⟨b1,0,none⟩) C.ta.length C.ta.length,.int .i64 0,.slice (some ⟨b2,0,none⟩) C.ch.length C.ch.length,.slice (some ⟨b3,0,none⟩) C.ow.length C.ow.length,.slice (some ⟨b4,0,none⟩) C.ch.length C.ch.length,.slice none 0 0]),?_,.inl (rpg_next fcn_keep dSN_inj dON_lt h 16 _ (by decide) hl (Below.refl _ _) ?_ ?_)⟩
   ·simp only [Act.put,List.setIfInBounds_toArray,List.set_cons_zero,List.set_cons_succ,AFN,upd,e1,e2,e3,e4,reduceIte,Nat.reduceEqDiff]
   ·show upd x 30 _ 30=.agg #[_,x 17,_,x 21,x 25,x 29,_]
    rw [e1,e2,e3,e4]
    rfl
   ·intro j hj hne
    simp only [dON,List.mem_cons,List.not_mem_nil,or_false] at hj
    rcases hj with rfl|rfl|rfl|rfl|rfl
    ·exact hd3
    ·exact hd7
    ·exact hd11
    ·exact hd15
    ·exact absurd rfl hne
  ·simp only [List.getElem?_toArray,List.getElem?_cons_zero,List.getElem?_cons_succ,Option.some.injEq] at ho
   subst ho
   rcases h with h|⟨hall,-,-⟩
   case inr=>rw [hall 17 (by decide)] at hl;cases hl
   have hd16:=dep_of hdep 16 (by kernel_rfl)
   have e0:x 30=.agg #[.slice none 0 0,x 17,.int .i64 0,x 21,x 25,x 29,.slice none 0 0]:=h.fc 16 hd16
   have hd3:=h.cl 16 hd16 3 (by simp [dON])
   have hd7:=h.cl 16 hd16 7 (by simp [dON])
   have hd11:=h.cl 16 hd16 11 (by simp [dON])
   have hd15:=h.cl 16 hd16 15 (by simp [dON])
   have F3:MadeI _ _ (x 17) _:=h.fc 3 hd3
   have F7:Made2 _ _ (x 21) _:=h.fc 7 hd7
   have F11:MadeI _ _ (x 25) _:=h.fc 11 hd11
   have F15:Made1 _ _ (x 29) _:=h.fc 15 hd15
   obtain ⟨b1,e1,n1,r1⟩:=F3
   obtain ⟨b2,e2,n2,r2⟩:=F7
   obtain ⟨b3,e3,n3,r3⟩:=F11
   obtain ⟨b4,e4,n4,r4⟩:=F15
   have HH:=hid h
   have E0:=hid e0
   have E1:=hid e1
   have E2:=hid e2
   have E3:=hid e3
   have E4:=hid e4
   have HALL:Hid (∀ j,j<18→(l.setIfInBounds 17 true).getD j false=true):=hid (all_set17 HH.out.sz (all_dep 17 hdep (by kernel_rfl)))
   have HROW:=hid (HRB.out.below h.b lr)
   rw [e1,e2,e3,e4] at e0
   simp only [AFN,e0]
   rw [if_pos (by rfl)]
   refine wp_store_mid 46 _ _ rfl (w.heap.size+1) 0 #[.slice none 0 0,.slice (some ⟨b1,0,none⟩) C.ta.length C.ta.length,.int .i64 0,.slice (some ⟨b2,0,none⟩) C.ch.length C.ch.length,.slice (some ⟨b3,0,none⟩) C.ow.length C.ow.length,.slice (some ⟨b4,0,none⟩) C.ch.length C.ch.length,.slice none 0 0] (by rfl) (by rfl) (show w1.there (w.heap.size+1) 0 7 from there_row HROW.out) (by kernel_rfl) (by kernel_rfl) ?_
   have hn:=fun k (hk:k≠w.heap.size+1)=>heap_setCells_ne (w.heap.size+1) [.slice none 0 0,.slice (some ⟨b1,0,none⟩) C.ta.length C.ta.length,.int .i64 0,.slice (some ⟨b2,0,none⟩) C.ch.length C.ch.length,.slice (some ⟨b3,0,none⟩) C.ow.length C.ow.length,.slice (some ⟨b4,0,none⟩) C.ch.length C.ch.length,.slice none 0 0] 0 w1 k hk
   have hW2:=HW2.out
   refine hK.out _ _ ⟨x,?_,.inr ⟨HALL.out,by rw [Array.size_setIfInBounds];exact HH.out.sz,⟨b1,b2,b3,b4,row_setCells _ [] _ w1 HROW.out rfl,(hn b1 (by omega)).trans r1,(hn b2 (by omega)).trans r2,(hn b3 (by omega)).trans r3,(hn b4 (by omega)).trans r4,below_setCellsx (HBW.out _ HH.out.b) _ (by omega) _ _,by omega,by omega,by omega,by omega⟩⟩⟩
   simp only [Act.put,AFN,E0.out,E1.out,E2.out,E3.out,E4.out]
  ·simp only [List.getElem?_toArray,List.getElem?_cons_zero,List.getElem?_cons_succ,Option.some.injEq] at ho
   subst ho
   rcases h with h|⟨hall,hl18,h⟩
   ·have:=dep_of hdep 17 (by kernel_rfl)
    rw [h.un 17 (by decide)] at this
    cases this
   ·simp only [AFN]
    go_simp
    exact hK.out _ _ ⟨x,rfl,.inr ⟨fun j hj=>getD_set_true (hall j hj),by rw [Array.size_setIfInBounds];exact hl18,h⟩⟩
 case fin=>
  rintro l a w1 ⟨x,rfl,h|⟨_,_,h⟩⟩ hall
  ·have:=hall 17 (by decide)
   rw [h.un 17 (by decide)] at this
   cases this
  obtain ⟨b1,b2,b3,b4,r,m1,m2,m3,m4,hb,k1,k2,k3,k4⟩:=h
  have d0:=r.cell 0 _ rfl
  have d1:=r.cell 1 _ rfl
  have d2:=r.cell 2 _ rfl
  have d3:=r.cell 3 _ rfl
  have d4:=r.cell 4 _ rfl
  have d5:=r.cell 5 _ rfl
  have d6:=r.cell 6 _ rfl
  have hcn:=HCN.out
  have HD:Hid (∀ wx:World,(∀ x,w.heap.size≤x→wx.heap[x]? = w1.heap[x]?)→DomIn wx ⟨none,some ⟨b1,0,none⟩,some ⟨b2,0,none⟩,some ⟨b3,0,none⟩,some ⟨b4,0,none⟩,none,0,C.ta.length,C.ch.length,C.ow.length,C.ch.length,0⟩ (newD C)):=hid fun wx hk=>⟨fun i hi=>absurd hi (by simp [newD]),made_ints ((hk _ k1).trans m1),made_rings ((hk _ k2).trans m2),made_ints ((hk _ k3).trans m3),made_lists ((hk _ k4).trans m4),fun i hi=>absurd hi (by simp [newD]),by simp [newD],by simp [newD];omega,by simp [newD];omega,by simp [newD];omega,by simp [newD];omega,by simp [newD]⟩
  have HBF:=hid hb
  simp only [AFN]
  clear r m1 m2 m3 m4 hb hm1 hm2 hm3 hm4 k1 k2 k3 k4
  go_wp2
  exact bodyPost_ret (v:=.tuple #[dv (newD C) ⟨none,some ⟨b1,0,none⟩,some ⟨b2,0,none⟩,some ⟨b3,0,none⟩,some ⟨b4,0,none⟩,none,0,C.ta.length,C.ch.length,C.ow.length,C.ch.length,0⟩,.int .i64 0]) (by simp [results,Tryz.results41,go_sem,d0,d1,d2,d3,d4,d5,d6,newD]) rfl ⟨_,rfl,HD.out,HBF.out⟩
end Go.Proofs.YtejhccmclanlmaaGreatDoor
