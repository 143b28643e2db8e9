/- Texts joined: Ac Yi Yj. -/
import Derived.Test.YtejhccmclanlmaaGreatDoorK09
import Derived.Test.YtejhccmclanlmaaGreatDoorK14
import Derived.Test.YtejhccmclanlmaaGreatDoorK15
set_option linter.unusedVariables false
set_option maxRecDepth 100000
namespace Go.Proofs.YtejhccmclanlmaaGreatDoor
open Go.RowKit
set_option maxHeartbeats 1000000 in
theorem arrived_err (C:Conf) (B:Mem) (aL:Option Addr) (L:List ArrT) (cL:Nat) (dn fr te:Int) (w:World) (hC:ConfIn w B C) (hL:SlotsIn w aL L) (hl:L.length≤9223372036854775807) (h0:ckArr C L dn fr te≠0) :
  Calls Tryz.prog 59 #[cv C B,.slice aL L.length cL,.int .i64 dn,.int .i64 fr,.int .i64 te] w fun e w'=>e=.returned (.tuple #[.slice none 0 0,.int .i64 (ckArr C L dn fr te)])∧Below w.heap.size w w':=by
 have q1:=below_new w (.cells (cl C B) 27)
 have CK:=hid (checkArr_any C B aL L cL dn fr te _ (hC.keep q1) (hL.keep q1) hl)
 have HB:=hid q1
 clear q1 hC hL
 generalize ckArr C L dn fr te=z at *
 have hzb:(z != 0)=true:=by simp [h0]
 go_enter Tryz.func59,Tryz.ntmps59
 go_wp2_with fail
 refine CK.out.mono ?_
 rintro e w1 ⟨rfl,hb1⟩
 have HB1:=hid (btrans HB.out hb1)
 clear hb1
 go_wp2
 go_ret2
 exact ⟨rfl,HB1.out⟩
set_option maxHeartbeats 1000000 in
theorem checkArrivals_any (C:Conf) (B:Mem) (aL:Option Addr) (L:List ArrT) (cL:Nat) (w:World) (hC:ConfIn w B C) (hL:SlotsIn w aL L) (hl:L.length≤9223372036854775807) :
  Calls Tryz.prog 35 #[cv C B,.slice aL L.length cL] w fun e w'=>e=.returned (.int .i64 (ckArr C L 0 0 0))∧Below w.heap.size w w':=by
 have q1:=below_new w (.cells (cl C B) 27)
 have CK:Hid (Calls Tryz.prog 59 #[cv C B,.slice aL L.length cL,.int .i64 0,.int .i64 0,.int .i64 0] (w.alloc (.cells (cl C B) 27)) fun e w'=>∃ v,e=.returned (.tuple #[v,.int .i64 (ckArr C L 0 0 0)])∧Below (w.alloc (.cells (cl C B) 27)).heap.size (w.alloc (.cells (cl C B) 27)) w'):=by
  by_cases h0:ckArr C L 0 0 0=0
  ·refine hid ((arrived_any C B aL L cL 0 0 0 _ (hC.keep q1) (hL.keep q1) hl h0).mono ?_)
   rintro e w' ⟨g,rfl,_,_,hb⟩
   exact ⟨_,by rw [h0],hb⟩
  ·refine hid ((arrived_err C B aL L cL 0 0 0 _ (hC.keep q1) (hL.keep q1) hl h0).mono ?_)
   rintro e w' ⟨rfl,hb⟩
   exact ⟨_,rfl,hb⟩
 have HB:=hid q1
 clear q1 hC hL
 generalize ckArr C L 0 0 0=z at *
 go_enter Tryz.func35,Tryz.ntmps35
 go_wp2_with fail
 refine CK.out.mono ?_
 rintro e w1 ⟨v,rfl,hb1⟩
 have HB1:=hid (btrans HB.out hb1)
 clear hb1
 go_wp2
 go_ret
 exact ⟨rfl,HB1.out⟩
def ck5 (C:Conf) (dn:Int) (D:Dom):Nat→Int
 | 0=>ckShp C D
 | 1=>ckNums D
 | 2=>ckJobs C dn D
 | 3=>ckIns C D
 | _=>ckOuts D
def ckD (C:Conf) (dn:Int) (D:Dom):Int:=if ckPlace C dn≠0 then ckPlace C dn else fe 5 (ck5 C dn D)
theorem shp_ins {C:Conf} {D:Dom} (h:ckShp C D=0):D.rel.length=C.ta.length∧D.ins.length=C.ch.length∧D.out.length=C.ch.length∧D.tak.length=C.ow.length:=by
 unfold ckShp at h
 split at h
 ·assumption
 ·omega
theorem step5_any (k:Nat) (hk:k<5) (kb:Nat) (D:Dom) (A:DMem) (C:Conf) (B:Mem) (dn:Int) (w:World) (hK:KeepIn w kb D A C B dn) (hno:∀ j,j<k→ck5 C dn D j=0) :
  Calls Tryz.prog (91+k) #[.pointer (some ⟨kb,0,none⟩)] w fun e w'=>e=.returned (.int .i64 (ck5 C dn D k))∧Below w.heap.size w w':=by
 match k,hk with
 | 0,_=>exact checkShape2_any kb D A C B dn w hK
 | 1,_=>exact checkNums_any kb D A C B dn w hK
 | 2,_=>exact checkJobs_any kb D A C B dn w hK
 | 3,_=>exact checkIns_any kb D A C B dn w hK (shp_ins (hno 0 (by omega))).2.1
 | 4,_=>exact checkOuts_any kb D A C B dn w hK
abbrev tb5 (KB:Nat):List Value:=[.func (.func 91) #[.pointer (some ⟨KB,0,none⟩)] #[],.func (.func 92) #[.pointer (some ⟨KB,0,none⟩)] #[],.func (.func 93) #[.pointer (some ⟨KB,0,none⟩)] #[],.func (.func 94) #[.pointer (some ⟨KB,0,none⟩)] #[],.func (.func 95) #[.pointer (some ⟨KB,0,none⟩)] #[]]
theorem tab5 (KB:Nat) (k:Nat) (hk:k<5):(tb5 KB)[k]? = some (.func (.func (91+k)) #[.pointer (some ⟨KB,0,none⟩)] #[]):=by
 match k,hk with
 | 0,_=>rfl
 | 1,_=>rfl
 | 2,_=>rfl
 | 3,_=>rfl
 | 4,_=>rfl
set_option maxHeartbeats 4000000 in
theorem checkD_any (D:Dom) (A:DMem) (C:Conf) (B:Mem) (dn:Int) (w:World) (hC:ConfIn w B C) (hD:DomIn w A D) :
  Calls Tryz.prog 67 #[cv C B,.int .i64 dn,dv D A] w fun e w'=>e=.returned (.int .i64 (ckD C dn D))∧Below w.heap.size w w':=by
 have q1:=below_new w (.cells (cl C B) 27)
 have q2:=below_new (w.alloc (.cells (cl C B) 27)) (.cells (dl D A) 46)
 have HC:=hid (hC.keep (btrans q1 q2))
 have HD:=hid (hD.keep (btrans q1 q2))
 have HX:=hid ((boxC_new w C B).keep q2)
 have HR:=hid (rowAt_new2 (w.alloc (.cells (cl C B) 27)) (w.heap.size+1) (dl D A).toList 46 (by simp))
 have HB:=hid (btrans q1 q2)
 have hmf:∀ (fn:Fn) (first cap:Array Value) (w:World),(Instr.makeFunc fn first cap).run Tryz.prog w=.ok (.func fn first cap) w:=fun _ _ _ _=>rfl
 clear q1 q2 hC hD
 obtain ⟨aJ,aR,aI,aT,aO,aE,cJ,cR,cI,cT,cO,cE⟩:=A
 obtain ⟨a5,a6,a7,a8,c5,c6,c7,c8⟩:=B
 dsimp only [cv,cl,dv,dl] at *
 go_enter Tryz.func67,Tryz.ntmps67
 go_wp2_with fail
 refine (checkPlace_any C ⟨a5,a6,a7,a8,c5,c6,c7,c8⟩ dn _ HC.out).mono ?_
 rintro e w1 ⟨rfl,hb1⟩
 have HB1:=hid (btrans HB.out hb1)
 by_cases h0:ckPlace C dn=0
 ·have HE:Hid (ckD C dn D=fe 5 (ck5 C dn D)):=hid (by simp [ckD,h0])
  rw [h0]
  have HC1:=hid (HC.out.keep hb1)
  have HD1:=hid (HD.out.keep hb1)
  obtain ⟨g0,g1,g2,g3,g4,g5,g6,g7,g8⟩:=HX.out.keep hb1
  have r:=HR.out.below hb1 lr
  have d0:=r.cell 0 _ rfl
  have d1:=r.cell 1 _ rfl
  have d2:=r.cell 2 _ rfl
  have d3:=r.cell 3 _ rfl
  have d4:=r.cell 4 _ rfl
  have d5:=r.cell 5 _ rfl
  have d6:=r.cell 6 _ rfl
  have v1:=below_new w1 (.cells #[.slice aJ D.jobs.length cJ,.slice aR D.rel.length cR,.int .i64 D.nxt,.slice aI D.ins.length cI,.slice aT D.tak.length cT,.slice aO D.out.length cO,.slice aE D.evs.length cE,.int .i64 C.s,.int .i64 C.w,.int .i64 C.d,.int .i64 C.p,.int .i64 C.q,.slice a5 C.sl.length c5,.slice a6 C.ow.length c6,.slice a7 C.ch.length c7,.slice a8 C.ta.length c8,.int .i64 dn] 179)
  have v2:=below_new (w1.alloc (.cells #[.slice aJ D.jobs.length cJ,.slice aR D.rel.length cR,.int .i64 D.nxt,.slice aI D.ins.length cI,.slice aT D.tak.length cT,.slice aO D.out.length cO,.slice aE D.evs.length cE,.int .i64 C.s,.int .i64 C.w,.int .i64 C.d,.int .i64 C.p,.int .i64 C.q,.slice a5 C.sl.length c5,.slice a6 C.ow.length c6,.slice a7 C.ch.length c7,.slice a8 C.ta.length c8,.int .i64 dn] 179)) (.cells #[.func (.func 91) #[.pointer (some ⟨w1.heap.size,0,none⟩)] #[],.func (.func 92) #[.pointer (some ⟨w1.heap.size,0,none⟩)] #[],.func (.func 93) #[.pointer (some ⟨w1.heap.size,0,none⟩)] #[],.func (.func 94) #[.pointer (some ⟨w1.heap.size,0,none⟩)] #[],.func (.func 95) #[.pointer (some ⟨w1.heap.size,0,none⟩)] #[]] 180)
  have HK:Hid (KeepIn ((w1.alloc (.cells #[.slice aJ D.jobs.length cJ,.slice aR D.rel.length cR,.int .i64 D.nxt,.slice aI D.ins.length cI,.slice aT D.tak.length cT,.slice aO D.out.length cO,.slice aE D.evs.length cE,.int .i64 C.s,.int .i64 C.w,.int .i64 C.d,.int .i64 C.p,.int .i64 C.q,.slice a5 C.sl.length c5,.slice a6 C.ow.length c6,.slice a7 C.ch.length c7,.slice a8 C.ta.length c8,.int .i64 dn] 179)).alloc (.cells #[.func (.func 91) #[.pointer (some ⟨w1.heap.size,0,none⟩)] #[],.func (.func 92) #[.pointer (some ⟨w1.heap.size,0,none⟩)] #[],.func (.func 93) #[.pointer (some ⟨w1.heap.size,0,none⟩)] #[],.func (.func 94) #[.pointer (some ⟨w1.heap.size,0,none⟩)] #[],.func (.func 95) #[.pointer (some ⟨w1.heap.size,0,none⟩)] #[]] 180)) w1.heap.size D ⟨aJ,aR,aI,aT,aO,aE,cJ,cR,cI,cT,cO,cE⟩ C ⟨a5,a6,a7,a8,c5,c6,c7,c8⟩ dn):=hid ⟨(rowAt_new2 w1 w1.heap.size (kl D ⟨aJ,aR,aI,aT,aO,aE,cJ,cR,cI,cT,cO,cE⟩ C ⟨a5,a6,a7,a8,c5,c6,c7,c8⟩ dn) 179 rfl).below v2 lr,(HD1.out.keep v1).keep v2,(HC1.out.keep v1).keep v2⟩
  have HT:Hid (RowAt ((w1.alloc (.cells #[.slice aJ D.jobs.length cJ,.slice aR D.rel.length cR,.int .i64 D.nxt,.slice aI D.ins.length cI,.slice aT D.tak.length cT,.slice aO D.out.length cO,.slice aE D.evs.length cE,.int .i64 C.s,.int .i64 C.w,.int .i64 C.d,.int .i64 C.p,.int .i64 C.q,.slice a5 C.sl.length c5,.slice a6 C.ow.length c6,.slice a7 C.ch.length c7,.slice a8 C.ta.length c8,.int .i64 dn] 179)).alloc (.cells #[.func (.func 91) #[.pointer (some ⟨w1.heap.size,0,none⟩)] #[],.func (.func 92) #[.pointer (some ⟨w1.heap.size,0,none⟩)] #[],.func (.func 93) #[.pointer (some ⟨w1.heap.size,0,none⟩)] #[],.func (.func 94) #[.pointer (some ⟨w1.heap.size,0,none⟩)] #[],.func (.func 95) #[.pointer (some ⟨w1.heap.size,0,none⟩)] #[]] 180)) (w1.heap.size+1) 180 (tb5 w1.heap.size)):=hid (rowAt_new2 _ (w1.heap.size+1) (tb5 w1.heap.size) 180 (by simp))
  have HB2:Hid (Below w.heap.size w ((w1.alloc (.cells #[.slice aJ D.jobs.length cJ,.slice aR D.rel.length cR,.int .i64 D.nxt,.slice aI D.ins.length cI,.slice aT D.tak.length cT,.slice aO D.out.length cO,.slice aE D.evs.length cE,.int .i64 C.s,.int .i64 C.w,.int .i64 C.d,.int .i64 C.p,.int .i64 C.q,.slice a5 C.sl.length c5,.slice a6 C.ow.length c6,.slice a7 C.ch.length c7,.slice a8 C.ta.length c8,.int .i64 dn] 179)).alloc (.cells #[.func (.func 91) #[.pointer (some ⟨w1.heap.size,0,none⟩)] #[],.func (.func 92) #[.pointer (some ⟨w1.heap.size,0,none⟩)] #[],.func (.func 93) #[.pointer (some ⟨w1.heap.size,0,none⟩)] #[],.func (.func 94) #[.pointer (some ⟨w1.heap.size,0,none⟩)] #[],.func (.func 95) #[.pointer (some ⟨w1.heap.size,0,none⟩)] #[]] 180))):=hid (btrans HB1.out (btrans v1 v2))
  clear r h0 HB HC HD HX HR hb1 v1 v2 HC1 HD1 HB1
  go_wp2
  clear g0 g1 g2 g3 g4 g5 g6 g7 g8 d0 d1 d2 d3 d4 d5 d6
  generalize ((w1.alloc (.cells #[.slice aJ D.jobs.length cJ,.slice aR D.rel.length cR,.int .i64 D.nxt,.slice aI D.ins.length cI,.slice aT D.tak.length cT,.slice aO D.out.length cO,.slice aE D.evs.length cE,.int .i64 C.s,.int .i64 C.w,.int .i64 C.d,.int .i64 C.p,.int .i64 C.q,.slice a5 C.sl.length c5,.slice a6 C.ow.length c6,.slice a7 C.ch.length c7,.slice a8 C.ta.length c8,.int .i64 dn] 179)).alloc (.cells #[.func (.func 91) #[.pointer (some ⟨w1.heap.size,0,none⟩)] #[],.func (.func 92) #[.pointer (some ⟨w1.heap.size,0,none⟩)] #[],.func (.func 93) #[.pointer (some ⟨w1.heap.size,0,none⟩)] #[],.func (.func 94) #[.pointer (some ⟨w1.heap.size,0,none⟩)] #[],.func (.func 95) #[.pointer (some ⟨w1.heap.size,0,none⟩)] #[]] 180))=W2 at *
  go_loopw [31] (fun i wr=>∃ k:Nat,k≤5∧i=.int .i64 k∧Below W2.heap.size W2 wr∧∀ j,j<k→ck5 C dn D j=0) (fun i _=>5 - (intOf i).toNat)
  case atStart=>exact ⟨0,Nat.zero_le _,rfl,Below.refl _ _,by omega⟩
  case round=>
   obtain ⟨k,hk,rfl,hbl,hno⟩:=hrel
   have Hno:=hid hno
   clear hno
   by_cases hlt:k<5
   ·have hc:=(HT.out.below hbl lr).cell k _ (tab5 w1.heap.size k hlt)
    have hlt':(k:Int)<5:=by omega
    have hcs:k=0∨k=1∨k=2∨k=3∨k=4:=by omega
    rcases hcs with rfl|rfl|rfl|rfl|rfl
    ·simp only [Nat.reduceAdd] at hc
     go_wp2_with fail
     refine (step5_any 0 hlt w1.heap.size D _ C _ dn _ (HK.out.keep hbl) Hno.out).mono ?_
     rintro e w3 ⟨rfl,hb3⟩
     by_cases hx:ck5 C dn D 0=0
     ·have HX:=hid hx
      rw [hx]
      clear hx
      go_wp2
      go_roundw
      case rel=>
       refine ⟨0+1,by omega,by go_num,btrans hbl hb3,fun j hj=>?_⟩
       by_cases e:j=0
       ·subst e;exact HX.out
       ·exact Hno.out j (by omega)
      case measure=>simp [intOf]
     ·have HF:=hid (fe_at 5 0 (ck5 C dn D) hlt hx Hno.out)
      have hx':(ck5 C dn D 0 != 0)=true:=by simp [hx]
      clear hx
      generalize ck5 C dn D 0=q at *
      go_wp2
      go_ret
      exact ⟨ret_int (by rw [HE.out,HF.out]),btrans HB2.out (btrans hbl hb3)⟩
    ·simp only [Nat.reduceAdd] at hc
     go_wp2_with fail
     refine (step5_any 1 hlt w1.heap.size D _ C _ dn _ (HK.out.keep hbl) Hno.out).mono ?_
     rintro e w3 ⟨rfl,hb3⟩
     by_cases hx:ck5 C dn D 1=0
     ·have HX:=hid hx
      rw [hx]
      clear hx
      go_wp2
      go_roundw
      case rel=>
       refine ⟨1+1,by omega,by go_num,btrans hbl hb3,fun j hj=>?_⟩
       by_cases e:j=1
       ·subst e;exact HX.out
       ·exact Hno.out j (by omega)
      case measure=>simp [intOf]
     ·have HF:=hid (fe_at 5 1 (ck5 C dn D) hlt hx Hno.out)
      have hx':(ck5 C dn D 1 != 0)=true:=by simp [hx]
      clear hx
      generalize ck5 C dn D 1=q at *
      go_wp2
      go_ret
      exact ⟨ret_int (by rw [HE.out,HF.out]),btrans HB2.out (btrans hbl hb3)⟩
    ·simp only [Nat.reduceAdd] at hc
     go_wp2_with fail
     refine (step5_any 2 hlt w1.heap.size D _ C _ dn _ (HK.out.keep hbl) Hno.out).mono ?_
     rintro e w3 ⟨rfl,hb3⟩
     by_cases hx:ck5 C dn D 2=0
     ·have HX:=hid hx
      rw [hx]
      clear hx
      go_wp2
      go_roundw
      case rel=>
       refine ⟨2+1,by omega,by go_num,btrans hbl hb3,fun j hj=>?_⟩
       by_cases e:j=2
       ·subst e;exact HX.out
       ·exact Hno.out j (by omega)
      case measure=>simp [intOf]
     ·have HF:=hid (fe_at 5 2 (ck5 C dn D) hlt hx Hno.out)
      have hx':(ck5 C dn D 2 != 0)=true:=by simp [hx]
      clear hx
      generalize ck5 C dn D 2=q at *
      go_wp2
      go_ret
      exact ⟨ret_int (by rw [HE.out,HF.out]),btrans HB2.out (btrans hbl hb3)⟩
    ·simp only [Nat.reduceAdd] at hc
     go_wp2_with fail
     refine (step5_any 3 hlt w1.heap.size D _ C _ dn _ (HK.out.keep hbl) Hno.out).mono ?_
     rintro e w3 ⟨rfl,hb3⟩
     by_cases hx:ck5 C dn D 3=0
     ·have HX:=hid hx
      rw [hx]
      clear hx
      go_wp2
      go_roundw
      case rel=>
       refine ⟨3+1,by omega,by go_num,btrans hbl hb3,fun j hj=>?_⟩
       by_cases e:j=3
       ·subst e;exact HX.out
       ·exact Hno.out j (by omega)
      case measure=>simp [intOf]
     ·have HF:=hid (fe_at 5 3 (ck5 C dn D) hlt hx Hno.out)
      have hx':(ck5 C dn D 3 != 0)=true:=by simp [hx]
      clear hx
      generalize ck5 C dn D 3=q at *
      go_wp2
      go_ret
      exact ⟨ret_int (by rw [HE.out,HF.out]),btrans HB2.out (btrans hbl hb3)⟩
    ·simp only [Nat.reduceAdd] at hc
     go_wp2_with fail
     refine (step5_any 4 hlt w1.heap.size D _ C _ dn _ (HK.out.keep hbl) Hno.out).mono ?_
     rintro e w3 ⟨rfl,hb3⟩
     by_cases hx:ck5 C dn D 4=0
     ·have HX:=hid hx
      rw [hx]
      clear hx
      go_wp2
      go_roundw
      case rel=>
       refine ⟨4+1,by omega,by go_num,btrans hbl hb3,fun j hj=>?_⟩
       by_cases e:j=4
       ·subst e;exact HX.out
       ·exact Hno.out j (by omega)
      case measure=>simp [intOf]
     ·have HF:=hid (fe_at 5 4 (ck5 C dn D) hlt hx Hno.out)
      have hx':(ck5 C dn D 4 != 0)=true:=by simp [hx]
      clear hx
      generalize ck5 C dn D 4=q at *
      go_wp2
      go_ret
      exact ⟨ret_int (by rw [HE.out,HF.out]),btrans HB2.out (btrans hbl hb3)⟩
   ·have hk5:k=5:=by omega
    subst hk5
    go_wp2
    go_ret
    exact ⟨ret_int (by rw [HE.out];exact (fe_zero _ _ (fun j hj=>Hno.out j (by omega))).symm),btrans HB2.out hbl⟩
 ·have hx:(ckPlace C dn != 0)=true:=by simp [h0]
  have HE:Hid (ckD C dn D=ckPlace C dn):=hid (by simp [ckD,h0])
  clear h0 hb1 HX HC HD HB HR
  generalize ckPlace C dn=q at *
  go_wp2
  go_ret
  exact ⟨ret_int HE.out.symm,HB1.out⟩
def tk (C:Conf) (i:Nat):Int×Int×Int×Int:=C.ta.getD i (0,0,0,0)
def comesAt (C:Conf) (D:Dom) (k:Nat):Int:=wrap64 ((tk C k).2.1 * D.rel.getD k 0)
def dueAt (C:Conf) (j:JobT):Int:=wrap64 (j.2.2.1+(tk C j.1.toNat).2.2.2)
set_option maxHeartbeats 1000000 in
theorem deadline_any (kb:Nat) (D:Dom) (A:DMem) (C:Conf) (B:Mem) (dn:Int) (j:JobT) (w:World) (hK:KeepIn w kb D A C B dn) (h0:0≤j.1) (h1:j.1<C.ta.length) :
  Calls Tryz.prog 175 #[.pointer (some ⟨kb,0,none⟩),jv j] w fun e w'=>e=.returned (.int .i64 (dueAt C j))∧Below w.heap.size w w':=by
 obtain ⟨j0,j1,j2,j3,j4,j5⟩:=j
 dsimp only [jv] at *
 have q1:=below_new w (.cells #[.int .i64 j0,.int .i64 j1,.int .i64 j2,.int .i64 j3,.bool j4,.bool j5] 87)
 have hK1:=hK.keep q1
 have HB:=hid q1
 obtain ⟨k,rfl⟩:∃ k:Nat,j0=k:=⟨j0.toNat,by omega⟩
 have hlt:k<C.ta.length:=by omega
 have c:=hK1.row.cell 15 _ rfl
 obtain ⟨b,o,e,p0,p1,p2,p3⟩:=hK1.con.ta k hlt
 rw [e] at c
 have HE:Hid (dueAt C ((k:Int),j1,j2,j3,j4,j5)=wrap64 (j2+C.ta[k].2.2.2)):=hid (by simp [dueAt,tk,hlt])
 clear q1 hK hK1 p0 p1 p2 e
 generalize C.ta[k].2.2.2=z at *
 go_enter Tryz.func175,Tryz.ntmps175
 go_wp2
 go_quiet (fail)
 go_wp2
 go_ret
 exact ⟨ret_int HE.out.symm,below_drewN HB.out _⟩
set_option maxHeartbeats 1000000 in
theorem comes_any (kb:Nat) (D:Dom) (A:DMem) (C:Conf) (B:Mem) (dn:Int) (k:Nat) (w:World) (hK:KeepIn w kb D A C B dn) (hlt:k<C.ta.length) (hlr:k<D.rel.length) :
  Calls Tryz.prog 154 #[.pointer (some ⟨kb,0,none⟩),.int .i64 (k:Int)] w fun e w'=>e=.returned (.int .i64 (comesAt C D k))∧Below w.heap.size w w':=by
 have c:=hK.row.cell 15 _ rfl
 have c1:=hK.row.cell 1 _ rfl
 obtain ⟨b,o,e,p0,p1,p2,p3⟩:=hK.con.ta k hlt
 obtain ⟨b',o',e',p⟩:=hK.dom.rel k hlr
 rw [e] at c
 rw [e'] at c1
 have h1:(k:Int)<C.ta.length:=by omega
 have h2:(k:Int)<D.rel.length:=by omega
 have h0:(0:Int)≤k:=by omega
 have HE:Hid (comesAt C D k=wrap64 (C.ta[k].2.1 * D.rel[k])):=hid (by simp [comesAt,tk,hlt,hlr])
 clear hK p0 p2 p3 e e'
 generalize C.ta[k].2.1=z at *
 generalize D.rel[k]=y at *
 go_enter Tryz.func154,Tryz.ntmps154
 go_wp2
 go_quiet (fail)
 go_wp2
 go_ret
 exact ⟨ret_int HE.out.symm,below_drewN (Below.refl _ _) _⟩
def cmpI (a b:Int):Int:=if a<b then -1 else if a=b then 0 else 1
set_option maxHeartbeats 1000000 in
theorem compare_any (a b:Int) (w:World) :
  Calls Tryz.prog 194 #[.int .i64 a,.int .i64 b] w fun e w'=>e=.returned (.int .i64 (cmpI a b))∧Below w.heap.size w w':=by
 go_enter Tryz.func194,Tryz.ntmps194
 go_wp2
 all_goals
  go_ret
  exact ⟨ret_int (by unfold cmpI;(repeat' split) <;> omega),Below.refl _ _⟩
def orI (a b c:Int):Int:=if a≠0 then a else if b≠0 then b else c
set_option maxHeartbeats 1000000 in
theorem or_any (a b c:Int) (bb:Nat) (w:World) (h:RowAt w bb 3 [.int .i64 a,.int .i64 b,.int .i64 c]) :
  Calls Tryz.prog 193 #[.slice (some ⟨bb,0,none⟩) 3 3] w fun e w'=>e=.returned (.int .i64 (orI a b c))∧Below w.heap.size w w':=by
 have c0:=h.cell 0 _ rfl
 have c1:=h.cell 1 _ rfl
 have c2:=h.cell 2 _ rfl
 clear h
 go_enter Tryz.func193,Tryz.ntmps193
 go_wp2
 go_loopw [8] (fun i wr=>∃ k:Nat,k≤3∧i=.int .i64 k∧wr=w∧(0<k→a=0)∧(1<k→b=0)∧(2<k→c=0)) (fun i _=>3 - (intOf i).toNat)
 case atStart=>exact ⟨0,Nat.zero_le _,rfl,rfl,by omega,by omega,by omega⟩
 case round=>
  obtain ⟨k,hk,rfl,rfl,n0,n1,n2⟩:=hrel
  have N0:=hid n0
  have N1:=hid n1
  have N2:=hid n2
  clear n0 n1 n2
  have hcs:k=0∨k=1∨k=2∨k=3:=by omega
  rcases hcs with rfl|rfl|rfl|rfl
  ·by_cases hx:a=0
   ·have HX:=hid hx
    have hx':(a != 0)=false:=by simp [hx]
    clear hx
    go_wp2
    go_roundw
    case rel=>exact ⟨1,by omega,by go_num,trivial,fun _=>HX.out,fun h=>absurd h (by omega),fun h=>absurd h (by omega)⟩
    case measure=>simp [intOf]
   ·have HX:=hid hx
    have hx':(a != 0)=true:=by simp [hx]
    clear hx
    go_wp2
    go_ret
    exact ⟨ret_int (by unfold orI;have h0:=N0.out;have h1:=N1.out;have hx:=HX.out;(repeat' split) <;> omega),Below.refl _ _⟩
  ·by_cases hx:b=0
   ·have HX:=hid hx
    have hx':(b != 0)=false:=by simp [hx]
    clear hx
    go_wp2
    go_roundw
    case rel=>exact ⟨2,by omega,by go_num,trivial,fun h=>N0.out (by omega),fun _=>HX.out,fun h=>absurd h (by omega)⟩
    case measure=>simp [intOf]
   ·have HX:=hid hx
    have hx':(b != 0)=true:=by simp [hx]
    clear hx
    go_wp2
    go_ret
    exact ⟨ret_int (by unfold orI;have h0:=N0.out;have h1:=N1.out;have hx:=HX.out;(repeat' split) <;> omega),Below.refl _ _⟩
  ·by_cases hx:c=0
   ·have HX:=hid hx
    have hx':(c != 0)=false:=by simp [hx]
    clear hx
    go_wp2
    go_roundw
    case rel=>exact ⟨3,by omega,by go_num,trivial,fun h=>N0.out (by omega),fun h=>N1.out (by omega),fun _=>HX.out⟩
    case measure=>simp [intOf]
   ·have HX:=hid hx
    have hx':(c != 0)=true:=by simp [hx]
    clear hx
    go_wp2
    go_ret
    exact ⟨ret_int (by unfold orI;have h0:=N0.out;have h1:=N1.out;have hx:=HX.out;(repeat' split) <;> omega),Below.refl _ _⟩
  ·go_wp2
   go_ret
   exact ⟨ret_int (by unfold orI;have h0:=N0.out;have h1:=N1.out;have h2:=N2.out;(repeat' split) <;> omega),Below.refl _ _⟩
def aheadB (C:Conf) (x y:JobT):Bool:=decide (orI (cmpI (dueAt C x) (dueAt C y)) (cmpI x.1 y.1) (cmpI x.2.1 y.2.1)<0)
end Go.Proofs.YtejhccmclanlmaaGreatDoor
