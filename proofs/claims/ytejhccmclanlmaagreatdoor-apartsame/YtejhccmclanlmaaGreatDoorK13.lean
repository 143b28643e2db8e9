/- Texts joined: Yd Ye Yf. -/
import Derived.RangeFuncNested
import Derived.RangeFuncBound
import Derived.RangeFuncCalls
import Derived.RangeFuncLeaves
import Derived.RangeFuncFrom
import Derived.Shelf.Abstract
import Derived.Shelf.RegionOpen
import Derived.OwnWalkIn
import Derived.TacticsInMore
import Derived.LoopNIn
import Derived.LoopIn
import Derived.Sort.QuietIn
import Derived.Sort.CutIn
import Derived.Test.YtejhccmclanlmaaGreatDoorK10
set_option linter.unusedVariables false
set_option maxRecDepth 100000
namespace Go.Proofs.YtejhccmclanlmaaGreatDoor
open Go.RowKit
def ckIn1 (C:Conf) (D:Dom) (i:Nat):Int:=ckR (D.ins.getD i ([],0)).1 (D.ins.getD i ([],0)).2 (C.ch.getD i (0,0,0)).2.2
def ckIns (C:Conf) (D:Dom):Int:=fe D.ins.length (ckIn1 C D)
set_option maxHeartbeats 2000000 in
theorem checkIns_any (kb:Nat) (D:Dom) (A:DMem) (C:Conf) (B:Mem) (dn:Int) (w:World) (hK:KeepIn w kb D A C B dn) (hn:D.ins.length=C.ch.length) :
  Calls Tryz.prog 94 #[.pointer (some ⟨kb,0,none⟩)] w fun e w'=>e=.returned (.int .i64 (ckIns C D))∧Below w.heap.size w w':=by
 have HK:=hid hK
 have HN:=hid hn
 have c3:=hK.row.cell 3 _ rfl
 have c14:=hK.row.cell 14 _ rfl
 have lI:=hK.dom.lI
 have hkb:=hK.row.lt
 clear hK hn
 obtain ⟨aJ,aR,aI,aT,aO,aE,cJ,cR,cI,cT,cO,cE⟩:=A
 obtain ⟨a5,a6,a7,a8,c5,c6,c7,c8⟩:=B
 dsimp only at *
 go_enter Tryz.func94,Tryz.ntmps94
 go_wp2
 go_loopw [12] (fun i wr=>∃ k:Nat,k≤D.ins.length∧i=.int .i64 k∧Below w.heap.size w wr∧∀ j,j<k→ckIn1 C D j=0) (fun i _=>D.ins.length - (intOf i).toNat)
 case atStart=>exact ⟨0,Nat.zero_le _,rfl,Below.refl _ _,by omega⟩
 case round=>
  obtain ⟨k,hk,rfl,hbl,hno⟩:=hrel
  have Hno:=hid hno
  clear hno
  by_cases hlt:k<D.ins.length
  ·have hlc:k<C.ch.length:=by have:=HN.out;omega
   obtain ⟨b1,o1,a1,k1,rfl,p0,p1,p2,p3,p4⟩:=(HK.out.dom.keep hbl).ins k hlt
   obtain ⟨b2,o2,rfl,q0,q1,q2⟩:=(HK.out.con.keep hbl).ch k hlc
   have HV:Hid (ckIn1 C D k=ckR D.ins[k].1 D.ins[k].2 C.ch[k].2.2):=hid (by simp [ckIn1,hlt,hlc])
   have c14':=bkeep hbl c14 lr
   have hk1:(k:Int)<(D.ins.length:Int):=by omega
   have hk2:(k:Int)<(C.ch.length:Int):=by omega
   have hk0:(0:Int)≤(k:Int):=by omega
   generalize D.ins[k].1=V at *
   generalize D.ins[k].2=l at *
   generalize C.ch[k].1=z0 at *
   generalize C.ch[k].2.1=z1 at *
   generalize C.ch[k].2.2=z2 at *
   have q:=below_new wr (.cells #[.slice a1 V.length k1,.int .i64 l] 90)
   have P2:=hid (p2.keep q)
   have HBL:=hid hbl
   have r0:=bkeep q c14' lr
   have r1:=bkeep q q2 lr
   have hsz:=hbl.size
   generalize hW:wr.alloc (.cells #[.slice a1 V.length k1,.int .i64 l] 90)=W at *
   have HW:=hid hW
   have s0:W.cell? ⟨wr.heap.size,0,none⟩=some (.slice a1 V.length k1):=by rw [← hW];simp
   have s1:W.cell? ⟨wr.heap.size,1,none⟩=some (.int .i64 l):=by rw [← hW];simp
   clear hW
   have HS:Hid (∀ w',Below W.heap.size W w'→w'.cell? ⟨wr.heap.size,0,none⟩=some (.slice a1 V.length k1)∧w'.cell? ⟨wr.heap.size,1,none⟩=some (.int .i64 l)∧w'.cell? ⟨kb,14,none⟩=some (.slice (some ⟨b2,o2,none⟩) C.ch.length c7)∧w'.cell? ⟨b2,o2+k * 3+2,none⟩=some (.int .i64 z2)):=hid fun w' hb=>⟨bkeep hb s0 lr,bkeep hb s1 lr,bkeep hb r0 lr,bkeep hb r1 lr⟩
   have hbz:Below W.heap.size W W.drew:=(Below.refl _ _).drew
   go_wp2_with fail
   rw [HW.out]
   go_region_held3 (fun w'=>w'.cell? ⟨wr.heap.size,0,none⟩=some (.slice a1 V.length k1)∧w'.cell? ⟨wr.heap.size,1,none⟩=some (.int .i64 l)∧w'.cell? ⟨kb,14,none⟩=some (.slice (some ⟨b2,o2,none⟩) C.ch.length c7)∧w'.cell? ⟨b2,o2+k * 3+2,none⟩=some (.int .i64 z2))
    (first|exact HS.out _ hB3|exact HS.out _ hbz|go_keep)
    (first|(go_at_call 129;refine (ringCheck_any a1 V k1 l z2 _ (P2.out.keep hbz) p4).mono ?_;rintro e w3 ⟨rfl,hb3⟩;have hB3:=btrans hbz hb3))
   have HB3:=hid (btrans HBL.out (btrans q hB3))
   clear HS hB3 hbz s0 s1 r0 r1 q p0 p1 q0 q1 q2 c14' hbl p2
   by_cases h0:ckR V l z2=0
   ·have H0:Hid (ckIn1 C D k=0):=hid (by rw [HV.out,h0])
    rw [h0]
    clear h0
    go_wp2
    go_roundw
    case rel=>
     refine ⟨k+1,by omega,by go_num,HB3.out,fun j hj=>?_⟩
     by_cases e:j=k
     ·subst e;exact H0.out
     ·exact Hno.out j (by omega)
    case measure=>simp [intOf];omega
   ·have HE:Hid (ckIns C D=ckR V l z2):=hid (by rw [ckIns,fe_at _ k _ hlt (by rw [HV.out];exact h0) (fun j hj=>Hno.out j hj),HV.out])
    have hx:(ckR V l z2 != 0)=true:=by simp [h0]
    clear h0 HV
    generalize ckR V l z2=q at *
    go_wp2
    go_ret
    exact ⟨ret_int HE.out.symm,HB3.out⟩
  ·go_wp2
   go_ret
   exact ⟨ret_int (by rw [ckIns];exact (fe_zero _ _ (fun j hj=>Hno.out j (by omega))).symm),hbl⟩
set_option maxHeartbeats 2000000 in
theorem checkShape2_any (kb:Nat) (D:Dom) (A:DMem) (C:Conf) (B:Mem) (dn:Int) (w:World) (hK:KeepIn w kb D A C B dn) :
  Calls Tryz.prog 91 #[.pointer (some ⟨kb,0,none⟩)] w fun e w'=>e=.returned (.int .i64 (ckShp C D))∧Below w.heap.size w w':=by
 have k1:=hK.row.cell 1 _ rfl
 have k3:=hK.row.cell 3 _ rfl
 have k4:=hK.row.cell 4 _ rfl
 have k5:=hK.row.cell 5 _ rfl
 have kd:=hK.row.cell 13 _ rfl
 have ke:=hK.row.cell 14 _ rfl
 have kf:=hK.row.cell 15 _ rfl
 have l1:=hK.dom.lR
 have l3:=hK.dom.lI
 have l4:=hK.dom.lT
 have l5:=hK.dom.lO
 have l6:=hK.con.l6
 have l7:=hK.con.l7
 have l8:=hK.con.l8
 clear hK
 have HE:Hid (∀ b1 b2 b3 b4:Bool,((D.rel.length:Int) != C.ta.length)=b1→((D.ins.length:Int) != C.ch.length)=b2→((D.out.length:Int) != C.ch.length)=b3→((D.tak.length:Int) != C.ow.length)=b4→ckShp C D=if b1 || b2 || b3 || b4 then 1 else 0):=hid (by
  rintro b1 b2 b3 b4 rfl rfl rfl rfl
  unfold ckShp
  by_cases h:D.rel.length=C.ta.length∧D.ins.length=C.ch.length∧D.out.length=C.ch.length∧D.tak.length=C.ow.length
  ·obtain ⟨h1,h2,h3,h4⟩:=h
   simp [h1,h2,h3,h4]
  ·rw [if_neg h,if_pos]
   simp only [Bool.or_eq_true,bne_iff_ne,ne_eq,Int.ofNat_inj]
   omega)
 cases h1:((D.rel.length:Int) != C.ta.length) <;> cases h2:((D.ins.length:Int) != C.ch.length) <;> cases h3:((D.out.length:Int) != C.ch.length) <;> cases h4:((D.tak.length:Int) != C.ow.length)
 all_goals
  have HX:=hid (HE.out _ _ _ _ h1 h2 h3 h4)
  clear HE
  go_enter Tryz.func91,Tryz.ntmps91
  go_wp2
  go_quiet (fail)
  go_wp2
  go_ret
  exact ⟨ret_int (by rw [HX.out];rfl),below_drewN (Below.refl _ _) _⟩
end Go.Proofs.YtejhccmclanlmaaGreatDoor
namespace Go.Proofs.YtejhccmclanlmaaGreatDoor
open Go.RowKit Go.Shelf
attribute [local go_sem] Oper.semAt_some
abbrev NT:=Nat×(Int×Int×Int×Int)
def encT (x:NT):Array Value:=#[.int .i64 (x.1:Int),.agg #[.int .i64 x.2.1,.int .i64 x.2.2.1,.int .i64 x.2.2.2.1,.int .i64 x.2.2.2.2]]
def ownT (C:Conf) (dn:Int) (k:Nat):List NT:=(List.range k).filterMap fun i=>if (C.ta.getD i (0,0,0,0)).1=dn then some (i,C.ta.getD i (0,0,0,0)) else none
theorem ownT_succ (C:Conf) (dn:Int) (k:Nat):ownT C dn (k+1)=ownT C dn k++(if (C.ta.getD k (0,0,0,0)).1=dn then [(k,C.ta.getD k (0,0,0,0))] else []):=by
 simp only [ownT,List.range_succ,List.filterMap_append,List.filterMap_cons,List.filterMap_nil]
 split <;> simp_all
theorem ownT_le (C:Conf) (dn:Int) (k:Nat):(ownT C dn k).length≤k:=by
 have:=List.length_filterMap_le (fun i=>if (C.ta.getD i (0,0,0,0)).1=dn then some (i,C.ta.getD i (0,0,0,0)) else none) (List.range k)
 simpa [ownT] using this
theorem yield_one {e:Ending} {A B:Prop} (h:(e=.returned (.bool true)∧A)∨(e=.returned (.bool false)∧B)):∃ r:Bool,e=.returned (.bool r)∧(r=true→A)∧(r=false→B):=by
 rcases h with ⟨rfl,h⟩|⟨rfl,h⟩
 ·exact ⟨true,rfl,fun _=>h,fun e=>(by cases e)⟩
 ·exact ⟨false,rfl,fun e=>(by cases e),fun _=>h⟩
set_option maxHeartbeats 8000000 in
theorem tasks1_in (n:Nat) (hn:1≤n) (l Bk kb n₀:Nat) (C:Conf) (a8:Option Addr) (c8:Nat) (dn:Int) (J Jx:List NT→World→Prop) (hkb:kb<n₀) (hBk:Bk<n₀) (hln:C.ta.length≤9223372036854775807)
  (hY:∀ pre x W,J pre W→pre.length<C.ta.length→YieldAt Fence.wide (n - 1) Tryz.prog l (encT x) W fun e W'=>
   (e=.returned (.bool true)∧J (pre++[x]) W'∧Below n₀ W W')∨(e=.returned (.bool false)∧Jx (pre++[x]) W'))
  (hJa:∀ pre W o,J pre W→J pre (W.alloc o)) (hJd:∀ pre W,J pre W→J pre W.drew)
  (W:World) (hB:W.cell? ⟨Bk,0,none⟩=some (.pointer (some ⟨kb,0,none⟩))) (h8:W.cell? ⟨kb,15,none⟩=some (.slice a8 C.ta.length c8)) (h16:W.cell? ⟨kb,16,none⟩=some (.int .i64 dn)) (hT:TasksIn W a8 C.ta) (ha8:∀ b o,a8=some ⟨b,o,none⟩→0<C.ta.length→b<n₀) (hsz:n₀≤W.heap.size) (h0:J [] W) :
  CallsIn Fence.wide n Tryz.prog 173 #[.func (.yield l) #[] #[],.pointer (some ⟨Bk,0,none⟩)] W fun e W'=>(∃ v,e=.returned v) ∧
   ((∃ ys,ys=ownT C dn C.ta.length∧J ys W')∨(∃ pre,(∃ k,k≤C.ta.length∧pre=ownT C dn k)∧Jx pre W')):=by
 have mixed:Tryz.prog.follows Departure.mixedOrders=true:=by kernel_rfl
 refine callsIn_of_wp Tryz.func173 rfl trivial ?_ rfl
 simp only [Tryz.ntmps173,List.size_toArray,List.length_cons,List.length_nil,Nat.reduceAdd,Nat.reduceSub,Array.replicate_succ,Array.replicate_zero,List.push_toArray,List.append_toArray,List.nil_append,List.cons_append]
 gi_wp2
 gi_loopw [11] (fun i wr=>∃ k:Nat,k≤C.ta.length∧i=.int .i64 k∧J (ownT C dn k) wr∧Below n₀ W wr)
  (fun i _=>C.ta.length - (intOf i).toNat)
 case atStart=>exact ⟨0,Nat.zero_le _,rfl,h0,Below.refl _ _⟩
 case round=>
  obtain ⟨k,hk,rfl,hJr,hnx⟩:=hrel
  have HJ:=hid hJr
  have HX:=hid hnx
  by_cases hlt:k<C.ta.length
  ·obtain ⟨b,o,rfl,p0,p1,p2,p3⟩:=hT k hlt
   have hb:=ha8 b o rfl (by omega)
   have p0':=(hnx.cell (p:=⟨b,o+k * 4,none⟩) hb).trans p0
   have p1':=(hnx.cell (p:=⟨b,o+k * 4+1,none⟩) hb).trans p1
   have p2':=(hnx.cell (p:=⟨b,o+k * 4+2,none⟩) hb).trans p2
   have p3':=(hnx.cell (p:=⟨b,o+k * 4+3,none⟩) hb).trans p3
   have hB':=(hnx.cell (p:=⟨Bk,0,none⟩) hBk).trans hB
   have h16':=(hnx.cell (p:=⟨kb,16,none⟩) hkb).trans h16
   have hk1:(k:Int)<(C.ta.length:Int):=by omega
   have hk0:(0:Int)≤(k:Int):=by omega
   clear hJr hnx
   have HT:Hid (C.ta.getD k (0,0,0,0)=C.ta[k]):=hid (by simp [hlt])
   have HP:=hid (ownT_le C dn k)
   generalize C.ta[k]=tk at *
   obtain ⟨t0,t1,t2,t3⟩:=tk
   dsimp only at *
   have q1:Below n₀ wr (wr.alloc (.cells #[.int .i64 t0,.int .i64 t1,.int .i64 t2,.int .i64 t3] 108)).drew:=((Below.refl _ _).alloc (by have:=HX.out.size;omega) _).drew
   have hBa:=cell_old (.cells #[.int .i64 t0,.int .i64 t1,.int .i64 t2,.int .i64 t3] 108) hB'
   have h16a:=cell_old (.cells #[.int .i64 t0,.int .i64 t1,.int .i64 t2,.int .i64 t3] 108) h16'
   by_cases hd:t0=dn
   ·subst hd
    have HO:Hid (ownT C t0 (k+1)=ownT C t0 k++[(k,(t0,t1,t2,t3))]):=hid (by rw [ownT_succ,HT.out,if_pos rfl])
    obtain ⟨fn,tmps,assign,body,hy,hR⟩:=hY (ownT C t0 k) (k,(t0,t1,t2,t3)) (wr.alloc (.cells #[.int .i64 t0,.int .i64 t1,.int .i64 t2,.int .i64 t3] 108)).drew (hJd _ _ (hJa _ _ _ HJ.out)) (by have:=HP.out;omega)
    dsimp only [encT] at hy
    gi_wp2
    gi_cut [29] from 16 (fun t wx=>∃ r:Bool,t=.bool (!r)∧(r=true→J (ownT C t0 (k+1)) wx∧Below n₀ wr wx)∧(r=false→Jx (ownT C t0 (k+1)) wx))
    case first=>
     gi_region_with_o (refine hR.mono ?_;intro e W3 hor;obtain ⟨r,rfl,hr⟩:=yield_one hor;have HR3:=hid hr;clear hor hr)
     all_goals
      gi_wp2
      go_meet
      case rel=>exact ⟨r,by cases r <;> rfl,fun e=>by rw [HO.out];exact ⟨(HR3.out.1 e).1,q1.trans (HR3.out.1 e).2⟩,fun e=>by rw [HO.out];exact HR3.out.2 e⟩
    case rest=>
     obtain ⟨r,rfl,h1,h2⟩:=hcut
     have H1:=hid h1
     have H2:=hid h2
     clear h1 h2
     cases r with
     | true=>
      gi_wp2
      go_roundw
      case rel=>exact ⟨k+1,by omega,by go_num,(H1.out rfl).1,HX.out.trans (H1.out rfl).2⟩
      case measure=>simp [intOf];omega
     | false=>
      gi_wp2
      refine bodyPost_ret (results_none rfl _ _ _) rfl ?_
      exact ⟨⟨_,rfl⟩,.inr ⟨_,⟨k+1,by omega,rfl⟩,H2.out trivial⟩⟩
   ·have hd':(t0 == dn)=false:=by simp [hd]
    have HO:Hid (ownT C dn (k+1)=ownT C dn k):=hid (by rw [ownT_succ,HT.out,if_neg hd,List.append_nil])
    gi_wp2
    gi_cut [29] from 16 (fun t wx=>t=.bool false∧wx=(wr.alloc (.cells #[.int .i64 t0,.int .i64 t1,.int .i64 t2,.int .i64 t3] 108)).drew)
    case first=>
     first
      | gi_region_with_o (refine ⟨fun _ h=>(by cases h),?_⟩)
      | fail
     all_goals
      gi_wp2
      go_meet
      case rel=>exact ⟨rfl,rfl⟩
    case rest=>
     obtain ⟨rfl,rfl⟩:=hcut
     have HE:Hid (J (ownT C dn (k+1)) (wr.alloc (.cells #[.int .i64 t0,.int .i64 t1,.int .i64 t2,.int .i64 t3] 108)).drew∧Below n₀ W (wr.alloc (.cells #[.int .i64 t0,.int .i64 t1,.int .i64 t2,.int .i64 t3] 108)).drew):=hid ⟨by rw [HO.out];exact hJd _ _ (hJa _ _ _ HJ.out),HX.out.trans q1⟩
     generalize (wr.alloc (.cells #[.int .i64 t0,.int .i64 t1,.int .i64 t2,.int .i64 t3] 108)).drew=w5 at *
     gi_wp2
     go_roundw
     case rel=>exact ⟨k+1,by omega,by go_num,HE.out⟩
     case measure=>simp [intOf];omega
  ·obtain rfl:k=C.ta.length:=by omega
   gi_wp2
   go_end0
   exact ⟨⟨_,rfl⟩,.inl ⟨_,rfl,HJ.out⟩⟩
theorem tasks_stops (n:Nat) (hn:1≤n) (Bk kb n₀:Nat) (C:Conf) (a8:Option Addr) (c8:Nat) (dn:Int) (hkb:kb<n₀) (hBk:Bk<n₀) (hln:C.ta.length≤9223372036854775807)
  (w:World) (hB:w.cell? ⟨Bk,0,none⟩=some (.pointer (some ⟨kb,0,none⟩))) (h8:w.cell? ⟨kb,15,none⟩=some (.slice a8 C.ta.length c8)) (h16:w.cell? ⟨kb,16,none⟩=some (.int .i64 dn)) (hT:TasksIn w a8 C.ta) (ha8:∀ b o,a8=some ⟨b,o,none⟩→0<C.ta.length→b<n₀) (hsz:n₀≤w.heap.size) :
  SeqStopsK Fence.wide n Tryz.prog 173 #[.pointer (some ⟨Bk,0,none⟩)] encT (Below n₀) (fun ys=>ys=ownT C dn C.ta.length) (fun pre=>∃ k,k≤C.ta.length∧pre=ownT C dn k) C.ta.length w:=by
 intro l J Jx W hb hJ hJx hY h0
 have hsz':=hb.size
 have hTW:TasksIn W a8 C.ta:=by
  intro k hk
  obtain ⟨b,o,e,p0,p1,p2,p3⟩:=hT k hk
  have hlt:b<w.heap.size:=Nat.lt_of_lt_of_le (ha8 b o e (by omega)) hsz
  exact ⟨b,o,e,(hb.cell (p:=⟨b,o+k * 4,none⟩) hlt).trans p0,(hb.cell (p:=⟨b,o+k * 4+1,none⟩) hlt).trans p1,(hb.cell (p:=⟨b,o+k * 4+2,none⟩) hlt).trans p2,(hb.cell (p:=⟨b,o+k * 4+3,none⟩) hlt).trans p3⟩
 exact tasks1_in n hn l Bk kb n₀ C a8 c8 dn J Jx hkb hBk hln hY
  (fun pre W1 o h=>hJ pre W1 _ none h (World.grownBy_alloc W1 o none) (fun _ e=>by cases e))
  (fun pre W1 h=>hJ pre W1 _ none h ⟨rfl,rfl,rfl,Nat.le_refl _,fun _ _ _=>rfl⟩ (fun _ e=>by cases e))
  W ((hb.cell (p:=⟨Bk,0,none⟩) (by show Bk<_;omega)).trans hB) ((hb.cell (p:=⟨kb,15,none⟩) (by show kb<_;omega)).trans h8) ((hb.cell (p:=⟨kb,16,none⟩) (by show kb<_;omega)).trans h16) hTW ha8 (by omega) h0
end Go.Proofs.YtejhccmclanlmaaGreatDoor
