/- Texts joined: Fh. -/
import Derived.Test.YtejhccmclanlmaaGreatDoorK15
import Derived.Test.YtejhccmclanlmaaGreatDoorK23
set_option linter.unusedVariables false
set_option maxRecDepth 100000
namespace Go.Proofs.YtejhccmclanlmaaGreatDoor
open Go.RowKit Go.Shelf
attribute [local go_sem] Oper.semAt_some
def soon (s c:Int):Int:=if s<0 then c else if c<s then c else s
def dueL (C:Conf) (D:Dom) (l:List NT):Int:=l.foldl (fun s x=>soon s (comesAt C D x.1)) (-1)
theorem dueL_snoc (C:Conf) (D:Dom) (l:List NT) (x:NT):dueL C D (l++[x])=soon (dueL C D l) (comesAt C D x.1):=by simp [dueL]
set_option maxHeartbeats 4000000 in
theorem due_ok (D:Dom) (A:DMem) (C:Conf) (B:Mem) (dn:Int) (w:World) (hC:ConfIn w B C) (hD:DomIn w A D) (hz:ckD C dn D=0) :
  Calls Tryz.prog 158 #[cv C B,.int .i64 dn,dv D A] w fun e w'=>e=.returned (.tuple #[.int .i64 (dueL C D (ownT C dn C.ta.length)),.int .i64 0])∧Below w.heap.size w w':=by
 have q1:=below_new w (.cells (cl C B) 27)
 have q2:=below_new (w.alloc (.cells (cl C B) 27)) (.cells (dl D A) 46)
 have HC:=hid (hC.keep (btrans q1 q2))
 have HD:=hid (hD.keep (btrans q1 q2))
 have HX:=hid ((boxC_new w C B).keep q2)
 have HR:=hid (rowAt_new2 (w.alloc (.cells (cl C B) 27)) (w.heap.size+1) (dl D A).toList 46 (by simp))
 have HB:=hid (btrans q1 q2)
 have HCW:=hid hC
 have HDW:=hid hD
 have HZ:=hid hz
 clear q1 q2 hC hD hz
 obtain ⟨aJ,aR,aI,aT,aO,aE,cJ,cR,cI,cT,cO,cE⟩:=A
 obtain ⟨a5,a6,a7,a8,c5,c6,c7,c8⟩:=B
 dsimp only [cv,cl,dv,dl] at *
 refine (callsIn_wide (n:=6)).1 (callsIn_of_wp_marks Tryz.func158 rfl trivial ?_ rfl)
 refine wpIn_wide.2 ?_
 simp only [Tryz.ntmps158,List.size_toArray,List.length_cons,List.length_nil,Nat.reduceAdd,Nat.reduceSub,Array.replicate_succ,Array.replicate_zero,List.push_toArray,List.append_toArray,List.nil_append,List.cons_append]
 obtain ⟨g0,g1,g2,g3,g4,g5,g6,g7,g8⟩:=HX.out
 have d0:=HR.out.cell 0 _ rfl
 have d1:=HR.out.cell 1 _ rfl
 have d2:=HR.out.cell 2 _ rfl
 have d3:=HR.out.cell 3 _ rfl
 have d4:=HR.out.cell 4 _ rfl
 have d5:=HR.out.cell 5 _ rfl
 have d6:=HR.out.cell 6 _ rfl
 go_wp2_with fail
 refine (checkD_any D ⟨aJ,aR,aI,aT,aO,aE,cJ,cR,cI,cT,cO,cE⟩ C ⟨a5,a6,a7,a8,c5,c6,c7,c8⟩ dn _ HC.out HD.out).mono ?_
 rintro e w1 ⟨rfl,hb1⟩
 rw [HZ.out]
 generalize World.alloc (World.alloc w _) _=W at *
 clear g0 g1 g2 g3 g4 g5 g6 g7 g8 d0 d1 d2 d3 d4 d5 d6
 have HB1:=hid (btrans HB.out hb1)
 obtain ⟨g0,g1,g2,g3,g4,g5,g6,g7,g8⟩:=HX.out.keep hb1
 have r:=HR.out.below hb1 lr
 have d0:=r.cell 0 _ rfl
 have d1:=r.cell 1 _ rfl
 have d2:=r.cell 2 _ rfl
 have d3:=r.cell 3 _ rfl
 have d4:=r.cell 4 _ rfl
 have d5:=r.cell 5 _ rfl
 have d6:=r.cell 6 _ rfl
 clear r hb1 HC HD HX HR HB
 go_wp2_with fail
 refine ((callsIn_wide (n:=5)).1 (tasks_in 5 _ _)).mono ?_
 rintro e w' ⟨rfl,tt,rfl⟩
 have q3:=below_new w1 (.cells #[.slice aJ D.jobs.length cJ,.slice aR D.rel.length cR,.int .i64 D.nxt,.slice aI D.ins.length cI,.slice aT D.tak.length cT,.slice aO D.out.length cO,.slice aE D.evs.length cE,.int .i64 C.s,.int .i64 C.w,.int .i64 C.d,.int .i64 C.p,.int .i64 C.q,.slice a5 C.sl.length c5,.slice a6 C.ow.length c6,.slice a7 C.ch.length c7,.slice a8 C.ta.length c8,.int .i64 dn] 179)
 have q4:=below_new (w1.alloc (.cells #[.slice aJ D.jobs.length cJ,.slice aR D.rel.length cR,.int .i64 D.nxt,.slice aI D.ins.length cI,.slice aT D.tak.length cT,.slice aO D.out.length cO,.slice aE D.evs.length cE,.int .i64 C.s,.int .i64 C.w,.int .i64 C.d,.int .i64 C.p,.int .i64 C.q,.slice a5 C.sl.length c5,.slice a6 C.ow.length c6,.slice a7 C.ch.length c7,.slice a8 C.ta.length c8,.int .i64 dn] 179)) (.cells #[.int .i64 (-1)] 3)
 have q5:=below_new ((w1.alloc (.cells #[.slice aJ D.jobs.length cJ,.slice aR D.rel.length cR,.int .i64 D.nxt,.slice aI D.ins.length cI,.slice aT D.tak.length cT,.slice aO D.out.length cO,.slice aE D.evs.length cE,.int .i64 C.s,.int .i64 C.w,.int .i64 C.d,.int .i64 C.p,.int .i64 C.q,.slice a5 C.sl.length c5,.slice a6 C.ow.length c6,.slice a7 C.ch.length c7,.slice a8 C.ta.length c8,.int .i64 dn] 179)).alloc (.cells #[.int .i64 (-1)] 3)) (.cells #[.pointer (some ⟨w1.heap.size,0,none⟩)] tt)
 have RK:=hid ((rowAt_new2 w1 w1.heap.size [.slice aJ D.jobs.length cJ,.slice aR D.rel.length cR,.int .i64 D.nxt,.slice aI D.ins.length cI,.slice aT D.tak.length cT,.slice aO D.out.length cO,.slice aE D.evs.length cE,.int .i64 C.s,.int .i64 C.w,.int .i64 C.d,.int .i64 C.p,.int .i64 C.q,.slice a5 C.sl.length c5,.slice a6 C.ow.length c6,.slice a7 C.ch.length c7,.slice a8 C.ta.length c8,.int .i64 dn] 179 rfl).below (btrans q4 q5) lr)
 have RS:=hid ((rowAt_new2 (w1.alloc (.cells #[.slice aJ D.jobs.length cJ,.slice aR D.rel.length cR,.int .i64 D.nxt,.slice aI D.ins.length cI,.slice aT D.tak.length cT,.slice aO D.out.length cO,.slice aE D.evs.length cE,.int .i64 C.s,.int .i64 C.w,.int .i64 C.d,.int .i64 C.p,.int .i64 C.q,.slice a5 C.sl.length c5,.slice a6 C.ow.length c6,.slice a7 C.ch.length c7,.slice a8 C.ta.length c8,.int .i64 dn] 179)) (w1.heap.size+1) [.int .i64 (-1)] 3 (by simp)).below q5 lr)
 have hBk:(((w1.alloc (.cells #[.slice aJ D.jobs.length cJ,.slice aR D.rel.length cR,.int .i64 D.nxt,.slice aI D.ins.length cI,.slice aT D.tak.length cT,.slice aO D.out.length cO,.slice aE D.evs.length cE,.int .i64 C.s,.int .i64 C.w,.int .i64 C.d,.int .i64 C.p,.int .i64 C.q,.slice a5 C.sl.length c5,.slice a6 C.ow.length c6,.slice a7 C.ch.length c7,.slice a8 C.ta.length c8,.int .i64 dn] 179)).alloc (.cells #[.int .i64 (-1)] 3)).alloc (.cells #[.pointer (some ⟨w1.heap.size,0,none⟩)] tt)).cell? ⟨w1.heap.size+1+1,0,none⟩=some (.pointer (some ⟨w1.heap.size,0,none⟩)):=by
  have:=(Boxed.new ((w1.alloc (.cells #[.slice aJ D.jobs.length cJ,.slice aR D.rel.length cR,.int .i64 D.nxt,.slice aI D.ins.length cI,.slice aT D.tak.length cT,.slice aO D.out.length cO,.slice aE D.evs.length cE,.int .i64 C.s,.int .i64 C.w,.int .i64 C.d,.int .i64 C.p,.int .i64 C.q,.slice a5 C.sl.length c5,.slice a6 C.ow.length c6,.slice a7 C.ch.length c7,.slice a8 C.ta.length c8,.int .i64 dn] 179)).alloc (.cells #[.int .i64 (-1)] 3)) tt (.pointer (some ⟨w1.heap.size,0,none⟩))).cell
  simp only [World.size_alloc] at this
  exact this
 have HB0:=hid (btrans HB1.out (btrans q3 (btrans q4 q5)))
 have HS0:Hid ((((w1.alloc (.cells #[.slice aJ D.jobs.length cJ,.slice aR D.rel.length cR,.int .i64 D.nxt,.slice aI D.ins.length cI,.slice aT D.tak.length cT,.slice aO D.out.length cO,.slice aE D.evs.length cE,.int .i64 C.s,.int .i64 C.w,.int .i64 C.d,.int .i64 C.p,.int .i64 C.q,.slice a5 C.sl.length c5,.slice a6 C.ow.length c6,.slice a7 C.ch.length c7,.slice a8 C.ta.length c8,.int .i64 dn] 179)).alloc (.cells #[.int .i64 (-1)] 3)).alloc (.cells #[.pointer (some ⟨w1.heap.size,0,none⟩)] tt)).heap.size=w1.heap.size+3):=hid (by simp)
 generalize (((w1.alloc (.cells #[.slice aJ D.jobs.length cJ,.slice aR D.rel.length cR,.int .i64 D.nxt,.slice aI D.ins.length cI,.slice aT D.tak.length cT,.slice aO D.out.length cO,.slice aE D.evs.length cE,.int .i64 C.s,.int .i64 C.w,.int .i64 C.d,.int .i64 C.p,.int .i64 C.q,.slice a5 C.sl.length c5,.slice a6 C.ow.length c6,.slice a7 C.ch.length c7,.slice a8 C.ta.length c8,.int .i64 dn] 179)).alloc (.cells #[.int .i64 (-1)] 3)).alloc (.cells #[.pointer (some ⟨w1.heap.size,0,none⟩)] tt))=W0 at *
 clear q3 q4 q5 g0 g1 g2 g3 g4 g5 g6 g7 g8 d0 d1 d2 d3 d4 d5 d6
 have hs0:=HS0.out
 have hwsz:=HB1.out.size
 have HKI:Hid (∀ wx,Keeps (fun x=>x=w1.heap.size+1) W0 wx→KeepIn wx w1.heap.size D ⟨aJ,aR,aI,aT,aO,aE,cJ,cR,cI,cT,cO,cE⟩ C ⟨a5,a6,a7,a8,c5,c6,c7,c8⟩ dn):=hid fun wx h=>by
  have hb:Below (w1.heap.size+1) W0 wx:=h.to_below (by omega) (fun x hx=>by omega)
  have hw:Below w.heap.size w wx:=HB0.out.trans (hb.mono (by omega))
  exact ⟨(hb.block _ (by omega)).trans RK.out,HDW.out.keep hw,HCW.out.keep hw⟩
 have hK0:=HKI.out W0 (Keeps.refl _ _)
 have k15:=hK0.row.cell 15 _ rfl
 have k16:=hK0.row.cell 16 _ rfl
 have hTA:=hK0.con.ta
 have ha8:∀ b o,a8=some ⟨b,o,none⟩→0<C.ta.length→b<w.heap.size:=tasksIn_lt HCW.out.ta
 have hlt:C.ta.length≤9223372036854775807:=HCW.out.l8
 have HTK:Hid (∀ W W',Keeps (fun x=>x=w1.heap.size+1) W0 W→Keeps (fun x=>x=w1.heap.size+1) W0 W'→W.heap.size≤W'.heap.size→TK (w1.heap.size+1+1) w1.heap.size a8 C.ta.length W W'):=hid fun W W' h h' hs=>
  TK.of_heap hs ((h'.same _ (by omega) (by omega)).trans (h.same _ (by omega) (by omega)).symm) ((h'.same _ (by omega) (by omega)).trans (h.same _ (by omega) (by omega)).symm) (fun b o e hn=>by
   have hb:=ha8 b o e hn
   exact (h'.same _ (by omega) (by omega)).trans (h.same _ (by omega) (by omega)).symm)
 clear hK0
 go_wp2
 refine (wpIn_wide (n:=6)).1 ?_
 refine wpIn_rangeFunc_ownH rfl (by omega) (gf:=173) (lb:=#[.pointer (some ⟨w1.heap.size+1+1,0,none⟩)]) rfl trivial (enters_of Tryz.func173 (by kernel_rfl) rfl)
  (tasks_stops2 (6 - 1) (by omega) (w1.heap.size+1+1) w1.heap.size (w1.heap.size+3) C a8 c8 dn (by omega) (by omega) hlt W0 hBk k15 k16 hTA (fun b o e h=>by have:=ha8 b o e h;omega) (by omega))
  TK.trans (TK.book (by omega) (by omega) (fun b o e h=>by have:=ha8 b o e h;omega)) (Below.refl _ _) (fun _=>rfl)
  (fun (pre:List (OT C dn)) W=>Keeps (fun x=>x=w1.heap.size+1) W0 W∧RowAt W (w1.heap.size+1) 3 [.int .i64 (dueL C D (pre.map (·.1)))])
  (fun c pre W=>False)
  (fun pre W W' row hs hg hr=>⟨hs.1.grown hg (fun x e=>.inr (hr x e).1),by
   have h1:=hg.block (w1.heap.size+1) hs.2.lt (fun e=>by have:=(hr _ e.symm).1;omega)
   have h2:W.heap[w1.heap.size+1]? = _:=hs.2
   exact h1.trans h2⟩)
  (fun c=>ownFrom_pure _ _)
  ⟨Keeps.refl _ _,RS.out⟩
  (fun y a' W=>a'={ tmps:=#[.agg #[.int .i64 C.s,.int .i64 C.w,.int .i64 C.d,.int .i64 C.p,.int .i64 C.q,.slice a5 C.sl.length c5,.slice a6 C.ow.length c6,.slice a7 C.ch.length c7,.slice a8 C.ta.length c8],.int .i64 dn,.agg #[.slice aJ D.jobs.length cJ,.slice aR D.rel.length cR,.int .i64 D.nxt,.slice aI D.ins.length cI,.slice aT D.tak.length cT,.slice aO D.out.length cO,.slice aE D.evs.length cE],.pointer (some ⟨w.heap.size,0,none⟩),undef,.pointer (some ⟨w.heap.size+1,0,none⟩),.int .i64 0,.int .i64 0,.int .i64 0,.pointer (some ⟨w1.heap.size,0,none⟩),.pointer (some ⟨w1.heap.size+1,0,none⟩),.int .i64 (y.1.1:Int),undef,.agg #[.int .i64 C.s,.int .i64 C.w,.int .i64 C.d,.int .i64 C.p,.int .i64 C.q,.slice a5 C.sl.length c5,.slice a6 C.ow.length c6,.slice a7 C.ch.length c7,.slice a8 C.ta.length c8],.int .i64 dn,.agg #[.slice aJ D.jobs.length cJ,.slice aR D.rel.length cR,.int .i64 D.nxt,.slice aI D.ins.length cI,.slice aT D.tak.length cT,.slice aO D.out.length cO,.slice aE D.evs.length cE],.int .i64 0,.int .i64 0,.bool false,undef,.agg #[.slice aJ D.jobs.length cJ,.slice aR D.rel.length cR,.int .i64 D.nxt,.slice aI D.ins.length cI,.slice aT D.tak.length cT,.slice aO D.out.length cO,.slice aE D.evs.length cE],.agg #[.int .i64 C.s,.int .i64 C.w,.int .i64 C.d,.int .i64 C.p,.int .i64 C.q,.slice a5 C.sl.length c5,.slice a6 C.ow.length c6,.slice a7 C.ch.length c7,.slice a8 C.ta.length c8],.int .i64 dn,.agg #[.slice aJ D.jobs.length cJ,.slice aR D.rel.length cR,.int .i64 D.nxt,.slice aI D.ins.length cI,.slice aT D.tak.length cT,.slice aO D.out.length cO,.slice aE D.evs.length cE,.int .i64 C.s,.int .i64 C.w,.int .i64 C.d,.int .i64 C.p,.int .i64 C.q,.slice a5 C.sl.length c5,.slice a6 C.ow.length c6,.slice a7 C.ch.length c7,.slice a8 C.ta.length c8,.int .i64 dn],.func (.func 173) #[] #[.pointer (some ⟨w1.heap.size+1+1,0,none⟩)],.int .i64 (y.1.1:Int),.agg #[.int .i64 y.1.2.1,.int .i64 y.1.2.2.1,.int .i64 y.1.2.2.2.1,.int .i64 y.1.2.2.2.2],undef,undef,undef,undef,undef,undef,undef,undef,undef,undef,undef],defers:=[] })
  (fun y a'=>ownFrom_pure _ _)
  ?assign ?body ?done ?stop
 case assign=>
  rintro l pre y W K hI hK
  dsimp only [encT]
  gi_wp2
  exact hK _ _ (KeepsFrom.refl _ _) (TK.refl _ _ _ _ _) hI rfl
 case stop=>
  rintro Dd c pre W hD hS hF
  exact hF.elim
 case body=>
  rintro l pre ⟨⟨k,tk0⟩,hy⟩ a' W hl ⟨r,hr⟩ ⟨hKp,hRow⟩ rfl hlen
  have hown:=own_mem _ hy
  dsimp only at hown
  have HEnd:Hid (dueL C D ((pre++[(⟨(k,tk0),hy⟩:OT C dn)]).map (·.1))=soon (dueL C D (pre.map (·.1))) (comesAt C D k)):=hid (by rw [List.map_append];exact dueL_snoc C D _ _)
  generalize dueL C D (pre.map (·.1))=s at *
  have hsh:=ckShp_iff.1 (ckD_iff.1 HZ.out).2.1
  have C99:=hid (comes_any w1.heap.size D ⟨aJ,aR,aI,aT,aO,aE,cJ,cR,cI,cT,cO,cE⟩ C ⟨a5,a6,a7,a8,c5,c6,c7,c8⟩ dn k W (HKI.out W hKp) hown.1 (by omega))
  generalize comesAt C D k=c at *
  have HKp:=hid hKp
  have HRow:=hid hRow
  clear hKp hRow hTA k15 k16 hBk
  gi_wp2
  refine ⟨trivial,(CallsIn.inRound l (callsIn_wide.2 C99.out)).mono ?_⟩
  rintro e w5 ⟨rfl,hb5⟩
  have HKp5:=hid (HKp.out.below hb5)
  have HR5:=hid (HRow.out.below hb5 lr)
  have HO5:=hid (keepsOthers_below hb5)
  have s0:=HR5.out.cell 0 _ rfl
  have f0:=HR5.out.frozen 0
  clear hb5 C99
  by_cases h1:s<0
  ·have HE2:Hid (soon s c=c):=hid (by simp [soon,h1])
   gi_wp2
   exact ⟨(HO5.out.trans (KeepsOthers.setCell _ _ _)).from _,HTK.out _ _ HKp.out (HKp5.out.set (.inl rfl) 0 _) (by have:=HO5.out.size;simpa using this),HKp5.out.set (.inl rfl) 0 _,by rw [HEnd.out,HE2.out];exact rowAt_set1 HR5.out 0 _⟩
  ·by_cases h2:c<s
   ·have HE2:Hid (soon s c=c):=hid (by simp [soon,h1,h2])
    gi_wp2
    exact ⟨(HO5.out.trans (KeepsOthers.setCell _ _ _)).from _,HTK.out _ _ HKp.out (HKp5.out.set (.inl rfl) 0 _) (by have:=HO5.out.size;simpa using this),HKp5.out.set (.inl rfl) 0 _,by rw [HEnd.out,HE2.out];exact rowAt_set1 HR5.out 0 _⟩
   ·have HE2:Hid (soon s c=s):=hid (by simp [soon,h1,h2])
    gi_wp2
    exact ⟨HO5.out.from _,HTK.out _ _ HKp.out HKp5.out HO5.out.size,HKp5.out,by rw [HEnd.out,HE2.out];exact HR5.out⟩
 case done=>
  rintro Dd ys W hD hS ⟨hKp,hRow⟩ hdf
  have hys:ys.map (·.1)=ownT C dn C.ta.length:=hS
  rw [hys] at hRow
  have s0:=hRow.cell 0 _ rfl
  have HBF:Hid (Below w.heap.size w W):=hid (HB0.out.trans (hKp.to_below (by omega) (fun x hx=>by omega)))
  have HDF:=hid hdf
  have HD9:=hid hD
  generalize hdl:dueL C D (ownT C dn C.ta.length)=du at *
  have HDL:=hid hdl
  clear hdf hdl hTA k15 k16 hBk
  go_wp2
  refine ⟨by simp,.inl ⟨_,_,rfl,run_takeDeferred HDF.out,?_⟩⟩
  refine ⟨.tuple #[.int .i64 du,.int .i64 0],?_,by rw [HDL.out],HBF.out.trans (belowK_b (w:=w) lr W Dd _ _ (by have:=HD9.out;omega) HDF.out rfl rfl)⟩
  simp [results,Tryz.results158,go_sem]
end Go.Proofs.YtejhccmclanlmaaGreatDoor
