/- Texts joined: Yk Yl. -/
import Derived.Test.YtejhccmclanlmaaGreatDoorK17
set_option linter.unusedVariables false
set_option maxRecDepth 100000
namespace Go.Proofs.YtejhccmclanlmaaGreatDoor
open Go.RowKit
set_option maxHeartbeats 4000000 in
theorem ahead_any (kb:Nat) (D:Dom) (A:DMem) (C:Conf) (B:Mem) (dn:Int) (x y:JobT) (w:World) (hK:KeepIn w kb D A C B dn) (hx0:0≤x.1) (hx1:x.1<C.ta.length) (hy0:0≤y.1) (hy1:y.1<C.ta.length) :
  Calls Tryz.prog 189 #[.pointer (some ⟨kb,0,none⟩),jv x,jv y] w fun e w'=>e=.returned (.bool (aheadB C x y))∧Below w.heap.size w w':=by
 obtain ⟨x0,x1,x2,x3,x4,x5⟩:=x
 obtain ⟨y0,y1,y2,y3,y4,y5⟩:=y
 dsimp only at *
 have q1:=below_new w (.cells #[.int .i64 x0,.int .i64 x1,.int .i64 x2,.int .i64 x3,.bool x4,.bool x5] 87)
 have q2:=below_new (w.alloc (.cells #[.int .i64 x0,.int .i64 x1,.int .i64 x2,.int .i64 x3,.bool x4,.bool x5] 87)) (.cells #[.int .i64 y0,.int .i64 y1,.int .i64 y2,.int .i64 y3,.bool y4,.bool y5] 87)
 have HK:=hid ((hK.keep q1).keep q2)
 have HB:=hid (btrans q1 q2)
 have HX:=hid ((rowAt_new2 w w.heap.size [.int .i64 x0,.int .i64 x1,.int .i64 x2,.int .i64 x3,.bool x4,.bool x5] 87 rfl).below q2 lr)
 have HY:=hid (rowAt_new2 (w.alloc (.cells #[.int .i64 x0,.int .i64 x1,.int .i64 x2,.int .i64 x3,.bool x4,.bool x5] 87)) (w.heap.size+1) [.int .i64 y0,.int .i64 y1,.int .i64 y2,.int .i64 y3,.bool y4,.bool y5] 87 (by simp))
 have HE:Hid (aheadB C (x0,x1,x2,x3,x4,x5) (y0,y1,y2,y3,y4,y5)=decide (orI (cmpI (dueAt C (x0,x1,x2,x3,x4,x5)) (dueAt C (y0,y1,y2,y3,y4,y5))) (cmpI x0 y0) (cmpI x1 y1)<0)):=hid rfl
 clear q1 q2 hK
 dsimp only [jv] at *
 go_enter Tryz.func189,Tryz.ntmps189
 go_wp2_with fail
 generalize hW:World.alloc (World.alloc w _) _=W at *
 clear hW
 have CX:Hid (∀ wx,Below W.heap.size W wx→Calls Tryz.prog 175 #[.pointer (some ⟨kb,0,none⟩),.agg #[.int .i64 x0,.int .i64 x1,.int .i64 x2,.int .i64 x3,.bool x4,.bool x5]] wx fun e w'=>e=.returned (.int .i64 (dueAt C (x0,x1,x2,x3,x4,x5)))∧Below wx.heap.size wx w'):=hid fun wx h=>deadline_any kb D A C B dn (x0,x1,x2,x3,x4,x5) wx (HK.out.keep h) hx0 hx1
 have CY:Hid (∀ wx,Below W.heap.size W wx→Calls Tryz.prog 175 #[.pointer (some ⟨kb,0,none⟩),.agg #[.int .i64 y0,.int .i64 y1,.int .i64 y2,.int .i64 y3,.bool y4,.bool y5]] wx fun e w'=>e=.returned (.int .i64 (dueAt C (y0,y1,y2,y3,y4,y5)))∧Below wx.heap.size wx w'):=hid fun wx h=>deadline_any kb D A C B dn (y0,y1,y2,y3,y4,y5) wx (HK.out.keep h) hy0 hy1
 generalize dueAt C (x0,x1,x2,x3,x4,x5)=dx at *
 generalize dueAt C (y0,y1,y2,y3,y4,y5)=dy at *
 have HS:Hid (∀ w',Below W.heap.size W w'→w'.cell? ⟨w.heap.size,0,none⟩=some (.int .i64 x0)∧w'.cell? ⟨w.heap.size,1,none⟩=some (.int .i64 x1)∧w'.cell? ⟨w.heap.size,2,none⟩=some (.int .i64 x2)∧w'.cell? ⟨w.heap.size,3,none⟩=some (.int .i64 x3)∧w'.cell? ⟨w.heap.size,4,none⟩=some (.bool x4)∧w'.cell? ⟨w.heap.size,5,none⟩=some (.bool x5)∧w'.cell? ⟨w.heap.size+1,0,none⟩=some (.int .i64 y0)∧w'.cell? ⟨w.heap.size+1,1,none⟩=some (.int .i64 y1)∧w'.cell? ⟨w.heap.size+1,2,none⟩=some (.int .i64 y2)∧w'.cell? ⟨w.heap.size+1,3,none⟩=some (.int .i64 y3)∧w'.cell? ⟨w.heap.size+1,4,none⟩=some (.bool y4)∧w'.cell? ⟨w.heap.size+1,5,none⟩=some (.bool y5)):=hid fun w' h=>⟨bkeep h (HX.out.cell 0 _ rfl) lr,bkeep h (HX.out.cell 1 _ rfl) lr,bkeep h (HX.out.cell 2 _ rfl) lr,bkeep h (HX.out.cell 3 _ rfl) lr,bkeep h (HX.out.cell 4 _ rfl) lr,bkeep h (HX.out.cell 5 _ rfl) lr,bkeep h (HY.out.cell 0 _ rfl) lr,bkeep h (HY.out.cell 1 _ rfl) lr,bkeep h (HY.out.cell 2 _ rfl) lr,bkeep h (HY.out.cell 3 _ rfl) lr,bkeep h (HY.out.cell 4 _ rfl) lr,bkeep h (HY.out.cell 5 _ rfl) lr⟩
 have hB:Below W.heap.size W W.drew:=(Below.refl _ _).drew
 clear HK HX HY hx0 hx1 hy0 hy1
 go_region_held3 (fun w'=>w'.cell? ⟨w.heap.size,0,none⟩=some (.int .i64 x0)∧w'.cell? ⟨w.heap.size,1,none⟩=some (.int .i64 x1)∧w'.cell? ⟨w.heap.size,2,none⟩=some (.int .i64 x2)∧w'.cell? ⟨w.heap.size,3,none⟩=some (.int .i64 x3)∧w'.cell? ⟨w.heap.size,4,none⟩=some (.bool x4)∧w'.cell? ⟨w.heap.size,5,none⟩=some (.bool x5)∧w'.cell? ⟨w.heap.size+1,0,none⟩=some (.int .i64 y0)∧w'.cell? ⟨w.heap.size+1,1,none⟩=some (.int .i64 y1)∧w'.cell? ⟨w.heap.size+1,2,none⟩=some (.int .i64 y2)∧w'.cell? ⟨w.heap.size+1,3,none⟩=some (.int .i64 y3)∧w'.cell? ⟨w.heap.size+1,4,none⟩=some (.bool y4)∧w'.cell? ⟨w.heap.size+1,5,none⟩=some (.bool y5))
  (first|exact HS.out _ hB|exact HS.out _ (hB.alloc hB.size _)|go_keep)
  (first
   | (go_at_call 175;with_reducible refine Calls.mono (CX.out _ hB) ?_;rintro e w3 ⟨rfl,hb3⟩;have hB:=btrans hB hb3)
   | (go_at_call 175;with_reducible refine Calls.mono (CY.out _ hB) ?_;rintro e w3 ⟨rfl,hb3⟩;have hB:=btrans hB hb3)
   | (go_at_call 194;refine (compare_any _ _ _).mono ?_;rintro e w3 ⟨rfl,hb3⟩;have hB:=btrans hB hb3)
   | (go_at_call 193;refine Calls.mono (or_any _ _ _ _ _ (by exact rowAt_new2 _ _ [_,_,_] 3 rfl)) ?_;rintro e w3 ⟨rfl,hb3⟩;have hB:=btrans (hB.alloc hB.size _) hb3))
 have HF:=hid hB
 clear hB HS CX CY
 go_wp2
 go_ret
 exact ⟨ret_bool HE.out.symm,btrans HB.out HF.out⟩
def idxP {α:Type} (p:α→Bool) (l:List α):Int:=
 match l.findIdx? p with
 | some k=>k
 | none=>-1
theorem idxP_at {α:Type} (p:α→Bool) (l:List α) (k:Nat) (h:k<l.length) (he:p l[k]=true) (hno:∀ j (hj:j<l.length),j<k→p l[j]=false):idxP p l=k:=by
 have:l.findIdx? p=some k:=List.findIdx?_eq_some_iff_getElem.2 ⟨h,he,fun j hj=>by simp [hno j (by omega) hj]⟩
 simp [idxP,this]
theorem idxP_none {α:Type} (p:α→Bool) (l:List α) (hno:∀ j (hj:j<l.length),p l[j]=false):idxP p l=-1:=by
 have:l.findIdx? p=none:=List.findIdx?_eq_none_iff.2 fun x hx=>by
  obtain ⟨j,hj,rfl⟩:=List.getElem_of_mem hx
  exact hno j hj
 simp [idxP,this]
theorem idxP_any {α:Type} (p:α→Bool) (l:List α):0≤idxP p l↔l.any p=true:=by
 unfold idxP
 cases h:l.findIdx? p with
 | none=>simp [List.findIdx?_eq_none_iff] at h;simp;exact h
 | some k=>
  obtain ⟨hk,he,_⟩:=List.findIdx?_eq_some_iff_getElem.1 h
  simp only [List.any_eq_true]
  exact ⟨fun _=>⟨_,List.getElem_mem hk,he⟩,fun _=>by omega⟩
def anyA (C:Conf) (J:List JobT) (y:JobT):Bool:=J.any fun x=>aheadB C x y
def pickI (C:Conf) (J:List JobT):Int:=idxP (fun y=>!anyA C J y) J
def TasksOk (C:Conf) (J:List JobT):Prop:=∀ i (h:i<J.length),0≤J[i].1∧J[i].1<C.ta.length
set_option maxHeartbeats 1000000 in
theorem first11_any (kb cb jb:Nat) (D:Dom) (A:DMem) (C:Conf) (B:Mem) (dn:Int) (x y:JobT) (w:World) (hK:KeepIn w kb D A C B dn) (hc:w.cell? ⟨cb,0,none⟩=some (.pointer (some ⟨kb,0,none⟩))) (hy:RowAt w jb 87 [.int .i64 y.1,.int .i64 y.2.1,.int .i64 y.2.2.1,.int .i64 y.2.2.2.1,.bool y.2.2.2.2.1,.bool y.2.2.2.2.2])
  (hx0:0≤x.1) (hx1:x.1<C.ta.length) (hy0:0≤y.1) (hy1:y.1<C.ta.length) :
  Calls Tryz.prog 188 #[jv x,.pointer (some ⟨cb,0,none⟩),.pointer (some ⟨jb,0,none⟩)] w fun e w'=>e=.returned (.bool (aheadB C x y))∧Below w.heap.size w w':=by
 obtain ⟨x0,x1,x2,x3,x4,x5⟩:=x
 obtain ⟨y0,y1,y2,y3,y4,y5⟩:=y
 dsimp only [jv] at *
 have q1:=below_new w (.cells #[.int .i64 x0,.int .i64 x1,.int .i64 x2,.int .i64 x3,.bool x4,.bool x5] 87)
 have HK:=hid (hK.keep q1)
 have HB:=hid q1
 have hc1:=bkeep q1 hc lr
 have hy1':=hy.below q1 lr
 have d0:=hy1'.cell 0 _ rfl
 have d1:=hy1'.cell 1 _ rfl
 have d2:=hy1'.cell 2 _ rfl
 have d3:=hy1'.cell 3 _ rfl
 have d4:=hy1'.cell 4 _ rfl
 have d5:=hy1'.cell 5 _ rfl
 clear hc hy hy1' q1 hK
 go_enter Tryz.func188,Tryz.ntmps188
 go_wp2_with fail
 refine (ahead_any kb D A C B dn (x0,x1,x2,x3,x4,x5) (y0,y1,y2,y3,y4,y5) _ HK.out hx0 hx1 hy0 hy1).mono ?_
 rintro e w1 ⟨rfl,hb1⟩
 generalize hq:aheadB C (x0,x1,x2,x3,x4,x5) (y0,y1,y2,y3,y4,y5)=q at *
 have HQ:=hid hq
 clear hq
 go_wp2
 go_ret
 exact ⟨ret_bool HQ.out.symm,btrans HB.out hb1⟩
set_option maxHeartbeats 1000000 in
theorem index128_131 (kb cb jb:Nat) (D:Dom) (A:DMem) (C:Conf) (B:Mem) (dn:Int) (y:JobT) (w:World) (hK:KeepIn w kb D A C B dn) (hc:w.cell? ⟨cb,0,none⟩=some (.pointer (some ⟨kb,0,none⟩))) (hy:RowAt w jb 87 [.int .i64 y.1,.int .i64 y.2.1,.int .i64 y.2.2.1,.int .i64 y.2.2.2.1,.bool y.2.2.2.2.1,.bool y.2.2.2.2.2])
  (hJ:TasksOk C D.jobs) (hy0:0≤y.1) (hy1:y.1<C.ta.length) :
  Calls Tryz.prog 185 #[.slice A.aJ D.jobs.length A.cJ,.func (.func 188) #[] #[.pointer (some ⟨cb,0,none⟩),.pointer (some ⟨jb,0,none⟩)]] w fun e w'=>e=.returned (.int .i64 (idxP (fun x=>aheadB C x y) D.jobs))∧Below w.heap.size w w':=by
 have HK:=hid hK
 have HC:=hid hc
 have HY:=hid hy
 have hl:=hK.dom.lJ
 have hw:=hK.dom.jobs
 clear hK hc hy
 go_enter Tryz.func185,Tryz.ntmps185
 go_wp2
 go_loopw [8] (fun i wr=>∃ k:Nat,k≤D.jobs.length∧i=.int .i64 k∧Below w.heap.size w wr∧∀ j (hj:j<D.jobs.length),j<k→aheadB C D.jobs[j] y=false) (fun i _=>D.jobs.length - (intOf i).toNat)
 case atStart=>exact ⟨0,Nat.zero_le _,rfl,Below.refl _ _,by omega⟩
 case round=>
  obtain ⟨k,hk,rfl,hbl,hno⟩:=hrel
  have Hno:=hid hno
  clear hno
  by_cases hlt:k<D.jobs.length
  ·obtain ⟨b',o',e',c0,c1,c2,c3,c4,c5⟩:=hw k hlt
   have hj:=hJ k hlt
   rw [e']
   replace c0:=bkeep hbl c0 lr
   replace c1:=bkeep hbl c1 lr
   replace c2:=bkeep hbl c2 lr
   replace c3:=bkeep hbl c3 lr
   replace c4:=bkeep hbl c4 lr
   replace c5:=bkeep hbl c5 lr
   go_wp2_with fail
   refine (first11_any kb cb jb D A C B dn D.jobs[k] y _ (HK.out.keep hbl) (bkeep hbl HC.out lr) (HY.out.below hbl lr) hj.1 hj.2 hy0 hy1).mono ?_
   rintro e w' ⟨rfl,hb2⟩
   cases hx:aheadB C D.jobs[k] y with
   | true=>
    have HX:=hid (idxP_at (fun x=>aheadB C x y) D.jobs k hlt hx Hno.out)
    clear hx
    go_wp2
    go_ret
    exact ⟨ret_int HX.out.symm,btrans hbl hb2⟩
   | false=>
    have HX:=hid hx
    clear hx
    go_wp2
    go_roundw
    case rel=>
     refine ⟨k+1,by omega,by go_num,btrans hbl hb2,fun j hj hlt2=>?_⟩
     by_cases e:j=k
     ·subst e;exact HX.out
     ·exact Hno.out j hj (by omega)
    case measure=>simp [intOf];omega
  ·go_wp2
   go_ret
   exact ⟨ret_int (idxP_none _ _ (fun j hj=>Hno.out j hj (by omega))).symm,hbl⟩
set_option maxHeartbeats 1000000 in
theorem contains130_any (kb cb jb:Nat) (D:Dom) (A:DMem) (C:Conf) (B:Mem) (dn:Int) (y:JobT) (w:World) (hK:KeepIn w kb D A C B dn) (hc:w.cell? ⟨cb,0,none⟩=some (.pointer (some ⟨kb,0,none⟩))) (hy:RowAt w jb 87 [.int .i64 y.1,.int .i64 y.2.1,.int .i64 y.2.2.1,.int .i64 y.2.2.2.1,.bool y.2.2.2.2.1,.bool y.2.2.2.2.2])
  (hJ:TasksOk C D.jobs) (hy0:0≤y.1) (hy1:y.1<C.ta.length) :
  Calls Tryz.prog 187 #[.slice A.aJ D.jobs.length A.cJ,.func (.func 188) #[] #[.pointer (some ⟨cb,0,none⟩),.pointer (some ⟨jb,0,none⟩)]] w fun e w'=>e=.returned (.bool (anyA C D.jobs y))∧Below w.heap.size w w':=by
 have HK:=hid hK
 have HC:=hid hc
 have HY:=hid hy
 clear hK hc hy
 go_enter Tryz.func187,Tryz.ntmps187
 go_wp2_with fail
 refine (index128_131 kb cb jb D A C B dn y _ HK.out HC.out HY.out hJ hy0 hy1).mono ?_
 rintro e w' ⟨rfl,hb⟩
 have HR:=hid (idxP_any (fun x=>aheadB C x y) D.jobs)
 generalize idxP (fun x=>aheadB C x y) D.jobs=r at *
 go_wp2
 go_ret
 exact ⟨ret_bool (by rw [Bool.eq_iff_iff];simpa [anyA] using HR.out),hb⟩
set_option maxHeartbeats 1000000 in
theorem first1_any (kb cb:Nat) (D:Dom) (A:DMem) (C:Conf) (B:Mem) (dn:Int) (y:JobT) (w:World) (hK:KeepIn w kb D A C B dn) (hc:w.cell? ⟨cb,0,none⟩=some (.pointer (some ⟨kb,0,none⟩)))
  (hJ:TasksOk C D.jobs) (hy0:0≤y.1) (hy1:y.1<C.ta.length) :
  Calls Tryz.prog 186 #[jv y,.pointer (some ⟨cb,0,none⟩)] w fun e w'=>e=.returned (.bool (!anyA C D.jobs y))∧Below w.heap.size w w':=by
 obtain ⟨y0,y1,y2,y3,y4,y5⟩:=y
 dsimp only [jv] at *
 have q1:=below_new w (.cells #[.int .i64 y0,.int .i64 y1,.int .i64 y2,.int .i64 y3,.bool y4,.bool y5] 87)
 have hK1:=hK.keep q1
 have HK:=hid hK1
 have HB:=hid q1
 have HY:=hid (rowAt_new2 w w.heap.size [.int .i64 y0,.int .i64 y1,.int .i64 y2,.int .i64 y3,.bool y4,.bool y5] 87 rfl)
 have hc1:=bkeep q1 hc lr
 have c0:=hK1.row.cell 0 _ rfl
 have HC1:=hid hc1
 have hmf:∀ (fn:Fn) (first cap:Array Value) (w:World),(Instr.makeFunc fn first cap).run Tryz.prog w=.ok (.func fn first cap) w:=fun _ _ _ _=>rfl
 clear hc q1 hK hK1
 go_enter Tryz.func186,Tryz.ntmps186
 go_wp2_with fail
 refine (contains130_any kb cb w.heap.size D A C B dn (y0,y1,y2,y3,y4,y5) _ HK.out HC1.out HY.out hJ hy0 hy1).mono ?_
 rintro e w1 ⟨rfl,hb1⟩
 generalize hq:anyA C D.jobs (y0,y1,y2,y3,y4,y5)=q at *
 have HQ:=hid hq
 clear hq
 go_wp2
 go_ret
 exact ⟨ret_bool (by rw [HQ.out]),btrans HB.out hb1⟩
set_option maxHeartbeats 1000000 in
theorem index128_129 (kb cb:Nat) (D:Dom) (A:DMem) (C:Conf) (B:Mem) (dn:Int) (w:World) (hK:KeepIn w kb D A C B dn) (hc:w.cell? ⟨cb,0,none⟩=some (.pointer (some ⟨kb,0,none⟩))) (hJ:TasksOk C D.jobs) :
  Calls Tryz.prog 185 #[.slice A.aJ D.jobs.length A.cJ,.func (.func 186) #[] #[.pointer (some ⟨cb,0,none⟩)]] w fun e w'=>e=.returned (.int .i64 (pickI C D.jobs))∧Below w.heap.size w w':=by
 have HK:=hid hK
 have HC:=hid hc
 have hl:=hK.dom.lJ
 have hw:=hK.dom.jobs
 clear hK hc
 go_enter Tryz.func185,Tryz.ntmps185
 go_wp2
 go_loopw [8] (fun i wr=>∃ k:Nat,k≤D.jobs.length∧i=.int .i64 k∧Below w.heap.size w wr∧∀ j (hj:j<D.jobs.length),j<k→(!anyA C D.jobs D.jobs[j])=false) (fun i _=>D.jobs.length - (intOf i).toNat)
 case atStart=>exact ⟨0,Nat.zero_le _,rfl,Below.refl _ _,by omega⟩
 case round=>
  obtain ⟨k,hk,rfl,hbl,hno⟩:=hrel
  have Hno:=hid hno
  clear hno
  by_cases hlt:k<D.jobs.length
  ·obtain ⟨b',o',e',c0,c1,c2,c3,c4,c5⟩:=hw k hlt
   have hj:=hJ k hlt
   rw [e']
   replace c0:=bkeep hbl c0 lr
   replace c1:=bkeep hbl c1 lr
   replace c2:=bkeep hbl c2 lr
   replace c3:=bkeep hbl c3 lr
   replace c4:=bkeep hbl c4 lr
   replace c5:=bkeep hbl c5 lr
   go_wp2_with fail
   refine (first1_any kb cb D A C B dn D.jobs[k] _ (HK.out.keep hbl) (bkeep hbl HC.out lr) hJ hj.1 hj.2).mono ?_
   rintro e w' ⟨rfl,hb2⟩
   cases hx:!anyA C D.jobs D.jobs[k] with
   | true=>
    have HX:=hid (idxP_at (fun y=>!anyA C D.jobs y) D.jobs k hlt hx Hno.out)
    clear hx
    go_wp2
    go_ret
    exact ⟨ret_int HX.out.symm,btrans hbl hb2⟩
   | false=>
    have HX:=hid hx
    clear hx
    go_wp2
    go_roundw
    case rel=>
     refine ⟨k+1,by omega,by go_num,btrans hbl hb2,fun j hj hlt2=>?_⟩
     by_cases e:j=k
     ·subst e;exact HX.out
     ·exact Hno.out j hj (by omega)
    case measure=>simp [intOf];omega
  ·go_wp2
   go_ret
   exact ⟨ret_int (idxP_none (fun y=>!anyA C D.jobs y) _ (fun j hj=>Hno.out j hj (by omega))).symm,hbl⟩
set_option maxHeartbeats 1000000 in
theorem first_any (kb:Nat) (D:Dom) (A:DMem) (C:Conf) (B:Mem) (dn:Int) (w:World) (hK:KeepIn w kb D A C B dn) (hJ:TasksOk C D.jobs) :
  Calls Tryz.prog 176 #[.pointer (some ⟨kb,0,none⟩)] w fun e w'=>e=.returned (.int .i64 (pickI C D.jobs))∧Below w.heap.size w w':=by
 have q1:=below_new w (.cells #[.pointer (some ⟨kb,0,none⟩)] 211)
 have hK1:=hK.keep q1
 have HK:=hid hK1
 have HB:=hid q1
 have HC:=hid ((rowAt_new2 w w.heap.size [.pointer (some ⟨kb,0,none⟩)] 211 rfl).cell 0 _ rfl)
 have c0:=hK1.row.cell 0 _ rfl
 have hmf:∀ (fn:Fn) (first cap:Array Value) (w:World),(Instr.makeFunc fn first cap).run Tryz.prog w=.ok (.func fn first cap) w:=fun _ _ _ _=>rfl
 clear q1 hK hK1
 go_enter Tryz.func176,Tryz.ntmps176
 go_wp2_with fail
 refine (index128_129 kb w.heap.size D A C B dn _ HK.out HC.out hJ).mono ?_
 rintro e w1 ⟨rfl,hb1⟩
 generalize hq:pickI C D.jobs=q at *
 have HQ:=hid hq
 clear hq
 go_wp2
 go_ret
 exact ⟨ret_int HQ.out.symm,btrans HB.out hb1⟩
end Go.Proofs.YtejhccmclanlmaaGreatDoor
