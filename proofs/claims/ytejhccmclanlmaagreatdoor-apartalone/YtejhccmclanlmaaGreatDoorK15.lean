/- Texts joined: Yg Yh Fc. -/
import Derived.Test.YtejhccmclanlmaaGreatDoorK13
set_option linter.unusedVariables false
set_option maxRecDepth 100000
namespace Go.Proofs.YtejhccmclanlmaaGreatDoor
open Go.RowKit Go.Shelf
attribute [local go_sem] Oper.semAt_some
set_option maxHeartbeats 1000000 in
theorem tasks_in (n:Nat) (p0:Option Addr) (w:World) :
  CallsIn Fence.wide n Tryz.prog 153 #[.pointer p0] w fun e w'=>e=.returned (.func (.func 173) #[] #[.pointer (some ⟨w.heap.size,0,none⟩)])∧∃ t,w'=w.alloc (.cells #[.pointer p0] t):=by
 refine callsIn_of_wp Tryz.func153 rfl trivial ?_ rfl
 simp only [Tryz.ntmps153,List.size_toArray,List.length_cons,List.length_nil,Nat.reduceAdd,Nat.reduceSub,Array.replicate_succ,Array.replicate_zero,List.push_toArray,List.append_toArray,List.nil_append,List.cons_append]
 gi_wp2
 go_ret
 exact ⟨rfl,_,rfl⟩
def Box4 (W:World) (B:Nat) (t:Int×Int×Int×Int):Prop:=W.heap[B]? = some (.cells #[.int .i64 t.1,.int .i64 t.2.1,.int .i64 t.2.2.1,.int .i64 t.2.2.2] 108 (0,0))
theorem Box4.lt {W:World} {B:Nat} {t:Int×Int×Int×Int} (h:Box4 W B t):B<W.heap.size:=(Array.getElem?_eq_some_iff.1 h).1
theorem Box4.cells {W:World} {B:Nat} {t:Int×Int×Int×Int} (h:Box4 W B t):W.cell? ⟨B,0,none⟩=some (.int .i64 t.1)∧W.cell? ⟨B,1,none⟩=some (.int .i64 t.2.1)∧W.cell? ⟨B,2,none⟩=some (.int .i64 t.2.2.1)∧W.cell? ⟨B,3,none⟩=some (.int .i64 t.2.2.2):=by
 refine ⟨?_,?_,?_,?_⟩ <;> simp [World.cell?,show W.heap[B]? = _ from h]
theorem Box4.frozen {W:World} {B:Nat} {t:Int×Int×Int×Int} (h:Box4 W B t):W.frozen? ⟨B,0,none⟩=false∧W.frozen? ⟨B,1,none⟩=false∧W.frozen? ⟨B,2,none⟩=false∧W.frozen? ⟨B,3,none⟩=false:=by
 refine ⟨?_,?_,?_,?_⟩ <;> simp [World.frozen?,show W.heap[B]? = _ from h]
theorem Box4.new (W:World) (t:Int×Int×Int×Int):Box4 (W.alloc (.cells #[.int .i64 t.1,.int .i64 t.2.1,.int .i64 t.2.2.1,.int .i64 t.2.2.2] 108)) W.heap.size t:=World.alloc_heap_new W _
theorem Box4.kept {W W':World} {row:Option Nat} {B:Nat} {t:Int×Int×Int×Int} (h:Box4 W B t) (hg:W.grownBy W' row) (hne:some B≠row):Box4 W' B t:=(hg.block B h.lt hne).trans h
theorem Box4.alloc {W:World} {B:Nat} {t:Int×Int×Int×Int} (h:Box4 W B t) (o:Obj):Box4 (W.alloc o) B t:=h.kept (World.grownBy_alloc W o none) (by simp)
theorem box4_own {β:Type} (B:Nat) (f:β→Int×Int×Int×Int):Own (fun s W=>Box4 W B (f s)):=fun s X Y row hs hg hrow=>
 hs.kept hg (fun e'=>by obtain ⟨o,ho,hc⟩:=hrow B e'.symm;rw [show X.heap[B]? = _ from hs] at ho;cases ho;cases hc)
theorem grownBy_set4 (W:World) (b o:Nat) (v:Value):W.grownBy (W.setCell ⟨b,o,none⟩ v) (some b):=
 ⟨rfl,rfl,rfl,(KeepsWalks.setCell W _ v).size,fun k _ hk=>Below.heap_setCell _ _ _ k (fun e=>hk (by rw [e]))⟩
theorem set_at {W:World} {B o:Nat} {xs:Array Value} {ty:TypeId} {v':Value} (h:W.heap[B]? = some (.cells xs ty (0,0))):(W.setCell ⟨B,o,none⟩ v').heap[B]? = some (.cells (xs.setIfInBounds o v') ty (0,0)):=by
 obtain ⟨hlt,hk⟩:=Array.getElem?_eq_some_iff.1 h
 show (W.heap.modify B _)[B]? = _
 rw [Array.getElem?_eq_getElem (by rw [Array.size_modify];exact hlt),Array.getElem_modify_self,hk]
 rfl
def put4 (W:World) (B:Nat) (t:Int×Int×Int×Int):World:=(((W.setCell ⟨B,0,none⟩ (.int .i64 t.1)).setCell ⟨B,1,none⟩ (.int .i64 t.2.1)).setCell ⟨B,2,none⟩ (.int .i64 t.2.2.1)).setCell ⟨B,3,none⟩ (.int .i64 t.2.2.2)
theorem Box4.set {W:World} {B:Nat} {t:Int×Int×Int×Int} (h:Box4 W B t) (t':Int×Int×Int×Int):Box4 (put4 W B t') B t':=by
 have s0:=set_at (v':=.int .i64 t'.1) (o:=0) (show W.heap[B]? = _ from h)
 have s1:=set_at (v':=.int .i64 t'.2.1) (o:=1) s0
 have s2:=set_at (v':=.int .i64 t'.2.2.1) (o:=2) s1
 have s3:=set_at (v':=.int .i64 t'.2.2.2) (o:=3) s2
 unfold Box4 put4
 rw [s3]
 rfl
theorem keepsOthers_put4 (W:World) (B:Nat) (t:Int×Int×Int×Int):KeepsOthers W (put4 W B t):=by
 unfold put4
 exact (((KeepsOthers.setCell _ _ _).trans (KeepsOthers.setCell _ _ _)).trans (KeepsOthers.setCell _ _ _)).trans (KeepsOthers.setCell _ _ _)
theorem Boxed.put4 {W:World} {B B':Nat} {ty:TypeId} {v:Value} (h:Boxed W B ty v) (hne:B≠B') (t:Int×Int×Int×Int):Boxed (put4 W B' t) B ty v:=by
 have hn:some B≠some B':=fun e=>hne (by cases e;rfl)
 exact (((h.kept (grownBy_set4 _ _ _ _) hn).kept (grownBy_set4 _ _ _ _) hn).kept (grownBy_set4 _ _ _ _) hn).kept (grownBy_set4 _ _ _ _) hn
theorem below_put4 {n₀:Nat} {a W:World} (h:Below n₀ a W) {B:Nat} (hB:n₀≤B) (t:Int×Int×Int×Int):Below n₀ a (put4 W B t):=
 (((h.setCell (p:=⟨B,0,none⟩) hB _).setCell (p:=⟨B,1,none⟩) hB _).setCell (p:=⟨B,2,none⟩) hB _).setCell (p:=⟨B,3,none⟩) hB _
def Unmet (pre:List NT) (x:Int):Prop:=∀ y∈pre,(y.1:Int)≠x
def lastT (pre:List NT):NT:=pre.getLastD (0,0,0,0,0)
theorem lastT_snoc (pre:List NT) (y:NT):lastT (pre++[y])=y:=by simp [lastT,List.getLastD_eq_getLast?]
def ownV (C:Conf) (dn x:Int):Value:=
 if 0≤x∧x<C.ta.length∧(C.ta.getD x.toNat (0,0,0,0)).1=dn then
  let t:=C.ta.getD x.toNat (0,0,0,0)
  .tuple #[.agg #[.int .i64 t.1,.int .i64 t.2.1,.int .i64 t.2.2.1,.int .i64 t.2.2.2],.bool true]
 else .tuple #[.agg #[.int .i64 0,.int .i64 0,.int .i64 0,.int .i64 0],.bool false]
theorem mem_ownT {C:Conf} {dn:Int} {k:Nat} {y:NT}:y∈ownT C dn k↔y.1<k∧y.2=C.ta.getD y.1 (0,0,0,0)∧y.2.1=dn:=by
 simp only [ownT,List.mem_filterMap,List.mem_range]
 constructor
 ·rintro ⟨i,hi,h⟩
  split at h
  ·cases h;exact ⟨hi,rfl,by assumption⟩
  ·cases h
 ·rintro ⟨h1,h2,h3⟩
  refine ⟨y.1,h1,?_⟩
  rw [if_pos (by rw [← h2];exact h3),← h2]
set_option maxHeartbeats 4000000 in
theorem own_in (n:Nat) (hn:6≤n) (kb:Nat) (C:Conf) (a8:Option Addr) (c8:Nat) (dn x:Int) (hln:C.ta.length≤9223372036854775807)
  (w:World) (hkb:kb<w.heap.size) (h8:w.cell? ⟨kb,15,none⟩=some (.slice a8 C.ta.length c8)) (h16:w.cell? ⟨kb,16,none⟩=some (.int .i64 dn)) (hT:TasksIn w a8 C.ta) (ha8:∀ b o,a8=some ⟨b,o,none⟩→0<C.ta.length→b<w.heap.size) :
  CallsIn Fence.wide n Tryz.prog 151 #[.pointer (some ⟨kb,0,none⟩),.int .i64 x] w fun e w'=>e=.returned (ownV C dn x)∧Below w.heap.size w w':=by
 have h1:1≤n:=by omega
 refine callsIn_of_wp_marks Tryz.func151 rfl trivial ?_ rfl
 simp only [Tryz.ntmps151,List.size_toArray,List.length_cons,List.length_nil,Nat.reduceAdd,Nat.reduceSub,Array.replicate_succ,Array.replicate_zero,List.push_toArray,List.append_toArray,List.nil_append,List.cons_append]
 gi_wp2
 refine ⟨trivial,(tasks_in (n - 1) _ _).mono ?_⟩
 rintro e w' ⟨rfl,t,rfl⟩
 gi_wp2
 have bX:=(((Boxed.new w 3 (.int .i64 x)).alloc (.cells #[.int .i64 0,.int .i64 0,.int .i64 0,.int .i64 0] 108)).alloc (.cells #[.bool false] 4)).alloc (.cells #[.pointer (some ⟨kb,0,none⟩)] t)
 have bT:=((Box4.new (w.alloc (.cells #[.int .i64 x] 3)) (0,0,0,0)).alloc (.cells #[.bool false] 4)).alloc (.cells #[.pointer (some ⟨kb,0,none⟩)] t)
 have bR:=(Boxed.new ((w.alloc (.cells #[.int .i64 x] 3)).alloc (.cells #[.int .i64 0,.int .i64 0,.int .i64 0,.int .i64 0] 108)) 4 (.bool false)).alloc (.cells #[.pointer (some ⟨kb,0,none⟩)] t)
 have bK:=Boxed.new (((w.alloc (.cells #[.int .i64 x] 3)).alloc (.cells #[.int .i64 0,.int .i64 0,.int .i64 0,.int .i64 0] 108)).alloc (.cells #[.bool false] 4)) t (.pointer (some ⟨kb,0,none⟩))
 simp only [World.size_alloc] at bT bR bK
 have hB0:Below w.heap.size w ((((w.alloc (.cells #[.int .i64 x] 3)).alloc (.cells #[.int .i64 0,.int .i64 0,.int .i64 0,.int .i64 0] 108)).alloc (.cells #[.bool false] 4)).alloc (.cells #[.pointer (some ⟨kb,0,none⟩)] t)):=((((Below.refl _ w).alloc lr _).alloc (by simp) _).alloc (by simp;omega) _).alloc (by simp;omega) _
 have hsz:((((w.alloc (.cells #[.int .i64 x] 3)).alloc (.cells #[.int .i64 0,.int .i64 0,.int .i64 0,.int .i64 0] 108)).alloc (.cells #[.bool false] 4)).alloc (.cells #[.pointer (some ⟨kb,0,none⟩)] t)).heap.size=w.heap.size+4:=by simp
 obtain ⟨W0,hW0⟩:∃ W0,((((w.alloc (.cells #[.int .i64 x] 3)).alloc (.cells #[.int .i64 0,.int .i64 0,.int .i64 0,.int .i64 0] 108)).alloc (.cells #[.bool false] 4)).alloc (.cells #[.pointer (some ⟨kb,0,none⟩)] t))=W0:=⟨_,rfl⟩
 rw [hW0] at bX bT bR bK hB0 hsz ⊢
 clear hW0
 have hT0:TasksIn W0 a8 C.ta:=by
  intro k hk
  obtain ⟨b,o,e,p0,p1,p2,p3⟩:=hT k hk
  have hlt:=ha8 b o e (by omega)
  exact ⟨b,o,e,(hB0.cell (p:=⟨b,o+k * 4,none⟩) hlt).trans p0,(hB0.cell (p:=⟨b,o+k * 4+1,none⟩) hlt).trans p1,(hB0.cell (p:=⟨b,o+k * 4+2,none⟩) hlt).trans p2,(hB0.cell (p:=⟨b,o+k * 4+3,none⟩) hlt).trans p3⟩
 refine wpIn_rangeFunc_ownH rfl h1 (gf:=173) (lb:=#[.pointer (some ⟨w.heap.size+1+1+1,0,none⟩)]) rfl trivial (enters_of Tryz.func173 (by kernel_rfl) rfl)
  (tasks_stops (n - 1) (by omega) (w.heap.size+1+1+1) kb (w.heap.size+4) C a8 c8 dn (by omega) (by omega) hln W0 bK.cell ((hB0.cell (p:=⟨kb,15,none⟩) hkb).trans h8) ((hB0.cell (p:=⟨kb,16,none⟩) hkb).trans h16) hT0 (fun b o e h=>by have:=ha8 b o e h;omega) (by omega))
  belowK_t (belowK_b (by omega)) (Below.refl _ _) (fun _=>rfl)
  (fun pre W=>((Unmet pre x∧Boxed W w.heap.size 3 (.int .i64 x))∧(Box4 W (w.heap.size+1) (0,0,0,0)∧Boxed W (w.heap.size+1+1) 4 (.bool false)))∧(Below w.heap.size w W∧Below W0.heap.size W0 W))
  (fun c pre W=>((c=.ret∧lastT pre∈pre∧((lastT pre).1:Int)=x)∧(Box4 W (w.heap.size+1) (lastT pre).2∧Boxed W (w.heap.size+1+1) 4 (.bool true)))∧Below w.heap.size w W)
  (OwnFrom.and (OwnFrom.and (OwnFrom.and (ownFrom_pure _ _) (Own.from (boxed_own _ _ _) _)) (OwnFrom.and (Own.from (box4_own _ _) _) (Own.from (boxed_own _ _ _) _))) (OwnFrom.and (ownFrom_below lr (by omega)) (ownFrom_below lr (by omega))))
  (fun c=>OwnFrom.and (OwnFrom.and (ownFrom_pure _ _) (OwnFrom.and (Own.from (box4_own _ _) _) (Own.from (boxed_own _ _ _) _))) (ownFrom_below lr (by omega)))
  ⟨⟨⟨by simp [Unmet],bX⟩,bT,bR⟩,hB0,Below.refl _ _⟩
  (fun y a' W=>∃ Bx,w.heap.size+1+1<Bx∧Box4 W Bx y.2∧a'={ tmps:=#[.pointer (some ⟨kb,0,none⟩),.int .i64 x,undef,.pointer (some ⟨w.heap.size,0,none⟩),.pointer (some ⟨w.heap.size+1,0,none⟩),.pointer (some ⟨w.heap.size+1+1,0,none⟩),.int .i64 (y.1:Int),.pointer (some ⟨Bx,0,none⟩),.pointer (some ⟨kb,0,none⟩),.func (.func 173) #[] #[.pointer (some ⟨w.heap.size+1+1+1,0,none⟩)],.int .i64 (y.1:Int),.agg #[.int .i64 y.2.1,.int .i64 y.2.2.1,.int .i64 y.2.2.2.1,.int .i64 y.2.2.2.2],undef,undef,undef,undef,undef],defers:=[] })
  (fun y a' _ X Y row hs hg hr=>by obtain ⟨Bx,e1,e2,e3⟩:=hs;exact ⟨Bx,e1,box4_own Bx (fun (_:Unit)=>y.2) () X Y row e2 hg (fun r e=>(hr r e).2),e3⟩)
  ?assign ?body ?done ?stop
 case assign=>
  rintro l pre y W K ⟨⟨⟨hp,bX1⟩,bT1,bR1⟩,hB1,hB2⟩ hK
  have hs2:=hB2.size
  dsimp only [encT]
  gi_wp2
  exact hK _ _ ((KeepsOthers.alloc _ _).from _) ((Below.refl _ W).alloc (by omega) _) ⟨⟨⟨hp,bX1.alloc _⟩,bT1.alloc _,bR1.alloc _⟩,hB1.alloc hB1.size _,hB2.alloc hB2.size _⟩ ⟨W.heap.size,by omega,Box4.new W y.2,rfl⟩
 case body=>
  rintro l pre y a' W hl ⟨r,hr⟩ ⟨⟨⟨hp,bX1⟩,bT1,bR1⟩,hB1,hB2⟩ ⟨Bx,hBx,bY,rfl⟩ hlt
  have cX:=bX1.cell
  obtain ⟨c0,c1,c2,c3⟩:=bY.cells
  obtain ⟨d0,d1,d2,d3⟩:=bT1.cells
  obtain ⟨f0,f1,f2,f3⟩:=bT1.frozen
  have cR:=bR1.cell
  have fR:=bR1.frozen
  by_cases hyx:(y.1:Int)=x
  ·have HY:=hid hyx
   gi_wp2
   refine ⟨((keepsOthers_put4 W (w.heap.size+1) y.2).trans (KeepsOthers.setCell _ _ _)).from _,⟨⟨rfl,by rw [lastT_snoc];simp,by rw [lastT_snoc];exact HY.out⟩,?_,(Boxed.put4 bR1 (by omega) y.2).set _⟩,(below_put4 hB1 (by omega) y.2).setCell (p:=⟨w.heap.size+1+1,0,none⟩) (by show w.heap.size≤w.heap.size+1+1;omega) _⟩
   rw [lastT_snoc]
   exact (bT1.set y.2).kept (grownBy_set4 _ _ _ _) (by simp)
  ·have HY:=hid hyx
   gi_wp2
   exact ⟨KeepsFrom.refl _ _,Below.refl _ _,⟨⟨fun z hz=>(List.mem_append.1 hz).elim (hp z) (fun e=>by simp at e;subst e;exact HY.out),bX1⟩,bT1,bR1⟩,hB1,by rw [← hsz];exact hB2⟩
 case done=>
  rintro D zs W hD rfl ⟨⟨⟨hp,bX1⟩,bT1,bR1⟩,hB1,hB2⟩ hK
  obtain ⟨d0,d1,d2,d3⟩:=bT1.cells
  obtain ⟨f0,f1,f2,f3⟩:=bT1.frozen
  have cR:=bR1.cell
  have fR:=bR1.frozen
  gi_wp2
  have bT5:=(bT1.set (0,0,0,0)).kept (grownBy_set4 _ (w.heap.size+1+1) 0 (.bool false)) (by simp)
  have bR5:=(Boxed.put4 bR1 (B':=w.heap.size+1) (by omega) (0,0,0,0)).set (.bool false)
  have hB5:=(below_put4 hB1 (B:=w.heap.size+1) (by omega) (0,0,0,0)).setCell (p:=⟨w.heap.size+1+1,0,none⟩) (by show w.heap.size≤w.heap.size+1+1;omega) (.bool false)
  have hK5:=((keepsOthers_put4 W (w.heap.size+1) (0,0,0,0)).trans (KeepsOthers.setCell _ ⟨w.heap.size+1+1,0,none⟩ (.bool false))).same D _ hK rfl
  refine ⟨by simp,.inl ⟨_,_,rfl,run_takeDeferred hK5,?_⟩⟩
  have hrow:∀ r,some D=some r→∃ o:Obj,((put4 W (w.heap.size+1) (0,0,0,0)).setCell ⟨w.heap.size+1+1,0,none⟩ (.bool false)).heap[r]? = some o∧o.isCells=false:=fun r e=>by cases e;exact ⟨_,hK5,rfl⟩
  have e0:=cell_kept bT5.cells.1 (grownBy_putObj' _ D (.deferred none)) hrow
  have e1:=cell_kept bT5.cells.2.1 (grownBy_putObj' _ D (.deferred none)) hrow
  have e2:=cell_kept bT5.cells.2.2.1 (grownBy_putObj' _ D (.deferred none)) hrow
  have e3:=cell_kept bT5.cells.2.2.2 (grownBy_putObj' _ D (.deferred none)) hrow
  have e4:=cell_kept bR5.cell (grownBy_putObj' _ D (.deferred none)) hrow
  refine ⟨.tuple #[.agg #[.int .i64 0,.int .i64 0,.int .i64 0,.int .i64 0],.bool false],?_,?_,hB5.trans (belowK_b (w:=w) lr _ D _ _ (by omega) hK5 rfl rfl)⟩
  ·simp only [put4] at e0 e1 e2 e3 e4
   simp [results,Tryz.results151,go_sem,e0,e1,e2,e3,e4]
  ·rw [ownV,if_neg]
   rintro ⟨x0,x1,x2⟩
   have hm:(x.toNat,C.ta.getD x.toNat (0,0,0,0))∈ownT C dn C.ta.length:=mem_ownT.2 ⟨by show x.toNat<_;omega,rfl,x2⟩
   exact hp _ hm (by show (x.toNat:Int)=x;omega)
 case stop=>
  rintro D c pre W hD ⟨k,hk,hpre⟩ ⟨⟨⟨rfl,hin,hx⟩,bT1,bR1⟩,hB1⟩ hK
  have HX:=hid hx
  clear hx
  generalize lastT pre=y at *
  have HM:=hid hin
  clear hin
  gi_wp2
  refine ⟨by simp,.inl ⟨_,_,rfl,run_takeDeferred hK,?_⟩⟩
  have hrow:∀ r,some D=some r→∃ o:Obj,W.heap[r]? = some o∧o.isCells=false:=fun r e=>by cases e;exact ⟨_,hK,rfl⟩
  have e0:=cell_kept bT1.cells.1 (grownBy_putObj' _ D (.deferred none)) hrow
  have e1:=cell_kept bT1.cells.2.1 (grownBy_putObj' _ D (.deferred none)) hrow
  have e2:=cell_kept bT1.cells.2.2.1 (grownBy_putObj' _ D (.deferred none)) hrow
  have e3:=cell_kept bT1.cells.2.2.2 (grownBy_putObj' _ D (.deferred none)) hrow
  have e4:=cell_kept bR1.cell (grownBy_putObj' _ D (.deferred none)) hrow
  refine ⟨.tuple #[.agg #[.int .i64 y.2.1,.int .i64 y.2.2.1,.int .i64 y.2.2.2.1,.int .i64 y.2.2.2.2],.bool true],?_,?_,hB1.trans (belowK_b (w:=w) lr _ D _ _ (by omega) hK rfl rfl)⟩
  ·simp [results,Tryz.results151,go_sem,e0,e1,e2,e3,e4]
  ·have hm:=HM.out
   rw [hpre] at hm
   obtain ⟨m1,m2,m3⟩:=mem_ownT.1 hm
   have hx:=HX.out
   have hxn:x.toNat=y.1:=by omega
   rw [ownV,if_pos ⟨by omega,by omega,by rw [hxn,← m2];exact m3⟩,hxn,← m2]
theorem own_ok (kb:Nat) (C:Conf) (a8:Option Addr) (c8:Nat) (dn x:Int) (hln:C.ta.length≤9223372036854775807)
  (w:World) (hkb:kb<w.heap.size) (h8:w.cell? ⟨kb,15,none⟩=some (.slice a8 C.ta.length c8)) (h16:w.cell? ⟨kb,16,none⟩=some (.int .i64 dn)) (hT:TasksIn w a8 C.ta) (ha8:∀ b o,a8=some ⟨b,o,none⟩→0<C.ta.length→b<w.heap.size) :
  Calls Tryz.prog 151 #[.pointer (some ⟨kb,0,none⟩),.int .i64 x] w fun e w'=>e=.returned (ownV C dn x)∧Below w.heap.size w w':=
 callsIn_wide.1 (own_in 6 (by omega) kb C a8 c8 dn x hln w hkb h8 h16 hT ha8)
end Go.Proofs.YtejhccmclanlmaaGreatDoor
namespace Go.Proofs.YtejhccmclanlmaaGreatDoor
open Go.RowKit
abbrev jv (j:JobT):Value:=.agg #[.int .i64 j.1,.int .i64 j.2.1,.int .i64 j.2.2.1,.int .i64 j.2.2.2.1,.bool j.2.2.2.2.1,.bool j.2.2.2.2.2]
def ckJob (C:Conf) (dn:Int) (j:JobT):Int:=
 if 0≤j.1∧j.1<C.ta.length∧(C.ta.getD j.1.toNat (0,0,0,0)).1=dn then
  (if inR j.2.1 0 100000 && inR j.2.2.1 0 100000 && inR j.2.2.2.1 0 (wrap64 ((C.ta.getD j.1.toNat (0,0,0,0)).2.2.1 - 1)) then 0 else 3) else 5
theorem tasksIn_lt {w:World} {C:Conf} {a:Option Addr} (h:TasksIn w a C.ta):∀ b o,a=some ⟨b,o,none⟩→0<C.ta.length→b<w.heap.size:=by
 intro b o e h0
 obtain ⟨b',o',e',p,_⟩:=h 0 h0
 rw [e] at e'
 cases e'
 exact World.block_lt_of_cell? _ _ p
set_option maxHeartbeats 2000000 in
theorem checkJob_any (kb:Nat) (D:Dom) (A:DMem) (C:Conf) (B:Mem) (dn:Int) (j:JobT) (w:World) (hK:KeepIn w kb D A C B dn) :
  Calls Tryz.prog 128 #[.pointer (some ⟨kb,0,none⟩),jv j] w fun e w'=>e=.returned (.int .i64 (ckJob C dn j))∧Below w.heap.size w w':=by
 obtain ⟨j0,j1,j2,j3,j4,j5⟩:=j
 dsimp only [jv]
 have q1:=below_new w (.cells #[.int .i64 j0,.int .i64 j1,.int .i64 j2,.int .i64 j3,.bool j4,.bool j5] 87)
 have HK:=hid (hK.keep q1)
 have HB:=hid q1
 clear q1 hK
 go_enter Tryz.func128,Tryz.ntmps128
 go_wp2_with fail
 refine (own_ok kb C B.a8 B.c8 dn j0 HK.out.con.l8 _ HK.out.row.lt (HK.out.row.cell 15 _ rfl) (HK.out.row.cell 16 _ rfl) HK.out.con.ta (tasksIn_lt HK.out.con.ta)).mono ?_
 rintro e w1 ⟨rfl,hb1⟩
 have HB1:=hid (btrans HB.out hb1)
 have s1:w1.cell? ⟨w.heap.size,1,none⟩=some (.int .i64 j1):=bkeep hb1 (by simp) lr
 have s2:w1.cell? ⟨w.heap.size,2,none⟩=some (.int .i64 j2):=bkeep hb1 (by simp) lr
 have s3:w1.cell? ⟨w.heap.size,3,none⟩=some (.int .i64 j3):=bkeep hb1 (by simp) lr
 have hsz:=(HB1.out).size
 clear hb1 HB HK
 by_cases hO:0≤j0∧j0<C.ta.length∧(C.ta.getD j0.toNat (0,0,0,0)).1=dn
 ·have HE:Hid (ckJob C dn (j0,j1,j2,j3,j4,j5)=if inR j1 0 100000 && inR j2 0 100000 && inR j3 0 (wrap64 ((C.ta.getD j0.toNat (0,0,0,0)).2.2.1 - 1)) then 0 else 3):=hid (by rw [ckJob,if_pos hO])
  rw [ownV,if_pos hO]
  dsimp only
  clear hO
  generalize C.ta.getD j0.toNat (0,0,0,0)=tk at *
  obtain ⟨t0,t1,t2,t3⟩:=tk
  dsimp only at *
  have q2:=below_new w1 (.cells #[.int .i64 t0,.int .i64 t1,.int .i64 t2,.int .i64 t3] 108)
  have HB2:=hid (btrans HB1.out q2)
  have r1:=bkeep q2 s1 lr
  have r2:=bkeep q2 s2 lr
  have r3:=bkeep q2 s3 lr
  clear q2
  go_wp2_with fail
  refine (within_any _ _ _ _).mono ?_
  rintro e w' ⟨rfl,rfl⟩
  cases h1:inR j1 0 100000 with
  | false=>
   go_wp2
   go_ret
   exact ⟨ret_int (by simp [HE.out,h1]),HB2.out⟩
  | true=>
   have H1:=hid h1
   clear h1
   go_wp2_with fail
   refine (within_any _ _ _ _).mono ?_
   rintro e w' ⟨rfl,rfl⟩
   cases h2:inR j2 0 100000 with
   | false=>
    go_wp2
    go_ret
    exact ⟨ret_int (by simp [HE.out,h2]),HB2.out⟩
   | true=>
    have H2:=hid h2
    clear h2
    go_wp2_with fail
    refine (within_any _ _ _ _).mono ?_
    rintro e w' ⟨rfl,rfl⟩
    cases h3:inR j3 0 (wrap64 (t2 - 1)) with
    | false=>
     go_wp2
     go_ret
     exact ⟨ret_int (by simp [HE.out,h3]),HB2.out⟩
    | true=>
     go_wp2
     go_ret
     exact ⟨ret_int (by simp [HE.out,H1.out,H2.out,h3]),HB2.out⟩
 ·have HE:Hid (ckJob C dn (j0,j1,j2,j3,j4,j5)=5):=hid (by rw [ckJob,if_neg hO])
  rw [ownV,if_neg hO]
  clear hO
  have q2:=below_new w1 (.cells #[.int .i64 0,.int .i64 0,.int .i64 0,.int .i64 0] 108)
  have HB2:=hid (btrans HB1.out q2)
  clear q2
  go_wp2
  go_ret
  exact ⟨ret_int HE.out.symm,HB2.out⟩
def ckJobs (C:Conf) (dn:Int) (D:Dom):Int:=if 20<D.jobs.length then 2 else fe D.jobs.length fun i=>ckJob C dn (D.jobs.getD i (0,0,0,0,false,false))
set_option maxHeartbeats 2000000 in
theorem checkJobs_any (kb:Nat) (D:Dom) (A:DMem) (C:Conf) (B:Mem) (dn:Int) (w:World) (hK:KeepIn w kb D A C B dn) :
  Calls Tryz.prog 93 #[.pointer (some ⟨kb,0,none⟩)] w fun e w'=>e=.returned (.int .i64 (ckJobs C dn D))∧Below w.heap.size w w':=by
 have HK:=hid hK
 have c0:=hK.row.cell 0 _ rfl
 have lJ:=hK.dom.lJ
 clear hK
 obtain ⟨aJ,aR,aI,aT,aO,aE,cJ,cR,cI,cT,cO,cE⟩:=A
 dsimp only at *
 by_cases h20:20<D.jobs.length
 ·have HE:Hid (ckJobs C dn D=2):=hid (by rw [ckJobs,if_pos h20])
  have hz:(20:Int)<(D.jobs.length:Int):=by omega
  go_enter Tryz.func93,Tryz.ntmps93
  go_wp2
  go_ret
  exact ⟨ret_int HE.out.symm,Below.refl _ _⟩
 ·have hz:(D.jobs.length:Int)≤20:=by omega
  have HE:Hid (ckJobs C dn D=fe D.jobs.length fun i=>ckJob C dn (D.jobs.getD i (0,0,0,0,false,false))):=hid (by rw [ckJobs,if_neg h20])
  clear h20
  go_enter Tryz.func93,Tryz.ntmps93
  go_wp2
  go_loopw [19] (fun i wr=>∃ k:Nat,k≤D.jobs.length∧i=.int .i64 k∧Below w.heap.size w wr∧∀ j,j<k→ckJob C dn (D.jobs.getD j (0,0,0,0,false,false))=0) (fun i _=>D.jobs.length - (intOf i).toNat)
  case atStart=>exact ⟨0,Nat.zero_le _,rfl,Below.refl _ _,by omega⟩
  case round=>
   obtain ⟨k,hk,rfl,hbl,hno⟩:=hrel
   have Hno:=hid hno
   clear hno
   by_cases hlt:k<D.jobs.length
   ·obtain ⟨b1,o1,rfl,p0,p1,p2,p3,p4,p5⟩:=(HK.out.dom.keep hbl).jobs k hlt
    have HV:Hid (D.jobs.getD k (0,0,0,0,false,false)=D.jobs[k]):=hid (by simp [hlt])
    have hk1:(k:Int)<(D.jobs.length:Int):=by omega
    have hk0:(0:Int)≤(k:Int):=by omega
    have HKr:=hid (HK.out.keep hbl)
    generalize D.jobs[k]=j at *
    obtain ⟨j0,j1,j2,j3,j4,j5⟩:=j
    dsimp only at *
    have q:=below_new wr (.cells #[.int .i64 j0,.int .i64 j1,.int .i64 j2,.int .i64 j3,.bool j4,.bool j5] 87)
    have HKq:=hid (HKr.out.keep q)
    have HQ:=hid (btrans hbl q)
    clear q hbl HKr
    go_wp2_with fail
    refine (checkJob_any kb D _ C B dn (j0,j1,j2,j3,j4,j5) _ HKq.out).mono ?_
    rintro e w3 ⟨rfl,hb3⟩
    have HB3:=hid (btrans HQ.out hb3)
    clear hb3 HQ HKq p0 p1 p2 p3 p4 p5
    by_cases h0:ckJob C dn (j0,j1,j2,j3,j4,j5)=0
    ·have H0:=hid h0
     rw [h0]
     clear h0
     go_wp2
     go_roundw
     case rel=>
      refine ⟨k+1,by omega,by go_num,HB3.out,fun j hj=>?_⟩
      by_cases e:j=k
      ·subst e;rw [HV.out];exact H0.out
      ·exact Hno.out j (by omega)
     case measure=>simp [intOf];omega
    ·have HE2:Hid (ckJobs C dn D=ckJob C dn (j0,j1,j2,j3,j4,j5)):=hid (by rw [HE.out,fe_at _ k _ hlt (by rw [HV.out];exact h0) (fun j hj=>Hno.out j hj),HV.out])
     have hx:(ckJob C dn (j0,j1,j2,j3,j4,j5) != 0)=true:=by simp [h0]
     clear h0 HV
     generalize ckJob C dn (j0,j1,j2,j3,j4,j5)=q at *
     go_wp2
     go_ret
     exact ⟨ret_int HE2.out.symm,HB3.out⟩
   ·go_wp2
    go_ret
    exact ⟨ret_int (by rw [HE.out];exact (fe_zero _ _ (fun j hj=>Hno.out j (by omega))).symm),hbl⟩
end Go.Proofs.YtejhccmclanlmaaGreatDoor
namespace Go.Proofs.YtejhccmclanlmaaGreatDoor
open Go.RowKit Go.Shelf
attribute [local go_sem] Oper.semAt_some
theorem cell_heap {w w':World} {b:Nat} (h:w'.heap[b]? = w.heap[b]?) (o:Nat):w'.cell? ⟨b,o,none⟩=w.cell? ⟨b,o,none⟩:=by
 unfold World.cell?
 rw [h]
structure TK (Bk kb:Nat) (a8:Option Addr) (N:Nat) (W W':World):Prop where
 size:W.heap.size≤W'.heap.size
 c0:W'.cell? ⟨Bk,0,none⟩=W.cell? ⟨Bk,0,none⟩
 c15:W'.cell? ⟨kb,15,none⟩=W.cell? ⟨kb,15,none⟩
 c16:W'.cell? ⟨kb,16,none⟩=W.cell? ⟨kb,16,none⟩
 ta:∀ b o,a8=some ⟨b,o,none⟩→0<N→W'.heap[b]? = W.heap[b]?
theorem TK.refl (Bk kb:Nat) (a8:Option Addr) (N:Nat) (W:World):TK Bk kb a8 N W W:=⟨Nat.le_refl _,rfl,rfl,rfl,fun _ _ _ _=>rfl⟩
theorem TK.trans {Bk kb:Nat} {a8:Option Addr} {N:Nat} {X Y Z:World} (h:TK Bk kb a8 N X Y) (k:TK Bk kb a8 N Y Z):TK Bk kb a8 N X Z:=
 ⟨Nat.le_trans h.size k.size,k.c0.trans h.c0,k.c15.trans h.c15,k.c16.trans h.c16,fun b o e hn=>(k.ta b o e hn).trans (h.ta b o e hn)⟩
theorem TK.tcell {Bk kb:Nat} {a8:Option Addr} {N:Nat} {W W':World} (h:TK Bk kb a8 N W W') {b o:Nat} (e:a8=some ⟨b,o,none⟩) (hn:0<N) (i:Nat):W'.cell? ⟨b,i,none⟩=W.cell? ⟨b,i,none⟩:=cell_heap (h.ta b o e hn) i
theorem TK.of_heap {Bk kb:Nat} {a8:Option Addr} {N:Nat} {W W':World} (hs:W.heap.size≤W'.heap.size) (h0:W'.heap[Bk]? = W.heap[Bk]?) (h1:W'.heap[kb]? = W.heap[kb]?) (h2:∀ b o,a8=some ⟨b,o,none⟩→0<N→W'.heap[b]? = W.heap[b]?):TK Bk kb a8 N W W':=
 ⟨hs,cell_heap h0 0,cell_heap h1 15,cell_heap h1 16,h2⟩
theorem TK.alloc {Bk kb:Nat} {a8:Option Addr} {N:Nat} {X W:World} (h:TK Bk kb a8 N X W) (h0:Bk<W.heap.size) (h1:kb<W.heap.size) (h2:∀ b o,a8=some ⟨b,o,none⟩→0<N→b<W.heap.size) (o:Obj):TK Bk kb a8 N X (W.alloc o):=
 h.trans (TK.of_heap (by simp) (Below.heap_alloc W o _ h0) (Below.heap_alloc W o _ h1) (fun b o' e hn=>Below.heap_alloc W o _ (h2 b o' e hn)))
theorem TK.drew {Bk kb:Nat} {a8:Option Addr} {N:Nat} {X W:World} (h:TK Bk kb a8 N X W):TK Bk kb a8 N X W.drew:=
 h.trans (TK.of_heap lr rfl rfl (fun _ _ _ _=>rfl))
theorem TK.book {Bk kb:Nat} {a8:Option Addr} {N:Nat} {w:World} (h0:Bk<w.heap.size) (h1:kb<w.heap.size) (h2:∀ b o,a8=some ⟨b,o,none⟩→0<N→b<w.heap.size) (W:World) (l:Nat) (o o':Obj) (hl:w.heap.size≤l) (h:W.heap[l]? = some o) (_:o.isCells=false) (_:o.isWalk=false):TK Bk kb a8 N W (W.putObj l o'):=
 TK.of_heap (by simp) (World.putObj_heap_other (by omega)) (World.putObj_heap_other (by omega)) (fun b o1 e hn=>World.putObj_heap_other (by have:=h2 b o1 e hn;omega))
set_option maxHeartbeats 8000000 in
theorem tasks2_in (n:Nat) (hn:1≤n) (l Bk kb n₀:Nat) (C:Conf) (a8:Option Addr) (c8:Nat) (dn:Int) (J Jx:List NT→World→Prop) (hkb:kb<n₀) (hBk:Bk<n₀) (hln:C.ta.length≤9223372036854775807)
  (hY:∀ pre x W,x∈ownT C dn C.ta.length→J pre W→pre.length<C.ta.length→YieldAt Fence.wide (n - 1) Tryz.prog l (encT x) W fun e W'=>
   (e=.returned (.bool true)∧J (pre++[x]) W'∧TK Bk kb a8 C.ta.length W W')∨(e=.returned (.bool false)∧Jx (pre++[x]) W'))
  (hJa:∀ pre W o,J pre W→J pre (W.alloc o)) (hJd:∀ pre W,J pre W→J pre W.drew)
  (W:World) (hB:W.cell? ⟨Bk,0,none⟩=some (.pointer (some ⟨kb,0,none⟩))) (h8:W.cell? ⟨kb,15,none⟩=some (.slice a8 C.ta.length c8)) (h16:W.cell? ⟨kb,16,none⟩=some (.int .i64 dn)) (hT:TasksIn W a8 C.ta) (ha8:∀ b o,a8=some ⟨b,o,none⟩→0<C.ta.length→b<n₀) (hsz:n₀≤W.heap.size) (h0:J [] W) :
  CallsIn Fence.wide n Tryz.prog 173 #[.func (.yield l) #[] #[],.pointer (some ⟨Bk,0,none⟩)] W fun e W'=>(∃ v,e=.returned v) ∧
   ((∃ ys,ys=ownT C dn C.ta.length∧J ys W')∨(∃ pre,(∃ k,k≤C.ta.length∧pre=ownT C dn k)∧Jx pre W')):=by
 have mixed:Tryz.prog.follows Departure.mixedOrders=true:=by kernel_rfl
 refine callsIn_of_wp Tryz.func173 rfl trivial ?_ rfl
 simp only [Tryz.ntmps173,List.size_toArray,List.length_cons,List.length_nil,Nat.reduceAdd,Nat.reduceSub,Array.replicate_succ,Array.replicate_zero,List.push_toArray,List.append_toArray,List.nil_append,List.cons_append]
 gi_wp2
 gi_loopw [11] (fun i wr=>∃ k:Nat,k≤C.ta.length∧i=.int .i64 k∧J (ownT C dn k) wr∧TK Bk kb a8 C.ta.length W wr)
  (fun i _=>C.ta.length - (intOf i).toNat)
 case atStart=>exact ⟨0,Nat.zero_le _,rfl,h0,TK.refl _ _ _ _ _⟩
 case round=>
  obtain ⟨k,hk,rfl,hJr,hnx⟩:=hrel
  have HJ:=hid hJr
  have HX:=hid hnx
  by_cases hlt:k<C.ta.length
  ·obtain ⟨b,o,rfl,p0,p1,p2,p3⟩:=hT k hlt
   have hb:=ha8 b o rfl (by omega)
   have p0':=(hnx.tcell rfl (by omega) (o+k * 4)).trans p0
   have p1':=(hnx.tcell rfl (by omega) (o+k * 4+1)).trans p1
   have p2':=(hnx.tcell rfl (by omega) (o+k * 4+2)).trans p2
   have p3':=(hnx.tcell rfl (by omega) (o+k * 4+3)).trans p3
   have hB':=hnx.c0.trans hB
   have h16':=hnx.c16.trans h16
   have hk1:(k:Int)<(C.ta.length:Int):=by omega
   have hk0:(0:Int)≤(k:Int):=by omega
   clear hJr hnx
   have HT:Hid (C.ta.getD k (0,0,0,0)=C.ta[k]):=hid (by simp [hlt])
   have HP:=hid (ownT_le C dn k)
   generalize C.ta[k]=tk at *
   obtain ⟨t0,t1,t2,t3⟩:=tk
   dsimp only at *
   have q1:TK Bk kb (some ⟨b,o,none⟩) C.ta.length wr (wr.alloc (.cells #[.int .i64 t0,.int .i64 t1,.int .i64 t2,.int .i64 t3] 108)).drew:=((TK.refl _ _ _ _ _).alloc (by have:=HX.out.size;omega) (by have:=HX.out.size;omega) (fun b' o' e _=>by cases e;have:=HX.out.size;omega) _).drew
   have hBa:=cell_old (.cells #[.int .i64 t0,.int .i64 t1,.int .i64 t2,.int .i64 t3] 108) hB'
   have h16a:=cell_old (.cells #[.int .i64 t0,.int .i64 t1,.int .i64 t2,.int .i64 t3] 108) h16'
   by_cases hd:t0=dn
   ·subst hd
    have HO:Hid (ownT C t0 (k+1)=ownT C t0 k++[(k,(t0,t1,t2,t3))]):=hid (by rw [ownT_succ,HT.out,if_pos rfl])
    obtain ⟨fn,tmps,assign,body,hy,hR⟩:=hY (ownT C t0 k) (k,(t0,t1,t2,t3)) (wr.alloc (.cells #[.int .i64 t0,.int .i64 t1,.int .i64 t2,.int .i64 t3] 108)).drew (mem_ownT.2 ⟨hlt,HT.out.symm,rfl⟩) (hJd _ _ (hJa _ _ _ HJ.out)) (by have:=HP.out;omega)
    dsimp only [encT] at hy
    gi_wp2
    gi_cut [29] from 16 (fun t wx=>∃ r:Bool,t=.bool (!r)∧(r=true→J (ownT C t0 (k+1)) wx∧TK Bk kb (some ⟨b,o,none⟩) C.ta.length wr wx)∧(r=false→Jx (ownT C t0 (k+1)) wx))
    case first=>
     gi_region_with_o (refine hR.mono ?_;intro e W3 hor;obtain ⟨r,rfl,hr⟩:=yield_one hor;have HR3:=hid hr;clear hor hr)
     all_goals
      gi_wp2
      go_meet
      case rel=>exact ⟨r,by cases r <;> rfl,fun e=>by rw [HO.out];exact ⟨(HR3.out.1 e).1,q1.trans (HR3.out.1 e).2⟩,fun e=>by rw [HO.out];exact HR3.out.2 e⟩
    case rest=>
     obtain ⟨r,rfl,h1,h2⟩:=hcut
     have H1:=hid h1
     have H2:=hid h2
     clear h1 h2
     cases r with
     | true=>
      gi_wp2
      go_roundw
      case rel=>exact ⟨k+1,by omega,by go_num,(H1.out rfl).1,HX.out.trans (H1.out rfl).2⟩
      case measure=>simp [intOf];omega
     | false=>
      gi_wp2
      refine bodyPost_ret (results_none rfl _ _ _) rfl ?_
      exact ⟨⟨_,rfl⟩,.inr ⟨_,⟨k+1,by omega,rfl⟩,H2.out trivial⟩⟩
   ·have hd':(t0 == dn)=false:=by simp [hd]
    have HO:Hid (ownT C dn (k+1)=ownT C dn k):=hid (by rw [ownT_succ,HT.out,if_neg hd,List.append_nil])
    gi_wp2
    gi_cut [29] from 16 (fun t wx=>t=.bool false∧wx=(wr.alloc (.cells #[.int .i64 t0,.int .i64 t1,.int .i64 t2,.int .i64 t3] 108)).drew)
    case first=>
     first
      | gi_region_with_o (refine ⟨fun _ h=>(by cases h),?_⟩)
      | fail
     all_goals
      gi_wp2
      go_meet
      case rel=>exact ⟨rfl,rfl⟩
    case rest=>
     obtain ⟨rfl,rfl⟩:=hcut
     have HE:Hid (J (ownT C dn (k+1)) (wr.alloc (.cells #[.int .i64 t0,.int .i64 t1,.int .i64 t2,.int .i64 t3] 108)).drew∧TK Bk kb (some ⟨b,o,none⟩) C.ta.length W (wr.alloc (.cells #[.int .i64 t0,.int .i64 t1,.int .i64 t2,.int .i64 t3] 108)).drew):=hid ⟨by rw [HO.out];exact hJd _ _ (hJa _ _ _ HJ.out),HX.out.trans q1⟩
     generalize (wr.alloc (.cells #[.int .i64 t0,.int .i64 t1,.int .i64 t2,.int .i64 t3] 108)).drew=w5 at *
     gi_wp2
     go_roundw
     case rel=>exact ⟨k+1,by omega,by go_num,HE.out⟩
     case measure=>simp [intOf];omega
  ·obtain rfl:k=C.ta.length:=by omega
   gi_wp2
   go_end0
   exact ⟨⟨_,rfl⟩,.inl ⟨_,rfl,HJ.out⟩⟩
abbrev OT (C:Conf) (dn:Int):={ x:NT // x∈ownT C dn C.ta.length }
theorem tasks_stops2 (n:Nat) (hn:1≤n) (Bk kb n₀:Nat) (C:Conf) (a8:Option Addr) (c8:Nat) (dn:Int) (hkb:kb<n₀) (hBk:Bk<n₀) (hln:C.ta.length≤9223372036854775807)
  (w:World) (hB:w.cell? ⟨Bk,0,none⟩=some (.pointer (some ⟨kb,0,none⟩))) (h8:w.cell? ⟨kb,15,none⟩=some (.slice a8 C.ta.length c8)) (h16:w.cell? ⟨kb,16,none⟩=some (.int .i64 dn)) (hT:TasksIn w a8 C.ta) (ha8:∀ b o,a8=some ⟨b,o,none⟩→0<C.ta.length→b<n₀) (hsz:n₀≤w.heap.size) :
  SeqStopsK Fence.wide n Tryz.prog 173 #[.pointer (some ⟨Bk,0,none⟩)] (fun x:OT C dn=>encT x.1) (TK Bk kb a8 C.ta.length) (fun ys=>ys.map (·.1)=ownT C dn C.ta.length) (fun pre=>∃ k,k≤C.ta.length∧pre.map (·.1)=ownT C dn k) C.ta.length w:=by
 intro l J Jx W hb hJ hJx hY h0
 have hsz':=hb.size
 have hTW:TasksIn W a8 C.ta:=by
  intro k hk
  obtain ⟨b,o,e,p0,p1,p2,p3⟩:=hT k hk
  have hlt:b<w.heap.size:=Nat.lt_of_lt_of_le (ha8 b o e (by omega)) hsz
  exact ⟨b,o,e,(hb.cell (p:=⟨b,o+k * 4,none⟩) hlt).trans p0,(hb.cell (p:=⟨b,o+k * 4+1,none⟩) hlt).trans p1,(hb.cell (p:=⟨b,o+k * 4+2,none⟩) hlt).trans p2,(hb.cell (p:=⟨b,o+k * 4+3,none⟩) hlt).trans p3⟩
 refine (tasks2_in n hn l Bk kb n₀ C a8 c8 dn (fun pre W=>∃ ps:List (OT C dn),ps.map (·.1)=pre∧J ps W) (fun pre W=>∃ ps:List (OT C dn),ps.map (·.1)=pre∧Jx ps W) hkb hBk hln
  (fun pre x W1 hx hJ1 hl1=>by
   obtain ⟨ps,rfl,hp⟩:=hJ1
   refine (hY ps ⟨x,hx⟩ W1 hp (by simpa using hl1)).mono ?_
   rintro e w' (⟨h1,h2,h3⟩|⟨h1,h2⟩)
   ·exact .inl ⟨h1,⟨_,by simp,h2⟩,h3⟩
   ·exact .inr ⟨h1,⟨_,by simp,h2⟩⟩)
  (fun pre W1 o h=>by
   obtain ⟨ps,e,hp⟩:=h
   exact ⟨ps,e,hJ ps W1 _ none hp (World.grownBy_alloc W1 o none) (fun _ e=>by cases e)⟩)
  (fun pre W1 h=>by
   obtain ⟨ps,e,hp⟩:=h
   exact ⟨ps,e,hJ ps W1 _ none hp ⟨rfl,rfl,rfl,Nat.le_refl _,fun _ _ _=>rfl⟩ (fun _ e=>by cases e)⟩)
  W ((hb.cell (p:=⟨Bk,0,none⟩) (by show Bk<_;omega)).trans hB) ((hb.cell (p:=⟨kb,15,none⟩) (by show kb<_;omega)).trans h8) ((hb.cell (p:=⟨kb,16,none⟩) (by show kb<_;omega)).trans h16) hTW ha8 (by omega) ⟨[],rfl,h0⟩).mono ?_
 rintro e w' ⟨hv,⟨ys,rfl,ps,h1,h2⟩|⟨pre,⟨k,hk,rfl⟩,ps,h1,h2⟩⟩
 ·exact ⟨hv,.inl ⟨ps,h1,h2⟩⟩
 ·exact ⟨hv,.inr ⟨ps,⟨k,hk,h1⟩,h2⟩⟩
end Go.Proofs.YtejhccmclanlmaaGreatDoor
