/- Yg Yh Fc -/
import Derived.Test.YtejhccmclanlmaaGreatDoorV10
set_option linter.all false
set_option maxRecDepth 100000
set_option maxHeartbeats 8000000
namespace Go.Proofs.YtejhccmclanlmaaGreatDoor
open Go.RowKit Go.Shelf Go.Proofs.Tryz
variable {t:Int×Int×Int×Int} {B:Nat} {ty:TypeId} {W:World}
attribute [local go_sem] Oper.semAt_some
theorem Zke (n:Nat) (p0:Option Addr) (w:World):
  CallsIn Fence.wide n prog 153 #[.pointer p0] w fun e w'=>e=.returned (.func (.func 173) #[] #[.pointer (some ⟨w.heap.size,0,none⟩)])∧∃ t,w'=w.alloc (.cells #[.pointer p0] t):=by
 refine callsIn_of_wp func153 rfl trivial ?_ rfl;simp only [ntmps153,List.size_toArray,List.length_cons,List.length_nil,Nat.reduceAdd,Nat.reduceSub,Array.replicate_succ,Array.replicate_zero,List.push_toArray,List.append_toArray,List.nil_append,List.cons_append];gi_wp2;go_ret;exact ⟨rfl,_,rfl⟩
def Zfv (W:World) (B:Nat) (t:Int×Int×Int×Int):Prop:=W.heap[B]? = some (.cells #[.int .i64 t.1,.int .i64 t.2.1,.int .i64 t.2.2.1,.int .i64 t.2.2.2] 108 (0,0))
theorem Zfv.lt (h:Zfv W B t):B<W.heap.size:=(Array.getElem?_eq_some_iff.1 h).1
theorem Zfv.cells (h:Zfv W B t):W.cell? ⟨B,0,none⟩=some (.int .i64 t.1)∧W.cell? ⟨B,1,none⟩=some (.int .i64 t.2.1)∧W.cell? ⟨B,2,none⟩=some (.int .i64 t.2.2.1)∧W.cell? ⟨B,3,none⟩=some (.int .i64 t.2.2.2):=by
 refine ⟨?_,?_,?_,?_⟩<;>simp [World.cell?,show W.heap[B]? = _ from h]
theorem Zfv.frozen (h:Zfv W B t):W.frozen? ⟨B,0,none⟩=false∧W.frozen? ⟨B,1,none⟩=false∧W.frozen? ⟨B,2,none⟩=false∧W.frozen? ⟨B,3,none⟩=false:=by
 refine ⟨?_,?_,?_,?_⟩<;>simp [World.frozen?,show W.heap[B]? = _ from h]
theorem Zfv.new (W:World) (t:Int×Int×Int×Int):Zfv (W.alloc (.cells #[.int .i64 t.1,.int .i64 t.2.1,.int .i64 t.2.2.1,.int .i64 t.2.2.2] 108)) W.heap.size t:=World.alloc_heap_new W _
theorem Zfv.kept {W':World} {row:Option Nat} (h:Zfv W B t) (hg:W.grownBy W' row) (hne:some B≠row):Zfv W' B t:=(hg.block B h.lt hne).trans h
theorem Zfv.alloc (h:Zfv W B t) (o:Obj):Zfv (W.alloc o) B t:=h.kept (World.grownBy_alloc W o none) (by simp)
theorem Zjz {β:Type} (B:Nat) (f:β→Int×Int×Int×Int):Own (fun s W=>Zfv W B (f s)):=fun s X Y row hs hg hrow=>
 hs.kept hg (fun e'=>by obtain ⟨o,ho,hc⟩:=hrow B e'.symm;rw [show X.heap[B]? = _ from hs] at ho;cases ho;cases hc)
theorem Jy (W:World) (b o:Nat) (v:Value):W.grownBy (W.setCell ⟨b,o,none⟩ v) (some b):=
 ⟨rfl,rfl,rfl,(KeepsWalks.setCell W _ v).size,fun k _ hk=>Below.heap_setCell _ _ _ k (fun e=>hk (by rw [e]))⟩
theorem Zoo {o:Nat} {xs:Array Value} {v':Value} (h:W.heap[B]? = some (.cells xs ty (0,0))):(W.setCell ⟨B,o,none⟩ v').heap[B]? = some (.cells (xs.setIfInBounds o v') ty (0,0)):=by
 obtain ⟨a0,hk⟩:=Array.getElem?_eq_some_iff.1 h;show (W.heap.modify B _)[B]? = _
 rw [Array.getElem?_eq_getElem (by rw [Array.size_modify];exact a0),Array.getElem_modify_self,hk];rfl
def put4 (W:World) (B:Nat) (t:Int×Int×Int×Int):World:=(((W.setCell ⟨B,0,none⟩ (.int .i64 t.1)).setCell ⟨B,1,none⟩ (.int .i64 t.2.1)).setCell ⟨B,2,none⟩ (.int .i64 t.2.2.1)).setCell ⟨B,3,none⟩ (.int .i64 t.2.2.2)
theorem Zfv.set (h:Zfv W B t) (t':Int×Int×Int×Int):Zfv (put4 W B t') B t':=by
 have s0:=Zoo (v':=.int .i64 t'.1) (o:=0) (show W.heap[B]? = _ from h);have s1:=Zoo (v':=.int .i64 t'.2.1) (o:=1) s0;have s2:=Zoo (v':=.int .i64 t'.2.2.1) (o:=2) s1;have s3:=Zoo (v':=.int .i64 t'.2.2.2) (o:=3) s2;unfold Zfv put4;rw [s3];rfl
theorem Zco (W:World) (B:Nat) (t:Int×Int×Int×Int):KeepsOthers W (put4 W B t):=by
 unfold put4;exact (((KeepsOthers.setCell _ _ _).trans (KeepsOthers.setCell _ _ _)).trans (KeepsOthers.setCell _ _ _)).trans (KeepsOthers.setCell _ _ _)
theorem Boxed.put4 {B':Nat} {v:Value} (h:Boxed W B ty v) (hne:B≠B') (t:Int×Int×Int×Int):Boxed (put4 W B' t) B ty v:=by
 have hn:some B≠some B':=fun e=>hne (by cases e;rfl)
 exact (((h.kept (Jy _ _ _ _) hn).kept (Jy _ _ _ _) hn).kept (Jy _ _ _ _) hn).kept (Jy _ _ _ _) hn
theorem Zis {n₀:Nat} {a:World} (h:Below n₀ a W) (hB:n₀≤B) (t:Int×Int×Int×Int):Below n₀ a (put4 W B t):=
 (((h.setCell (p:=⟨B,0,none⟩) hB _).setCell (p:=⟨B,1,none⟩) hB _).setCell (p:=⟨B,2,none⟩) hB _).setCell (p:=⟨B,3,none⟩) hB _
def Zyc (pre:List NT) (x:Int):Prop:=∀ y∈pre,(y.1:Int)≠x
def Zp5 (pre:List NT):NT:=pre.getLastD (0,0,0,0,0)
theorem Zey (pre:List NT) (y:NT):Zp5 (pre++[y])=y:=by simp [Zp5,List.getLastD_eq_getLast?]
def Zxr (C:Zm) (dn x:Int):Value:=
 if 0≤x∧x<C.ta.length∧(C.ta.getD x.toNat (0,0,0,0)).1=dn then
  let t:=C.ta.getD x.toNat (0,0,0,0)
  .tuple #[.agg #[.int .i64 t.1,.int .i64 t.2.1,.int .i64 t.2.2.1,.int .i64 t.2.2.2],.bool true]
 else .tuple #[.agg #[.int .i64 0,.int .i64 0,.int .i64 0,.int .i64 0],.bool false]
theorem Zf3 {C:Zm} {dn:Int} {k:Nat} {y:NT}:y∈Za0 C dn k↔y.1<k∧y.2=C.ta.getD y.1 (0,0,0,0)∧y.2.1=dn:=by
 simp only [Za0,List.mem_filterMap,List.mem_range];constructor
 ·rintro ⟨i,hi,h⟩
  split at h
  ·cases h;exact ⟨hi,rfl,by assumption⟩
  ·cases h
 ·rintro ⟨h1,h2,h3⟩
  refine ⟨y.1,h1,?_⟩;rw [if_pos (by rw [← h2];exact h3),← h2]
theorem Zxu (n:Nat) (hn:6≤n) (kb:Nat) (C:Zm) (a8:Option Addr) (c8:Nat) (dn x:Int) (hln:C.ta.length≤9223372036854775807)
  (w:World) (hkb:kb<w.heap.size) (h8:w.cell? ⟨kb,15,none⟩=some (.slice a8 C.ta.length c8)) (h16:w.cell? ⟨kb,16,none⟩=some (.int .i64 dn)) (hT:Jb w a8 C.ta) (ha8:∀ b o,a8=some ⟨b,o,none⟩→0<C.ta.length→b<w.heap.size) :
  CallsIn Fence.wide n prog 151 #[.pointer (some ⟨kb,0,none⟩),.int .i64 x] w fun e w'=>e=.returned (Zxr C dn x)∧Below w.heap.size w w':=by
 have h1:1≤n:=by omega
 refine callsIn_of_wp_marks func151 rfl trivial ?_ rfl;simp only [ntmps151,List.size_toArray,List.length_cons,List.length_nil,Nat.reduceAdd,Nat.reduceSub,Array.replicate_succ,Array.replicate_zero,List.push_toArray,List.append_toArray,List.nil_append,List.cons_append];gi_wp2;refine ⟨trivial,(Zke (n-1) _ _).mono ?_⟩;rintro e w' ⟨rfl,t,rfl⟩;gi_wp2;have bX:=(((Boxed.new w 3 (.int .i64 x)).alloc (.cells #[.int .i64 0,.int .i64 0,.int .i64 0,.int .i64 0] 108)).alloc (.cells #[.bool false] 4)).alloc (.cells #[.pointer (some ⟨kb,0,none⟩)] t);have bT:=((Zfv.new (w.alloc (.cells #[.int .i64 x] 3)) (0,0,0,0)).alloc (.cells #[.bool false] 4)).alloc (.cells #[.pointer (some ⟨kb,0,none⟩)] t);have bR:=(Boxed.new ((w.alloc (.cells #[.int .i64 x] 3)).alloc (.cells #[.int .i64 0,.int .i64 0,.int .i64 0,.int .i64 0] 108)) 4 (.bool false)).alloc (.cells #[.pointer (some ⟨kb,0,none⟩)] t);have bK:=Boxed.new (((w.alloc (.cells #[.int .i64 x] 3)).alloc (.cells #[.int .i64 0,.int .i64 0,.int .i64 0,.int .i64 0] 108)).alloc (.cells #[.bool false] 4)) t (.pointer (some ⟨kb,0,none⟩));simp only [World.size_alloc] at bT bR bK;have a4:Below w.heap.size w ((((w.alloc (.cells #[.int .i64 x] 3)).alloc (.cells #[.int .i64 0,.int .i64 0,.int .i64 0,.int .i64 0] 108)).alloc (.cells #[.bool false] 4)).alloc (.cells #[.pointer (some ⟨kb,0,none⟩)] t)):=((((Below.refl _ w).alloc lr _).alloc (by simp) _).alloc (by simp;omega) _).alloc (by simp;omega) _;have ac:((((w.alloc (.cells #[.int .i64 x] 3)).alloc (.cells #[.int .i64 0,.int .i64 0,.int .i64 0,.int .i64 0] 108)).alloc (.cells #[.bool false] 4)).alloc (.cells #[.pointer (some ⟨kb,0,none⟩)] t)).heap.size=w.heap.size+4:=by simp
 obtain ⟨W0,ad⟩:∃ W0,((((w.alloc (.cells #[.int .i64 x] 3)).alloc (.cells #[.int .i64 0,.int .i64 0,.int .i64 0,.int .i64 0] 108)).alloc (.cells #[.bool false] 4)).alloc (.cells #[.pointer (some ⟨kb,0,none⟩)] t))=W0:=⟨_,rfl⟩
 rw [ad] at bX bT bR bK a4 ac ⊢;clear ad;have ag:Jb W0 a8 C.ta:=by
  intro k hk;obtain ⟨b,o,e,p0,p1,p2,p3⟩:=hT k hk;have a6:=ha8 b o e (by omega);exact ⟨b,o,e,(a4.cell (p:=⟨b,o+k*4,none⟩) a6).trans p0,(a4.cell (p:=⟨b,o+k*4+1,none⟩) a6).trans p1,(a4.cell (p:=⟨b,o+k*4+2,none⟩) a6).trans p2,(a4.cell (p:=⟨b,o+k*4+3,none⟩) a6).trans p3⟩
 refine wpIn_rangeFunc_ownH rfl h1 (gf:=173) (lb:=#[.pointer (some ⟨w.heap.size+1+1+1,0,none⟩)]) rfl trivial (enters_of func173 (by kernel_rfl) rfl)
  (Zl8 (n-1) (by omega) (w.heap.size+1+1+1) kb (w.heap.size+4) C a8 c8 dn (by omega) (by omega) hln W0 bK.cell ((a4.cell (p:=⟨kb,15,none⟩) hkb).trans h8) ((a4.cell (p:=⟨kb,16,none⟩) hkb).trans h16) ag (fun b o e h=>by have:=ha8 b o e h;omega) (by omega))
  belowK_t (belowK_b (by omega)) br (fun _=>rfl)
  (fun pre W=>((Zyc pre x∧Boxed W w.heap.size 3 (.int .i64 x))∧(Zfv W (w.heap.size+1) (0,0,0,0)∧Boxed W (w.heap.size+1+1) 4 (.bool false)))∧(Below w.heap.size w W∧Below W0.heap.size W0 W))
  (fun c pre W=>((c=.ret∧Zp5 pre∈pre∧((Zp5 pre).1:Int)=x)∧(Zfv W (w.heap.size+1) (Zp5 pre).2∧Boxed W (w.heap.size+1+1) 4 (.bool true)))∧Below w.heap.size w W)
  (OwnFrom.and (OwnFrom.and (OwnFrom.and (ownFrom_pure _ _) (Own.from (boxed_own _ _ _) _)) (OwnFrom.and (Own.from (Zjz _ _) _) (Own.from (boxed_own _ _ _) _))) (OwnFrom.and (ownFrom_below lr (by omega)) (ownFrom_below lr (by omega))))
  (fun c=>OwnFrom.and (OwnFrom.and (ownFrom_pure _ _) (OwnFrom.and (Own.from (Zjz _ _) _) (Own.from (boxed_own _ _ _) _))) (ownFrom_below lr (by omega)))
  ⟨⟨⟨by simp [Zyc],bX⟩,bT,bR⟩,a4,br⟩
  (fun y a' W=>∃ Bx,w.heap.size+1+1<Bx∧Zfv W Bx y.2∧a'={tmps:=#[.pointer (some ⟨kb,0,none⟩),.int .i64 x,undef,.pointer (some ⟨w.heap.size,0,none⟩),.pointer (some ⟨w.heap.size+1,0,none⟩),.pointer (some ⟨w.heap.size+1+1,0,none⟩),.int .i64 (y.1:Int),.pointer (some ⟨Bx,0,none⟩),.pointer (some ⟨kb,0,none⟩),.func (.func 173) #[] #[.pointer (some ⟨w.heap.size+1+1+1,0,none⟩)],.int .i64 (y.1:Int),.agg #[.int .i64 y.2.1,.int .i64 y.2.2.1,.int .i64 y.2.2.2.1,.int .i64 y.2.2.2.2],undef,undef,undef,undef,undef],defers:=[]})
  (fun y a' _ X Y row hs hg hr=>by obtain ⟨Bx,e1,e2,e3⟩:=hs;exact ⟨Bx,e1,Zjz Bx (fun (_:Unit)=>y.2) () X Y row e2 hg (fun r e=>(hr r e).2),e3⟩)
  ?assign ?body ?done ?stop
 case assign=>
  rintro l pre y W K ⟨⟨⟨hp,a7⟩,a1,a2⟩,a3,a5⟩ hK;have aj:=a5.size;dsimp only [Zua];gi_wp2;exact hK _ _ ((KeepsOthers.alloc _ _).from _) ((Below.refl _ W).alloc (by omega) _) ⟨⟨⟨hp,a7.alloc _⟩,a1.alloc _,a2.alloc _⟩,a3.alloc a3.size _,a5.alloc a5.size _⟩ ⟨W.heap.size,by omega,Zfv.new W y.2,rfl⟩
 case body=>
  rintro l pre y a' W hl ⟨r,hr⟩ ⟨⟨⟨hp,a7⟩,a1,a2⟩,a3,a5⟩ ⟨Bx,ak,bY,rfl⟩ a6;have cX:=a7.cell;obtain ⟨c0,c1,c2,c3⟩:=bY.cells;obtain ⟨d0,d1,d2,d3⟩:=a1.cells;obtain ⟨f0,f1,f2,f3⟩:=a1.frozen;have cR:=a2.cell;have fR:=a2.frozen;by_cases hyx:(y.1:Int)=x
  ·have HY:=hid hyx
   gi_wp2;refine ⟨((Zco W (w.heap.size+1) y.2).trans (KeepsOthers.setCell _ _ _)).from _,⟨⟨rfl,by rw [Zey];simp,by rw [Zey];exact HY.out⟩,?_,(Boxed.put4 a2 (by omega) y.2).set _⟩,(Zis a3 (by omega) y.2).setCell (p:=⟨w.heap.size+1+1,0,none⟩) (by show w.heap.size≤w.heap.size+1+1;omega) _⟩;rw [Zey];exact (a1.set y.2).kept (Jy _ _ _ _) (by simp)
  ·have HY:=hid hyx
   gi_wp2;exact ⟨KeepsFrom.refl _ _,br,⟨⟨fun z hz=>(List.mem_append.1 hz).elim (hp z) (fun e=>by simp at e;subst e;exact HY.out),a7⟩,a1,a2⟩,a3,by rw [← ac];exact a5⟩
 case done=>
  rintro D zs W hD rfl ⟨⟨⟨hp,a7⟩,a1,a2⟩,a3,a5⟩ hK;obtain ⟨d0,d1,d2,d3⟩:=a1.cells;obtain ⟨f0,f1,f2,f3⟩:=a1.frozen;have cR:=a2.cell;have fR:=a2.frozen;gi_wp2;have a9:=(a1.set (0,0,0,0)).kept (Jy _ (w.heap.size+1+1) 0 (.bool false)) (by simp);have ah:=(Boxed.put4 a2 (B':=w.heap.size+1) (by omega) (0,0,0,0)).set (.bool false);have ai:=(Zis a3 (B:=w.heap.size+1) (by omega) (0,0,0,0)).setCell (p:=⟨w.heap.size+1+1,0,none⟩) (by show w.heap.size≤w.heap.size+1+1;omega) (.bool false);have aa:=((Zco W (w.heap.size+1) (0,0,0,0)).trans (KeepsOthers.setCell _ ⟨w.heap.size+1+1,0,none⟩ (.bool false))).same D _ hK rfl;refine ⟨by simp,.inl ⟨_,_,rfl,run_takeDeferred aa,?_⟩⟩;have a0:∀ r,some D=some r→∃ o:Obj,((put4 W (w.heap.size+1) (0,0,0,0)).setCell ⟨w.heap.size+1+1,0,none⟩ (.bool false)).heap[r]? = some o∧o.isCells=false:=fun r e=>by cases e;exact ⟨_,aa,rfl⟩
  have e0:=cell_kept a9.cells.1 (grownBy_putObj' _ D (.deferred none)) a0;have e1:=cell_kept a9.cells.2.1 (grownBy_putObj' _ D (.deferred none)) a0;have e2:=cell_kept a9.cells.2.2.1 (grownBy_putObj' _ D (.deferred none)) a0;have e3:=cell_kept a9.cells.2.2.2 (grownBy_putObj' _ D (.deferred none)) a0;have e4:=cell_kept ah.cell (grownBy_putObj' _ D (.deferred none)) a0;refine ⟨.tuple #[.agg #[.int .i64 0,.int .i64 0,.int .i64 0,.int .i64 0],.bool false],?_,?_,ai.trans (belowK_b (w:=w) lr _ D _ _ (by omega) aa rfl rfl)⟩
  ·simp only [put4] at e0 e1 e2 e3 e4
   simp [results,results151,go_sem,e0,e1,e2,e3,e4]
  ·rw [Zxr,if_neg]
   rintro ⟨x0,x1,x2⟩;have hm:(x.toNat,C.ta.getD x.toNat (0,0,0,0))∈Za0 C dn C.ta.length:=Zf3.2 ⟨by show x.toNat<_;omega,rfl,x2⟩;exact hp _ hm (by show (x.toNat:Int)=x;omega)
 case stop=>
  rintro D c pre W hD ⟨k,hk,ab⟩ ⟨⟨⟨rfl,ae,hx⟩,a1,a2⟩,a3⟩ hK;have HX:=hid hx;clear hx;generalize Zp5 pre=y at *
  have HM:=hid ae;clear ae;gi_wp2;refine ⟨by simp,.inl ⟨_,_,rfl,run_takeDeferred hK,?_⟩⟩;have a0:∀ r,some D=some r→∃ o:Obj,W.heap[r]? = some o∧o.isCells=false:=fun r e=>by cases e;exact ⟨_,hK,rfl⟩
  have e0:=cell_kept a1.cells.1 (grownBy_putObj' _ D (.deferred none)) a0;have e1:=cell_kept a1.cells.2.1 (grownBy_putObj' _ D (.deferred none)) a0;have e2:=cell_kept a1.cells.2.2.1 (grownBy_putObj' _ D (.deferred none)) a0;have e3:=cell_kept a1.cells.2.2.2 (grownBy_putObj' _ D (.deferred none)) a0;have e4:=cell_kept a2.cell (grownBy_putObj' _ D (.deferred none)) a0;refine ⟨.tuple #[.agg #[.int .i64 y.2.1,.int .i64 y.2.2.1,.int .i64 y.2.2.2.1,.int .i64 y.2.2.2.2],.bool true],?_,?_,a3.trans (belowK_b (w:=w) lr _ D _ _ (by omega) hK rfl rfl)⟩
  ·simp [results,results151,go_sem,e0,e1,e2,e3,e4]
  ·have hm:=HM.out
   rw [ab] at hm;obtain ⟨m1,m2,m3⟩:=Zf3.1 hm;have hx:=HX.out;have af:x.toNat=y.1:=by omega
   rw [Zxr,if_pos ⟨by omega,by omega,by rw [af,← m2];exact m3⟩,af,← m2]
theorem Zyy (kb:Nat) (C:Zm) (a8:Option Addr) (c8:Nat) (dn x:Int) (hln:C.ta.length≤9223372036854775807)
  (w:World) (hkb:kb<w.heap.size) (h8:w.cell? ⟨kb,15,none⟩=some (.slice a8 C.ta.length c8)) (h16:w.cell? ⟨kb,16,none⟩=some (.int .i64 dn)) (hT:Jb w a8 C.ta) (ha8:∀ b o,a8=some ⟨b,o,none⟩→0<C.ta.length→b<w.heap.size) :
  Calls prog 151 #[.pointer (some ⟨kb,0,none⟩),.int .i64 x] w (RB (Zxr C dn x) w):=
 callsIn_wide.1 (Zxu 6 (by omega) kb C a8 c8 dn x hln w hkb h8 h16 hT ha8)
end Go.Proofs.YtejhccmclanlmaaGreatDoor
namespace Go.Proofs.YtejhccmclanlmaaGreatDoor
open Go.RowKit Go.Proofs.Tryz
abbrev jv (j:J6):Value:=.agg #[.int .i64 j.1,.int .i64 j.2.1,.int .i64 j.2.2.1,.int .i64 j.2.2.2.1,.bool j.2.2.2.2.1,.bool j.2.2.2.2.2]
def Za6 (C:Zm) (dn:Int) (j:J6):Int:=
 if 0≤j.1∧j.1<C.ta.length∧(C.ta.getD j.1.toNat (0,0,0,0)).1=dn then
  (if inR j.2.1 0 100000&&inR j.2.2.1 0 100000&&inR j.2.2.2.1 0 (wrap64 ((C.ta.getD j.1.toNat (0,0,0,0)).2.2.1-1)) then 0 else 3) else 5
theorem Zew {w:World} {C:Zm} {a:Option Addr} (h:Jb w a C.ta):∀ b o,a=some ⟨b,o,none⟩→0<C.ta.length→b<w.heap.size:=by
 intro b o e h0;obtain ⟨b',o',e',p,_⟩:=h 0 h0;rw [e] at e'
 cases e'
 exact World.block_lt_of_cell? _ _ p
theorem Zkl (kb:Nat) (D:Dom) (A:Yk) (C:Zm) (B:Mem) (dn:Int) (j:J6) (w:World) (hK:Jf w kb D A C B dn):
  Calls prog 128 #[.pointer (some ⟨kb,0,none⟩),jv j] w fun e w'=>e=.returned (.int .i64 (Za6 C dn j))∧Below w.heap.size w w':=by
 obtain ⟨j0,j1,j2,j3,j4,j5⟩:=j;dsimp only [jv];have q1:=Za w (.cells #[.int .i64 j0,.int .i64 j1,.int .i64 j2,.int .i64 j3,.bool j4,.bool j5] 87);have HK:=hid (hK.keep q1);have HB:=hid q1;clear q1 hK;go_enter func128,ntmps128;go_wp2_with fail;refine (Zyy kb C B.a8 B.c8 dn j0 HK.out.con.l8 _ HK.out.row.lt (HK.out.row.cell 15 _ rfl) (HK.out.row.cell 16 _ rfl) HK.out.con.ta (Zew HK.out.con.ta)).mono ?_;rintro e w1 ⟨rfl,a1⟩;have a2:=hid (Zb HB a1);have s1:w1.cell? ⟨w.heap.size,1,none⟩=some (.int .i64 j1):=Zg a1 (by simp) lr;have s2:w1.cell? ⟨w.heap.size,2,none⟩=some (.int .i64 j2):=Zg a1 (by simp) lr;have s3:w1.cell? ⟨w.heap.size,3,none⟩=some (.int .i64 j3):=Zg a1 (by simp) lr;have a3:=(a2.out).size;clear a1 HB HK;by_cases hO:0≤j0∧j0<C.ta.length∧(C.ta.getD j0.toNat (0,0,0,0)).1=dn
 ·have HE:Hid (Za6 C dn (j0,j1,j2,j3,j4,j5)=if inR j1 0 100000&&inR j2 0 100000&&inR j3 0 (wrap64 ((C.ta.getD j0.toNat (0,0,0,0)).2.2.1-1)) then 0 else 3):=hid (by rw [Za6,if_pos hO])
  rw [Zxr,if_pos hO];dsimp only;clear hO;generalize C.ta.getD j0.toNat (0,0,0,0)=tk at *
  obtain ⟨t0,t1,t2,t3⟩:=tk;dsimp only at *
  have q2:=Za w1 (.cells #[.int .i64 t0,.int .i64 t1,.int .i64 t2,.int .i64 t3] 108);have a0:=hid (Zb a2 q2);have r1:=Zg q2 s1 lr;have r2:=Zg q2 s2 lr;have r3:=Zg q2 s3 lr;clear q2;go_wp2_with fail;refine (Zs _ _ _ _).mono ?_;rintro e w' ⟨rfl,rfl⟩
  cases h1:inR j1 0 100000 with
  | false=>
   go_wp2;go_ret;exact ⟨Zh (by simp [HE.out,h1]),a0.out⟩
  | true=>
   have H1:=hid h1;clear h1;go_wp2_with fail;refine (Zs _ _ _ _).mono ?_;rintro e w' ⟨rfl,rfl⟩
   cases h2:inR j2 0 100000 with
   | false=>
    go_wp2;go_ret;exact ⟨Zh (by simp [HE.out,h2]),a0.out⟩
   | true=>
    have H2:=hid h2;clear h2;go_wp2_with fail;refine (Zs _ _ _ _).mono ?_;rintro e w' ⟨rfl,rfl⟩
    cases h3:inR j3 0 (wrap64 (t2-1)) with
    | false=>
     go_wp2;go_ret;exact ⟨Zh (by simp [HE.out,h3]),a0.out⟩
    | true=>
     go_wp2;go_ret;exact ⟨Zh (by simp [HE.out,H1.out,H2.out,h3]),a0.out⟩
 ·have HE:Hid (Za6 C dn (j0,j1,j2,j3,j4,j5)=5):=hid (by rw [Za6,if_neg hO])
  rw [Zxr,if_neg hO];clear hO;have q2:=Za w1 (.cells #[.int .i64 0,.int .i64 0,.int .i64 0,.int .i64 0] 108);have a0:=hid (Zb a2 q2);clear q2;go_wp2;go_ret;exact ⟨Zh HE.out.symm,a0.out⟩
def Zdl (C:Zm) (dn:Int) (D:Dom):Int:=if 20<D.jobs.length then 2 else fe D.jobs.length fun i=>Za6 C dn (D.jobs.getD i (0,0,0,0,false,false))
theorem Zjw (kb:Nat) (D:Dom) (A:Yk) (C:Zm) (B:Mem) (dn:Int) (w:World) (hK:Jf w kb D A C B dn):
  Calls prog 93 #[.pointer (some ⟨kb,0,none⟩)] w fun e w'=>e=.returned (.int .i64 (Zdl C dn D))∧Below w.heap.size w w':=by
 have HK:=hid hK;have c0:=hK.row.cell 0 _ rfl;have lJ:=hK.dom.lJ;clear hK;obtain ⟨aJ,aR,aI,aT,aO,aE,cJ,cR,cI,cT,cO,cE⟩:=A;dsimp only at *
 by_cases h20:20<D.jobs.length
 ·have HE:Hid (Zdl C dn D=2):=hid (by rw [Zdl,if_pos h20])
  have hz:(20:Int)<(D.jobs.length:Int):=by omega
  go_enter func93,ntmps93;go_wp2;go_ret;exact ⟨Zh HE.out.symm,br⟩
 ·have hz:(D.jobs.length:Int)≤20:=by omega
  have HE:Hid (Zdl C dn D=fe D.jobs.length fun i=>Za6 C dn (D.jobs.getD i (0,0,0,0,false,false))):=hid (by rw [Zdl,if_neg h20]);clear h20;go_enter func93,ntmps93;go_wp2;go_loopw [19] (fun i wr=>∃ k:Nat,k≤D.jobs.length∧i=.int .i64 k∧Below w.heap.size w wr∧∀ j,j<k→Za6 C dn (D.jobs.getD j (0,0,0,0,false,false))=0) (fun i _=>D.jobs.length-(intOf i).toNat)
  case atStart=>exact ⟨0,zl,rfl,br,by omega⟩
  case round=>
   obtain ⟨k,hk,rfl,a0,a2⟩:=hrel;have a1:=hid a2;clear a2;by_cases hlt:k<D.jobs.length
   ·obtain ⟨b1,o1,rfl,p0,p1,p2,p3,p4,p5⟩:=(HK.out.dom.keep a0).jobs k hlt
    have HV:Hid (D.jobs.getD k (0,0,0,0,false,false)=D.jobs[k]):=hid (by simp [hlt]);have a8:(k:Int)<(D.jobs.length:Int):=by omega
    have a9:(0:Int)≤(k:Int):=by omega
    have a3:=hid (HK.out.keep a0);generalize D.jobs[k]=j at *
    obtain ⟨j0,j1,j2,j3,j4,j5⟩:=j;dsimp only at *
    have q:=Za wr (.cells #[.int .i64 j0,.int .i64 j1,.int .i64 j2,.int .i64 j3,.bool j4,.bool j5] 87);have a4:=hid (a3.out.keep q);have HQ:=hid (Zb a0 q);clear q a0 a3;go_wp2_with fail;refine (Zkl kb D _ C B dn (j0,j1,j2,j3,j4,j5) _ a4).mono ?_;rintro e w3 ⟨rfl,a5⟩;have a6:=hid (Zb HQ a5);clear a5 HQ a4 p0 p1 p2 p3 p4 p5;by_cases h0:Za6 C dn (j0,j1,j2,j3,j4,j5)=0
    ·have H0:=hid h0
     rw [h0];clear h0;go_wp2;go_roundw
     case rel=>
      refine ⟨k+1,by omega,by go_num,a6.out,fun j hj=>?_⟩;by_cases e:j=k
      ·subst e;rw [HV.out];exact H0.out
      ·exact a1.out j (by omega)
     case measure=>simp [intOf];omega
    ·have a7:Hid (Zdl C dn D=Za6 C dn (j0,j1,j2,j3,j4,j5)):=hid (by rw [HE.out,Zbe _ k _ hlt (by rw [HV.out];exact h0) (fun j hj=>a1.out j hj),HV.out])
     have hx:(Za6 C dn (j0,j1,j2,j3,j4,j5) != 0)=true:=by simp [h0]
     clear h0 HV;generalize Za6 C dn (j0,j1,j2,j3,j4,j5)=q at *
     go_wp2;go_ret;exact ⟨Zh a7.out.symm,a6.out⟩
   ·go_wp2
    go_ret;exact ⟨Zh (by rw [HE.out];exact (Qt _ _ (fun j hj=>a1.out j (by omega))).symm),a0⟩
end Go.Proofs.YtejhccmclanlmaaGreatDoor
namespace Go.Proofs.YtejhccmclanlmaaGreatDoor
open Go.RowKit Go.Shelf Go.Proofs.Tryz
variable {Bk N b kb:Nat} {a8:Option Addr} {W W' X w:World}
attribute [local go_sem] Oper.semAt_some
theorem Za9 {w':World} (h:w'.heap[b]? = w.heap[b]?) (o:Nat):w'.cell? ⟨b,o,none⟩=w.cell? ⟨b,o,none⟩:=by
 unfold World.cell?;rw [h]
structure TK (Bk kb:Nat) (a8:Option Addr) (N:Nat) (W W':World):Prop where
 size:W.heap.size≤W'.heap.size
 c0:W'.cell? ⟨Bk,0,none⟩=W.cell? ⟨Bk,0,none⟩
 c15:W'.cell? ⟨kb,15,none⟩=W.cell? ⟨kb,15,none⟩
 c16:W'.cell? ⟨kb,16,none⟩=W.cell? ⟨kb,16,none⟩
 ta:∀ b o,a8=some ⟨b,o,none⟩→0<N→W'.heap[b]? = W.heap[b]?
theorem TK.refl (Bk kb:Nat) (a8:Option Addr) (N:Nat) (W:World):TK Bk kb a8 N W W:=⟨lr,rfl,rfl,rfl,fun _ _ _ _=>rfl⟩
theorem TK.trans {Y Z:World} (h:TK Bk kb a8 N X Y) (k:TK Bk kb a8 N Y Z):TK Bk kb a8 N X Z:=
 ⟨Nat.le_trans h.size k.size,k.c0.trans h.c0,k.c15.trans h.c15,k.c16.trans h.c16,fun b o e hn=>(k.ta b o e hn).trans (h.ta b o e hn)⟩
theorem TK.tcell (h:TK Bk kb a8 N W W') {o:Nat} (e:a8=some ⟨b,o,none⟩) (hn:0<N) (i:Nat):W'.cell? ⟨b,i,none⟩=W.cell? ⟨b,i,none⟩:=Za9 (h.ta b o e hn) i
theorem TK.of_heap (hs:W.heap.size≤W'.heap.size) (h0:W'.heap[Bk]? = W.heap[Bk]?) (h1:W'.heap[kb]? = W.heap[kb]?) (h2:∀ b o,a8=some ⟨b,o,none⟩→0<N→W'.heap[b]? = W.heap[b]?):TK Bk kb a8 N W W':=
 ⟨hs,Za9 h0 0,Za9 h1 15,Za9 h1 16,h2⟩
theorem TK.alloc (h:TK Bk kb a8 N X W) (h0:Bk<W.heap.size) (h1:kb<W.heap.size) (h2:∀ b o,a8=some ⟨b,o,none⟩→0<N→b<W.heap.size) (o:Obj):TK Bk kb a8 N X (W.alloc o):=
 h.trans (TK.of_heap (by simp) (Below.heap_alloc W o _ h0) (Below.heap_alloc W o _ h1) (fun b o' e hn=>Below.heap_alloc W o _ (h2 b o' e hn)))
theorem TK.drew (h:TK Bk kb a8 N X W):TK Bk kb a8 N X W.drew:=
 h.trans (TK.of_heap lr rfl rfl (fun _ _ _ _=>rfl))
theorem TK.book (h0:Bk<w.heap.size) (h1:kb<w.heap.size) (h2:∀ b o,a8=some ⟨b,o,none⟩→0<N→b<w.heap.size) (W:World) (l:Nat) (o o':Obj) (hl:w.heap.size≤l) (h:W.heap[l]? = some o) (_:o.isCells=false) (_:o.isWalk=false):TK Bk kb a8 N W (W.putObj l o'):=
 TK.of_heap (by simp) (World.putObj_heap_other (by omega)) (World.putObj_heap_other (by omega)) (fun b o1 e hn=>World.putObj_heap_other (by have:=h2 b o1 e hn;omega))
theorem Zrw (n:Nat) (hn:1≤n) (l Bk kb n₀:Nat) (C:Zm) (a8:Option Addr) (c8:Nat) (dn:Int) (J Jx:List NT→World→Prop) (hkb:kb<n₀) (hBk:Bk<n₀) (hln:C.ta.length≤9223372036854775807)
  (hY:∀ pre x W,x∈Za0 C dn C.ta.length→J pre W→pre.length<C.ta.length→YieldAt Fence.wide (n-1) prog l (Zua x) W fun e W'=>
   (e=.returned (.bool true)∧J (pre++[x]) W'∧TK Bk kb a8 C.ta.length W W')∨(e=.returned (.bool false)∧Jx (pre++[x]) W'))
  (hJa:∀ pre W o,J pre W→J pre (W.alloc o)) (hJd:∀ pre W,J pre W→J pre W.drew)
  (W:World) (hB:W.cell? ⟨Bk,0,none⟩=some (.pointer (some ⟨kb,0,none⟩))) (h8:W.cell? ⟨kb,15,none⟩=some (.slice a8 C.ta.length c8)) (h16:W.cell? ⟨kb,16,none⟩=some (.int .i64 dn)) (hT:Jb W a8 C.ta) (ha8:∀ b o,a8=some ⟨b,o,none⟩→0<C.ta.length→b<n₀) (hsz:n₀≤W.heap.size) (h0:J [] W) :
  CallsIn Fence.wide n prog 173 #[.func (.yield l) #[] #[],.pointer (some ⟨Bk,0,none⟩)] W fun e W'=>(∃ v,e=.returned v) ∧
   ((∃ ys,ys=Za0 C dn C.ta.length∧J ys W')∨(∃ pre,(∃ k,k≤C.ta.length∧pre=Za0 C dn k)∧Jx pre W')):=by
 have a4:prog.follows Departure.mixedOrders=true:=by kernel_rfl
 refine callsIn_of_wp func173 rfl trivial ?_ rfl;simp only [ntmps173,List.size_toArray,List.length_cons,List.length_nil,Nat.reduceAdd,Nat.reduceSub,Array.replicate_succ,Array.replicate_zero,List.push_toArray,List.append_toArray,List.nil_append,List.cons_append];gi_wp2;gi_loopw [11] (fun i wr=>∃ k:Nat,k≤C.ta.length∧i=.int .i64 k∧J (Za0 C dn k) wr∧TK Bk kb a8 C.ta.length W wr)
  (fun i _=>C.ta.length-(intOf i).toNat)
 case atStart=>exact ⟨0,zl,rfl,h0,TK.refl _ _ _ _ _⟩
 case round=>
  obtain ⟨k,hk,rfl,a5,a0⟩:=hrel;have HJ:=hid a5;have HX:=hid a0;by_cases hlt:k<C.ta.length
  ·obtain ⟨b,o,rfl,p0,p1,p2,p3⟩:=hT k hlt
   have hb:=ha8 b o rfl (by omega);have ac:=(a0.tcell rfl (by omega) (o+k*4)).trans p0;have ad:=(a0.tcell rfl (by omega) (o+k*4+1)).trans p1;have ae:=(a0.tcell rfl (by omega) (o+k*4+2)).trans p2;have af:=(a0.tcell rfl (by omega) (o+k*4+3)).trans p3;have a7:=a0.c0.trans hB;have a1:=a0.c16.trans h16;have ag:(k:Int)<(C.ta.length:Int):=by omega
   have ah:(0:Int)≤(k:Int):=by omega
   clear a5 a0;have HT:Hid (C.ta.getD k (0,0,0,0)=C.ta[k]):=hid (by simp [hlt]);have HP:=hid (Zq1 C dn k);generalize C.ta[k]=tk at *
   obtain ⟨t0,t1,t2,t3⟩:=tk;dsimp only at *
   have q1:TK Bk kb (some ⟨b,o,none⟩) C.ta.length wr (wr.alloc (.cells #[.int .i64 t0,.int .i64 t1,.int .i64 t2,.int .i64 t3] 108)).drew:=((TK.refl _ _ _ _ _).alloc (by have:=HX.out.size;omega) (by have:=HX.out.size;omega) (fun b' o' e _=>by cases e;have:=HX.out.size;omega) _).drew;have ai:=Zl (.cells #[.int .i64 t0,.int .i64 t1,.int .i64 t2,.int .i64 t3] 108) a7;have a9:=Zl (.cells #[.int .i64 t0,.int .i64 t1,.int .i64 t2,.int .i64 t3] 108) a1;by_cases hd:t0=dn
   ·subst hd
    have HO:Hid (Za0 C t0 (k+1)=Za0 C t0 k++[(k,(t0,t1,t2,t3))]):=hid (by rw [Zed,HT.out,if_pos rfl]);obtain ⟨fn,aa,a2,ab,hy,hR⟩:=hY (Za0 C t0 k) (k,(t0,t1,t2,t3)) (wr.alloc (.cells #[.int .i64 t0,.int .i64 t1,.int .i64 t2,.int .i64 t3] 108)).drew (Zf3.2 ⟨hlt,HT.out.symm,rfl⟩) (hJd _ _ (hJa _ _ _ HJ)) (by have:=HP.out;omega);dsimp only [Zua] at hy;gi_wp2;gi_cut [29] from 16 (fun t wx=>∃ r:Bool,t=.bool (!r)∧(r=true→J (Za0 C t0 (k+1)) wx∧TK Bk kb (some ⟨b,o,none⟩) C.ta.length wr wx)∧(r=false→Jx (Za0 C t0 (k+1)) wx))
    case first=>
     gi_region_with_o (refine hR.mono ?_;intro e W3 a6;obtain ⟨r,rfl,hr⟩:=Zg9 a6;have a3:=hid hr;clear a6 hr)
     all_goals
      gi_wp2;go_meet
      case rel=>exact ⟨r,by cases r<;>rfl,fun e=>by rw [HO.out];exact ⟨(a3.out.1 e).1,q1.trans (a3.out.1 e).2⟩,fun e=>by rw [HO.out];exact a3.out.2 e⟩
    case rest=>
     obtain ⟨r,rfl,h1,h2⟩:=hcut;have H1:=hid h1;have H2:=hid h2;clear h1 h2
     cases r with
     | true=>
      gi_wp2;go_roundw
      case rel=>exact ⟨k+1,by omega,by go_num,(H1.out rfl).1,HX.out.trans (H1.out rfl).2⟩
      case measure=>simp [intOf];omega
     | false=>
      gi_wp2;refine bodyPost_ret (results_none rfl _ _ _) rfl ?_;exact ⟨⟨_,rfl⟩,.inr ⟨_,⟨k+1,by omega,rfl⟩,H2.out trivial⟩⟩
   ·have aj:(t0==dn)=false:=by simp [hd]
    have HO:Hid (Za0 C dn (k+1)=Za0 C dn k):=hid (by rw [Zed,HT.out,if_neg hd,List.append_nil]);gi_wp2;gi_cut [29] from 16 (fun t wx=>t=.bool false∧wx=(wr.alloc (.cells #[.int .i64 t0,.int .i64 t1,.int .i64 t2,.int .i64 t3] 108)).drew)
    case first=>
     first
      | gi_region_with_o (refine ⟨fun _ h=>(by cases h),?_⟩)
      | fail
     all_goals
      gi_wp2;go_meet
      case rel=>exact ⟨rfl,rfl⟩
    case rest=>
     obtain ⟨rfl,rfl⟩:=hcut;have HE:Hid (J (Za0 C dn (k+1)) (wr.alloc (.cells #[.int .i64 t0,.int .i64 t1,.int .i64 t2,.int .i64 t3] 108)).drew∧TK Bk kb (some ⟨b,o,none⟩) C.ta.length W (wr.alloc (.cells #[.int .i64 t0,.int .i64 t1,.int .i64 t2,.int .i64 t3] 108)).drew):=hid ⟨by rw [HO.out];exact hJd _ _ (hJa _ _ _ HJ.out),HX.out.trans q1⟩;generalize (wr.alloc (.cells #[.int .i64 t0,.int .i64 t1,.int .i64 t2,.int .i64 t3] 108)).drew=w5 at *
     gi_wp2;go_roundw
     case rel=>exact ⟨k+1,by omega,by go_num,HE.out⟩
     case measure=>simp [intOf];omega
  ·obtain rfl:k=C.ta.length:=by omega
   gi_wp2;go_end0;exact ⟨⟨_,rfl⟩,.inl ⟨_,rfl,HJ.out⟩⟩
abbrev OT (C:Zm) (dn:Int):={x:NT // x∈Za0 C dn C.ta.length}
theorem Zfo (n:Nat) (hn:1≤n) (Bk kb n₀:Nat) (C:Zm) (a8:Option Addr) (c8:Nat) (dn:Int) (hkb:kb<n₀) (hBk:Bk<n₀) (hln:C.ta.length≤9223372036854775807)
  (w:World) (hB:w.cell? ⟨Bk,0,none⟩=some (.pointer (some ⟨kb,0,none⟩))) (h8:w.cell? ⟨kb,15,none⟩=some (.slice a8 C.ta.length c8)) (h16:w.cell? ⟨kb,16,none⟩=some (.int .i64 dn)) (hT:Jb w a8 C.ta) (ha8:∀ b o,a8=some ⟨b,o,none⟩→0<C.ta.length→b<n₀) (hsz:n₀≤w.heap.size) :
  SeqStopsK Fence.wide n prog 173 #[.pointer (some ⟨Bk,0,none⟩)] (fun x:OT C dn=>Zua x.1) (TK Bk kb a8 C.ta.length) (fun ys=>ys.map (·.1)=Za0 C dn C.ta.length) (fun pre=>∃ k,k≤C.ta.length∧pre.map (·.1)=Za0 C dn k) C.ta.length w:=by
 intro l J Jx W hb hJ a3 hY h0;have a1:=hb.size;have a2:Jb W a8 C.ta:=by
  intro k hk;obtain ⟨b,o,e,p0,p1,p2,p3⟩:=hT k hk;have a0:b<w.heap.size:=Nat.lt_of_lt_of_le (ha8 b o e (by omega)) hsz;exact ⟨b,o,e,(hb.cell (p:=⟨b,o+k*4,none⟩) a0).trans p0,(hb.cell (p:=⟨b,o+k*4+1,none⟩) a0).trans p1,(hb.cell (p:=⟨b,o+k*4+2,none⟩) a0).trans p2,(hb.cell (p:=⟨b,o+k*4+3,none⟩) a0).trans p3⟩
 refine (Zrw n hn l Bk kb n₀ C a8 c8 dn (fun pre W=>∃ ps:List (OT C dn),ps.map (·.1)=pre∧J ps W) (fun pre W=>∃ ps:List (OT C dn),ps.map (·.1)=pre∧Jx ps W) hkb hBk hln
  (fun pre x W1 hx hJ1 hl1=>by
   obtain ⟨ps,rfl,hp⟩:=hJ1;refine (hY ps ⟨x,hx⟩ W1 hp (by simpa using hl1)).mono ?_;rintro e w' (⟨h1,h2,h3⟩|⟨h1,h2⟩)
   ·exact .inl ⟨h1,⟨_,by simp,h2⟩,h3⟩
   ·exact .inr ⟨h1,⟨_,by simp,h2⟩⟩)
  (fun pre W1 o h=>by
   obtain ⟨ps,e,hp⟩:=h;exact ⟨ps,e,hJ ps W1 _ none hp (World.grownBy_alloc W1 o none) (fun _ e=>by cases e)⟩)
  (fun pre W1 h=>by
   obtain ⟨ps,e,hp⟩:=h;exact ⟨ps,e,hJ ps W1 _ none hp ⟨rfl,rfl,rfl,lr,fun _ _ _=>rfl⟩ (fun _ e=>by cases e)⟩)
  W ((hb.cell (p:=⟨Bk,0,none⟩) (by show Bk<_;omega)).trans hB) ((hb.cell (p:=⟨kb,15,none⟩) (by show kb<_;omega)).trans h8) ((hb.cell (p:=⟨kb,16,none⟩) (by show kb<_;omega)).trans h16) a2 ha8 (by omega) ⟨[],rfl,h0⟩).mono ?_
 rintro e w' ⟨hv,⟨ys,rfl,ps,h1,h2⟩|⟨pre,⟨k,hk,rfl⟩,ps,h1,h2⟩⟩
 ·exact ⟨hv,.inl ⟨ps,h1,h2⟩⟩
 ·exact ⟨hv,.inr ⟨ps,⟨k,hk,h1⟩,h2⟩⟩
end Go.Proofs.YtejhccmclanlmaaGreatDoor
