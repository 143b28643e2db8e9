/- Al -/
import Derived.Test.YtejhccmclanlmaaGreatDoorV30
set_option linter.all false
set_option maxRecDepth 100000
set_option maxHeartbeats 8000000
namespace Go.Proofs.YtejhccmclanlmaaGreatDoor
open Go.RowKit Go.Proofs.Tryz
variable {l:Array Bool} {ops:Array Oper} {lv rL size:Int} {rv:List Int} {c cI cO cp cq f gA iL ll lo oL t:Nat} {o:Oper} {a b:Option Addr}
def Zz3 (md:Region.Mode) (ops:Array Oper):Bool:=(List.range ops.size).all fun i=>((ops[i]?).map (·.after.all fun e=>!(Region.binds md e)||decide (e.on<i))).getD true
theorem Zl2 {md:Region.Mode} (h:Zz3 md ops=true) {i:Nat} (ho:ops[i]? = some o):∀ e∈o.after,Region.binds md e=true→e.on<i:=by
 intro e he hb;have hi:i<ops.size:=(Array.getElem?_eq_some_iff.1 ho).1
 have:=List.all_eq_true.1 h i (List.mem_range.2 hi)
 rw [ho] at this;simp only [Option.map_some,Option.getD_some] at this
 have:=Array.all_eq_true_iff_forall_mem.1 this e he
 rw [hb] at this;simpa using this
theorem Zgy {md:Region.Mode} (hord:Zz3 md ops=true) (hsz:l.size=ops.size) (hr:Region.ready md ops l=[]):∀ i,i<ops.size→l.getD i false=true:=by
 intro i
 induction i using Nat.strongRecOn with
 | ind i ih=>
  intro hi
  cases hl:l.getD i false with
  | true=>rfl
  | false=>
   exfalso;have a0:i<l.size:=by omega
   have h1:l.getD i true=false:=by simpa [Array.getD_eq_getD_getElem?,a0] using hl
   obtain ⟨o,ho⟩:∃ o,ops[i]? = some o:=⟨_,Array.getElem?_eq_getElem hi⟩
   have:i∈Region.ready md ops l:=mem_ready.2 ⟨h1,o,ho,fun e he hb=>ih e.on (Zl2 hord ho e he hb) (by have:=Zl2 hord ho e he hb;omega)⟩
   rw [hr] at this;cases this
theorem Zfg {P:Program} {md:Region.Mode} {Q:Exit→Act→World→Prop} (R:Array Bool→Act→World→Prop) (hord:Zz3 md ops=true)
  (hstep:∀ (l:Array Bool) (a:Act) (w:World) (i:Nat) (o:Oper),R l a w→ops[i]? = some o→l.getD i false=false→(∀ e∈o.after,Region.binds md e=true→l.getD e.on false=true)→∀ K':Act→World→Prop,Shut (∀ a w,R (l.setIfInBounds i true) a w→K' a w)→if Region.wanted o (yielded ops a.tmps)=true then Oper.wp P o a w K' Q else K' (a.put o.dst undef) w)
  (hend:∀ (l:Array Bool) (a:Act) (w:World),R l a w→(∀ i,i<ops.size→l.getD i false=true)→Q .normal a w) :
  ∀ (fuel:Nat) (l:Array Bool) (a:Act) (w:World),l.size=ops.size→l.toList.countP (fun b=>!b)≤fuel→R l a w→wpAny P md ops Q fuel l a w:=by
 intro fuel
 induction fuel with
 | zero=>
  intro l a w a1 hc hR;have hr:Region.ready md ops l=[]:=by
   apply List.eq_nil_iff_forall_not_mem.2;intro i hi;obtain ⟨h0,o,ho,_⟩:=mem_ready.1 hi;have a0:i<l.size:=by have:=(Array.getElem?_eq_some_iff.1 ho).1;omega
   have hz:l.toList.countP (fun b=>!b)=0:=by omega
   have:=List.countP_eq_zero.1 hz l[i] (by simp)
   simp [Array.getD_eq_getD_getElem?,a0] at h0;simp [h0] at this
  exact ⟨hr,hend l a w hR (Zgy hord a1 hr)⟩
 | succ fuel ih=>
  intro l a w a1 hc hR;refine ⟨fun hr=>hend l a w hR (Zgy hord a1 hr),fun i hi=>?_⟩;obtain ⟨h0,o,ho,a2⟩:=mem_ready.1 hi;have a0:i<l.size:=by have:=(Array.getElem?_eq_some_iff.1 ho).1;omega
  have a3:l[i]=false:=by simpa [Array.getD_eq_getD_getElem?,a0] using h0
  have a4:l.getD i false=false:=by simp [Array.getD_eq_getD_getElem?,a0,a3]
  refine wpOp_step ho (fun K' hK=>hstep l a w i o hR ho a4 a2 K' (fun a' w' h'=>hK a' w' (ih _ a' w' (by simpa using a1) ?_ h')))
  have:=Zli l.toList i (by simp [a0,a3])
  rw [Array.toList_setIfInBounds];omega
theorem Zj9 {AF:(Nat→Value)→Act} {P:(Nat→Value)→Prop} (a:Act) (h:a=AF (fun i=>a.tmps.getD i undef)) (hp:P (fun i=>a.tmps.getD i undef)):∃ x,a=AF x∧P x:=⟨_,h,hp⟩
theorem Zuq (Zrg:List Nat) (n:Nat) (hdep:∀ e∈o.after,Region.binds .any e=true→l.getD e.on false=true) (hk:((List.range n).all fun k=>Zrg.contains k||o.after.any fun e=>Region.binds .any e&&e.on==k)=true):∀ i,i<n→i ∉ Zrg→l.getD i false=true:=by
 intro i hi hn
 have:=List.all_eq_true.1 hk i (List.mem_range.2 hi)
 rw [Bool.or_eq_true] at this;rcases this with h|h
 ·exact absurd (List.contains_iff_mem.1 h) hn
 ·exact Zn hdep i h
theorem Zva {Zrg:List Nat} {k m:Nat} (hs:l.size=m) (hk:k<m) (h:∀ i,i<k→i ∉ Zrg→l.getD i false=true):∀ i,i<k+1→i ∉ Zrg→(l.setIfInBounds k true).getD i false=true:=by
 intro i hi hn;by_cases e:i=k
 ·subst e;exact Qv (by omega)
 ·exact getD_set_true (h i (by omega) hn)
def Zzj:Nat→Nat
 | 0=>9
 | 1=>10
 | 2=>11
 | 3=>12
 | 4=>13
 | 5=>14
 | 6=>15
 | 7=>16
 | 8=>17
 | 9=>18
 | 10=>19
 | 11=>20
 | 12=>21
 | 13=>22
 | 14=>23
 | 15=>24
 | 16=>25
 | 17=>26
 | 18=>27
 | 19=>28
 | 20=>29
 | 21=>8
 | 22=>30
 | 23=>31
 | 24=>32
 | _=>999
def Zaj:Nat→List Nat:=fun i=>[i]
def Zzs (gA f t c:Nat) (size:Int) (gI gO:Nat→Nat) (iL cI oL cO:Nat) (a:Option Addr) (ll cp:Nat) (lv:Int) (b:Option Addr) (lo cq:Nat) (rv:List Int) (rL:Int) (n0:Nat) (i:Nat) (x:Nat→Value) (w:World):Prop:=
 match i with
 | 0=>x 9=.pointer (some ⟨gA,t*7,none⟩)
 | 1=>x 10=.pointer (some ⟨gA,t*7,none⟩)
 | 2=>x 11=.pointer (some ⟨gA,t*7+3,none⟩)
 | 3=>x 12=.slice (some ⟨gI t,0,none⟩) iL cI
 | 4=>x 13=.int .i64 (c:Int)
 | 5=>x 14=.pointer (some ⟨gA,t*7,none⟩)
 | 6=>x 15=.pointer (some ⟨gA,t*7,none⟩)
 | 7=>x 16=.pointer (some ⟨gA,t*7+3,none⟩)
 | 8=>x 17=.slice (some ⟨gI t,0,none⟩) iL cI
 | 9=>x 18=.int .i64 (c:Int)
 | 10=>x 19=.pointer (some ⟨gI t,c*2,none⟩)
 | 11=>x 20=.agg #[.slice a ll cp,.int .i64 lv]
 | 12=>x 21=.int .i64 size
 | 13=>x 22=.pointer (some ⟨gA,f*7,none⟩)
 | 14=>x 23=.pointer (some ⟨gA,f*7,none⟩)
 | 15=>x 24=.pointer (some ⟨gA,f*7+5,none⟩)
 | 16=>x 25=.slice (some ⟨gO f,0,none⟩) oL cO
 | 17=>x 26=.int .i64 (c:Int)
 | 18=>x 27=.pointer (some ⟨gO f,c,none⟩)
 | 19=>x 28=.slice b lo cq
 | 20=>∃ va vc,x 29=.tuple #[.agg #[.slice va rv.length vc,.int .i64 rL],.int .i64 0]∧w.ownsRow n0 3 1 (.slice va rv.length vc) rv.length (ivs rv)
 | 21=>∃ va vc,x 8=.tuple #[.agg #[.slice va rv.length vc,.int .i64 rL],.int .i64 0]∧w.ownsRow n0 3 1 (.slice va rv.length vc) rv.length (ivs rv)
 | 22=>∃ va vc,x 30=.agg #[.slice va rv.length vc,.int .i64 rL]∧w.ownsRow n0 3 1 (.slice va rv.length vc) rv.length (ivs rv)
 | 23=>x 31=.int .i64 0
 | 24=>x 32=.pointer (some ⟨gI t,c*2,none⟩)
 | _=>True
def Zab (x:Nat→Value):Act:={tmps:=#[x 0,x 1,x 2,x 3,x 4,x 5,x 6,x 7,x 8,x 9,x 10,x 11,x 12,x 13,x 14,x 15,x 16,x 17,x 18,x 19,x 20,x 21,x 22,x 23,x 24,x 25,x 26,x 27,x 28,x 29,x 30,x 31,x 32,x 33,x 34,x 35,x 36,x 37,x 38],defers:=[]}
def Zz0 (gA f t c:Nat) (size:Int) (gI gO:Nat→Nat) (iL cI oL cO:Nat) (a:Option Addr) (ll cp:Nat) (lv:Int) (b:Option Addr) (lo cq:Nat) (rv:List Int) (rL:Int) (x:Nat→Value):Prop:=x 0=.int .i64 (c:Int)∧x 1=.int .i64 size∧x 2=.pointer (some ⟨gA,f*7,none⟩)∧x 3=.pointer (some ⟨gA,t*7,none⟩)∧x 4=undef∧x 5=undef∧x 6=undef∧x 7=undef
theorem Yo {gI gO:Nat→Nat} (x:Nat→Value) (s:Nat) (v:Value) (hs:0≠s∧1≠s∧2≠s∧3≠s∧4≠s∧5≠s∧6≠s∧7≠s) (h:Zz0 gA f t c size gI gO iL cI oL cO a ll cp lv b lo cq rv rL x):Zz0 gA f t c size gI gO iL cI oL cO a ll cp lv b lo cq rv rL (upd x s v):=by
 obtain ⟨q0,q1,q2,q3,q4,q5,q6,q7⟩:=hs;obtain ⟨h0,h1,h2,h3,h4,h5,h6,h7⟩:=h;exact ⟨(if_neg q0).trans h0,(if_neg q1).trans h1,(if_neg q2).trans h2,(if_neg q3).trans h3,(if_neg q4).trans h4,(if_neg q5).trans h5,(if_neg q6).trans h6,(if_neg q7).trans h7⟩
theorem Yd {gI gO:Nat→Nat} {n0:Nat} (i:Nat) (x x':Nat→Value) (w w':World) (hb:Below w.heap.size w w') (hx:∀ j∈Zaj i,x' (Zzj j)=x (Zzj j)) (h:Zzs gA f t c size gI gO iL cI oL cO a ll cp lv b lo cq rv rL n0 i x w):Zzs gA f t c size gI gO iL cI oL cO a ll cp lv b lo cq rv rL n0 i x' w':=by
 match i with
 | 0=>exact (hx 0 (by simp [Zaj])).trans h
 | 1=>exact (hx 1 (by simp [Zaj])).trans h
 | 2=>exact (hx 2 (by simp [Zaj])).trans h
 | 3=>exact (hx 3 (by simp [Zaj])).trans h
 | 4=>exact (hx 4 (by simp [Zaj])).trans h
 | 5=>exact (hx 5 (by simp [Zaj])).trans h
 | 6=>exact (hx 6 (by simp [Zaj])).trans h
 | 7=>exact (hx 7 (by simp [Zaj])).trans h
 | 8=>exact (hx 8 (by simp [Zaj])).trans h
 | 9=>exact (hx 9 (by simp [Zaj])).trans h
 | 10=>exact (hx 10 (by simp [Zaj])).trans h
 | 11=>exact (hx 11 (by simp [Zaj])).trans h
 | 12=>exact (hx 12 (by simp [Zaj])).trans h
 | 13=>exact (hx 13 (by simp [Zaj])).trans h
 | 14=>exact (hx 14 (by simp [Zaj])).trans h
 | 15=>exact (hx 15 (by simp [Zaj])).trans h
 | 16=>exact (hx 16 (by simp [Zaj])).trans h
 | 17=>exact (hx 17 (by simp [Zaj])).trans h
 | 18=>exact (hx 18 (by simp [Zaj])).trans h
 | 19=>exact (hx 19 (by simp [Zaj])).trans h
 | 20=>
  have e:x' 29=x 29:=hx 20 (by simp [Zaj]);obtain ⟨va,vc,h1,h2⟩:=h;exact ⟨va,vc,e.trans h1,Zy h2 hb⟩
 | 21=>
  have e:x' 8=x 8:=hx 21 (by simp [Zaj]);obtain ⟨va,vc,h1,h2⟩:=h;exact ⟨va,vc,e.trans h1,Zy h2 hb⟩
 | 22=>
  have e:x' 30=x 30:=hx 22 (by simp [Zaj]);obtain ⟨va,vc,h1,h2⟩:=h;exact ⟨va,vc,e.trans h1,Zy h2 hb⟩
 | 23=>exact (hx 23 (by simp [Zaj])).trans h
 | 24=>exact (hx 24 (by simp [Zaj])).trans h
 | n+25=>trivial
theorem Yr:∀ i,i<25→∀ j,j<25→i≠j→Zzj i≠Zzj j:=by decide
theorem Y5:∀ i,i<25→∀ j∈Zaj i,j<25:=by decide
theorem Zpb (X:Nat→Prop) (n0:Nat) (w:World) (gA n:Nat) (Ds:Nat→Dom) (As:Nat→Yk) (gI gO:Nat→Nat) (h:ClS X w gA n Ds As gI gO) (hX:∀ k,w.heap.size≤k→¬ X k) (hlo:∀ i,i<n→n0≤gI i∧n0≤gO i) (hn0:n0≤w.heap.size) (f t c:Nat) (size:Int) (hf:f<n) (ht:t<n) (hft:f≠t) (hc:c<(Ds t).ins.length) (hc':c<(Ds f).out.length)
  (h0:ckR (Ds t).ins[c].1 (Ds t).ins[c].2 size=0) (h1:Zbc (Ds f).out[c] 0 255=true) (hm:(Ds f).out[c].length≤140737488355328) :
  Calls prog 75 #[.int .i64 c,.int .i64 size,.pointer (some ⟨gA,f*7,none⟩),.pointer (some ⟨gA,t*7,none⟩)] w fun e w'=>e=.returned (.tuple #[])∧ClS X w' gA n (Zct (Zct Ds t (Zde (Ds t) (Ds f) c size)) f (Zgb (Ds f) c)) As gI gO∧Ext X w w'∧Below n0 w w'∧w'.heap[gA]? = w.heap[gA]? := by
 have b8:=(hlo t ht).1;have bs:=(hlo f hf).2;obtain ⟨cs,i1,i2,i3⟩:=(h.cl t ht).i;obtain ⟨ds,o1,o2,o3⟩:=(h.cl f hf).o;obtain ⟨a,cp,p1,p2,p3,p4,p5⟩:=i3 c hc;obtain ⟨b,cq,q1,q2,q3,q4⟩:=o3 c hc';have t3:=(h.at_ t ht).c3;have f5:=(h.at_ f hf).c5;rw [(h.cl t ht).aI,Nat.zero_add] at t3;rw [(h.cl f hf).aO,Nat.zero_add] at f5;have bt:gA<w.heap.size:=World.block_lt_of_cell? _ _ t3;have r0:=i1.cell _ _ p1;have r1:=i1.cell _ _ p2;have s0:=o1.cell _ _ q1;obtain ⟨⟨z1,z2⟩,z3,z4,z5,z6⟩:=Zh7 h0;obtain ⟨R,HR⟩:∃ R:Nat,Hid (size=(((Ds t).ins[c].1.length+R:Nat):Int)):=⟨(size-(Ds t).ins[c].1.length).toNat,hid (by omega)⟩
 have HG:Hid (Zde (Ds t) (Ds f) c size=⟨(Ds t).jobs,(Ds t).rel,(Ds t).nxt,(Ds t).ins.set c (Zkf (Ds t).ins[c].1 (Ds f).out[c] R (Ds f).out[c].length,Zm6 (Ds t).ins[c].2 R (Ds f).out[c].length),(Ds t).tak,(Ds t).out,(Ds t).evs⟩):=by
  refine hid ?_;unfold Zde;rw [show (Ds t).ins.getD c ([],0)=(Ds t).ins[c] by simp [hc],show (Ds f).out.getD c []=(Ds f).out[c] by simp [hc'],show size.toNat-(Ds t).ins[c].1.length=R by have:=HR.out;omega]
 have CX:Hid (∀ wx,Below w.heap.size w wx→Calls prog 106 #[.agg #[.slice a (Ds t).ins[c].1.length cp,.int .i64 (Ds t).ins[c].2],.int .i64 size,.slice b (Ds f).out[c].length cq] wx fun e w'=>∃ v,e=.returned (.tuple #[.agg #[v,.int .i64 (Zm6 (Ds t).ins[c].2 R (Ds f).out[c].length)],.int .i64 0])∧w'.ownsRow wx.heap.size 3 1 v (Zkf (Ds t).ins[c].1 (Ds f).out[c] R (Ds f).out[c].length).length (ivs (Zkf (Ds t).ins[c].1 (Ds f).out[c] R (Ds f).out[c].length))∧Below wx.heap.size wx w'):=
  hid fun wx hbx=>Zsw a (Ds t).ins[c].1 cp (Ds t).ins[c].2 size b (Ds f).out[c] cq wx (p3 wx (Ext.below hbx)) p5 (q2 wx (Ext.below hbx)) hm q3 h0 h1 R HR.out
 have cj:(c:Int)<((Ds t).ins.length:Int):=by omega
 have cm:(c:Int)<((Ds f).out.length:Int):=by omega
 have lI:=(h.cl t ht).lI;have lO:=(h.cl f hf).lO;have a6:=h.nIO t f ht hf;have cn:=(h.nA t ht).1;have co:=(h.nA f hf).2;generalize (Ds t).ins[c].1.length=ll at *
 generalize (Ds t).ins[c].2=lv at *
 generalize Zkf (Ds t).ins[c].1 (Ds f).out[c] R (Ds f).out[c].length=rv at *
 generalize Zm6 lv R (Ds f).out[c].length=rL at *
 generalize (Ds f).out[c].length=lo at *
 have HH:=hid h;have HX:=hid hX;have HN:=hid hn0;have HF:=hid (And.intro hft hc);have HS:Hid (∀ w',Below w.heap.size w w'→w'.cell? ⟨gA,t*7+3,none⟩=some (.slice (some ⟨gI t,0,none⟩) (Ds t).ins.length (As t).cI)∧w'.cell? ⟨gA,f*7+5,none⟩=some (.slice (some ⟨gO f,0,none⟩) (Ds f).out.length (As f).cO)∧w'.cell? ⟨gI t,c*2,none⟩=some (.slice a ll cp)∧w'.cell? ⟨gI t,c*2+1,none⟩=some (.int .i64 lv)∧w'.cell? ⟨gO f,c,none⟩=some (.slice b lo cq)):=hid fun w' hb'=>⟨Zg hb' t3 lr,Zg hb' f5 lr,Zg hb' r0 lr,Zg hb' r1 lr,Zg hb' s0 lr⟩
 have HI:=hid i1;have HO:=hid o1;have ab:Below w.heap.size w w.drew:=br.drew;clear h hX hn0 hlo i1 i2 i3 o1 o2 o3 p1 p2 p3 p4 p5 q1 q2 q3 q4 z1 z2 z3 z4 z5 z6 h0 h1 hm hft hc hc';go_enter func75,ntmps75;go_upto_region 0 with fail;go_cut [] (fun wx=>∃ wy v,Below w.heap.size w wy∧wy.ownsRow w.heap.size 3 1 v rv.length (ivs rv)∧wx=(wy.setCell ⟨gI t,c*2,none⟩ v).setCell ⟨gI t,c*2+1,none⟩ (.int .i64 rL))
 case first=>
  refine wp_region_any (by kernel_rfl) ?_;change wpAny _ _ _ _ _ _ _ (World.drew _);refine Zfg (fun lB aB w'=>∃ x,aB=Zab x∧Zz0 gA f t c size gI gO (Ds t).ins.length (As t).cI (Ds f).out.length (As f).cO a ll cp lv b lo cq rv rL x∧(RPg (Zzs gA f t c size gI gO (Ds t).ins.length (As t).cI (Ds f).out.length (As f).cO a ll cp lv b lo cq rv rL w.heap.size) Zaj 25 26 w.drew lB x w'∨((∀ i,i<26→i ∉ ([23]:List Nat)→lB.getD i false=true)∧lB.size=26∧(∃ va vc,x 8=.tuple #[.agg #[.slice va rv.length vc,.int .i64 rL],.int .i64 0])∧∃ wy va vc,Below w.heap.size w wy∧wy.ownsRow w.heap.size 3 1 (.slice va rv.length vc) rv.length (ivs rv)∧w'=(wy.setCell ⟨gI t,c*2,none⟩ (.slice va rv.length vc)).setCell ⟨gI t,c*2+1,none⟩ (.int .i64 rL)))) (by kernel_rfl) ?step ?fin _ _ _ _ rfl (by decide) ?start
  case start=>exact Zj9 _ rfl ⟨⟨rfl,rfl,rfl,rfl,rfl,rfl,rfl,rfl⟩,.inl ⟨rfl,br,fun i hi=>by simp [Array.getD_eq_getD_getElem?,Array.getElem?_replicate];split<;>simp,fun i h=>absurd h (by simp [Array.getD_eq_getD_getElem?,Array.getElem?_replicate];split<;>simp),fun i h=>absurd h (by simp [Array.getD_eq_getD_getElem?,Array.getElem?_replicate];split<;>simp)⟩⟩
  case step=>
   intro lB aB w2 iB oB h ho hl a0 K' hK;have hi:iB<26:=by
    have:=(Array.getElem?_eq_some_iff.1 ho).1
    simpa using this
   obtain ⟨x,rfl,a3,h⟩:=h;have bu:iB=0∨iB=1∨iB=2∨iB=3∨iB=4∨iB=5∨iB=6∨iB=7∨iB=8∨iB=9∨iB=10∨iB=11∨iB=12∨iB=13∨iB=14∨iB=15∨iB=16∨iB=17∨iB=18∨iB=19∨iB=20∨iB=21∨iB=22∨iB=23∨iB=24∨iB=25:=by omega
   rcases bu with rfl|rfl|rfl|rfl|rfl|rfl|rfl|rfl|rfl|rfl|rfl|rfl|rfl|rfl|rfl|rfl|rfl|rfl|rfl|rfl|rfl|rfl|rfl|rfl|rfl|rfl
   ·simp only [xJ1,xJ2,xJ4] at ho
    subst ho;rcases h with h|⟨a1,a4,a2⟩
    case inr=>rw [a1 0 (by decide) (by decide)] at hl;cases hl
    have a5:=a3;obtain ⟨b0,b1,b2,b3,b4,b5,b6,b7⟩:=a5;clear a0;simp only [Zab,b0,b1,b2,b3,b4,b5,b6,b7];go_simp;exact hK.out _ _ ⟨upd x 9 (.pointer (some ⟨gA,t*7,none⟩)),(by simp only [Zab,upd,reduceIte,Nat.reduceEqDiff,b0,b1,b2,b3,b4,b5,b6,b7]),Yo _ _ _ (by decide) a3,.inl (Zj Yd Yr Y5 h 0 _ (by decide) hl br rfl (fun j hj a6=>absurd hj (by simp [Zaj,a6])))⟩
   ·simp only [xJ1,xJ2,xJ3,xJ4] at ho
    subst ho;rcases h with h|⟨a1,a4,a2⟩
    case inr=>rw [a1 1 (by decide) (by decide)] at hl;cases hl
    have a5:=a3;obtain ⟨b0,b1,b2,b3,b4,b5,b6,b7⟩:=a5;have bv:=Zn a0 0 (by kernel_rfl);have f0:x 9=.pointer (some ⟨gA,t*7,none⟩):=h.fc 0 bv;clear a0;simp only [Zab,b0,b1,b2,b3,b4,b5,b6,b7,f0];go_simp;exact hK.out _ _ ⟨upd x 10 (.pointer (some ⟨gA,t*7,none⟩)),(by simp only [Zab,upd,reduceIte,Nat.reduceEqDiff,b0,b1,b2,b3,b4,b5,b6,b7,f0]),Yo _ _ _ (by decide) a3,.inl (Zj Yd Yr Y5 h 1 _ (by decide) hl br rfl (fun j hj a6=>absurd hj (by simp [Zaj,a6])))⟩
   ·simp only [xJ1,xJ2,xJ3,xJ4] at ho
    subst ho;rcases h with h|⟨a1,a4,a2⟩
    case inr=>rw [a1 2 (by decide) (by decide)] at hl;cases hl
    have a5:=a3;obtain ⟨b0,b1,b2,b3,b4,b5,b6,b7⟩:=a5;have bw:=Zn a0 1 (by kernel_rfl);have f1:x 10=.pointer (some ⟨gA,t*7,none⟩):=h.fc 1 bw;clear a0;simp only [Zab,b0,b1,b2,b3,b4,b5,b6,b7,f1];go_simp;exact hK.out _ _ ⟨upd x 11 (.pointer (some ⟨gA,t*7+3,none⟩)),(by simp only [Zab,upd,reduceIte,Nat.reduceEqDiff,b0,b1,b2,b3,b4,b5,b6,b7,f1]),Yo _ _ _ (by decide) a3,.inl (Zj Yd Yr Y5 h 2 _ (by decide) hl br rfl (fun j hj a6=>absurd hj (by simp [Zaj,a6])))⟩
   ·simp only [xJ1,xJ2,xJ3,xJ4] at ho
    subst ho;rcases h with h|⟨a1,a4,a2⟩
    case inr=>rw [a1 3 (by decide) (by decide)] at hl;cases hl
    have a5:=a3;obtain ⟨b0,b1,b2,b3,b4,b5,b6,b7⟩:=a5;have bx:=Zn a0 2 (by kernel_rfl);have f2:x 11=.pointer (some ⟨gA,t*7+3,none⟩):=h.fc 2 bx;clear a0;obtain ⟨y1,y2,y3,y4,y5⟩:=HS.out _ (Zb ab h.b);simp only [Zab,b0,b1,b2,b3,b4,b5,b6,b7,f2];go_simp;exact hK.out _ _ ⟨upd x 12 (.slice (some ⟨gI t,0,none⟩) (Ds t).ins.length (As t).cI),(by simp only [Zab,upd,reduceIte,Nat.reduceEqDiff,b0,b1,b2,b3,b4,b5,b6,b7,f2]),Yo _ _ _ (by decide) a3,.inl (Zj Yd Yr Y5 h 3 _ (by decide) hl br rfl (fun j hj a6=>absurd hj (by simp [Zaj,a6])))⟩
   ·simp only [xJ1,xJ2,xJ3,xJ4] at ho
    subst ho;rcases h with h|⟨a1,a4,a2⟩
    case inr=>rw [a1 4 (by decide) (by decide)] at hl;cases hl
    have a5:=a3;obtain ⟨b0,b1,b2,b3,b4,b5,b6,b7⟩:=a5;clear a0;simp only [Zab,b0,b1,b2,b3,b4,b5,b6,b7];go_simp;exact hK.out _ _ ⟨upd x 13 (.int .i64 (c:Int)),(by simp only [Zab,upd,reduceIte,Nat.reduceEqDiff,b0,b1,b2,b3,b4,b5,b6,b7]),Yo _ _ _ (by decide) a3,.inl (Zj Yd Yr Y5 h 4 _ (by decide) hl br rfl (fun j hj a6=>absurd hj (by simp [Zaj,a6])))⟩
   ·simp only [xJ1,xJ2,xJ3,xJ4] at ho
    subst ho;rcases h with h|⟨a1,a4,a2⟩
    case inr=>rw [a1 5 (by decide) (by decide)] at hl;cases hl
    have a5:=a3;obtain ⟨b0,b1,b2,b3,b4,b5,b6,b7⟩:=a5;clear a0;simp only [Zab,b0,b1,b2,b3,b4,b5,b6,b7];go_simp;exact hK.out _ _ ⟨upd x 14 (.pointer (some ⟨gA,t*7,none⟩)),(by simp only [Zab,upd,reduceIte,Nat.reduceEqDiff,b0,b1,b2,b3,b4,b5,b6,b7]),Yo _ _ _ (by decide) a3,.inl (Zj Yd Yr Y5 h 5 _ (by decide) hl br rfl (fun j hj a6=>absurd hj (by simp [Zaj,a6])))⟩
   ·simp only [xJ1,xJ2,xJ3,xJ4] at ho
    subst ho;rcases h with h|⟨a1,a4,a2⟩
    case inr=>rw [a1 6 (by decide) (by decide)] at hl;cases hl
    have a5:=a3;obtain ⟨b0,b1,b2,b3,b4,b5,b6,b7⟩:=a5;have bz:=Zn a0 5 (by kernel_rfl);have f5:x 14=.pointer (some ⟨gA,t*7,none⟩):=h.fc 5 bz;clear a0;simp only [Zab,b0,b1,b2,b3,b4,b5,b6,b7,f5];go_simp;exact hK.out _ _ ⟨upd x 15 (.pointer (some ⟨gA,t*7,none⟩)),(by simp only [Zab,upd,reduceIte,Nat.reduceEqDiff,b0,b1,b2,b3,b4,b5,b6,b7,f5]),Yo _ _ _ (by decide) a3,.inl (Zj Yd Yr Y5 h 6 _ (by decide) hl br rfl (fun j hj a6=>absurd hj (by simp [Zaj,a6])))⟩
   ·simp only [xJ1,xJ2,xJ3,xJ4] at ho
    subst ho;rcases h with h|⟨a1,a4,a2⟩
    case inr=>rw [a1 7 (by decide) (by decide)] at hl;cases hl
    have a5:=a3;obtain ⟨b0,b1,b2,b3,b4,b5,b6,b7⟩:=a5;have c0:=Zn a0 6 (by kernel_rfl);have f6:x 15=.pointer (some ⟨gA,t*7,none⟩):=h.fc 6 c0;clear a0;simp only [Zab,b0,b1,b2,b3,b4,b5,b6,b7,f6];go_simp;exact hK.out _ _ ⟨upd x 16 (.pointer (some ⟨gA,t*7+3,none⟩)),(by simp only [Zab,upd,reduceIte,Nat.reduceEqDiff,b0,b1,b2,b3,b4,b5,b6,b7,f6]),Yo _ _ _ (by decide) a3,.inl (Zj Yd Yr Y5 h 7 _ (by decide) hl br rfl (fun j hj a6=>absurd hj (by simp [Zaj,a6])))⟩
   ·simp only [xJ1,xJ2,xJ3,xJ4] at ho
    subst ho;rcases h with h|⟨a1,a4,a2⟩
    case inr=>rw [a1 8 (by decide) (by decide)] at hl;cases hl
    have a5:=a3;obtain ⟨b0,b1,b2,b3,b4,b5,b6,b7⟩:=a5;have c1:=Zn a0 7 (by kernel_rfl);have f7:x 16=.pointer (some ⟨gA,t*7+3,none⟩):=h.fc 7 c1;clear a0;obtain ⟨y1,y2,y3,y4,y5⟩:=HS.out _ (Zb ab h.b);simp only [Zab,b0,b1,b2,b3,b4,b5,b6,b7,f7];go_simp;exact hK.out _ _ ⟨upd x 17 (.slice (some ⟨gI t,0,none⟩) (Ds t).ins.length (As t).cI),(by simp only [Zab,upd,reduceIte,Nat.reduceEqDiff,b0,b1,b2,b3,b4,b5,b6,b7,f7]),Yo _ _ _ (by decide) a3,.inl (Zj Yd Yr Y5 h 8 _ (by decide) hl br rfl (fun j hj a6=>absurd hj (by simp [Zaj,a6])))⟩
   ·simp only [xJ1,xJ2,xJ3,xJ4] at ho
    subst ho;rcases h with h|⟨a1,a4,a2⟩
    case inr=>rw [a1 9 (by decide) (by decide)] at hl;cases hl
    have a5:=a3;obtain ⟨b0,b1,b2,b3,b4,b5,b6,b7⟩:=a5;clear a0;simp only [Zab,b0,b1,b2,b3,b4,b5,b6,b7];go_simp;exact hK.out _ _ ⟨upd x 18 (.int .i64 (c:Int)),(by simp only [Zab,upd,reduceIte,Nat.reduceEqDiff,b0,b1,b2,b3,b4,b5,b6,b7]),Yo _ _ _ (by decide) a3,.inl (Zj Yd Yr Y5 h 9 _ (by decide) hl br rfl (fun j hj a6=>absurd hj (by simp [Zaj,a6])))⟩
   ·simp only [xJ1,xJ2,xJ3,xJ4] at ho
    subst ho;rcases h with h|⟨a1,a4,a2⟩
    case inr=>rw [a1 10 (by decide) (by decide)] at hl;cases hl
    have a5:=a3;obtain ⟨b0,b1,b2,b3,b4,b5,b6,b7⟩:=a5;have c2:=Zn a0 8 (by kernel_rfl);have f8:x 17=.slice (some ⟨gI t,0,none⟩) (Ds t).ins.length (As t).cI:=h.fc 8 c2;have c4:=Zn a0 9 (by kernel_rfl);have f9:x 18=.int .i64 (c:Int):=h.fc 9 c4;clear a0;simp only [Zab,b0,b1,b2,b3,b4,b5,b6,b7,f8,f9];go_simp;exact hK.out _ _ ⟨upd x 19 (.pointer (some ⟨gI t,c*2,none⟩)),(by simp only [Zab,upd,reduceIte,Nat.reduceEqDiff,b0,b1,b2,b3,b4,b5,b6,b7,f8,f9]),Yo _ _ _ (by decide) a3,.inl (Zj Yd Yr Y5 h 10 _ (by decide) hl br rfl (fun j hj a6=>absurd hj (by simp [Zaj,a6])))⟩
   ·simp only [xJ1,xJ2,xJ3,xJ4] at ho
    subst ho;rcases h with h|⟨a1,a4,a2⟩
    case inr=>rw [a1 11 (by decide) (by decide)] at hl;cases hl
    have a5:=a3;obtain ⟨b0,b1,b2,b3,b4,b5,b6,b7⟩:=a5;have ai:=Zn a0 10 (by kernel_rfl);have b9:x 19=.pointer (some ⟨gI t,c*2,none⟩):=h.fc 10 ai;clear a0;obtain ⟨y1,y2,y3,y4,y5⟩:=HS.out _ (Zb ab h.b);have HT:∀ j u,[Value.slice a ll cp,.int .i64 lv][j]? = some u→w2.cell? ⟨gI t,c*2+j,none⟩=some u:=fun j u hu=>by
     match j,hu with
     | 0,hu=>cases hu;exact y3
     | 1,hu=>cases hu;exact y4
    simp only [Zab,b0,b1,b2,b3,b4,b5,b6,b7,b9];refine Yw (by rfl) ?_;refine wp_load_mid 90 _ rfl (gI t) (c*2) (by rfl) [.slice a ll cp,.int .i64 lv] _ (HT) underlying90 rfl (by kernel_rfl) ?_;refine hK.out _ _ ⟨upd x 20 (.agg #[.slice a ll cp,.int .i64 lv]),?_,Yo _ _ _ (by decide) a3,.inl (Zj Yd Yr Y5 h 11 _ (by decide) hl br rfl (fun j hj a6=>absurd hj (by simp [Zaj,a6])))⟩;simp only [Act.put,List.setIfInBounds_toArray,List.set_cons_zero,List.set_cons_succ,Zab,upd,reduceIte,Nat.reduceEqDiff,b0,b1,b2,b3,b4,b5,b6,b7,b9]
   ·simp only [xJ1,xJ2,xJ3,xJ4] at ho
    subst ho;rcases h with h|⟨a1,a4,a2⟩
    case inr=>rw [a1 12 (by decide) (by decide)] at hl;cases hl
    have a5:=a3;obtain ⟨b0,b1,b2,b3,b4,b5,b6,b7⟩:=a5;clear a0;simp only [Zab,b0,b1,b2,b3,b4,b5,b6,b7];go_simp;exact hK.out _ _ ⟨upd x 21 (.int .i64 size),(by simp only [Zab,upd,reduceIte,Nat.reduceEqDiff,b0,b1,b2,b3,b4,b5,b6,b7]),Yo _ _ _ (by decide) a3,.inl (Zj Yd Yr Y5 h 12 _ (by decide) hl br rfl (fun j hj a6=>absurd hj (by simp [Zaj,a6])))⟩
   ·simp only [xJ1,xJ2,xJ3,xJ4] at ho
    subst ho;rcases h with h|⟨a1,a4,a2⟩
    case inr=>rw [a1 13 (by decide) (by decide)] at hl;cases hl
    have a5:=a3;obtain ⟨b0,b1,b2,b3,b4,b5,b6,b7⟩:=a5;clear a0;simp only [Zab,b0,b1,b2,b3,b4,b5,b6,b7];go_simp;exact hK.out _ _ ⟨upd x 22 (.pointer (some ⟨gA,f*7,none⟩)),(by simp only [Zab,upd,reduceIte,Nat.reduceEqDiff,b0,b1,b2,b3,b4,b5,b6,b7]),Yo _ _ _ (by decide) a3,.inl (Zj Yd Yr Y5 h 13 _ (by decide) hl br rfl (fun j hj a6=>absurd hj (by simp [Zaj,a6])))⟩
   ·simp only [xJ1,xJ2,xJ3,xJ4] at ho
    subst ho;rcases h with h|⟨a1,a4,a2⟩
    case inr=>rw [a1 14 (by decide) (by decide)] at hl;cases hl
    have a5:=a3;obtain ⟨b0,b1,b2,b3,b4,b5,b6,b7⟩:=a5;have aj:=Zn a0 13 (by kernel_rfl);have ba:x 22=.pointer (some ⟨gA,f*7,none⟩):=h.fc 13 aj;clear a0;simp only [Zab,b0,b1,b2,b3,b4,b5,b6,b7,ba];go_simp;exact hK.out _ _ ⟨upd x 23 (.pointer (some ⟨gA,f*7,none⟩)),(by simp only [Zab,upd,reduceIte,Nat.reduceEqDiff,b0,b1,b2,b3,b4,b5,b6,b7,ba]),Yo _ _ _ (by decide) a3,.inl (Zj Yd Yr Y5 h 14 _ (by decide) hl br rfl (fun j hj a6=>absurd hj (by simp [Zaj,a6])))⟩
   ·simp only [xJ1,xJ2,xJ3,xJ4] at ho
    subst ho;rcases h with h|⟨a1,a4,a2⟩
    case inr=>rw [a1 15 (by decide) (by decide)] at hl;cases hl
    have a5:=a3;obtain ⟨b0,b1,b2,b3,b4,b5,b6,b7⟩:=a5;have ak:=Zn a0 14 (by kernel_rfl);have bb:x 23=.pointer (some ⟨gA,f*7,none⟩):=h.fc 14 ak;clear a0;simp only [Zab,b0,b1,b2,b3,b4,b5,b6,b7,bb];go_simp;exact hK.out _ _ ⟨upd x 24 (.pointer (some ⟨gA,f*7+5,none⟩)),(by simp only [Zab,upd,reduceIte,Nat.reduceEqDiff,b0,b1,b2,b3,b4,b5,b6,b7,bb]),Yo _ _ _ (by decide) a3,.inl (Zj Yd Yr Y5 h 15 _ (by decide) hl br rfl (fun j hj a6=>absurd hj (by simp [Zaj,a6])))⟩
   ·simp only [xJ1,xJ2,xJ3,xJ4] at ho
    subst ho;rcases h with h|⟨a1,a4,a2⟩
    case inr=>rw [a1 16 (by decide) (by decide)] at hl;cases hl
    have a5:=a3;obtain ⟨b0,b1,b2,b3,b4,b5,b6,b7⟩:=a5;have al:=Zn a0 15 (by kernel_rfl);have bc:x 24=.pointer (some ⟨gA,f*7+5,none⟩):=h.fc 15 al;clear a0;obtain ⟨y1,y2,y3,y4,y5⟩:=HS.out _ (Zb ab h.b);simp only [Zab,b0,b1,b2,b3,b4,b5,b6,b7,bc];go_simp;exact hK.out _ _ ⟨upd x 25 (.slice (some ⟨gO f,0,none⟩) (Ds f).out.length (As f).cO),(by simp only [Zab,upd,reduceIte,Nat.reduceEqDiff,b0,b1,b2,b3,b4,b5,b6,b7,bc]),Yo _ _ _ (by decide) a3,.inl (Zj Yd Yr Y5 h 16 _ (by decide) hl br rfl (fun j hj a6=>absurd hj (by simp [Zaj,a6])))⟩
   ·simp only [xJ1,xJ2,xJ3,xJ4] at ho
    subst ho;rcases h with h|⟨a1,a4,a2⟩
    case inr=>rw [a1 17 (by decide) (by decide)] at hl;cases hl
    have a5:=a3;obtain ⟨b0,b1,b2,b3,b4,b5,b6,b7⟩:=a5;clear a0;simp only [Zab,b0,b1,b2,b3,b4,b5,b6,b7];go_simp;exact hK.out _ _ ⟨upd x 26 (.int .i64 (c:Int)),(by simp only [Zab,upd,reduceIte,Nat.reduceEqDiff,b0,b1,b2,b3,b4,b5,b6,b7]),Yo _ _ _ (by decide) a3,.inl (Zj Yd Yr Y5 h 17 _ (by decide) hl br rfl (fun j hj a6=>absurd hj (by simp [Zaj,a6])))⟩
   ·simp only [xJ1,xJ2,xJ3,xJ4] at ho
    subst ho;rcases h with h|⟨a1,a4,a2⟩
    case inr=>rw [a1 18 (by decide) (by decide)] at hl;cases hl
    have a5:=a3;obtain ⟨b0,b1,b2,b3,b4,b5,b6,b7⟩:=a5;have am:=Zn a0 16 (by kernel_rfl);have bd:x 25=.slice (some ⟨gO f,0,none⟩) (Ds f).out.length (As f).cO:=h.fc 16 am;have an:=Zn a0 17 (by kernel_rfl);have be:x 26=.int .i64 (c:Int):=h.fc 17 an;clear a0;simp only [Zab,b0,b1,b2,b3,b4,b5,b6,b7,bd,be];go_simp;exact hK.out _ _ ⟨upd x 27 (.pointer (some ⟨gO f,c,none⟩)),(by simp only [Zab,upd,reduceIte,Nat.reduceEqDiff,b0,b1,b2,b3,b4,b5,b6,b7,bd,be]),Yo _ _ _ (by decide) a3,.inl (Zj Yd Yr Y5 h 18 _ (by decide) hl br rfl (fun j hj a6=>absurd hj (by simp [Zaj,a6])))⟩
   ·simp only [xJ1,xJ2,xJ3,xJ4] at ho
    subst ho;rcases h with h|⟨a1,a4,a2⟩
    case inr=>rw [a1 19 (by decide) (by decide)] at hl;cases hl
    have a5:=a3;obtain ⟨b0,b1,b2,b3,b4,b5,b6,b7⟩:=a5;have ao:=Zn a0 18 (by kernel_rfl);have bf:x 27=.pointer (some ⟨gO f,c,none⟩):=h.fc 18 ao;clear a0;obtain ⟨y1,y2,y3,y4,y5⟩:=HS.out _ (Zb ab h.b);simp only [Zab,b0,b1,b2,b3,b4,b5,b6,b7,bf];go_simp;exact hK.out _ _ ⟨upd x 28 (.slice b lo cq),(by simp only [Zab,upd,reduceIte,Nat.reduceEqDiff,b0,b1,b2,b3,b4,b5,b6,b7,bf]),Yo _ _ _ (by decide) a3,.inl (Zj Yd Yr Y5 h 19 _ (by decide) hl br rfl (fun j hj a6=>absurd hj (by simp [Zaj,a6])))⟩
   ·simp only [xJ1,xJ2,xJ3,xJ4] at ho
    subst ho;rcases h with h|⟨a1,a4,a2⟩
    case inr=>rw [a1 20 (by decide) (by decide)] at hl;cases hl
    have a5:=a3;obtain ⟨b0,b1,b2,b3,b4,b5,b6,b7⟩:=a5;have ap:=Zn a0 11 (by kernel_rfl);have bg:x 20=.agg #[.slice a ll cp,.int .i64 lv]:=h.fc 11 ap;have aq:=Zn a0 12 (by kernel_rfl);have bh:x 21=.int .i64 size:=h.fc 12 aq;have ar:=Zn a0 19 (by kernel_rfl);have bi:x 28=.slice b lo cq:=h.fc 19 ar;clear a0;have c6:=h.b.size;simp only [Zab,b0,b1,b2,b3,b4,b5,b6,b7,bg,bh,bi];go_simp;refine Calls.mono (CX.out _ (Zb ab h.b)) ?_;rintro e w3 ⟨v,rfl,bj,c7⟩;obtain ⟨va,vc,rfl,_⟩:=Zu bj;exact hK.out _ _ ⟨upd x 29 (.tuple #[.agg #[.slice va rv.length vc,.int .i64 rL],.int .i64 0]),(by simp only [Zab,upd,reduceIte,Nat.reduceEqDiff,b0,b1,b2,b3,b4,b5,b6,b7,bg,bh,bi]),Yo _ _ _ (by decide) a3,.inl (Zj Yd Yr Y5 h 20 _ (by decide) hl c7 ⟨va,vc,rfl,Ys bj c6⟩ (fun j hj a6=>absurd hj (by simp [Zaj,a6])))⟩
   ·simp only [xJ1,xJ2,xJ3,xJ4] at ho
    subst ho;rcases h with h|⟨a1,a4,a2⟩
    case inr=>rw [a1 21 (by decide) (by decide)] at hl;cases hl
    have a5:=a3;obtain ⟨b0,b1,b2,b3,b4,b5,b6,b7⟩:=a5;have au:=Zn a0 20 (by kernel_rfl);obtain ⟨ad,ae,bk,c8⟩:=h.fc 20 au;clear a0;simp only [Zab,b0,b1,b2,b3,b4,b5,b6,b7,bk];go_simp;exact hK.out _ _ ⟨upd x 8 (.tuple #[.agg #[.slice ad rv.length ae,.int .i64 rL],.int .i64 0]),(by simp only [Zab,upd,reduceIte,Nat.reduceEqDiff,b0,b1,b2,b3,b4,b5,b6,b7,bk]),Yo _ _ _ (by decide) a3,.inl (Zj Yd Yr Y5 h 21 _ (by decide) hl br ⟨ad,ae,rfl,c8⟩ (fun j hj a6=>absurd hj (by simp [Zaj,a6])))⟩
   ·simp only [xJ1,xJ2,xJ3,xJ4] at ho
    subst ho;rcases h with h|⟨a1,a4,a2⟩
    case inr=>rw [a1 22 (by decide) (by decide)] at hl;cases hl
    have a5:=a3;obtain ⟨b0,b1,b2,b3,b4,b5,b6,b7⟩:=a5;have aa:=Zn a0 21 (by kernel_rfl);obtain ⟨a7,a8,a9,bm⟩:=h.fc 21 aa;clear a0;simp only [Zab,b0,b1,b2,b3,b4,b5,b6,b7,a9];go_simp;exact hK.out _ _ ⟨upd x 30 (.agg #[.slice a7 rv.length a8,.int .i64 rL]),(by simp only [Zab,upd,reduceIte,Nat.reduceEqDiff,b0,b1,b2,b3,b4,b5,b6,b7,a9]),Yo _ _ _ (by decide) a3,.inl (Zj Yd Yr Y5 h 22 _ (by decide) hl br ⟨a7,a8,rfl,bm⟩ (fun j hj a6=>absurd hj (by simp [Zaj,a6])))⟩
   ·simp only [xJ1,xJ2,xJ3,xJ4] at ho
    subst ho;rcases h with h|⟨a1,a4,a2⟩
    case inr=>
     obtain ⟨⟨a7,a8,a9⟩,af⟩:=a2;have a5:=a3;obtain ⟨b0,b1,b2,b3,b4,b5,b6,b7⟩:=a5;clear a0;simp only [Zab,b0,b1,b2,b3,b4,b5,b6,b7,a9];go_simp;exact hK.out _ _ ⟨upd x 31 (.int .i64 0),(by simp only [Zab,upd,reduceIte,Nat.reduceEqDiff,b0,b1,b2,b3,b4,b5,b6,b7,a9]),Yo _ _ _ (by decide) a3,.inr ⟨fun j hj hn=>getD_set_true (a1 j hj hn),by rw [Array.size_setIfInBounds];exact a4,⟨a7,a8,a9⟩,af⟩⟩
    have a5:=a3;obtain ⟨b0,b1,b2,b3,b4,b5,b6,b7⟩:=a5;have aa:=Zn a0 21 (by kernel_rfl);obtain ⟨a7,a8,a9,bm⟩:=h.fc 21 aa;clear a0;simp only [Zab,b0,b1,b2,b3,b4,b5,b6,b7,a9];go_simp;exact hK.out _ _ ⟨upd x 31 (.int .i64 0),(by simp only [Zab,upd,reduceIte,Nat.reduceEqDiff,b0,b1,b2,b3,b4,b5,b6,b7,a9]),Yo _ _ _ (by decide) a3,.inl (Zj Yd Yr Y5 h 23 _ (by decide) hl br rfl (fun j hj a6=>absurd hj (by simp [Zaj,a6])))⟩
   ·simp only [xJ1,xJ2,xJ3,xJ4] at ho
    subst ho;rcases h with h|⟨a1,a4,a2⟩
    case inr=>rw [a1 24 (by decide) (by decide)] at hl;cases hl
    have a5:=a3;obtain ⟨b0,b1,b2,b3,b4,b5,b6,b7⟩:=a5;have c9:=Zn a0 3 (by kernel_rfl);have f3:x 12=.slice (some ⟨gI t,0,none⟩) (Ds t).ins.length (As t).cI:=h.fc 3 c9;have ca:=Zn a0 4 (by kernel_rfl);have f4:x 13=.int .i64 (c:Int):=h.fc 4 ca;clear a0;simp only [Zab,b0,b1,b2,b3,b4,b5,b6,b7,f3,f4];go_simp;exact hK.out _ _ ⟨upd x 32 (.pointer (some ⟨gI t,c*2,none⟩)),(by simp only [Zab,upd,reduceIte,Nat.reduceEqDiff,b0,b1,b2,b3,b4,b5,b6,b7,f3,f4]),Yo _ _ _ (by decide) a3,.inl (Zj Yd Yr Y5 h 24 _ (by decide) hl br rfl (fun j hj a6=>absurd hj (by simp [Zaj,a6])))⟩
   ·simp only [xJ1,xJ2,xJ3,xJ4] at ho
    subst ho;rcases h with h|⟨a1,a4,a2⟩
    case inr=>rw [a1 25 (by decide) (by decide)] at hl;cases hl
    have a5:=a3;obtain ⟨b0,b1,b2,b3,b4,b5,b6,b7⟩:=a5;have aw:=Zn a0 24 (by kernel_rfl);have bn:x 32=.pointer (some ⟨gI t,c*2,none⟩):=h.fc 24 aw;have ax:=Zn a0 22 (by kernel_rfl);obtain ⟨ag,ah,bo,cb⟩:=h.fc 22 ax;have ay:Hid (∀ j,j<26→j ∉ ([23]:List Nat)→(lB.setIfInBounds 25 true).getD j false=true):=hid (Zva h.sz (by decide) (Zuq [23] 25 a0 (by kernel_rfl)));have aa:=Zn a0 21 (by kernel_rfl);obtain ⟨a7,a8,a9,-⟩:=h.fc 21 aa;have cc:=hid a9;have cd:=hid h;have ce:=hid bn;have cf:=hid bo;have az:=Zb ab h.b;obtain ⟨y1,y2,y3,y4,y5⟩:=HS.out _ az;have ac:=HI.out.below az lr;have cg:w2.there (gI t) (c*2) 2:=fun j hj=>by
     match j,hj with
     | 0,_=>exact ⟨by rw [Nat.add_zero,y3];rfl,ac.frozen _⟩
     | 1,_=>exact ⟨by rw [y4];rfl,ac.frozen _⟩
    clear y1 y2 y3 y4 y5 ac;simp only [Zab,b0,b1,b2,b3,b4,b5,b6,b7,bn,bo];refine Yw (by rfl) ?_;refine wp_store_mid 90 _ _ rfl (gI t) (c*2) #[.slice ag rv.length ah,.int .i64 rL] (by rfl) (by rfl) cg (by kernel_rfl) (by kernel_rfl) ?_;refine hK.out _ _ ⟨x,?_,a3,.inr ⟨ay.out,by rw [Array.size_setIfInBounds];exact cd.out.sz,⟨a7,a8,cc.out⟩,w2,ag,ah,az,cb,rfl⟩⟩;clear a9;simp only [Act.put,Zab,ce.out,cf.out,b0,b1,b2,b3,b4,b5,b6,b7]
  case fin=>
   rintro lB aB w2 ⟨x,rfl,a3,h|⟨_,_,_,wy,va,vc,hB,hO,rfl⟩⟩ a1
   ·have:=a1 25 (by decide)
    rw [h.un 25 (by decide)] at this;cases this
   have ch:=hid hB;have ci:=hid hO;obtain ⟨b0,b1,b2,b3,b4,b5,b6,b7⟩:=a3;clear hB hO;simp only [Zab,b0,b1,b2,b3,b4,b5,b6,b7];clear b0 b1 b2 b3 b4 b5 b6 b7;go_wp2;go_meet
   case rel=>exact ⟨wy,_,ch.out,ci.out,rfl⟩
 case rest=>
  obtain ⟨wy,v,hB,hO,rfl⟩:=hcut;obtain ⟨va,vc,rfl,hV,bp,bq⟩:=Zuo hO HX.out;have HD:=hid ((HH.out.keep hB).deliver hf ht HF.out.1 HF.out.2 (lost:=rL) hV bp bq);have cr:=(HS.out _ hB).2.1;have ct:=(HS.out _ hB).2.2.2.2;have k0:=(HO.out.below hB lr).frozen c;have HB:=hid hB;clear hB hO hV bp bq HS CX ab t3 f5 r0 r1 s0;go_wp2;go_end0;refine ⟨rfl,?_,(Ext.below HB).trans HD.out.2.1,?_,HD.out.2.2.trans (HB.out.block gA bt)⟩
  ·rw [HG.out]
   exact HD.out.1
  ·exact (((HB.out.mono HN).setCell (p:=⟨gI t,c*2,none⟩) b8 _).setCell (p:=⟨gI t,c*2+1,none⟩) b8 _).setCell (p:=⟨gO f,c,none⟩) bs _
end Go.Proofs.YtejhccmclanlmaaGreatDoor
