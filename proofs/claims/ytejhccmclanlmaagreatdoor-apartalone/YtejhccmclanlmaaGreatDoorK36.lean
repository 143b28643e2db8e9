/- Texts joined: Wq. -/
import Derived.Deep.Upon
import Derived.Test.YtejhccmclanlmaaGreatDoorK25
import Derived.Test.YtejhccmclanlmaaGreatDoorK34
set_option linter.unusedVariables false
set_option maxRecDepth 100000
namespace Go.Proofs.YtejhccmclanlmaaGreatDoor
open Go.RowKit
theorem step_appM {ops:Array Oper} {o:Oper} {a:Act} {w:World} {K:Act→World→Prop} {Q:Exit→Act→World→Prop} {E:Prop} (hgd:o.guard=none) (s x:Operand) (t e:TypeId)
  (ho:o.op=.call { callee:=.builtin .append,args:=#[s,x],argTypes:=#[t,t] }) (z:Value) (sz by_:Nat) (ht:Tryz.prog.underlying t=some (.slice e)) (hI:(Tryz.prog.info? e).map (fun i=>(i.zero,i.size,i.bytes))=some (some z,sz,by_)) (hzs:z.cells.size=sz) (hsz:0<sz)
  (base:Nat) (v:Value) (n:Nat) (xs:List Value) (hs:a.eval s=v) (hown:w.ownsRow base e sz v n xs)
  (ax:Option Addr) (m c:Nat) (news:List Value) (hx:a.eval x=.slice ax m c) (hl:news.length=m * sz) (hrow:CellsIn w ax news) (h1:∀ u∈news,u.oneCell'=true) (h63:n+m≤maxLen) (hbytes:(n+m) * by_≤140737488355328) (hbase:base≤w.heap.size)
  (h:∀ a' c' w',w'.ownsRow base e sz (.slice a' (n+m) c') (n+m) (xs++news)→w.grownBy w' v.ownBlock→(∀ x,(Value.slice a' (n+m) c').ownBlock=some x→v.ownBlock=some x∨w.heap.size≤x)→K (a.put o.dst (.slice a' (n+m) c')) w') :
  if Region.wanted o (yielded ops a.tmps)=true then Oper.wp Tryz.prog o a w K Q else E:=by
 obtain ⟨i3,hi,hz,hsz',hby⟩:=infoOf hI
 by_cases hm:m=0
 ·subst hm
  have hn0:news=[]:=List.length_eq_zero_iff.1 (by omega)
  subst hn0
  obtain ⟨a0,c0,ev,hc0,_,_,_⟩:=owns_cells hown
  subst ev
  have hw:Region.wanted o (yielded ops a.tmps)=true:=by simp [Region.wanted,hgd]
  rw [if_pos hw]
  have hsrc:Src Tryz.prog i3.size t (.slice ax 0 c) 0 [] w:=by
   cases ax with
   | none=>exact Src.ofNil w ht c
   | some ad=>exact Src.ofSlice w ht ad 0 c [] (by simp) (fun j u hu=>by simp at hu) (fun u hu=>by simp at hu)
  have hrun:=run_append_nothing w t t o.type e i3 ht hi a0 n c0 hc0 (.slice ax 0 c) hsrc
  have hk:=h a0 c0 w (by simpa using hown) ⟨rfl,rfl,rfl,Nat.le_refl _,fun _ _ _=>rfl⟩ (fun x hx=>.inl (by simpa using hx))
  unfold Oper.wp
  simp [execOp,ho,resolve,invoke,builtin,hs,hx,hrun,Result.andThen]
  have hk':K (a.put o.dst (.slice a0 n c0)) w:=by simpa using hk
  exact hk'
 ·obtain ⟨b,of,rfl,hcl⟩:=hrow (fun e0=>by rw [e0,List.length_nil] at hl;exact absurd hl (Nat.ne_of_lt (Nat.mul_pos (Nat.pos_of_ne_zero hm) hsz)))
  refine step_append_lies w hgd s x t ho base e i3 z sz by_ ht hi hz hsz' hby hzs hsz v n xs hs hown ⟨b,of,none⟩ m c news hx hl (fun j u hu=>?_) h1 (by omega) h63 hbytes hbase w.heap.size rfl (fun g cap w' g1 g2 g3 _=>h (some ⟨g,0,none⟩) cap w' g1 g2 (fun x hx=>?_))
  ·rw [Addr.add_lit]
   exact hcl j u hu
  ·simp only [Value.ownBlock,Option.some.injEq] at hx
   subst hx
   rcases g3 with h'|h'
   ·exact .inl h'
   ·exact .inr (by omega)
set_option maxHeartbeats 4000000 in
theorem releaseW_ok (X:RC) (M:RM) (D:Dom) (K:KT) (now t:Int) (w:World) (h:RO X w M D K now) (hz:ckD X.C X.dn (shownD D)=0) (ht:inR t 0 100000=true) (hl:D.evs.length≤1000000000000) :
  Calls Tryz.prog 100 #[.pointer (some ⟨X.rb,0,none⟩),.int .i64 t] w fun e w'=>e=.returned (.tuple #[])∧∃ M',RO X w' M' (relW X.C X.dn t D) K now:=by
 have hrb:X.rb<w.heap.size:=h.row.lt
 have HS:Hid (∀ w',Below w.heap.size w w'→w'.cell? ⟨X.rb,7,none⟩=some (.int .i64 X.C.s)∧w'.cell? ⟨X.rb,8,none⟩=some (.int .i64 X.C.w)∧w'.cell? ⟨X.rb,9,none⟩=some (.int .i64 X.C.d)∧w'.cell? ⟨X.rb,10,none⟩=some (.int .i64 X.C.p)∧w'.cell? ⟨X.rb,11,none⟩=some (.int .i64 X.C.q)∧w'.cell? ⟨X.rb,12,none⟩=some (.slice X.B.a5 X.C.sl.length X.B.c5)∧w'.cell? ⟨X.rb,13,none⟩=some (.slice X.B.a6 X.C.ow.length X.B.c6)∧w'.cell? ⟨X.rb,14,none⟩=some (.slice X.B.a7 X.C.ch.length X.B.c7)∧w'.cell? ⟨X.rb,15,none⟩=some (.slice X.B.a8 X.C.ta.length X.B.c8)∧w'.cell? ⟨X.rb,16,none⟩=some (.int .i64 X.dn)):=hid fun w' hb=>⟨bkeep hb (h.row.cell 7 _ rfl) lr,bkeep hb (h.row.cell 8 _ rfl) lr,bkeep hb (h.row.cell 9 _ rfl) lr,bkeep hb (h.row.cell 10 _ rfl) lr,bkeep hb (h.row.cell 11 _ rfl) lr,bkeep hb (h.row.cell 12 _ rfl) lr,bkeep hb (h.row.cell 13 _ rfl) lr,bkeep hb (h.row.cell 14 _ rfl) lr,bkeep hb (h.row.cell 15 _ rfl) lr,bkeep hb (h.row.cell 16 _ rfl) lr⟩
 have CX:Hid (∀ wx,Below w.heap.size w wx→Calls Tryz.prog 134 #[.pointer (some ⟨X.rb,0,none⟩)] wx fun e w'=>∃ g,e=.returned (shV M D g)∧DomIn w' (shA M D g) (shownD D)∧Below wx.heap.size wx w'):=hid fun wx hb=>(shown_ok X M D K now wx (h.below hb)).mono fun e w' ⟨g,h1,h2,h3⟩=>⟨g,by rw [h1,shV_eq],h2,h3⟩
 have CY:Hid (∀ wx g,Below w.heap.size w wx→DomIn wx (shA M D g) (shownD D)→Calls Tryz.prog 133 #[.agg #[.int .i64 X.C.s,.int .i64 X.C.w,.int .i64 X.C.d,.int .i64 X.C.p,.int .i64 X.C.q,.slice X.B.a5 X.C.sl.length X.B.c5,.slice X.B.a6 X.C.ow.length X.B.c6,.slice X.B.a7 X.C.ch.length X.B.c7,.slice X.B.a8 X.C.ta.length X.B.c8],.int .i64 X.dn,shV M D g,.int .i64 t] wx fun e w'=>∃ A',e=.returned (.tuple #[dv (relD X.C X.dn t (shownD D)) A',.int .i64 0])∧(∀ wy:World,(∀ x,wx.heap.size≤x→wy.heap[x]? = w'.heap[x]?)→DomIn wy A' (relD X.C X.dn t (shownD D))∧wy.ownsRow wx.heap.size 87 6 (.slice A'.aJ (relD X.C X.dn t (shownD D)).jobs.length A'.cJ) (relD X.C X.dn t (shownD D)).jobs.length (fJ (relD X.C X.dn t (shownD D)).jobs)∧wy.ownsRow wx.heap.size 3 1 (.slice A'.aR (relD X.C X.dn t (shownD D)).rel.length A'.cR) (relD X.C X.dn t (shownD D)).rel.length (ivs (relD X.C X.dn t (shownD D)).rel)∧wy.ownsRow wx.heap.size 92 4 (.slice A'.aE (relD X.C X.dn t (shownD D)).evs.length A'.cE) (relD X.C X.dn t (shownD D)).evs.length (fE (relD X.C X.dn t (shownD D)).evs))∧Below wx.heap.size wx w'):=hid fun wx g hb hd=>by
  have:=rel50_ok (shownD D) (shA M D g) X.C X.B X.dn t wx (h.confIn.keep hb) hd hz ht (by simp [shownD])
  rw [shV_eq] at this
  exact this
 have HL:Hid ((relD X.C X.dn t (shownD D)).evs.length≤40):=hid (by have:=relD_evs hz ht;simpa [shownD] using this)
 have HD:Hid (relW X.C X.dn t D=⟨(relD X.C X.dn t (shownD D)).jobs,(relD X.C X.dn t (shownD D)).rel,D.nxt,D.ins,D.tak,D.out,D.evs++(relD X.C X.dn t (shownD D)).evs⟩):=hid rfl
 have HH:=hid h
 clear h hz ht
 dsimp only [shV,dv,dl] at CX CY
 generalize relD X.C X.dn t (shownD D)=R at *
 have hB:Below w.heap.size w w.drew:=(Below.refl _ _).drew
 have hBz:Below w.heap.size w (w.alloc (.cells #[.slice none 0 0,.slice none 0 0,.int .i64 0,.slice none 0 0,.slice none 0 0,.slice none 0 0,.slice none 0 0] 46)).drew:=(below_new _ _).drew
 have RZ:Hid (RowAt (w.alloc (.cells #[.slice none 0 0,.slice none 0 0,.int .i64 0,.slice none 0 0,.slice none 0 0,.slice none 0 0,.slice none 0 0] 46)).drew w.heap.size 46 [.slice none 0 0,.slice none 0 0,.int .i64 0,.slice none 0 0,.slice none 0 0,.slice none 0 0,.slice none 0 0]):=hid (rowAt_new2 w w.heap.size [.slice none 0 0,.slice none 0 0,.int .i64 0,.slice none 0 0,.slice none 0 0,.slice none 0 0,.slice none 0 0] 46 rfl)
 go_enter Tryz.func100,Tryz.ntmps100
 go_upto_region 0 with fail
 go_cut [4] (fun p wx=>∃ Bd rJ rR rI rT rO rE sJ sR sI sT sO sE,p=.pointer (some ⟨Bd,0,none⟩)∧Below w.heap.size w wx∧RowAt wx Bd 46 [.slice rJ R.jobs.length sJ,.slice rR R.rel.length sR,.int .i64 R.nxt,.slice rI R.ins.length sI,.slice rT R.tak.length sT,.slice rO R.out.length sO,.slice rE R.evs.length sE]∧DomIn wx ⟨rJ,rR,rI,rT,rO,rE,sJ,sR,sI,sT,sO,sE⟩ R∧wx.ownsRow w.heap.size 87 6 (.slice rJ R.jobs.length sJ) R.jobs.length (fJ R.jobs)∧wx.ownsRow w.heap.size 3 1 (.slice rR R.rel.length sR) R.rel.length (ivs R.rel)∧wx.ownsRow w.heap.size 92 4 (.slice rE R.evs.length sE) R.evs.length (fE R.evs)∧w.heap.size≤Bd)
 case first=>
  go_region_held3 (fun w'=>w'.cell? ⟨X.rb,7,none⟩=some (.int .i64 X.C.s)∧w'.cell? ⟨X.rb,8,none⟩=some (.int .i64 X.C.w)∧w'.cell? ⟨X.rb,9,none⟩=some (.int .i64 X.C.d)∧w'.cell? ⟨X.rb,10,none⟩=some (.int .i64 X.C.p)∧w'.cell? ⟨X.rb,11,none⟩=some (.int .i64 X.C.q)∧w'.cell? ⟨X.rb,12,none⟩=some (.slice X.B.a5 X.C.sl.length X.B.c5)∧w'.cell? ⟨X.rb,13,none⟩=some (.slice X.B.a6 X.C.ow.length X.B.c6)∧w'.cell? ⟨X.rb,14,none⟩=some (.slice X.B.a7 X.C.ch.length X.B.c7)∧w'.cell? ⟨X.rb,15,none⟩=some (.slice X.B.a8 X.C.ta.length X.B.c8)∧w'.cell? ⟨X.rb,16,none⟩=some (.int .i64 X.dn))
   (first|with_reducible exact HS.out _ hB|with_reducible exact HS.out _ hBz|with_reducible exact HS.out _ hB2|with_reducible exact HS.out _ hB2b|with_reducible exact HS.out _ (hB2a _)|with_reducible exact HS.out _ hB3|with_reducible exact HS.out _ (hB3a _)|with_reducible exact HS.out _ (hB3c _ _ _ _ _ _ _)|go_keep)
   (first
    | (go_at_call 134;with_reducible refine Calls.mono (CX.out _ hB) ?_;rintro e w2 ⟨g,rfl,hd2,hb2⟩;have hB2:=btrans hB hb2;have HD2:=hid hd2;have hB2a:∀ o,Below w.heap.size w (w2.alloc o):=fun o=>btrans hB2 (below_new _ o);clear hd2 hb2)
    | (go_at_call 134;with_reducible refine Calls.mono (CX.out _ hBz) ?_;rintro e w2 ⟨g,rfl,hd2,hb2⟩;have hB2b:=btrans hBz hb2;have HD2b:=hid hd2;have HZb:=hid (RZ.out.below hb2 lr);clear hd2 hb2)
    | (go_at_call 133;with_reducible refine Calls.mono (CY.out _ _ hB2 HD2.out) ?_;rintro e w3 ⟨⟨rJ,rR,rI,rT,rO,rE,sJ,sR,sI,sT,sO,sE⟩,rfl,hA3,hb3⟩;have HA3:=hid hA3;have hB3:=btrans hB2 hb3;have hB3a:∀ o,Below w.heap.size w (w3.alloc o):=fun o=>btrans hB3 (below_new _ o);have hws:w.heap.size≤w2.heap.size:=hB2.size;have hc1:True:=trivial;clear hb3 hA3)
    | (go_at_call 133;with_reducible refine Calls.mono (CY.out _ _ (hB2a _) (HD2.out.keep (below_new _ _))) ?_;rintro e w3 ⟨⟨rJ,rR,rI,rT,rO,rE,sJ,sR,sI,sT,sO,sE⟩,rfl,hA3,hb3⟩;have HA3:=hid hA3;have hws:w.heap.size≤w2.heap.size:=hB2.size;have HZ:=hid ((rowAt_new w2 _ [.slice none 0 0,.slice none 0 0,.int .i64 0,.slice none 0 0,.slice none 0 0,.slice none 0 0,.slice none 0 0] 46 rfl).below hb3 lr);have u0:=HZ.out.cell 0 _ rfl;have u1:=HZ.out.cell 1 _ rfl;have u2:=HZ.out.cell 2 _ rfl;have u3:=HZ.out.cell 3 _ rfl;have u4:=HZ.out.cell 4 _ rfl;have u5:=HZ.out.cell 5 _ rfl;have u6:=HZ.out.cell 6 _ rfl;have f0:=HZ.out.frozen 0;have f1:=HZ.out.frozen 1;have f2:=HZ.out.frozen 2;have f3:=HZ.out.frozen 3;have f4:=HZ.out.frozen 4;have f5:=HZ.out.frozen 5;have f6:=HZ.out.frozen 6;have hB3:=btrans (hB2a _) hb3;have hB3c:∀ v0 v1 v2 v3 v4 v5 v6,Below w.heap.size w (((((((w3.setCell ⟨w2.heap.size,0,none⟩ v0).setCell ⟨w2.heap.size,1,none⟩ v1).setCell ⟨w2.heap.size,2,none⟩ v2).setCell ⟨w2.heap.size,3,none⟩ v3).setCell ⟨w2.heap.size,4,none⟩ v4).setCell ⟨w2.heap.size,5,none⟩ v5).setCell ⟨w2.heap.size,6,none⟩ v6):=fun v0 v1 v2 v3 v4 v5 v6=>(((((((hB3.setCell (p:=⟨w2.heap.size,0,none⟩) (by show w.heap.size≤w2.heap.size;omega) _).setCell (p:=⟨w2.heap.size,1,none⟩) (by show w.heap.size≤w2.heap.size;omega) _).setCell (p:=⟨w2.heap.size,2,none⟩) (by show w.heap.size≤w2.heap.size;omega) _).setCell (p:=⟨w2.heap.size,3,none⟩) (by show w.heap.size≤w2.heap.size;omega) _).setCell (p:=⟨w2.heap.size,4,none⟩) (by show w.heap.size≤w2.heap.size;omega) _).setCell (p:=⟨w2.heap.size,5,none⟩) (by show w.heap.size≤w2.heap.size;omega) _).setCell (p:=⟨w2.heap.size,6,none⟩) (by show w.heap.size≤w2.heap.size;omega) _);have hc2:True:=trivial;clear hb3 hA3)
    | (go_at_call 133;with_reducible refine Calls.mono (CY.out _ _ hB2b HD2b.out) ?_;rintro e w3 ⟨⟨rJ,rR,rI,rT,rO,rE,sJ,sR,sI,sT,sO,sE⟩,rfl,hA3,hb3⟩;have HA3:=hid hA3;have HZ:=hid (HZb.out.below hb3 lr);have hws:w.heap.size<w2.heap.size:=HZb.out.lt;have u0:=HZ.out.cell 0 _ rfl;have u1:=HZ.out.cell 1 _ rfl;have u2:=HZ.out.cell 2 _ rfl;have u3:=HZ.out.cell 3 _ rfl;have u4:=HZ.out.cell 4 _ rfl;have u5:=HZ.out.cell 5 _ rfl;have u6:=HZ.out.cell 6 _ rfl;have f0:=HZ.out.frozen 0;have f1:=HZ.out.frozen 1;have f2:=HZ.out.frozen 2;have f3:=HZ.out.frozen 3;have f4:=HZ.out.frozen 4;have f5:=HZ.out.frozen 5;have f6:=HZ.out.frozen 6;have hB3:=btrans hB2b hb3;have hB3c:∀ v0 v1 v2 v3 v4 v5 v6,Below w.heap.size w (((((((w3.setCell ⟨w.heap.size,0,none⟩ v0).setCell ⟨w.heap.size,1,none⟩ v1).setCell ⟨w.heap.size,2,none⟩ v2).setCell ⟨w.heap.size,3,none⟩ v3).setCell ⟨w.heap.size,4,none⟩ v4).setCell ⟨w.heap.size,5,none⟩ v5).setCell ⟨w.heap.size,6,none⟩ v6):=fun v0 v1 v2 v3 v4 v5 v6=>(((((((hB3.setCell (p:=⟨w.heap.size,0,none⟩) (by show w.heap.size≤w.heap.size;omega) _).setCell (p:=⟨w.heap.size,1,none⟩) (by show w.heap.size≤w.heap.size;omega) _).setCell (p:=⟨w.heap.size,2,none⟩) (by show w.heap.size≤w.heap.size;omega) _).setCell (p:=⟨w.heap.size,3,none⟩) (by show w.heap.size≤w.heap.size;omega) _).setCell (p:=⟨w.heap.size,4,none⟩) (by show w.heap.size≤w.heap.size;omega) _).setCell (p:=⟨w.heap.size,5,none⟩) (by show w.heap.size≤w.heap.size;omega) _).setCell (p:=⟨w.heap.size,6,none⟩) (by show w.heap.size≤w.heap.size;omega) _);have hc3:True:=trivial;clear hb3 hA3))
  all_goals
   go_wp2
   go_meet
   case rel=>
    first
     | (have hM:=hc1;have hA:=HA3.out w3 (fun _ _=>rfl);exact ⟨w3.heap.size,rJ,rR,rI,rT,rO,rE,sJ,sR,sI,sT,sO,sE,rfl,hB3a _,rowAt_new2 w3 _ [.slice rJ R.jobs.length sJ,.slice rR R.rel.length sR,.int .i64 R.nxt,.slice rI R.ins.length sI,.slice rT R.tak.length sT,.slice rO R.out.length sO,.slice rE R.evs.length sE] 46 rfl,hA.1.keep (below_new _ _),owns_base (owns_below hA.2.1 (below_new _ _)) hws,owns_base (owns_below hA.2.2.1 (below_new _ _)) hws,owns_base (owns_below hA.2.2.2 (below_new _ _)) hws,hB3.size⟩)
     | (have hM:=hc2;have hA:=HA3.out (((((((w3.setCell ⟨w2.heap.size,0,none⟩ (.slice rJ R.jobs.length sJ)).setCell ⟨w2.heap.size,1,none⟩ (.slice rR R.rel.length sR)).setCell ⟨w2.heap.size,2,none⟩ (.int .i64 R.nxt)).setCell ⟨w2.heap.size,3,none⟩ (.slice rI R.ins.length sI)).setCell ⟨w2.heap.size,4,none⟩ (.slice rT R.tak.length sT)).setCell ⟨w2.heap.size,5,none⟩ (.slice rO R.out.length sO)).setCell ⟨w2.heap.size,6,none⟩ (.slice rE R.evs.length sE)) (fun x hx0=>(by have hx:x≠w2.heap.size:=(by simp at hx0;omega);exact ((heap_set_ne _ _ 6 _ x hx).trans ((heap_set_ne _ _ 5 _ x hx).trans ((heap_set_ne _ _ 4 _ x hx).trans ((heap_set_ne _ _ 3 _ x hx).trans ((heap_set_ne _ _ 2 _ x hx).trans ((heap_set_ne _ _ 1 _ x hx).trans (heap_set_ne _ _ 0 _ x hx)))))))));exact ⟨w2.heap.size,rJ,rR,rI,rT,rO,rE,sJ,sR,sI,sT,sO,sE,rfl,hB3c _ _ _ _ _ _ _,(rowAt_set1 (rowAt_set1 (rowAt_set1 (rowAt_set1 (rowAt_set1 (rowAt_set1 (rowAt_set1 HZ.out 0 _) 1 _) 2 _) 3 _) 4 _) 5 _) 6 _),hA.1,owns_base hA.2.1 (by simp;omega),owns_base hA.2.2.1 (by simp;omega),owns_base hA.2.2.2 (by simp;omega),hws⟩)
     | (have hM:=hc3;have hA:=HA3.out (((((((w3.setCell ⟨w.heap.size,0,none⟩ (.slice rJ R.jobs.length sJ)).setCell ⟨w.heap.size,1,none⟩ (.slice rR R.rel.length sR)).setCell ⟨w.heap.size,2,none⟩ (.int .i64 R.nxt)).setCell ⟨w.heap.size,3,none⟩ (.slice rI R.ins.length sI)).setCell ⟨w.heap.size,4,none⟩ (.slice rT R.tak.length sT)).setCell ⟨w.heap.size,5,none⟩ (.slice rO R.out.length sO)).setCell ⟨w.heap.size,6,none⟩ (.slice rE R.evs.length sE)) (fun x hx0=>(by have hx:x≠w.heap.size:=(by omega);exact ((heap_set_ne _ _ 6 _ x hx).trans ((heap_set_ne _ _ 5 _ x hx).trans ((heap_set_ne _ _ 4 _ x hx).trans ((heap_set_ne _ _ 3 _ x hx).trans ((heap_set_ne _ _ 2 _ x hx).trans ((heap_set_ne _ _ 1 _ x hx).trans (heap_set_ne _ _ 0 _ x hx)))))))));exact ⟨w.heap.size,rJ,rR,rI,rT,rO,rE,sJ,sR,sI,sT,sO,sE,rfl,hB3c _ _ _ _ _ _ _,(rowAt_set1 (rowAt_set1 (rowAt_set1 (rowAt_set1 (rowAt_set1 (rowAt_set1 (rowAt_set1 HZ.out 0 _) 1 _) 2 _) 3 _) 4 _) 5 _) 6 _),hA.1,owns_base hA.2.1 (by omega),owns_base hA.2.2.1 (by omega),owns_base hA.2.2.2 (by omega),Nat.le_refl _⟩)
 case rest=>
  obtain ⟨Bd,rJ,rR,rI,rT,rO,rE,sJ,sR,sI,sT,sO,sE,rfl,hbx,hRx,hDx,hJx,hRl,hEx,hge⟩:=hcut
  have HX:=hid (HH.out.below hbx)
  have hn:=HH.out.newJR hbx hJx hRl
  have HN:=hid (hn.below (Below.refl _ _).drew)
  have z0:=hRx.cell 0 _ rfl
  have z1:=hRx.cell 1 _ rfl
  have x0:=HX.out.row.cell 0 _ rfl
  have x1:=HX.out.row.cell 1 _ rfl
  have f0:=HX.out.row.frozen 0
  have f1:=HX.out.row.frozen 1
  have hne:¬ Bd=X.rb:=by omega
  have hne2:¬ X.rb=Bd:=by omega
  have R2:Hid (RowAt ((wc.setCell ⟨X.rb,0,none⟩ (.slice rJ R.jobs.length sJ)).setCell ⟨X.rb,1,none⟩ (.slice rR R.rel.length sR)).drew Bd 46 [.slice rJ R.jobs.length sJ,.slice rR R.rel.length sR,.int .i64 R.nxt,.slice rI R.ins.length sI,.slice rT R.tak.length sT,.slice rO R.out.length sO,.slice rE R.evs.length sE]):=hid (((heap_set_ne _ _ _ _ Bd hne).trans (heap_set_ne _ _ _ _ Bd hne)).trans hRx)
  have HE2:Hid (((wc.setCell ⟨X.rb,0,none⟩ (.slice rJ R.jobs.length sJ)).setCell ⟨X.rb,1,none⟩ (.slice rR R.rel.length sR)).drew.ownsRow w.heap.size 92 4 (.slice rE R.evs.length sE) R.evs.length (fE R.evs)):=hid (owns_agree hEx (fun x hx=>(heap_set_ne _ _ _ _ x (fun e=>by have:=owns_ge hEx x hx;omega)).trans (heap_set_ne _ _ _ _ x (fun e=>by have:=owns_ge hEx x hx;omega))))
  clear hRx hDx hJx hRl hEx HX hn HS CX CY RZ hB hBz
  go_wp2
  go_region
  all_goals
   go_wp2_with fail
   clear z0 z1 x0 x1 f0 f1
   generalize World.drew (World.setCell (World.setCell wc _ _) _ _)=W2 at *
   have x6:=HN.out.row.cell 6 _ rfl
   have y6:=R2.out.cell 6 _ rfl
   have HN2:=hid (HN.out.below (Below.refl _ _).drew)
   have HC:Hid (CellsIn W2.drew rE (fE R.evs)):=hid (owns_in HE2.out).1
   have hsz2:X.w0.heap.size≤W2.drew.heap.size:=HN2.out.ag.size
   have hl40:=HL.out
   go_region_law (first
    | (refine step_appM (by rfl) _ _ 44 92 (by rfl) _ 4 32 Tryz.underlying44 Tryz.info92x rfl (by omega) X.w0.heap.size (.slice M.A.aE D.evs.length M.A.cE) D.evs.length (fE D.evs) (by rfl) HN2.out.px.evs rE R.evs.length sE (fE R.evs) (by rfl) (fE_len _) HC.out (fE_one _) (by simp only [maxLen];omega) (by omega) hsz2 ?_;intro a' c' w4 hown4 hgrow4 hat4;have r4:RowAt w4 X.rb 152 _:=(hgrow4.block X.rb HN2.out.row.lt (fun e=>owns_ne HN2.out.px.evs HN2.out.row (by decide) X.rb e.symm rfl)).trans HN2.out.row;have e0:=r4.cell 6 _ rfl;have f0:=r4.frozen 6;have HO4:=hid hown4;have HG4:=hid hgrow4;have HT4:=hid hat4;clear hown4 hgrow4 r4 hat4))
   all_goals
    have HE:Hid (RO X (w4.setCell ⟨X.rb,6,none⟩ (.slice a' (D.evs.length+R.evs.length) c')) (evM (jrM M rJ sJ rR R.rel.length sR) a' c') (relW X.C X.dn t D) K now):=by
     have:=HN2.out.told (E:=D.evs++R.evs) (a':=a') (c':=c') HG4.out (by rw [fE_app,List.length_append];exact HO4.out) (by rw [List.length_append];exact HT4.out)
     rw [List.length_append] at this
     rw [HD.out]
     exact hid this
    clear HN HN2 HO4 HG4 HT4 x6 y6 HC HE2 R2
    go_wp2
    go_end0
    exact ⟨rfl,_,HE.out⟩
end Go.Proofs.YtejhccmclanlmaaGreatDoor
