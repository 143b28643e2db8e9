/- Texts joined: Bj Bg. -/
import Derived.Test.YtejhccmclanlmaaGreatDoorK09
import Derived.Test.YtejhccmclanlmaaGreatDoorK45
import Derived.Test.YtejhccmclanlmaaGreatDoorK47
import Derived.Test.YtejhccmclanlmaaGreatDoorK49
set_option linter.unusedVariables false
set_option maxRecDepth 100000
namespace Go.Proofs.YtejhccmclanlmaaGreatDoor
open Go.RowKit Go.Shelf
abbrev UT (C:Conf) (R:Nat):={ t:TT // t∈turnsL C R }
theorem turns_stops (n:Nat) (hn:1≤n) (Bm n₀ R:Nat) (K:MK) (hgm:K.gm<n₀) (hBm:Bm<n₀) (hw0:K.w0.heap.size≤n₀) (hck:ckC K.C=0) (hR:K.S.rounds=(R:Int)) (hR8:R≤8) (hc5:K.C.sl.length≤K.B.c5) (hcf:ConfIn K.w0 K.B K.C)
  (w:World) (hB:w.cell? ⟨Bm,0,none⟩=some (.pointer (some ⟨K.gm,0,none⟩))) (gd:Nat) (hM:RowAt w K.gm 113 (mcells K gd)) (hlow:Below K.w0.heap.size K.w0 w) (hsz:n₀≤w.heap.size) :
  SeqStopsK Fence.wide n Tryz.prog 43 #[.pointer (some ⟨Bm,0,none⟩)] (fun x:UT K.C R=>encU x.1) (TM K Bm) (fun ys=>ys.map (·.1)=turnsL K.C R) (fun pre=>∃ r k,r≤R∧k≤K.C.sl.length∧pre.map (·.1)=turnsP K.C r k) (R * K.C.sl.length) w:=by
 intro l J Jx W hb hJ hJx hY h0
 have hsz':=hb.size
 refine (turns_in n hn l Bm n₀ R K (fun pre W=>∃ ps:List (UT K.C R),ps.map (·.1)=pre∧J ps W) (fun pre W=>∃ ps:List (UT K.C R),ps.map (·.1)=pre∧Jx ps W) hgm hBm hw0 hck hR hR8 hc5 hcf
  (fun pre x W1 hx hJ1 hl1=>by
   obtain ⟨ps,rfl,hp⟩:=hJ1
   refine (hY ps ⟨x,hx⟩ W1 hp (by simpa using hl1)).mono ?_
   rintro e w' (⟨h1,h2,h3⟩|⟨h1,h2⟩)
   ·exact .inl ⟨h1,⟨_,by simp,h2⟩,h3⟩
   ·exact .inr ⟨h1,⟨_,by simp,h2⟩⟩)
  (fun pre W1 W2 h hb2=>by
   obtain ⟨ps,e,hp⟩:=h
   exact ⟨ps,e,hJ ps W1 W2 none hp ⟨hb2.os,hb2.tape,hb2.output,hb2.size,fun k hk _=>hb2.block k hk⟩ (fun _ e=>by cases e)⟩)
  W ((hb.cell (p:=⟨Bm,0,none⟩) (by show Bm<_;omega)).trans hB) gd (fun i v _ hv=>(hM.below hb lr).cell i v hv) (hlow.trans (hb.mono hlow.size)) (by omega) ⟨[],rfl,h0⟩).mono ?_
 rintro e w' ⟨hv,⟨ys,rfl,ps,h1,h2⟩|⟨pre,⟨r,k,hr,hk,rfl⟩,ps,h1,h2⟩⟩
 ·exact ⟨hv,.inl ⟨ps,h1,h2⟩⟩
 ·exact ⟨hv,.inr ⟨ps,⟨r,k,hr,hk,h1⟩,h2⟩⟩
theorem turns22_ok (g:Nat) (w:World):Calls Tryz.prog 22 #[.pointer (some ⟨g,0,none⟩)] w fun e w'=>e=.returned (.func (.func 43) #[] #[.pointer (some ⟨w.heap.size,0,none⟩)])∧w'=w.alloc (.cells #[.pointer (some ⟨g,0,none⟩)] 68):=by
 go_enter Tryz.func22,Tryz.ntmps22
 go_wp2
 go_ret
 exact ⟨rfl,rfl⟩
def turnsX (C:Conf) (S:Scr) (l:List TT):(Nat→Dom)×(Nat→Int):=l.foldl (fun X t=>turnF C S t X) (fun _=>newD C,fun _=>0)
theorem turnsX_snoc (C:Conf) (S:Scr) (l:List TT) (t:TT):turnsX C S (l++[t])=turnF C S t (turnsX C S l):=by simp [turnsX]
theorem mi_fold {C:Conf} {S:Scr} (hS:ScrOk C S):∀ (l:List TT) (X:(Nat→Dom)×(Nat→Int)) (b:Int),0≤b→MI C S b X→(∀ t∈l,t∈turnsL C S.rounds)→MI C S (b+100042 * l.length) (l.foldl (fun X t=>turnF C S t X) X)
 | [],X,b,h0,h,_=>by rw [show b+100042 * (([]:List TT).length:Int)=b by simp];exact h
 | t :: l,X,b,h0,h,hl=>by
  have h1:=MI.turn hS h h0 t (turns_ok hS.cfg hS.rounds t (hl t (by simp)))
  have h2:=mi_fold hS l _ _ (by omega) h1 (fun u hu=>hl u (by simp [hu]))
  rw [show b+100042 * ((t :: l).length:Int)=b+100042+100042 * (l.length:Int) by simp;omega]
  exact h2
theorem turnsX_mi {C:Conf} {S:Scr} (hS:ScrOk C S) (l:List TT) (hl:∀ t∈l,t∈turnsL C S.rounds):MI C S (100042 * l.length) (turnsX C S l):=by
 have:=mi_fold hS l _ 0 (by omega) (MI.begin hS) hl
 rw [Int.zero_add] at this
 exact this
theorem winX_all {C:Conf} {S:Scr} {b:Int} {X:(Nat→Dom)×(Nat→Int)} (hS:ScrOk C S) (h:MI C S b X) (hb:0≤b) (t:TT) (ht:t.1<C.sl.length∧0≤t.2.1∧t.2.1≤t.2.2∧t.2.2≤100000∧t.2.2 - t.2.1≤1000):ALL C (fun i=>(S.acts.getD i []).length) (b+100042) (winX C S t X).1:=by
 obtain ⟨slot,fr,te⟩:=t
 dsimp only at ht
 obtain ⟨h1,h2,h3,h4,h5⟩:=ht
 have hd:=slD_ok hS.cfg h1
 have hw:=(winF_ok (arr:=S.arr) (last:=X.2 (slD C slot)) hS.cfg (h.doms (slD C slot) hd.1) (hS.acts _).1 (hS.acts _).2 h2 h3 h4).2
 intro i hi
 unfold winX
 dsimp only
 by_cases e:i=slD C slot
 ·subst e
  rw [putF_eq]
  refine ⟨hw.ck,hw.oi,?_⟩
  have:=hw.ev
  omega
 ·rw [putF_ne _ _ e]
  exact ⟨(h.doms i hi).ck,(h.doms i hi).oi,by have:=(h.doms i hi).ev;omega⟩
theorem MO.box {K:MK} {w w':World} {gd base:Nat} {Ds:Nat→Dom} {As:Nat→DMem} {La:Nat→Int} (h:MO K w gd base Ds As La) (hx:Ext (MX K gd) w w') {b:Nat} {t:TypeId} {L:List Value} (hr:RowAt w b t L) (h1:t≠113) (h2:t≠3) (h3:t≠46):RowAt w' b t L:=by
 obtain ⟨cs,d1,_⟩:=h.drow
 refine (hx.2 b (Array.getElem?_eq_some_iff.1 hr).1 (fun e=>?_)).trans hr
 rcases e with e|e|e
 ·exact row_ne hr h.row h1 e
 ·exact row_ne hr h.last h2 e
 ·exact row_ne hr d1 h3 e
theorem MO.box3 {K:MK} {w w':World} {gd base:Nat} {Ds:Nat→Dom} {As:Nat→DMem} {La:Nat→Int} (h:MO K w gd base Ds As La) (hx:Ext (MX K gd) w w') {b:Nat} {L:List Value} (hr:RowAt w b 3 L) (hb:b≠K.gl):RowAt w' b 3 L:=by
 obtain ⟨cs,d1,_⟩:=h.drow
 refine (hx.2 b (Array.getElem?_eq_some_iff.1 hr).1 (fun e=>?_)).trans hr
 rcases e with e|e|e
 ·exact row_ne hr h.row (by decide) e
 ·exact hb e
 ·exact row_ne hr d1 (by decide) e
theorem mcells_low (K:MK) (gd gd':Nat) (i:Nat) (hi:i<12):(mcells K gd)[i]? = (mcells K gd')[i]? := by
 have:i=0∨i=1∨i=2∨i=3∨i=4∨i=5∨i=6∨i=7∨i=8∨i=9∨i=10∨i=11:=by omega
 rcases this with rfl|rfl|rfl|rfl|rfl|rfl|rfl|rfl|rfl|rfl|rfl|rfl <;> rfl
theorem TM.of {K:MK} {Bm:Nat} {W W':World} {gd base gd' base':Nat} {Ds Es:Nat→Dom} {As As':Nat→DMem} {La La':Nat→Int} (h:MO K W gd base Ds As La) (h':MO K W' gd' base' Es As' La') {v:Value} (r:W.cell? ⟨Bm,0,none⟩=some v) (r':W'.cell? ⟨Bm,0,none⟩=some v) (hs:W.heap.size≤W'.heap.size):TM K Bm W W':=by
 refine ⟨⟨h'.low.os.trans h.low.os.symm,h'.low.tape.trans h.low.tape.symm,h'.low.output.trans h.low.output.symm,hs,fun k hk=>(h'.low.block k hk).trans (h.low.block k hk).symm⟩,r'.trans r.symm,fun i hi=>?_⟩
 have hl:i<(mcells K gd).length:=by simp;omega
 rw [h.row.cell i ((mcells K gd)[i]'hl) (by simp),h'.row.cell i ((mcells K gd)[i]'hl) (by rw [← mcells_low K gd gd' i hi];simp)]
attribute [local go_sem] Oper.semAt_some
def RunOut (C:Conf) (S:ScrT) (w':World) (gd n:Nat):Prop:=C.d=(n:Int)∧∃ As,DomsIn w' gd 0 n (machF C (ps S)).1 As
def RunOn (C:Conf) (S:ScrT) (n0:Nat) (w':World) (gd n:Nat):Prop:=C.d=(n:Int)∧∃ As:Nat→DMem,∀ i,i<n→DomsAt w' gd 0 i ((machF C (ps S)).1 i) (As i)∧DomOn n0 w' (As i) ((machF C (ps S)).1 i)
theorem RunOn.out {C:Conf} {S:ScrT} {n0:Nat} {w':World} {gd n:Nat} (h:RunOn C S n0 w' gd n):RunOut C S w' gd n:=by
 obtain ⟨h1,As,h2⟩:=h
 exact ⟨h1,As,fun i hi=>⟨(h2 i hi).1,(h2 i hi).2 w' (Ext.refl _ _)⟩⟩
set_option maxHeartbeats 8000000 in
theorem runApart_ok (C:Conf) (B:Mem) (S:ScrT) (M:SMem) (w:World) (hC:ConfIn w B C) (hS:ScrIn w M S) (hsc:ckScr C S=0) (hc5:C.sl.length≤B.c5) :
  Calls Tryz.prog 9 #[cv C B,sv S M] w fun e w'=>∃ gd n:Nat,e=.returned (.tuple #[.slice (some ⟨gd,0,none⟩) n n,.int .i64 0])∧RunOn C S w.heap.size w' gd n∧Below w.heap.size w w':=by
 obtain ⟨hSO,hlen,harr,hr0⟩:=scr_ok hsc
 obtain ⟨⟨z1,z2⟩,⟨v1,v2⟩,⟨d1,d2⟩⟩:=conf_nums hSO.cfg
 obtain ⟨n,HN⟩:∃ n:Nat,Hid (C.d=(n:Int)):=⟨C.d.toNat,hid (by omega)⟩
 obtain ⟨R,HR⟩:∃ R:Nat,Hid (S.rounds=(R:Int)):=⟨S.rounds.toNat,hid (by omega)⟩
 have HR8:Hid (R≤8):=hid (by have h1:S.rounds.toNat≤8:=hSO.rounds;have:=HR.out;omega)
 have HRt:Hid ((ps S).rounds=R):=hid (by show S.rounds.toNat=R;have:=HR.out;omega)
 have q1:=below_new w (.cells (cl C B) 27)
 have q2:=below_new (w.alloc (.cells (cl C B) 27)) (.cells (sl S M) 31)
 have HCF:=hid ((hC.keep q1).keep q2)
 have HSF:=hid ((hS.keep q1).keep q2)
 have hX0:=(rowAt_new2 w w.heap.size (cl C B).toList 27 rfl).below q2 lr
 have hX1:=rowAt_new2 (w.alloc (.cells (cl C B) 27)) (w.heap.size+1) (sl S M).toList 31 (by simp)
 have HB2:=hid (btrans q1 q2)
 have HSC:=hid hsc
 have HSO:=hid hSO
 have HC5:=hid hc5
 clear q1 q2 hC hS hsc hSO hlen harr hr0 hc5 z1 z2 v1 v2 d1 d2
 obtain ⟨a5,a6,a7,a8,c5,c6,c7,c8⟩:=B
 obtain ⟨aA,aR,cA,cR⟩:=M
 obtain ⟨LL,RR,rd⟩:=S
 have CK:=hid (checkScr_any C ⟨a5,a6,a7,a8,c5,c6,c7,c8⟩ ⟨LL,RR,rd⟩ ⟨aA,aR,cA,cR⟩ _ HCF.out HSF.out)
 rw [HSC.out] at CK
 dsimp only [cv,cl,sv,sl] at *
 have HX0:=hid hX0
 have HX1:=hid hX1
 have g0:=hX0.cell 0 _ rfl
 have g1:=hX0.cell 1 _ rfl
 have g2:=hX0.cell 2 _ rfl
 have g3:=hX0.cell 3 _ rfl
 have g4:=hX0.cell 4 _ rfl
 have g5:=hX0.cell 5 _ rfl
 have g6:=hX0.cell 6 _ rfl
 have g7:=hX0.cell 7 _ rfl
 have g8:=hX0.cell 8 _ rfl
 have s0:=hX1.cell 0 _ rfl
 have s1:=hX1.cell 1 _ rfl
 have s2:=hX1.cell 2 _ rfl
 clear hX0 hX1
 refine (callsIn_wide (n:=6)).1 (callsIn_of_wp_marks Tryz.func9 rfl trivial ?_ rfl)
 refine wpIn_wide.2 ?_
 simp only [Tryz.ntmps9,List.size_toArray,List.length_cons,List.length_nil,Nat.reduceAdd,Nat.reduceSub,Array.replicate_succ,Array.replicate_zero,List.push_toArray,List.append_toArray,List.nil_append,List.cons_append]
 go_wp2_with fail
 refine CK.out.mono ?_
 rintro e w1 ⟨rfl,hb1⟩
 generalize World.alloc (World.alloc w _) _=W at *
 clear g0 g1 g2 g3 g4 g5 g6 g7 g8 s0 s1 s2 CK
 have HB1:=hid (btrans HB2.out hb1)
 have HC1:=hid (HCF.out.keep hb1)
 have HS1:=hid (HSF.out.keep hb1)
 have rX0:=HX0.out.below hb1 lr
 have rX1:=HX1.out.below hb1 lr
 have HX2:=hid rX0
 have g0:=rX0.cell 0 _ rfl
 have g1:=rX0.cell 1 _ rfl
 have g2:=rX0.cell 2 _ rfl
 have g3:=rX0.cell 3 _ rfl
 have g4:=rX0.cell 4 _ rfl
 have g5:=rX0.cell 5 _ rfl
 have g6:=rX0.cell 6 _ rfl
 have g7:=rX0.cell 7 _ rfl
 have g8:=rX0.cell 8 _ rfl
 have s0:=rX1.cell 0 _ rfl
 have s1:=rX1.cell 1 _ rfl
 have s2:=rX1.cell 2 _ rfl
 have CN:=hid (newM_ok C ⟨a5,a6,a7,a8,c5,c6,c7,c8⟩ ⟨LL,RR,rd⟩ ⟨aA,aR,cA,cR⟩ n w1 HC1.out HS1.out HSO.out.cfg HN.out)
 dsimp only [cv,cl,sv,sl] at CN
 clear rX0 rX1 hb1 HX0 HX1 HCF HSF HB2
 go_wp2_with fail
 refine CN.out.mono ?_
 rintro e w2 ⟨gm,rfl,gl,gd,base,As,hmo⟩
 clear g0 g1 g2 g3 g4 g5 g6 g7 g8 s0 s1 s2 CN
 have q3:=below_new w2 (.cells #[.pointer (some ⟨gm,0,none⟩)] 68)
 have R3:=rowAt_new2 w2 w2.heap.size [.pointer (some ⟨gm,0,none⟩)] 68 rfl
 have HM3:=hid (hmo.keep q3)
 have HW2:=hid hmo.low.size
 have r3:=R3.cell 0 _ rfl
 have HR3:=hid R3
 have hs3:Hid ((w2.alloc (.cells #[.pointer (some ⟨gm,0,none⟩)] 68)).heap.size=w2.heap.size+1):=hid (by simp)
 clear hmo q3 R3
 go_wp2_with fail
 generalize World.alloc w2 _=w3 at *
 refine (turns22_ok gm w3).mono ?_
 rintro e w4 ⟨rfl,rfl⟩
 have q4:=below_new w3 (.cells #[.pointer (some ⟨gm,0,none⟩)] 68)
 have R4m:=rowAt_new2 w3 w3.heap.size [.pointer (some ⟨gm,0,none⟩)] 68 rfl
 have R4:=HR3.out.below q4 lr
 have HM4:=hid (HM3.out.keep q4)
 have hs4:Hid ((w3.alloc (.cells #[.pointer (some ⟨gm,0,none⟩)] 68)).heap.size=w3.heap.size+1):=hid (by simp)
 have HB4:=hid (R4m.cell 0 _ rfl)
 have HRm:=hid R4m
 have HR4:=hid R4
 clear r3 HM3 HR3 q4 R4m R4
 generalize World.alloc w3 _=w4 at *
 go_wp2
 have hW4:w1.heap.size+2≤w4.heap.size:=by have:=hs3.out;have:=hs4.out;have:=HW2.out;omega
 have hgmW:gm<w4.heap.size:=HM4.out.row.lt
 have h3W:w3.heap.size<w4.heap.size:=by have:=hs4.out;omega
 obtain ⟨sN,HSN⟩:∃ s:Nat,Hid (C.s=(s:Int)∧C.s.toNat=s∧1≤s∧s≤4):=⟨C.s.toNat,hid (by have:=(conf_nums HSO.out.cfg).1;omega)⟩
 obtain ⟨vN,HVN⟩:∃ s:Nat,Hid (C.w=(s:Int)∧C.w.toNat=s∧1≤s∧s≤3):=⟨C.w.toNat,hid (by have:=(conf_nums HSO.out.cfg).2.1;omega)⟩
 have HSL:=hid (conf_cnt HSO.out.cfg).1
 refine (wpIn_wide (n:=6)).1 ?_
 refine wpIn_rangeFunc_ownH rfl (by omega) (gf:=43) (lb:=#[.pointer (some ⟨w3.heap.size,0,none⟩)]) rfl trivial (enters_of Tryz.func43 (by kernel_rfl) rfl)
  (turns_stops (6 - 1) (by omega) w3.heap.size w4.heap.size R (⟨C,⟨a5,a6,a7,a8,c5,c6,c7,c8⟩,⟨LL,RR,rd⟩,⟨aA,aR,cA,cR⟩,w1,gm,gl,n,fun _=>False⟩:MK) hgmW h3W (by show w1.heap.size≤_;omega) HSO.out.cfg HR.out HR8.out HC5.out HM4.out.cf w4 HB4.out gd HM4.out.row HM4.out.low lr)
  TM.trans (TM.book h3W hgmW (by show w1.heap.size≤_;omega)) (Below.refl _ _) (fun _=>rfl)
  (fun pre W=>∃ gd base As,MO (⟨C,⟨a5,a6,a7,a8,c5,c6,c7,c8⟩,⟨LL,RR,rd⟩,⟨aA,aR,cA,cR⟩,w1,gm,gl,n,fun _=>False⟩:MK) W gd base (turnsX C ⟨LL,RR,rd.toNat⟩ (pre.map (·.1))).1 As (turnsX C ⟨LL,RR,rd.toNat⟩ (pre.map (·.1))).2∧RowAt W w2.heap.size 68 [.pointer (some ⟨gm,0,none⟩)]∧RowAt W w3.heap.size 68 [.pointer (some ⟨gm,0,none⟩)])
  (fun c pre W=>False)
  (fun pre W W' row hs hg hr=>by
   obtain ⟨gd,base,As,h1,h2,h3⟩:=hs
   have hnc:NoCells W row:=fun r e=>(hr r e).2
   exact ⟨gd,base,As,h1.turn hg hnc (fun r e=>by have:=(hr r e).1;show w1.heap.size≤r;omega),row_turn h2 hg hnc,row_turn h3 hg hnc⟩)
  (fun c=>ownFrom_pure _ _)
  ⟨gd,base,As,HM4.out,HR4.out,HRm.out⟩
  (fun y a' W=>∃ bx,a'={ tmps:=#[.agg #[.int .i64 C.s,.int .i64 C.w,.int .i64 C.d,.int .i64 C.p,.int .i64 C.q,.slice a5 C.sl.length c5,.slice a6 C.ow.length c6,.slice a7 C.ch.length c7,.slice a8 C.ta.length c8],.agg #[.slice aA LL.length cA,.slice aR RR.length cR,.int .i64 rd],.pointer (some ⟨w.heap.size,0,none⟩),.pointer (some ⟨w.heap.size+1,0,none⟩),.slice none 0 0,.int .i64 0,.int .i64 0,.pointer (some ⟨w2.heap.size,0,none⟩),.pointer (some ⟨bx,0,none⟩),undef,undef,.agg #[.int .i64 C.s,.int .i64 C.w,.int .i64 C.d,.int .i64 C.p,.int .i64 C.q,.slice a5 C.sl.length c5,.slice a6 C.ow.length c6,.slice a7 C.ch.length c7,.slice a8 C.ta.length c8],.agg #[.slice aA LL.length cA,.slice aR RR.length cR,.int .i64 rd],.int .i64 0,.int .i64 0,.bool false,undef,.agg #[.int .i64 C.s,.int .i64 C.w,.int .i64 C.d,.int .i64 C.p,.int .i64 C.q,.slice a5 C.sl.length c5,.slice a6 C.ow.length c6,.slice a7 C.ch.length c7,.slice a8 C.ta.length c8],.agg #[.slice aA LL.length cA,.slice aR RR.length cR,.int .i64 rd],.pointer (some ⟨gm,0,none⟩),.pointer (some ⟨gm,0,none⟩),.func (.func 43) #[] #[.pointer (some ⟨w3.heap.size,0,none⟩)],.agg #[.int .i64 (y.1.1:Int),.int .i64 y.1.2.1,.int .i64 y.1.2.2],undef,undef,undef,undef,undef,undef,undef,undef,undef,undef,undef,undef,undef,undef,undef,undef,undef],defers:=[] }∧RowAt W bx 79 [.int .i64 (y.1.1:Int),.int .i64 y.1.2.1,.int .i64 y.1.2.2])
  (fun y a'=>fun _ W W' row hs hg hr=>by
   obtain ⟨bx,h1,h2⟩:=hs
   exact ⟨bx,h1,row_turn h2 hg (fun r e=>(hr r e).2)⟩)
  ?assign ?body ?done ?stop
 case assign=>
  rintro l pre y W K ⟨gdx,basex,Asx,hI1,hI2,hI3⟩ hK
  dsimp only [encU]
  have q:=below_new W (.cells #[.int .i64 (y.1.1:Int),.int .i64 y.1.2.1,.int .i64 y.1.2.2] 79)
  have HQ:=hid q
  have HI1:=hid (hI1.keep q)
  have HI2:=hid (hI2.below q lr)
  have HI3:=hid (hI3.below q lr)
  have HT:=hid (TM.of hI1 (hI1.keep q) (hI3.cell 0 _ rfl) ((hI3.below q lr).cell 0 _ rfl) q.size)
  have HR:=hid (rowAt_new2 W W.heap.size [.int .i64 (y.1.1:Int),.int .i64 y.1.2.1,.int .i64 y.1.2.2] 79 rfl)
  clear hI1 hI2 hI3 q
  gi_wp2
  exact hK _ _ ((keepsOthers_below HQ.out).from _) HT.out ⟨gdx,basex,Asx,HI1.out,HI2.out,HI3.out⟩ ⟨W.heap.size,rfl,HR.out⟩
 case stop=>
  rintro Dd c pre W hD hS hF
  exact hF.elim
 case body=>
  rintro l pre ⟨⟨slot,fr,te⟩,ht⟩ a' W hl ⟨r,hr⟩ ⟨gdx,basex,Asx,hI1,hI2,hI3⟩ ⟨bx,rfl,hbx⟩ hlen
  dsimp only at hbx ⊢
  have hMI:=turnsX_mi HSO.out (pre.map (·.1)) (fun u hu=>by obtain ⟨z,_,rfl⟩:=List.mem_map.1 hu;rw [HRt.out];exact z.2)
  have HSX:=hid (turnsX_snoc C ⟨LL,RR,rd.toNat⟩ (pre.map (·.1)) (slot,fr,te))
  have ht':(slot,fr,te)∈turnsL C rd.toNat:=by rw [HRt.out];exact ht
  have HTK:=hid (turns_ok HSO.out.cfg HSO.out.rounds _ ht')
  have HLB:Hid (100042 * ((pre.map (·.1)).length:Int)≤10000000):=hid (by
   have h1:=HSL.out
   have h2:=HR8.out
   have h3:R * C.sl.length≤8 * 6:=Nat.mul_le_mul h2 h1
   have h4:pre.length<R * C.sl.length:=hlen
   rw [List.length_map]
   omega)
  have HMI:=hid hMI
  have HTT:=hid ht'
  generalize turnsX C ⟨LL,RR,rd.toNat⟩ (pre.map (·.1))=X at *
  have rW:=HX2.out.below hI1.low lr
  have g0:=rW.cell 0 _ rfl
  have g1:=rW.cell 1 _ rfl
  rw [HSN.out.1] at g0
  rw [HVN.out.1] at g1
  have HI1:=hid hI1
  have HI2:=hid hI2
  have HI3:=hid hI3
  have HBX:=hid hbx
  have hlb0:Hid (0≤100042 * ((pre.map (·.1)).length:Int)):=hid (by omega)
  generalize hLn:100042 * ((pre.map (·.1)).length:Int)=bb at *
  have CN:=hid (new_ok sN vN W HSN.out.2.2.1 HSN.out.2.2.2 HVN.out.2.2.1 HVN.out.2.2.2)
  clear rW hI1 hI2 hI3 hbx hMI hlen hr hLn
  gi_wp2_with fail
  refine ⟨trivial,(CallsIn.inRound l (callsIn_wide.2 CN.out)).mono ?_⟩
  rintro e w5 ⟨gk,rfl,hoc,hgk,hb5⟩
  have q6:=below_new w5 (.cells #[.slice (some ⟨gk,0,none⟩) sN sN] 72)
  have HB6:=hid (btrans hb5 q6)
  have hmo6:=HI1.out.keep HB6.out
  have HCA:=hid ((cacheIn_of_own hoc (by rw [emptyC_len];exact Nat.le_refl _) (fun ls hls=>by rw [List.eq_of_mem_replicate hls];have:=HVN.out;simp;omega)).keep q6)
  have R6:=hid (rowAt_new2 w5 w5.heap.size [.slice (some ⟨gk,0,none⟩) sN sN] 72 rfl)
  have R6b:=hid (HBX.out.below HB6.out lr)
  have R62:=hid (HI2.out.below HB6.out lr)
  have R63:=hid (HI3.out.below HB6.out lr)
  have HM6:=hid hmo6
  have r7:=R62.out.cell 0 _ rfl
  have t0:=R6b.out.cell 0 _ rfl
  have t1:=R6b.out.cell 1 _ rfl
  have t2:=R6b.out.cell 2 _ rfl
  have k0:=R6.out.cell 0 _ rfl
  have CW:=hid (windowT_ok (⟨C,⟨a5,a6,a7,a8,c5,c6,c7,c8⟩,⟨LL,RR,rd⟩,⟨aA,aR,cA,cR⟩,w1,gm,gl,n,fun _=>False⟩:MK) _ gdx basex X Asx (slot,fr,te) bb (some ⟨gk,0,none⟩) sN HM6.out HSC.out HN.out HMI.out hlb0.out (by have:=HLB.out;omega) HTT.out (by
   show CacheIn _ _ (emptyC C.s.toNat C.w.toNat)
   rw [HSN.out.2.1,HVN.out.2.1]
   exact HCA.out))
  have he:List.length (emptyC C.s.toNat C.w.toNat)=sN:=by rw [emptyC_len];exact HSN.out.2.1
  dsimp only at CW
  rw [he] at CW
  clear he hoc hgk hb5 hmo6 q6 g0 g1 CN HCA R6
  gi_wp2_with fail
  refine ⟨trivial,(CallsIn.inRound l (callsIn_wide.2 CW.out)).mono ?_⟩
  rintro e w7 ⟨A7,aK7,⟨cK7,rfl⟩,hmo7,-,hx7⟩
  clear r7 t0 t1 t2 k0 CW
  have HX7:=hid hx7
  have HM7:=hid hmo7
  have R7b:=hid (HM6.out.box hx7 R6b.out (by decide) (by decide) (by decide))
  have R72:=hid (HM6.out.box hx7 R62.out (by decide) (by decide) (by decide))
  have R73:=hid (HM6.out.box hx7 R63.out (by decide) (by decide) (by decide))
  have HKE:=hid (((keepsOthers_below HB6.out).trans (keeps_ext hx7 HM6.out.cellsX)))
  have r7:=R72.out.cell 0 _ rfl
  have t0:=R7b.out.cell 0 _ rfl
  have t1:=R7b.out.cell 1 _ rfl
  have t2:=R7b.out.cell 2 _ rfl
  have CC:=hid (closeM_ok (⟨C,⟨a5,a6,a7,a8,c5,c6,c7,c8⟩,⟨LL,RR,rd⟩,⟨aA,aR,cA,cR⟩,w1,gm,gl,n,fun _=>False⟩:MK) w7 gdx basex (winX C ⟨LL,RR,rd.toNat⟩ (slot,fr,te) X).1 _ (winX C ⟨LL,RR,rd.toNat⟩ (slot,fr,te) X).2 slot fr te _ (bb+100042) HM7.out HTK.out.1 HSO.out.cfg HN.out (winX_all HSO.out HMI.out hlb0.out (slot,fr,te) HTK.out) (by have:=HLB.out;omega))
  dsimp only at CC
  clear hmo7 hx7 HM6 R6b R62 R63 HB6
  gi_wp2_with fail
  refine ⟨trivial,(CallsIn.inRound l (callsIn_wide.2 CC.out)).mono ?_⟩
  rintro e w8 ⟨rfl,g8,⟨As8,hmo8⟩,hx8,hg8⟩
  have HM8:=hid hmo8
  have R82:=hid (HM7.out.box hx8 R72.out (by decide) (by decide) (by decide))
  have R83:=hid (HM7.out.box hx8 R73.out (by decide) (by decide) (by decide))
  have HK8:=hid (HKE.out.trans (keeps_ext hx8 HM7.out.cellsX))
  clear r7 t0 t1 t2 CC hmo8 hx8
  gi_wp2
  refine ⟨HK8.out.from _,TM.of HI1.out HM8.out (HI3.out.cell 0 _ rfl) (R83.out.cell 0 _ rfl) HK8.out.size,⟨g8,g8+1,As8,?_,R82.out,R83.out⟩⟩
  rw [List.map_append,List.map_cons,List.map_nil,HSX.out]
  exact HM8.out
 case done=>
  rintro Dd ys W hD hS ⟨gdx,basex,Asx,hI1,hI2,hI3⟩ hdf
  rw [hS] at hI1
  have HI1:=hid hI1
  have HDF:=hid hdf
  have HDD:=hid hD
  have r7:=hI2.cell 0 _ rfl
  have CD:=hid (domsM_ok (⟨C,⟨a5,a6,a7,a8,c5,c6,c7,c8⟩,⟨LL,RR,rd⟩,⟨aA,aR,cA,cR⟩,w1,gm,gl,n,fun _=>False⟩:MK) W gdx basex _ Asx _ hI1)
  dsimp only at CD
  clear hI1 hI2 hI3 hdf hS
  go_wp2_with fail
  refine CD.out.mono ?_
  rintro e w9 ⟨rfl,hb9⟩
  have HM9:=hid (HI1.out.keep hb9)
  have hK9:w9.heap[Dd]? = some (.deferred (some [])):=(hb9.block Dd (Array.getElem?_eq_some_iff.1 HDF.out).1).trans HDF.out
  have HK9:=hid hK9
  clear r7 CD hb9 hK9
  go_wp2
  refine ⟨by simp,.inl ⟨_,_,rfl,run_takeDeferred HK9.out,?_⟩⟩
  have hnc:NoCells w9 (some Dd):=fun r e=>by cases e;exact ⟨_,HK9.out,rfl⟩
  have hmo:=HM9.out.turn (grownBy_putObj' w9 Dd (.deferred none)) hnc (fun r e=>by cases e;show w1.heap.size≤Dd;have:=HDD.out;omega)
  refine ⟨.tuple #[.slice (some ⟨gdx,0,none⟩) n n,.int .i64 0],?_,⟨gdx,n,rfl,⟨HN.out,Asx,fun i hi=>⟨?_,?_⟩⟩,?_⟩⟩
  ·simp [results,Tryz.results9,go_sem]
  ·have:=(hmo.at_ i hi).1
   rw [← HRt.out] at this
   exact this
  ·have:=(hmo.at_ i hi).2
   rw [← HRt.out] at this
   exact fun wx hx=>this wx (hx.wider fun k hk=>Or.inl (by have h1:w1.heap.size≤gdx:=hmo.lo.2.2;have h2:=hmo.hi.2.2.1;have h3:=HB1.out.size;show k<basex;omega))
  ·exact btrans HB1.out hmo.low
end Go.Proofs.YtejhccmclanlmaaGreatDoor
