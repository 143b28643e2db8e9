/- Texts joined: Bf Bk Bl Bm. -/
import Derived.Test.YtejhccmclanlmaaGreatDoorK00
import Derived.Test.YtejhccmclanlmaaGreatDoorK11
import Derived.Test.YtejhccmclanlmaaGreatDoorK44
import Derived.Test.YtejhccmclanlmaaGreatDoorK50
set_option linter.unusedVariables false
set_option maxRecDepth 100000
namespace Go.Proofs.YtejhccmclanlmaaGreatDoor
open Go.RowKit Go.Shelf
attribute [local go_sem] Oper.semAt_some
theorem ownC_on {w:World} {g0 k:Nat} {C:KT} (h:OwnC w g0 C k) (hk:List.length C≤k) (hn:∀ ls∈C,List.length ls≤3):∀ wx,Ext (fun k=>k<g0) w wx→CacheIn wx (some ⟨g0,0,none⟩) C:=by
 intro wx hx
 obtain ⟨L,G,cp,k1,k2,k4,k5⟩:=h
 refine cacheIn_of_own (k:=k) ⟨L,G,cp,?_,k2,fun j hj hl=>⟨(k4 j hj hl).1,owns_agree (k4 j hj hl).2 (fun x hx'=>hx.2 x (owns_lt (k4 j hj hl).2 x hx') (by have:=owns_ge (k4 j hj hl).2 x hx';omega))⟩,k5⟩ hk hn
 exact (hx.2 g0 (Array.getElem?_eq_some_iff.1 k1).1 (by omega)).trans k1
def turnsY (C:Conf) (S:Scr) (l:List TT):((Nat→Dom)×(Nat→Int))×Int:=l.foldl (fun Y t=>(turnF C S t Y.1,max Y.2 (2+csum (winK C S t Y.1)))) ((fun _=>newD C,fun _=>0),0)
theorem turnsY_snoc (C:Conf) (S:Scr) (l:List TT) (t:TT):turnsY C S (l++[t])=(turnF C S t (turnsY C S l).1,max (turnsY C S l).2 (2+csum (winK C S t (turnsY C S l).1))):=by simp [turnsY]
theorem fold_fst {C:Conf} {S:Scr}:∀ (l:List TT) (Y:((Nat→Dom)×(Nat→Int))×Int),(l.foldl (fun Y t=>(turnF C S t Y.1,max Y.2 (2+csum (winK C S t Y.1)))) Y).1=l.foldl (fun X t=>turnF C S t X) Y.1
 | [],Y=>rfl
 | t :: l,Y=>fold_fst l _
theorem turnsY_fst (C:Conf) (S:Scr) (l:List TT):(turnsY C S l).1=turnsX C S l:=fold_fst l _
def longF (C:Conf) (S:Scr):Int:=(turnsY C S (turnsL C S.rounds)).2
set_option maxHeartbeats 8000000 in
theorem runExec_ok (C:Conf) (B:Mem) (S:ScrT) (M:SMem) (w:World) (hC:ConfIn w B C) (hS:ScrIn w M S) (hsc:ckScr C S=0) (hc5:C.sl.length≤B.c5) :
  Calls Tryz.prog 8 #[cv C B,sv S M] w fun e w'=>∃ gd n:Nat,e=.returned (.tuple #[.slice (some ⟨gd,0,none⟩) n n,.int .i64 (longF C (ps S)),.int .i64 0])∧RunOut C S w' gd n∧Below w.heap.size w w':=by
 obtain ⟨hSO,hlen,harr,hr0⟩:=scr_ok hsc
 obtain ⟨⟨z1,z2⟩,⟨v1,v2⟩,⟨d1,d2⟩⟩:=conf_nums hSO.cfg
 obtain ⟨n,HN⟩:∃ n:Nat,Hid (C.d=(n:Int)):=⟨C.d.toNat,hid (by omega)⟩
 obtain ⟨R,HR⟩:∃ R:Nat,Hid (S.rounds=(R:Int)):=⟨S.rounds.toNat,hid (by omega)⟩
 have HR8:Hid (R≤8):=hid (by have h1:S.rounds.toNat≤8:=hSO.rounds;have:=HR.out;omega)
 have HRt:Hid ((ps S).rounds=R):=hid (by show S.rounds.toNat=R;have:=HR.out;omega)
 have q1:=below_new w (.cells (cl C B) 27)
 have q2:=below_new (w.alloc (.cells (cl C B) 27)) (.cells (sl S M) 31)
 have HCF:=hid ((hC.keep q1).keep q2)
 have HSF:=hid ((hS.keep q1).keep q2)
 have hX0:=(rowAt_new2 w w.heap.size (cl C B).toList 27 rfl).below q2 lr
 have hX1:=rowAt_new2 (w.alloc (.cells (cl C B) 27)) (w.heap.size+1) (sl S M).toList 31 (by simp)
 have HB2:=hid (btrans q1 q2)
 have HSC:=hid hsc
 have HSO:=hid hSO
 have HC5:=hid hc5
 clear q1 q2 hC hS hsc hSO hlen harr hr0 hc5 z1 z2 v1 v2 d1 d2
 obtain ⟨a5,a6,a7,a8,c5,c6,c7,c8⟩:=B
 obtain ⟨aA,aR,cA,cR⟩:=M
 obtain ⟨LL,RR,rd⟩:=S
 have CK:=hid (checkScr_any C ⟨a5,a6,a7,a8,c5,c6,c7,c8⟩ ⟨LL,RR,rd⟩ ⟨aA,aR,cA,cR⟩ _ HCF.out HSF.out)
 rw [HSC.out] at CK
 dsimp only [cv,cl,sv,sl] at *
 have HX0:=hid hX0
 have HX1:=hid hX1
 have g0:=hX0.cell 0 _ rfl
 have g1:=hX0.cell 1 _ rfl
 have g2:=hX0.cell 2 _ rfl
 have g3:=hX0.cell 3 _ rfl
 have g4:=hX0.cell 4 _ rfl
 have g5:=hX0.cell 5 _ rfl
 have g6:=hX0.cell 6 _ rfl
 have g7:=hX0.cell 7 _ rfl
 have g8:=hX0.cell 8 _ rfl
 have s0:=hX1.cell 0 _ rfl
 have s1:=hX1.cell 1 _ rfl
 have s2:=hX1.cell 2 _ rfl
 clear hX0 hX1
 refine (callsIn_wide (n:=6)).1 (callsIn_of_wp_marks Tryz.func8 rfl trivial ?_ rfl)
 refine wpIn_wide.2 ?_
 simp only [Tryz.ntmps8,List.size_toArray,List.length_cons,List.length_nil,Nat.reduceAdd,Nat.reduceSub,Array.replicate_succ,Array.replicate_zero,List.push_toArray,List.append_toArray,List.nil_append,List.cons_append]
 go_wp2_with fail
 refine CK.out.mono ?_
 rintro e w1 ⟨rfl,hb1⟩
 generalize World.alloc (World.alloc w _) _=W at *
 clear g0 g1 g2 g3 g4 g5 g6 g7 g8 s0 s1 s2 CK
 have HB1:=hid (btrans HB2.out hb1)
 have HC1:=hid (HCF.out.keep hb1)
 have HS1:=hid (HSF.out.keep hb1)
 have rX0:=HX0.out.below hb1 lr
 have rX1:=HX1.out.below hb1 lr
 have HX2:=hid rX0
 have g0:=rX0.cell 0 _ rfl
 have g1:=rX0.cell 1 _ rfl
 have g2:=rX0.cell 2 _ rfl
 have g3:=rX0.cell 3 _ rfl
 have g4:=rX0.cell 4 _ rfl
 have g5:=rX0.cell 5 _ rfl
 have g6:=rX0.cell 6 _ rfl
 have g7:=rX0.cell 7 _ rfl
 have g8:=rX0.cell 8 _ rfl
 have s0:=rX1.cell 0 _ rfl
 have s1:=rX1.cell 1 _ rfl
 have s2:=rX1.cell 2 _ rfl
 have CN:=hid (newM_ok C ⟨a5,a6,a7,a8,c5,c6,c7,c8⟩ ⟨LL,RR,rd⟩ ⟨aA,aR,cA,cR⟩ n w1 HC1.out HS1.out HSO.out.cfg HN.out)
 dsimp only [cv,cl,sv,sl] at CN
 clear rX0 rX1 hb1 HX0 HX1 HCF HSF HB2
 go_wp2_with fail
 refine CN.out.mono ?_
 rintro e w2 ⟨gm,rfl,gl,gd,base,As,hmo⟩
 clear g0 g1 g2 g3 g4 g5 g6 g7 g8 s0 s1 s2 CN
 have q3:=below_new w2 (.cells #[.pointer (some ⟨gm,0,none⟩)] 68)
 have R3:=rowAt_new2 w2 w2.heap.size [.pointer (some ⟨gm,0,none⟩)] 68 rfl
 have HM3:=hid hmo
 have HQ3:=hid q3
 have HW2:=hid hmo.low.size
 have HGL:Hid (gl<w2.heap.size):=hid (Nat.lt_of_lt_of_le hmo.hi.2.1 hmo.hi.2.2.2)
 have HR3:=hid R3
 have hs3:Hid ((w2.alloc (.cells #[.pointer (some ⟨gm,0,none⟩)] 68)).heap.size=w2.heap.size+1):=hid (by simp)
 obtain ⟨sN,HSN⟩:∃ s:Nat,Hid (C.s=(s:Int)∧C.s.toNat=s∧1≤s∧s≤4):=⟨C.s.toNat,hid (by have:=(conf_nums HSO.out.cfg).1;omega)⟩
 obtain ⟨vN,HVN⟩:∃ s:Nat,Hid (C.w=(s:Int)∧C.w.toNat=s∧1≤s∧s≤3):=⟨C.w.toNat,hid (by have:=(conf_nums HSO.out.cfg).2.1;omega)⟩
 have rW:=(HX2.out.below hmo.low lr).below q3 lr
 have g0:=rW.cell 0 _ rfl
 have g1:=rW.cell 1 _ rfl
 rw [HSN.out.1] at g0
 rw [HVN.out.1] at g1
 have CN:=hid (new_ok sN vN (w2.alloc (.cells #[.pointer (some ⟨gm,0,none⟩)] 68)) HSN.out.2.2.1 HSN.out.2.2.2 HVN.out.2.2.1 HVN.out.2.2.2)
 clear hmo q3 R3 rW
 go_wp2_with fail
 refine CN.out.mono ?_
 generalize World.alloc w2 _=w2b at *
 rintro e w2c ⟨gk,rfl,hoc,hgk,hb2c⟩
 clear g0 g1 CN
 have q5:=below_new w2c (.cells #[.slice (some ⟨gk,0,none⟩) sN sN] 72)
 have q6:=below_new (w2c.alloc (.cells #[.slice (some ⟨gk,0,none⟩) sN sN] 72)) (.cells #[.int .i64 0] 3)
 have hB6:=btrans hb2c (btrans q5 q6)
 have HM6:Hid (MO { (⟨C,⟨a5,a6,a7,a8,c5,c6,c7,c8⟩,⟨LL,RR,rd⟩,⟨aA,aR,cA,cR⟩,w1,gm,gl,n,fun _=>False⟩:MK) with fo:=fun k=>k=w2c.heap.size∨k=w2c.heap.size+1 } ((w2c.alloc (.cells #[.slice (some ⟨gk,0,none⟩) sN sN] 72)).alloc (.cells #[.int .i64 0] 3)) gd base (fun _=>newD C) As (fun _=>0)):=hid (HM3.out.others (btrans HQ3.out hB6) (fun k=>k=w2c.heap.size∨k=w2c.heap.size+1) (fun k hk=>by
  have h1:=hb2c.size
  have h2:=hs3.out
  have h3:((w2c.alloc (.cells #[.slice (some ⟨gk,0,none⟩) sN sN] 72)).alloc (.cells #[.int .i64 0] 3)).heap.size=w2c.heap.size+2:=by simp
  rcases hk with rfl|rfl <;> omega) (fun k hk=>hk))
 dsimp only at HM6
 have R6:=HR3.out.below hB6 lr
 have HR6:=hid R6
 have HCA:=hid ((((cacheIn_of_own hoc (by rw [emptyC_len];exact Nat.le_refl _) (fun ls hls=>by rw [List.eq_of_mem_replicate hls];have:=HVN.out;simp;omega)).keep q5)).keep q6)
 have HRK:=hid ((rowAt_new2 w2c w2c.heap.size [.slice (some ⟨gk,0,none⟩) sN sN] 72 rfl).below q6 lr)
 have HRL:=hid (rowAt_new2 (w2c.alloc (.cells #[.slice (some ⟨gk,0,none⟩) sN sN] 72)) (w2c.heap.size+1) [.int .i64 0] 3 (by simp))
 have hsc2:Hid (w2.heap.size+1≤w2c.heap.size):=hid (by have:=hb2c.size;have:=hs3.out;omega)
 have hs6:Hid (((w2c.alloc (.cells #[.slice (some ⟨gk,0,none⟩) sN sN] 72)).alloc (.cells #[.int .i64 0] 3)).heap.size=w2c.heap.size+2):=hid (by simp)
 have r3:=R6.cell 0 _ rfl
 clear hoc hgk hb2c q5 q6 hB6 HM3 HR3 R6 HQ3
 go_wp2_with fail
 generalize World.alloc (World.alloc w2c _) _=w3 at *
 refine (turns22_ok gm w3).mono ?_
 rintro e w4 ⟨rfl,rfl⟩
 have q4:=below_new w3 (.cells #[.pointer (some ⟨gm,0,none⟩)] 68)
 have R4m:=rowAt_new2 w3 w3.heap.size [.pointer (some ⟨gm,0,none⟩)] 68 rfl
 have R4:=HR6.out.below q4 lr
 have HM4:=hid (HM6.out.keep q4)
 have hs4:Hid ((w3.alloc (.cells #[.pointer (some ⟨gm,0,none⟩)] 68)).heap.size=w3.heap.size+1):=hid (by simp)
 have HB4:=hid (R4m.cell 0 _ rfl)
 have HRm:=hid R4m
 have HR4:=hid R4
 have HCA4:=hid (HCA.out.keep q4)
 have HRK4:=hid (HRK.out.below q4 lr)
 have HRL4:=hid (HRL.out.below q4 lr)
 clear r3 HM6 HR6 q4 R4m R4 HCA HRK HRL
 generalize World.alloc w3 _=w4 at *
 go_wp2
 have hW4:w1.heap.size+2≤w4.heap.size:=by have:=hs6.out;have:=hsc2.out;have:=hs4.out;have:=HW2.out;omega
 have hgmW:gm<w4.heap.size:=HM4.out.row.lt
 have h3W:w3.heap.size<w4.heap.size:=by have:=hs4.out;omega
 have HSL:=hid (conf_cnt HSO.out.cfg).1
 have HNGL:Hid (w2c.heap.size+1≠gl):=hid (by have:=HGL.out;have:=hsc2.out;omega)
 refine (wpIn_wide (n:=6)).1 ?_
 refine wpIn_rangeFunc_ownH rfl (by omega) (gf:=43) (lb:=#[.pointer (some ⟨w3.heap.size,0,none⟩)]) rfl trivial (enters_of Tryz.func43 (by kernel_rfl) rfl)
  (turns_stops (6 - 1) (by omega) w3.heap.size w4.heap.size R (⟨C,⟨a5,a6,a7,a8,c5,c6,c7,c8⟩,⟨LL,RR,rd⟩,⟨aA,aR,cA,cR⟩,w1,gm,gl,n,fun k=>k=w2c.heap.size∨k=w2c.heap.size+1⟩:MK) hgmW h3W (by show w1.heap.size≤_;omega) HSO.out.cfg HR.out HR8.out HC5.out HM4.out.cf w4 HB4.out gd HM4.out.row HM4.out.low lr)
  TM.trans (TM.book h3W hgmW (by show w1.heap.size≤_;omega)) (Below.refl _ _) (fun _=>rfl)
  (fun pre W=>∃ gd base As,MO (⟨C,⟨a5,a6,a7,a8,c5,c6,c7,c8⟩,⟨LL,RR,rd⟩,⟨aA,aR,cA,cR⟩,w1,gm,gl,n,fun k=>k=w2c.heap.size∨k=w2c.heap.size+1⟩:MK) W gd base (turnsY C ⟨LL,RR,rd.toNat⟩ (pre.map (·.1))).1.1 As (turnsY C ⟨LL,RR,rd.toNat⟩ (pre.map (·.1))).1.2∧RowAt W w2.heap.size 68 [.pointer (some ⟨gm,0,none⟩)]∧RowAt W w3.heap.size 68 [.pointer (some ⟨gm,0,none⟩)]∧(∃ aK cK,RowAt W w2c.heap.size 72 [.slice aK sN cK]∧CacheIn W aK (emptyC sN vN))∧RowAt W (w2c.heap.size+1) 3 [.int .i64 (turnsY C ⟨LL,RR,rd.toNat⟩ (pre.map (·.1))).2]∧0≤(turnsY C ⟨LL,RR,rd.toNat⟩ (pre.map (·.1))).2∧(turnsY C ⟨LL,RR,rd.toNat⟩ (pre.map (·.1))).2≤62)
  (fun c pre W=>False)
  (fun pre W W' row hs hg hr=>by
   obtain ⟨gd,base,As,h1,h2,h3,⟨aK,cK,h4,h5⟩,h6,h7⟩:=hs
   have hnc:NoCells W row:=fun r e=>(hr r e).2
   exact ⟨gd,base,As,h1.turn hg hnc (fun r e=>by have:=(hr r e).1;show w1.heap.size≤r;omega),row_turn h2 hg hnc,row_turn h3 hg hnc,⟨aK,cK,row_turn h4 hg hnc,h5.kc (kc_turn hg hnc)⟩,row_turn h6 hg hnc,h7⟩)
  (fun c=>ownFrom_pure _ _)
  ⟨gd,base,As,HM4.out,HR4.out,HRm.out,⟨_,_,HRK4.out,HCA4.out⟩,HRL4.out,show (0:Int)≤0 by decide,show (0:Int)≤62 by decide⟩
  (fun y a' W=>∃ bx,a'={ tmps:=#[.agg #[.int .i64 C.s,.int .i64 C.w,.int .i64 C.d,.int .i64 C.p,.int .i64 C.q,.slice a5 C.sl.length c5,.slice a6 C.ow.length c6,.slice a7 C.ch.length c7,.slice a8 C.ta.length c8],.agg #[.slice aA LL.length cA,.slice aR RR.length cR,.int .i64 rd],.pointer (some ⟨w.heap.size,0,none⟩),.pointer (some ⟨w.heap.size+1,0,none⟩),.slice none 0 0,.int .i64 0,.int .i64 0,.int .i64 0,.pointer (some ⟨w2.heap.size,0,none⟩),.pointer (some ⟨w2c.heap.size,0,none⟩),.int .i64 0,.pointer (some ⟨w2c.heap.size+1,0,none⟩),.pointer (some ⟨bx,0,none⟩),undef,undef,undef,undef,.agg #[.int .i64 C.s,.int .i64 C.w,.int .i64 C.d,.int .i64 C.p,.int .i64 C.q,.slice a5 C.sl.length c5,.slice a6 C.ow.length c6,.slice a7 C.ch.length c7,.slice a8 C.ta.length c8],.agg #[.slice aA LL.length cA,.slice aR RR.length cR,.int .i64 rd],.int .i64 0,.int .i64 0,.bool false,undef,.agg #[.int .i64 C.s,.int .i64 C.w,.int .i64 C.d,.int .i64 C.p,.int .i64 C.q,.slice a5 C.sl.length c5,.slice a6 C.ow.length c6,.slice a7 C.ch.length c7,.slice a8 C.ta.length c8],.agg #[.slice aA LL.length cA,.slice aR RR.length cR,.int .i64 rd],.pointer (some ⟨gm,0,none⟩),.tuple #[.agg #[.slice (some ⟨gk,0,none⟩) sN sN],.int .i64 0],.pointer (some ⟨w.heap.size,0,none⟩),.int .i64 (sN:Int),.pointer (some ⟨w.heap.size,1,none⟩),.int .i64 (vN:Int),.tuple #[.agg #[.slice (some ⟨gk,0,none⟩) sN sN],.int .i64 0],.agg #[.slice (some ⟨gk,0,none⟩) sN sN],.int .i64 0,.pointer (some ⟨gm,0,none⟩),.func (.func 43) #[] #[.pointer (some ⟨w3.heap.size,0,none⟩)],.agg #[.int .i64 (y.1.1:Int),.int .i64 y.1.2.1,.int .i64 y.1.2.2],undef,undef,undef,undef,undef,undef,undef,undef,undef,undef,undef,undef,undef,undef,undef,undef,undef,undef,undef,undef],defers:=[] }∧RowAt W bx 79 [.int .i64 (y.1.1:Int),.int .i64 y.1.2.1,.int .i64 y.1.2.2])
  (fun y a'=>fun _ W W' row hs hg hr=>by
   obtain ⟨bx,h1,h2⟩:=hs
   exact ⟨bx,h1,row_turn h2 hg (fun r e=>(hr r e).2)⟩)
  ?assign ?body ?done ?stop
 case assign=>
  rintro l pre y W K ⟨gdx,basex,Asx,hI1,hI2,hI3,⟨aK,cK,hI4,hI5⟩,hI6,hI7⟩ hK
  dsimp only [encU]
  have q:=below_new W (.cells #[.int .i64 (y.1.1:Int),.int .i64 y.1.2.1,.int .i64 y.1.2.2] 79)
  have HQ:=hid q
  have HI1:=hid (hI1.keep q)
  have HI2:=hid (hI2.below q lr)
  have HI3:=hid (hI3.below q lr)
  have HI4:=hid (hI4.below q lr)
  have HI5:=hid (hI5.keep q)
  have HI6:=hid (hI6.below q lr)
  have HI7:=hid hI7
  have HT:=hid (TM.of hI1 (hI1.keep q) (hI3.cell 0 _ rfl) ((hI3.below q lr).cell 0 _ rfl) q.size)
  have HR:=hid (rowAt_new2 W W.heap.size [.int .i64 (y.1.1:Int),.int .i64 y.1.2.1,.int .i64 y.1.2.2] 79 rfl)
  clear hI1 hI2 hI3 hI4 hI5 hI6 hI7 q
  gi_wp2
  exact hK _ _ ((keepsOthers_below HQ.out).from _) HT.out ⟨gdx,basex,Asx,HI1.out,HI2.out,HI3.out,⟨aK,cK,HI4.out,HI5.out⟩,HI6.out,HI7.out⟩ ⟨W.heap.size,rfl,HR.out⟩
 case stop=>
  rintro Dd c pre W hD hS hF
  exact hF.elim
 case body=>
  rintro l pre ⟨⟨slot,fr,te⟩,ht⟩ a' W hl ⟨r,hr⟩ ⟨gdx,basex,Asx,hI1,hI2,hI3,⟨aK,cK,hI4,hI5⟩,hI6,hI7⟩ ⟨bx,rfl,hbx⟩ hlen
  dsimp only at hbx ⊢
  have hMI:=turnsX_mi HSO.out (pre.map (·.1)) (fun u hu=>by obtain ⟨z,_,rfl⟩:=List.mem_map.1 hu;rw [HRt.out];exact z.2)
  rw [← turnsY_fst] at hMI
  have HSX:=hid (turnsY_snoc C ⟨LL,RR,rd.toNat⟩ (pre.map (·.1)) (slot,fr,te))
  have ht':(slot,fr,te)∈turnsL C rd.toNat:=by rw [HRt.out];exact ht
  have HTK:=hid (turns_ok HSO.out.cfg HSO.out.rounds _ ht')
  have HLB:Hid (100042 * ((pre.map (·.1)).length:Int)≤10000000):=hid (by
   have h1:=HSL.out
   have h2:=HR8.out
   have h3:R * C.sl.length≤8 * 6:=Nat.mul_le_mul h2 h1
   have h4:pre.length<R * C.sl.length:=hlen
   rw [List.length_map]
   omega)
  have HMI:=hid hMI
  have HTT:=hid ht'
  generalize turnsY C ⟨LL,RR,rd.toNat⟩ (pre.map (·.1))=YY at *
  obtain ⟨X,lg⟩:=YY
  dsimp only at *
  have HWK:=hid (winK_ok HSO.out HMI.out HTT.out)
  have HI1:=hid hI1
  have HI2:=hid hI2
  have HI3:=hid hI3
  have HI4:=hid hI4
  have HI6:=hid hI6
  have HI7:=hid hI7
  have HBX:=hid hbx
  have hlb0:Hid (0≤100042 * ((pre.map (·.1)).length:Int)):=hid (by omega)
  generalize hLn:100042 * ((pre.map (·.1)).length:Int)=bb at *
  have CW:=hid (windowT_ok (⟨C,⟨a5,a6,a7,a8,c5,c6,c7,c8⟩,⟨LL,RR,rd⟩,⟨aA,aR,cA,cR⟩,w1,gm,gl,n,fun k=>k=w2c.heap.size∨k=w2c.heap.size+1⟩:MK) W gdx basex X Asx (slot,fr,te) bb aK cK HI1.out HSC.out HN.out HMI.out hlb0.out (by have:=HLB.out;omega) HTT.out (by
   show CacheIn _ _ (emptyC C.s.toNat C.w.toNat)
   rw [HSN.out.2.1,HVN.out.2.1]
   exact hI5))
  have he:List.length (emptyC C.s.toNat C.w.toNat)=sN:=by rw [emptyC_len];exact HSN.out.2.1
  dsimp only at CW
  rw [he] at CW
  obtain ⟨hck,hsl,hsv⟩:=HWK.out
  have hhd:(List.headD (winK C ⟨LL,RR,rd.toNat⟩ (slot,fr,te) X) []).length=vN:=by
   have h9:=HSN.out
   cases hwk:winK C ⟨LL,RR,rd.toNat⟩ (slot,fr,te) X with
   | nil=>rw [hwk] at hsl;simp at hsl;omega
   | cons x xs=>rw [hwk] at hsv;exact (hsv x (by simp)).trans HVN.out.2.1
  have hsl':List.length (winK C ⟨LL,RR,rd.toNat⟩ (slot,fr,te) X)=sN:=hsl.trans HSN.out.2.1
  rw [hsl'] at CW
  have r7:=hI2.cell 0 _ rfl
  have t0:=hbx.cell 0 _ rfl
  have t1:=hbx.cell 1 _ rfl
  have t2:=hbx.cell 2 _ rfl
  have k0:=hI4.cell 0 _ rfl
  clear he hI1 hI2 hI3 hI4 hI5 hI6 hI7 hbx hMI hlen hr hLn
  gi_wp2_with fail
  refine ⟨trivial,(CallsIn.inRound l (callsIn_wide.2 CW.out)).mono ?_⟩
  rintro e w7 ⟨A7,aK7,⟨cK7,rfl⟩,hmo7,hca7,hx7⟩
  clear r7 t0 t1 t2 k0 CW
  have HKE:=hid (keeps_ext hx7 HI1.out.cellsX)
  have q8:=below_new w7 (.cells #[.slice aK7 sN cK7] 72)
  have R7b:=hid ((HI1.out.box hx7 HBX.out (by decide) (by decide) (by decide)).below q8 lr)
  have R72:=hid ((HI1.out.box hx7 HI2.out (by decide) (by decide) (by decide)).below q8 lr)
  have R73:=hid ((HI1.out.box hx7 HI3.out (by decide) (by decide) (by decide)).below q8 lr)
  have R74:=hid ((HI1.out.box hx7 HI4.out (by decide) (by decide) (by decide)).below q8 lr)
  have R76:=hid ((HI1.out.box3 hx7 HI6.out HNGL.out).below q8 lr)
  have HM8:=hid (hmo7.keep q8)
  have HQ8:=hid q8
  have R8:=rowAt_new2 w7 w7.heap.size [.slice aK7 sN cK7] 72 rfl
  have k0:=R8.cell 0 _ rfl
  have CF:=hid (flush_ok aK7 (winK C ⟨LL,RR,rd.toNat⟩ (slot,fr,te) X) cK7 _ (hca7.keep q8) (by have:=HSN.out;omega) hck vN hhd)
  have HTB:Hid (0≤csum (winK C ⟨LL,RR,rd.toNat⟩ (slot,fr,te) X)∧csum (winK C ⟨LL,RR,rd.toNat⟩ (slot,fr,te) X)≤60):=hid (by
   have:=csum_le (winK C ⟨LL,RR,rd.toNat⟩ (slot,fr,te) X) 3 (fun ls hls=>by have:=hsv ls hls;have:=HVN.out;omega)
   have h9:=HSN.out
   omega)
  rw [hsl'] at CF
  clear hmo7 hca7 hx7 q8 R8 hck hsl hsv hhd hsl'
  generalize hcs:csum (winK C ⟨LL,RR,rd.toNat⟩ (slot,fr,te) X)=cs at *
  have HCS:=hid hcs
  clear hcs
  gi_wp2_with fail
  generalize World.alloc w7 _=w8 at *
  refine ⟨trivial,(CallsIn.inRound l (callsIn_wide.2 CF.out)).mono ?_⟩
  rintro e w9 ⟨g9,rfl,ho9,hg9,hb9⟩
  clear k0 CF
  have q10:=below_new w9 (.cells #[.slice (some ⟨g9,0,none⟩) sN sN] 72)
  have hb10:=btrans hb9 q10
  have R9b:=hid (R7b.out.below hb10 lr)
  have R92:=hid (R72.out.below hb10 lr)
  have R93:=hid (R73.out.below hb10 lr)
  have R94:=hid (R74.out.below hb10 lr)
  have R96:=hid (R76.out.below hb10 lr)
  have HM10:=hid (HM8.out.keep hb10)
  have HCO:=hid (ownC_on ho9 (by rw [emptyC_len];exact Nat.le_refl _) (fun ls hls=>by rw [List.eq_of_mem_replicate hls];have:=HVN.out;simp;omega))
  have HE10:Hid (Ext (fun k=>k<g9) w9 (w9.alloc (.cells #[.slice (some ⟨g9,0,none⟩) sN sN] 72))):=hid (Ext.below q10)
  have HLT9:Hid (gm<g9∧gl<g9∧gdx<g9∧w2c.heap.size+1<g9):=hid (by
   have h1:=HM8.out.row.lt
   have h2:=HM8.out.last.lt
   have h3:=HM8.out.drow.lt
   have h4:=R76.out.lt
   dsimp only at h1 h2
   omega)
  have R10:=hid (rowAt_new2 w9 w9.heap.size [.slice (some ⟨g9,0,none⟩) sN sN] 72 rfl)
  have HB10:=hid hb10
  have f14:=R10.out.cell 0 _ rfl
  have f9:=R94.out.cell 0 _ rfl
  have z9:=R94.out.frozen 0
  have f11:=R96.out.cell 0 _ rfl
  have z11:=R96.out.frozen 0
  have HSZ9:Hid (w2c.heap.size+1<w9.heap.size):=hid (by have:=R76.out.lt;have:=hb9.size;omega)
  have e1:¬ w2c.heap.size=w2c.heap.size+1:=by omega
  have e2:¬ w2c.heap.size+1=w2c.heap.size:=by omega
  have e3:¬ w2c.heap.size=w9.heap.size:=by have:=HSZ9.out;omega
  have e4:¬ w2c.heap.size+1=w9.heap.size:=by have:=HSZ9.out;omega
  clear R7b R72 R73 R74 R76 HM8 ho9 hg9 q10 hb10 hb9
  gi_upto_region 11 with fail
  generalize hw10:w9.alloc (.cells #[.slice (some ⟨g9,0,none⟩) sN sN] 72)=w10 at *
  have HW10:=hid hw10
  clear hw10
  gi_cut [] from 47 (fun wx=>∃ m,m=max lg (2+cs)∧wx=((w10.setCell ⟨w2c.heap.size,0,none⟩ (.slice (some ⟨g9,0,none⟩) sN sN)).setCell ⟨w2c.heap.size+1,0,none⟩ (.int .i64 m)).drew)
  case first=>
   by_cases hmx:lg<2+cs
   ·have hmx2:¬ 2+cs<lg:=by omega
    have hmx3:¬ 2+cs≤lg:=by omega
    have hmx4:lg≤2+cs:=by omega
    gi_region
    all_goals
     gi_wp2
     go_meet
     case rel=>exact ⟨2+cs,by omega,rfl⟩
   ·have hmx2:2+cs≤lg:=by omega
    gi_region
    all_goals
     gi_wp2
     go_meet
     case rel=>exact ⟨lg,by omega,rfl⟩
  case rest=>
   obtain ⟨m,hm,rfl⟩:=hcut
   have HMm:=hid hm
   have hgdn:=HM10.out
   obtain ⟨csr,hr1,-⟩:=hgdn.drow
   have n1:w2c.heap.size≠gm:=row_ne R94.out hgdn.row (by decide)
   have n2:w2c.heap.size≠gl:=row_ne R94.out hgdn.last (by decide)
   have n3:w2c.heap.size≠gdx:=row_ne R94.out hr1 (by decide)
   have n4:w2c.heap.size+1≠gm:=row_ne R96.out hgdn.row (by decide)
   have n5:w2c.heap.size+1≠gdx:=row_ne R96.out hr1 (by decide)
   have n6:w1.heap.size≤w2c.heap.size:=by have:=HW2.out;have:=hsc2.out;omega
   have HM11:=hid (((hgdn.write (.inl rfl) n1 n2 n3 n6 0 (.slice (some ⟨g9,0,none⟩) sN sN)).write (.inr rfl) n4 HNGL.out n5 (Nat.le_succ_of_le n6) 0 (.int .i64 m)).keep (Below.refl _ _).drew)
   have ne:=fun k (h1:k≠w2c.heap.size) (h2:k≠w2c.heap.size+1)=>(heap_set_ne (w10.setCell ⟨w2c.heap.size,0,none⟩ (.slice (some ⟨g9,0,none⟩) sN sN)) (w2c.heap.size+1) 0 (.int .i64 m) k h2).trans (heap_set_ne w10 w2c.heap.size 0 (.slice (some ⟨g9,0,none⟩) sN sN) k h1)
   have R11b:=hid (show RowAt ((w10.setCell ⟨w2c.heap.size,0,none⟩ (.slice (some ⟨g9,0,none⟩) sN sN)).setCell ⟨w2c.heap.size+1,0,none⟩ (.int .i64 m)).drew bx 79 _ from (ne bx (row_ne R9b.out R94.out (by decide)) (row_ne R9b.out R96.out (by decide))).trans R9b.out)
   have R112:=hid (show RowAt ((w10.setCell ⟨w2c.heap.size,0,none⟩ (.slice (some ⟨g9,0,none⟩) sN sN)).setCell ⟨w2c.heap.size+1,0,none⟩ (.int .i64 m)).drew w2.heap.size 68 _ from (ne w2.heap.size (row_ne R92.out R94.out (by decide)) (row_ne R92.out R96.out (by decide))).trans R92.out)
   have R113:=hid (show RowAt ((w10.setCell ⟨w2c.heap.size,0,none⟩ (.slice (some ⟨g9,0,none⟩) sN sN)).setCell ⟨w2c.heap.size+1,0,none⟩ (.int .i64 m)).drew w3.heap.size 68 _ from (ne w3.heap.size (row_ne R93.out R94.out (by decide)) (row_ne R93.out R96.out (by decide))).trans R93.out)
   have R114:=hid (show RowAt ((w10.setCell ⟨w2c.heap.size,0,none⟩ (.slice (some ⟨g9,0,none⟩) sN sN)).setCell ⟨w2c.heap.size+1,0,none⟩ (.int .i64 m)).drew w2c.heap.size 72 [.slice (some ⟨g9,0,none⟩) sN sN] from (heap_set_ne (w10.setCell ⟨w2c.heap.size,0,none⟩ (.slice (some ⟨g9,0,none⟩) sN sN)) (w2c.heap.size+1) 0 (.int .i64 m) w2c.heap.size (by omega)).trans (rowAt_set1 R94.out 0 (.slice (some ⟨g9,0,none⟩) sN sN)))
   have R116:=hid (show RowAt ((w10.setCell ⟨w2c.heap.size,0,none⟩ (.slice (some ⟨g9,0,none⟩) sN sN)).setCell ⟨w2c.heap.size+1,0,none⟩ (.int .i64 m)).drew (w2c.heap.size+1) 3 [.int .i64 m] from rowAt_set1 (show RowAt (w10.setCell ⟨w2c.heap.size,0,none⟩ (.slice (some ⟨g9,0,none⟩) sN sN)) (w2c.heap.size+1) 3 [.int .i64 lg] from (heap_set_ne w10 w2c.heap.size 0 (.slice (some ⟨g9,0,none⟩) sN sN) (w2c.heap.size+1) (by omega)).trans R96.out) 0 (.int .i64 m))
   have HE11:Hid (Ext (fun k=>k<g9) w9 ((w10.setCell ⟨w2c.heap.size,0,none⟩ (.slice (some ⟨g9,0,none⟩) sN sN)).setCell ⟨w2c.heap.size+1,0,none⟩ (.int .i64 m)).drew):=hid (HE10.out.trans ((Ext.set (X:=fun k=>k<g9) w10 (show w2c.heap.size<g9 by have:=HLT9.out;omega) 0 _).trans ((Ext.set (X:=fun k=>k<g9) _ (show w2c.heap.size+1<g9 by have:=HLT9.out;omega) 0 _).trans (Ext.below (Below.refl _ _).drew))))
   have HK11:Hid (KeepsOthers w10 ((w10.setCell ⟨w2c.heap.size,0,none⟩ (.slice (some ⟨g9,0,none⟩) sN sN)).setCell ⟨w2c.heap.size+1,0,none⟩ (.int .i64 m)).drew):=hid (((KeepsOthers.setCell w10 _ _).trans (KeepsOthers.setCell _ _ _)).trans (KeepsOthers.drew _))
   have r7:=R112.out.cell 0 _ rfl
   have t0:=R11b.out.cell 0 _ rfl
   have t1:=R11b.out.cell 1 _ rfl
   have t2:=R11b.out.cell 2 _ rfl
   clear f14 f9 z9 f11 z11 e1 e2 e3 e4 hgdn n1 n2 n3 n4 n5 n6 ne hr1
   generalize hw11:((w10.setCell ⟨w2c.heap.size,0,none⟩ (.slice (some ⟨g9,0,none⟩) sN sN)).setCell ⟨w2c.heap.size+1,0,none⟩ (.int .i64 m)).drew=w11 at *
   clear hw11
   have CC:=hid (closeM_ok (⟨C,⟨a5,a6,a7,a8,c5,c6,c7,c8⟩,⟨LL,RR,rd⟩,⟨aA,aR,cA,cR⟩,w1,gm,gl,n,fun k=>k=w2c.heap.size∨k=w2c.heap.size+1⟩:MK) w11 gdx basex (winX C ⟨LL,RR,rd.toNat⟩ (slot,fr,te) X).1 _ (winX C ⟨LL,RR,rd.toNat⟩ (slot,fr,te) X).2 slot fr te _ (bb+100042) HM11.out HTK.out.1 HSO.out.cfg HN.out (winX_all HSO.out HMI.out hlb0.out (slot,fr,te) HTK.out) (by have:=HLB.out;omega))
   dsimp only at CC
   gi_wp2_with fail
   refine ⟨trivial,(CallsIn.inRound l (callsIn_wide.2 CC.out)).mono ?_⟩
   rintro e w12 ⟨rfl,g12,⟨As12,hmo12⟩,hx12,hg12⟩
   have HM12:=hid hmo12
   have R122:=hid (HM11.out.box hx12 R112.out (by decide) (by decide) (by decide))
   have R123:=hid (HM11.out.box hx12 R113.out (by decide) (by decide) (by decide))
   have R124:=hid (HM11.out.box hx12 R114.out (by decide) (by decide) (by decide))
   have R126:=hid (HM11.out.box3 hx12 R116.out HNGL.out)
   have HCA12:Hid (CacheIn w12 (some ⟨g9,0,none⟩) (emptyC sN vN)):=hid (HCO.out w12 (HE11.out.trans (hx12.wider fun k hk=>by
    have:=HLT9.out
    rcases hk with e|e|e
    ·rw [e];exact this.1
    ·rw [e];exact this.2.1
    ·rw [e];exact this.2.2.1)))
   have HK12:=hid ((((HKE.out.trans (keepsOthers_below HQ8.out)).trans (keepsOthers_below HB10.out)).trans HK11.out).trans (keeps_ext hx12 HM11.out.cellsX))
   clear r7 t0 t1 t2 CC hmo12 hx12 hm
   gi_wp2
   refine ⟨HK12.out.from _,TM.of HI1.out HM12.out (HI3.out.cell 0 _ rfl) (R123.out.cell 0 _ rfl) HK12.out.size,⟨g12,g12+1,As12,?_⟩⟩
   rw [List.map_append,List.map_cons,List.map_nil,HSX.out]
   dsimp only
   have hmm:=HMm.out
   rw [← hmm]
   have h62:=HI7.out
   have htb:=HTB.out
   exact ⟨HM12.out,R122.out,R123.out,⟨_,_,R124.out,HCA12.out⟩,R126.out,by omega,by omega⟩
 case done=>
  rintro Dd ys W hD hS ⟨gdx,basex,Asx,hI1,hI2,hI3,⟨aK,cK,hI4,hI5⟩,hI6,hI7⟩ hdf
  rw [hS] at hI1 hI6
  have HLG:Hid ((turnsY C ⟨LL,RR,rd.toNat⟩ (turnsL C R)).2=longF C ⟨LL,RR,rd.toNat⟩):=hid (by unfold longF;rw [show (⟨LL,RR,rd.toNat⟩:Scr).rounds=R from HRt.out])
  rw [HLG.out] at hI6
  rw [turnsY_fst] at hI1
  have HI1:=hid hI1
  have HDF:=hid hdf
  have HDD:=hid hD
  have CD:Hid (∀ wx,Below W.heap.size W wx→Calls Tryz.prog 26 #[.pointer (some ⟨gm,0,none⟩)] wx fun e w'=>e=.returned (.slice (some ⟨gdx,0,none⟩) n n)∧Below wx.heap.size wx w'):=hid fun wx hb=>domsM_ok (⟨C,⟨a5,a6,a7,a8,c5,c6,c7,c8⟩,⟨LL,RR,rd⟩,⟨aA,aR,cA,cR⟩,w1,gm,gl,n,fun k=>k=w2c.heap.size∨k=w2c.heap.size+1⟩:MK) wx gdx basex _ Asx _ (hI1.keep hb)
  have HS9:Hid (∀ w',Below W.heap.size W w'→w'.cell? ⟨w2.heap.size,0,none⟩=some (.pointer (some ⟨gm,0,none⟩))∧w'.cell? ⟨w2c.heap.size+1,0,none⟩=some (.int .i64 (longF C ⟨LL,RR,rd.toNat⟩))):=hid fun w' hb=>⟨(hI2.below hb lr).cell 0 _ rfl,(hI6.below hb lr).cell 0 _ rfl⟩
  generalize hlg:longF C ⟨LL,RR,rd.toNat⟩=lgv at *
  have HLV:=hid hlg
  clear hlg
  obtain ⟨r8,r11⟩:=HS9.out _ (Below.refl _ _)
  have hbz:Below W.heap.size W W.drew:=(Below.refl _ _).drew
  clear hI1 hI2 hI3 hI4 hI5 hI6 hI7 hdf hS
  go_upto_region 13 with fail
  go_region_held3 (fun w'=>w'.cell? ⟨w2.heap.size,0,none⟩=some (.pointer (some ⟨gm,0,none⟩))∧w'.cell? ⟨w2c.heap.size+1,0,none⟩=some (.int .i64 lgv))
   (first|with_reducible exact HS9.out _ hB9|with_reducible exact HS9.out _ hbz|go_keep)
   (first|(go_at_call 26;with_reducible refine Calls.mono (CD.out _ hbz) ?_;rintro e w9 ⟨rfl,hb9⟩;have hB9:=btrans hbz hb9))
  all_goals
   have HM9:=hid (HI1.out.keep hB9)
   have hK9:w9.heap[Dd]? = some (.deferred (some [])):=(hB9.block Dd (Array.getElem?_eq_some_iff.1 HDF.out).1).trans HDF.out
   have HK9:=hid hK9
   clear r8 r11 CD hb9 hK9
   go_wp2
   refine ⟨by simp,.inl ⟨_,_,rfl,run_takeDeferred HK9.out,?_⟩⟩
   have hnc:NoCells w9 (some Dd):=fun r e=>by cases e;exact ⟨_,HK9.out,rfl⟩
   have hmo:=HM9.out.turn (grownBy_putObj' w9 Dd (.deferred none)) hnc (fun r e=>by cases e;show w1.heap.size≤Dd;have:=HDD.out;omega)
   refine ⟨.tuple #[.slice (some ⟨gdx,0,none⟩) n n,.int .i64 lgv,.int .i64 0],?_,⟨gdx,n,by rw [show longF C (ps ⟨LL,RR,rd⟩)=lgv from HLV.out],⟨HN.out,Asx,fun i hi=>⟨?_,?_⟩⟩,?_⟩⟩
   ·simp [results,Tryz.results8,go_sem]
   ·have:=(hmo.at_ i hi).1
    rw [← HRt.out] at this
    exact this
   ·have:=(hmo.at_ i hi).2.dom
    rw [← HRt.out] at this
    exact this
   ·exact btrans HB1.out hmo.low
end Go.Proofs.YtejhccmclanlmaaGreatDoor
namespace Go.Proofs.YtejhccmclanlmaaGreatDoor
open Go.RowKit
set_option maxHeartbeats 2000000 in
theorem runApart_bad (C:Conf) (B:Mem) (S:ScrT) (M:SMem) (w:World) (hC:ConfIn w B C) (hS:ScrIn w M S) (hsc:ckScr C S≠0) :
  Calls Tryz.prog 9 #[cv C B,sv S M] w fun e w'=>e=.returned (.tuple #[.slice none 0 0,.int .i64 (ckScr C S)])∧Below w.heap.size w w':=by
 have q1:=below_new w (.cells (cl C B) 27)
 have q2:=below_new (w.alloc (.cells (cl C B) 27)) (.cells (sl S M) 31)
 have hX0:=(rowAt_new2 w w.heap.size (cl C B).toList 27 rfl).below q2 lr
 have hX1:=rowAt_new2 (w.alloc (.cells (cl C B) 27)) (w.heap.size+1) (sl S M).toList 31 (by simp)
 have HB2:=hid (btrans q1 q2)
 have CK:=hid (checkScr_any C B S M _ ((hC.keep q1).keep q2) ((hS.keep q1).keep q2))
 clear q1 q2 hC hS
 obtain ⟨a5,a6,a7,a8,c5,c6,c7,c8⟩:=B
 obtain ⟨aA,aR,cA,cR⟩:=M
 obtain ⟨LL,RR,rd⟩:=S
 dsimp only [cv,cl,sv,sl] at *
 have g0:=hX0.cell 0 _ rfl
 have g1:=hX0.cell 1 _ rfl
 have g2:=hX0.cell 2 _ rfl
 have g3:=hX0.cell 3 _ rfl
 have g4:=hX0.cell 4 _ rfl
 have g5:=hX0.cell 5 _ rfl
 have g6:=hX0.cell 6 _ rfl
 have g7:=hX0.cell 7 _ rfl
 have g8:=hX0.cell 8 _ rfl
 have s0:=hX1.cell 0 _ rfl
 have s1:=hX1.cell 1 _ rfl
 have s2:=hX1.cell 2 _ rfl
 clear hX0 hX1
 go_enter Tryz.func9,Tryz.ntmps9
 go_wp2_with fail
 refine CK.out.mono ?_
 rintro e w1 ⟨rfl,hb1⟩
 have HB1:=hid (btrans HB2.out hb1)
 have hx:(ckScr C ⟨LL,RR,rd⟩ != 0)=true:=by simp [hsc]
 generalize hq:ckScr C ⟨LL,RR,rd⟩=q at *
 have HQ:=hid hq
 clear g0 g1 g2 g3 g4 g5 g6 g7 g8 s0 s1 s2 CK hb1 hsc hq HB2
 go_wp2
 exact bodyPost_ret (v:=.tuple #[.slice none 0 0,.int .i64 q]) (by simp [results,Tryz.results9,go_sem]) rfl ⟨by rw [HQ.out],HB1.out⟩
set_option maxHeartbeats 2000000 in
theorem runExec_bad (C:Conf) (B:Mem) (S:ScrT) (M:SMem) (w:World) (hC:ConfIn w B C) (hS:ScrIn w M S) (hsc:ckScr C S≠0) :
  Calls Tryz.prog 8 #[cv C B,sv S M] w fun e w'=>e=.returned (.tuple #[.slice none 0 0,.int .i64 0,.int .i64 (ckScr C S)])∧Below w.heap.size w w':=by
 have q1:=below_new w (.cells (cl C B) 27)
 have q2:=below_new (w.alloc (.cells (cl C B) 27)) (.cells (sl S M) 31)
 have hX0:=(rowAt_new2 w w.heap.size (cl C B).toList 27 rfl).below q2 lr
 have hX1:=rowAt_new2 (w.alloc (.cells (cl C B) 27)) (w.heap.size+1) (sl S M).toList 31 (by simp)
 have HB2:=hid (btrans q1 q2)
 have CK:=hid (checkScr_any C B S M _ ((hC.keep q1).keep q2) ((hS.keep q1).keep q2))
 clear q1 q2 hC hS
 obtain ⟨a5,a6,a7,a8,c5,c6,c7,c8⟩:=B
 obtain ⟨aA,aR,cA,cR⟩:=M
 obtain ⟨LL,RR,rd⟩:=S
 dsimp only [cv,cl,sv,sl] at *
 have g0:=hX0.cell 0 _ rfl
 have g1:=hX0.cell 1 _ rfl
 have g2:=hX0.cell 2 _ rfl
 have g3:=hX0.cell 3 _ rfl
 have g4:=hX0.cell 4 _ rfl
 have g5:=hX0.cell 5 _ rfl
 have g6:=hX0.cell 6 _ rfl
 have g7:=hX0.cell 7 _ rfl
 have g8:=hX0.cell 8 _ rfl
 have s0:=hX1.cell 0 _ rfl
 have s1:=hX1.cell 1 _ rfl
 have s2:=hX1.cell 2 _ rfl
 clear hX0 hX1
 go_enter Tryz.func8,Tryz.ntmps8
 go_wp2_with fail
 refine CK.out.mono ?_
 rintro e w1 ⟨rfl,hb1⟩
 have HB1:=hid (btrans HB2.out hb1)
 have hx:(ckScr C ⟨LL,RR,rd⟩ != 0)=true:=by simp [hsc]
 generalize hq:ckScr C ⟨LL,RR,rd⟩=q at *
 have HQ:=hid hq
 clear g0 g1 g2 g3 g4 g5 g6 g7 g8 s0 s1 s2 CK hb1 hsc hq HB2
 go_wp2
 exact bodyPost_ret (v:=.tuple #[.slice none 0 0,.int .i64 0,.int .i64 q]) (by simp [results,Tryz.results8,go_sem]) rfl ⟨by rw [HQ.out],HB1.out⟩
abbrev acl (x:Int×Int×Int):List Value:=[.int .i64 x.1,.int .i64 x.2.1,.int .i64 x.2.2]
def fA (L:List (Int×Int×Int)):List Value:=L.flatMap acl
theorem fA_len (L:List (Int×Int×Int)):(fA L).length=L.length * 3:=flatN_len acl 3 (fun _=>rfl) L
theorem fA_one (L:List (Int×Int×Int)):∀ u∈fA L,u.oneCell'=true:=flatN_mem acl _ (fun x u hu=>by
 simp only [acl,List.mem_cons,List.not_mem_nil,or_false] at hu
 rcases hu with rfl|rfl|rfl <;> rfl) L
theorem ChansIn.flat {w:World} {a:Option Addr} {J:List (Int×Int×Int)} (h:ChansIn w a J):CellsIn w a (fA J):=by
 intro hne
 have hp:0<J.length:=List.length_pos_iff.2 (fun e=>hne (by rw [e];rfl))
 obtain ⟨b,o,rfl,_⟩:=h 0 hp
 refine ⟨b,o,rfl,fun j u hu=>?_⟩
 have hj:j<J.length * 3:=by rw [← fA_len];exact (List.getElem?_eq_some_iff.1 hu).1
 have hi:j / 3<J.length:=by omega
 obtain ⟨b',o',e,h0,h1,h2⟩:=h (j / 3) hi
 simp only [Option.some.injEq,Addr.mk.injEq,and_true] at e
 obtain ⟨rfl,rfl⟩:=e
 have hat:=flatN_at acl 3 (fun _=>rfl) J (j / 3) (j % 3) hi (Nat.mod_lt _ (by omega))
 have ej:j / 3 * 3+j % 3=j:=by omega
 rw [ej] at hat
 have hu':(acl J[j / 3])[j % 3]? = some u:=by rw [← hat];exact hu
 have hc:j % 3=0∨j % 3=1∨j % 3=2:=by omega
 rcases hc with hc|hc|hc <;> rw [hc] at hu' <;> simp [acl] at hu' <;> subst hu'
 ·rw [show o+j=o+j / 3 * 3 from by omega];exact h0
 ·rw [show o+j=o+j / 3 * 3+1 from by omega];exact h1
 ·rw [show o+j=o+j / 3 * 3+2 from by omega];exact h2
theorem chansIn_of {w:World} {a:Option Addr} {J:List (Int×Int×Int)} (h:CellsIn w a (fA J)):ChansIn w a J:=by
 intro i hi
 have hne:fA J≠[]:=fun e=>by have:=fA_len J;rw [e] at this;simp at this;omega
 obtain ⟨b,o,rfl,hc⟩:=h hne
 have hat:=fun r hr=>flatN_at acl 3 (fun _=>rfl) J i r hi hr
 refine ⟨b,o,rfl,?_,?_,?_⟩
 ·exact hc (i * 3) _ ((hat 0 (by omega)).trans rfl)
 ·rw [Nat.add_assoc];exact hc _ _ ((hat 1 (by omega)).trans rfl)
 ·rw [Nat.add_assoc];exact hc _ _ ((hat 2 (by omega)).trans rfl)
abbrev rcl (x:Int×Int):List Value:=[.int .i64 x.1,.int .i64 x.2]
def fR (L:List (Int×Int)):List Value:=L.flatMap rcl
theorem fR_len (L:List (Int×Int)):(fR L).length=L.length * 2:=flatN_len rcl 2 (fun _=>rfl) L
theorem fR_app (J K:List (Int×Int)):fR (J++K)=fR J++fR K:=by simp [fR]
theorem fR_one (L:List (Int×Int)):∀ u∈fR L,u.oneCell'=true:=flatN_mem rcl _ (fun x u hu=>by
 simp only [rcl,List.mem_cons,List.not_mem_nil,or_false] at hu
 rcases hu with rfl|rfl <;> rfl) L
theorem slotsIn_of {w:World} {a:Option Addr} {J:List (Int×Int)} (h:CellsIn w a (fR J)):SlotsIn w a J:=by
 intro i hi
 have hne:fR J≠[]:=fun e=>by have:=fR_len J;rw [e] at this;simp at this;omega
 obtain ⟨b,o,rfl,hc⟩:=h hne
 have hat:=fun r hr=>flatN_at rcl 2 (fun _=>rfl) J i r hi hr
 refine ⟨b,o,rfl,?_,?_⟩
 ·exact hc (i * 2) _ ((hat 0 (by omega)).trans rfl)
 ·rw [Nat.add_assoc];exact hc _ _ ((hat 1 (by omega)).trans rfl)
theorem Tryz.info63x:(Tryz.prog.info? 63).map (fun i=>(i.zero,i.size,i.bytes))=some (some (.agg #[.int .i64 0,.int .i64 0,.int .i64 0]),3,24):=by kernel_rfl
theorem Tryz.info58x:(Tryz.prog.info? 58).map (fun i=>(i.zero,i.size,i.bytes))=some (some (.agg #[.int .i64 0,.int .i64 0]),2,16):=by kernel_rfl
theorem Tryz.info56x:(Tryz.prog.info? 56).map (fun i=>(i.zero,i.size,i.bytes))=some (some (.slice none 0 0),1,24):=by kernel_rfl
theorem make28_any (n:Nat) (h:n≤1000000000000) (w:World):(Instr.makeSlice 28 (.int .i64 (n:Int)) (.int .i64 (n:Int))).run Tryz.prog w=.ok (.slice (some ⟨w.heap.size,0,none⟩) n n) (w.alloc (.cells (madeCells #[.slice none 0 0] n) 56)):=
 run_make_row' (P:=Tryz.prog) 28 56 (.slice none 0 0) 24 Tryz.underlying28 Tryz.info56x rfl .i64 .i64 n (by omega) (by omega) w
set_option maxHeartbeats 400000 in
theorem cloneA_any (a:Option Addr) (J:List (Int×Int×Int)) (cap:Nat) (w:World) (hw:ChansIn w a J) (hl:J.length≤1000000000000) :
  Calls Tryz.prog 39 #[.slice a J.length cap] w fun e w'=>∃ v,e=.returned v∧w'.ownsRow w.heap.size 63 3 v J.length (fA J)∧Below w.heap.size w w':=by
 have hnilq:=fun (w:World) (a:Option Addr) (n c:Nat)=>Lib.run_eql_slice_nil (P:=Tryz.prog) w 56 63 a n c 0 0 Tryz.underlying56
 cases a with
 | none=>
  have hJ:J=[]:=by
   cases J with
   | nil=>rfl
   | cons x r=>obtain ⟨b,o,e,_⟩:=hw 0 (by simp);cases e
  subst hJ
  go_enter Tryz.func39,Tryz.ntmps39
  go_wp2
  go_ret
  exact ⟨_,rfl,World.ownsRow_nil _ _ _ _,Below.refl _ _⟩
 | some p=>
  have h1:Below w.heap.size w (w.alloc (.cells #[] 63)):=below_new _ _
  have hown:Hid ((w.alloc (.cells #[] 63)).ownsRow w.heap.size 63 3 (.slice (some ⟨w.heap.size,0,none⟩) 0 0) 0 []):=hid (World.ownsRow_made w #[] 0 lr (by simp [maxLen]) rfl)
  have Hw:=hid (hw.keep h1).flat
  go_enter Tryz.func39,Tryz.ntmps39
  go_wp2_with (at_builtin;refine wpList_appG rfl _ _ 56 63 rfl _ 3 24 Tryz.underlying56 Tryz.info63x rfl (by omega) w.heap.size (.slice (some ⟨w.heap.size,0,none⟩) 0 0) 0 [] rfl hown.out J.length (fA J) (fA_len J) (fA_one J) _ _ rfl Hw.out (by simp [maxLen];omega) (by omega) (by simp) ?_)
  intro v' w1 hown1 hgrow
  have HE:=hid (show w1.ownsRow w.heap.size 63 3 v' J.length (fA J)∧Below w.heap.size w w1 from ⟨by simpa using hown1,h1.grown hgrow (by simp) (fun k hk=>by simp [Value.ownBlock] at hk;omega)⟩)
  clear hown1 hgrow hown h1 Hw
  go_wp2
  go_ret
  exact ⟨_,rfl,HE.out⟩
def ckOnly (C:Conf) (S:ScrT) (dom:Int):Int:=if ckScr C S≠0 then ckScr C S else if inR dom 0 (C.d - 1) then 0 else 5
set_option maxHeartbeats 2000000 in
theorem checkOnly_any (C:Conf) (B:Mem) (S:ScrT) (M:SMem) (dom:Int) (w:World) (hC:ConfIn w B C) (hS:ScrIn w M S) :
  Calls Tryz.prog 38 #[cv C B,sv S M,.int .i64 dom] w fun e w'=>e=.returned (.int .i64 (ckOnly C S dom))∧Below w.heap.size w w':=by
 have q1:=below_new w (.cells (cl C B) 27)
 have q2:=below_new (w.alloc (.cells (cl C B) 27)) (.cells (sl S M) 31)
 have hX0:=(rowAt_new2 w w.heap.size (cl C B).toList 27 rfl).below q2 lr
 have hX1:=rowAt_new2 (w.alloc (.cells (cl C B) 27)) (w.heap.size+1) (sl S M).toList 31 (by simp)
 have HB2:=hid (btrans q1 q2)
 have CK:=hid (checkScr_any C B S M _ ((hC.keep q1).keep q2) ((hS.keep q1).keep q2))
 clear q1 q2 hC hS
 obtain ⟨a5,a6,a7,a8,c5,c6,c7,c8⟩:=B
 obtain ⟨aA,aR,cA,cR⟩:=M
 obtain ⟨LL,RR,rd⟩:=S
 dsimp only [cv,cl,sv,sl] at *
 have HX0:=hid hX0
 have g0:=hX0.cell 0 _ rfl
 have g1:=hX0.cell 1 _ rfl
 have g2:=hX0.cell 2 _ rfl
 have g3:=hX0.cell 3 _ rfl
 have g4:=hX0.cell 4 _ rfl
 have g5:=hX0.cell 5 _ rfl
 have g6:=hX0.cell 6 _ rfl
 have g7:=hX0.cell 7 _ rfl
 have g8:=hX0.cell 8 _ rfl
 have s0:=hX1.cell 0 _ rfl
 have s1:=hX1.cell 1 _ rfl
 have s2:=hX1.cell 2 _ rfl
 clear hX0 hX1
 go_enter Tryz.func38,Tryz.ntmps38
 go_wp2_with fail
 refine CK.out.mono ?_
 rintro e w1 ⟨rfl,hb1⟩
 have HB1:=hid (btrans HB2.out hb1)
 have rX:=HX0.out.below hb1 lr
 clear g0 g1 g2 g3 g4 g5 g6 g7 g8 s0 s1 s2 CK hb1 HB2
 have g2:=rX.cell 2 _ rfl
 by_cases h0:ckScr C ⟨LL,RR,rd⟩=0
 ·have hd:=conf_nums (scr_ok h0).1.cfg
  have HD:=hid hd
  have H0:=hid h0
  rw [h0]
  have hw1:wrap64 (C.d - 1)=C.d - 1:=by unfold wrap64;omega
  clear hd h0 rX
  go_wp2_with fail
  refine (within_any _ _ _ _).mono ?_
  rintro e w' ⟨rfl,rfl⟩
  cases h1:inR dom 0 (C.d - 1) with
  | true=>
   go_wp2
   go_ret
   exact ⟨ret_int (by simp [ckOnly,H0.out,h1]),HB1.out⟩
  | false=>
   go_wp2
   go_ret
   exact ⟨ret_int (by simp [ckOnly,H0.out,h1]),HB1.out⟩
 ·have hx:(ckScr C ⟨LL,RR,rd⟩ != 0)=true:=by simp [h0]
  have HE:Hid (ckOnly C ⟨LL,RR,rd⟩ dom=ckScr C ⟨LL,RR,rd⟩):=hid (by simp [ckOnly,h0])
  clear h0 rX
  generalize ckScr C ⟨LL,RR,rd⟩=q at *
  go_wp2
  go_ret
  exact ⟨ret_int HE.out.symm,HB1.out⟩
def rbF (C:Conf) (n dom:Nat) (i:Nat):Bool:=(itM C.ch (idM n) n i).getD dom false
def onlyT (C:Conf) (n dom:Nat) (S:ScrT):ScrT:=⟨(List.range n).map fun i=>if rbF C n dom i then S.acts.getD i [] else [],S.arr.filter fun a=>rbF C n dom (ownA C a),S.rounds⟩
theorem arr_line {C:Conf} {L:List ArrT} (h:ckArr C L 0 0 0=0) (hC:ckC C=0) {i:Nat} (hi:i<L.length):0≤L[i].2∧L[i].2.toNat<C.ow.length∧L[i].2<C.ow.length:=by
 unfold ckArr at h
 split at h
 ·rename_i h1;exact absurd hC h1
 ·split at h
  ·omega
  ·split at h
   ·omega
   ·split at h
    ·omega
    ·split at h
     ·omega
     ·rename_i h5
      simp only [List.any_eq_true,not_exists,not_and,noLine] at h5
      have:=h5 _ (List.getElem_mem hi)
      simp [inR] at this
      omega
theorem ow_dom {C:Conf} (hC:ckC C=0) {i:Nat} (hi:i<C.ow.length):0≤C.ow[i]∧C.ow[i]<C.d:=by
 have h:=(ck_ok hC).2.2.2.2.1
 unfold ckOw at h
 split at h
 ·omega
 ·rename_i h1
  simp only [List.any_eq_true,not_exists,not_and] at h1
  have:=h1 _ (List.getElem_mem hi)
  simp [isD,inR] at this
  omega
theorem Mat.at_ {w:World} {r D:Nat} {M:Nat→List Bool} (h:Mat w r D D M) {i k:Nat} (hi:i<D) (hk:k<D):w.cell? ⟨r,i,none⟩=some (.slice (some ⟨r+1+i,0,none⟩) D D)∧w.cell? ⟨r+1+i,k,none⟩=some (.bool ((M i).getD k false)):=by
 obtain ⟨L,h1,h2,h3⟩:=h.outer
 have hl:=h.len i hi
 refine ⟨h1.cell i _ (h3 i hi),(h.rows i hi).cell k _ ?_⟩
 simp [bl,show k<(M i).length by omega]
structure KpA (n0:Nat) (w:World) (gA n k:Nat) (LL:Nat→List ActT):Prop where
 row:∃ cs,RowAt w gA 56 cs∧cs.length=n∧(∀ i,i<k→∃ a c,cs[i]? = some (.slice a (LL i).length c)∧(∀ wx,Ext (fun k=>k<n0) w wx→ChansIn wx a (LL i))∧(LL i).length≤c∧(LL i).length≤9223372036854775807)∧(∀ i,k≤i→i<n→cs[i]? = some (.slice none 0 0))
theorem KpA.keep {n0:Nat} {w w':World} {gA n k:Nat} {LL:Nat→List ActT} (h:KpA n0 w gA n k LL) (hb:Below w.heap.size w w'):KpA n0 w' gA n k LL:=by
 obtain ⟨cs,h1,h2,h3,h4⟩:=h.row
 refine ⟨cs,h1.below hb lr,h2,fun i hi=>?_,h4⟩
 obtain ⟨a,c,e1,e2,e3⟩:=h3 i hi
 exact ⟨a,c,e1,fun wx hx=>e2 wx ((Ext.below hb).trans hx),e3⟩
theorem KpA.start {w:World} {gA n n0:Nat} {LL:Nat→List ActT} (h:w.heap[gA]? = some (.cells (madeCells #[.slice none 0 0] n) 56 (0,0))):KpA n0 w gA n 0 LL:=
 ⟨(madeCells #[.slice none 0 0] n).toList,by simpa [RowAt] using h,by simp [size_madeCells],fun i hi=>by omega,fun i _ hn=>by simp [madeCells,hn,Nat.mod_one]⟩
theorem KpA.none {n0:Nat} {w:World} {gA n k:Nat} {LL:Nat→List ActT} (h:KpA n0 w gA n k LL) (hk:k<n) (hL:LL k=[]):KpA n0 w gA n (k+1) LL:=by
 obtain ⟨cs,h1,h2,h3,h4⟩:=h.row
 refine ⟨cs,h1,h2,fun i hi=>?_,fun i hi hn=>h4 i (by omega) hn⟩
 by_cases e:i=k
 ·subst e
  refine ⟨Option.none,0,?_,fun wx hx j hj=>?_,?_,?_⟩
  ·rw [hL];exact h4 i lr hk
  ·rw [hL] at hj;simp at hj
  ·rw [hL];simp
  ·rw [hL];simp
 ·exact h3 i (by omega)
theorem KpA.put {n0:Nat} {w w':World} {gA n k:Nat} {LL:Nat→List ActT} (h:KpA n0 w gA n k LL) (hk:k<n) (hb:Below w.heap.size w w') (hg:gA<n0) (hn0:n0≤w.heap.size) {v:Value} (hv:w'.ownsRow w.heap.size 63 3 v (LL k).length (fA (LL k))):KpA n0 (w'.setCell ⟨gA,k,Option.none⟩ v) gA n (k+1) LL:=by
 obtain ⟨cs,h1,h2,h3,h4⟩:=(h.keep hb).row
 have hx:Ext (fun k=>k<n0) w' (w'.setCell ⟨gA,k,Option.none⟩ v):=Ext.set (X:=fun k=>k<n0) w' hg k v
 refine ⟨_,rowAt_set1 h1 k v,by rw [List.length_set];exact h2,fun i hi=>?_,fun i hi hn=>?_⟩
 ·by_cases e:i=k
  ·subst e
   obtain ⟨a,c,ev,hc,hm,_⟩:=owns_cells hv
   refine ⟨a,c,?_,fun wx hw=>?_,hc,by simp only [maxLen] at hm;omega⟩
   ·rw [List.getElem?_set_self (by omega),ev]
   ·rw [ev] at hv
    have hx2:=hx.trans hw
    exact chansIn_of (owns_in (owns_agree hv fun x hx'=>hx2.2 x (owns_lt hv x hx') (by have:=owns_ge hv x hx';omega))).1
  ·obtain ⟨a,c,e1,e2,e3⟩:=h3 i (by omega)
   exact ⟨a,c,by rw [List.getElem?_set_ne (Ne.symm e)];exact e1,fun wx hw=>e2 wx (hx.trans hw),e3⟩
 ·rw [List.getElem?_set_ne (by omega)]
  exact h4 i (by omega) hn
theorem KpA.acts {n0:Nat} {w wx:World} {gA n:Nat} {LL:Nat→List ActT} (h:KpA n0 w gA n n LL) (hx:Ext (fun k=>k<n0) w wx) (hg:wx.heap[gA]? = w.heap[gA]?):ActsIn wx (some ⟨gA,0,Option.none⟩) ((List.range n).map LL):=by
 obtain ⟨cs,h1,h2,h3,h4⟩:=h.row
 intro i hi
 have hi':i<n:=by simpa using hi
 obtain ⟨a,c,e1,e2,e3,e4⟩:=h3 i hi'
 have hr:RowAt wx gA 56 cs:=hg.trans h1
 refine ⟨gA,0,a,c,rfl,?_,?_,?_,?_⟩ <;> simp only [List.getElem_map,List.getElem_range]
 ·rw [Nat.zero_add];exact hr.cell i _ e1
 ·exact e2 wx hx
 ·exact e3
 ·exact e4
set_option maxHeartbeats 4000000 in
theorem only_ok (C:Conf) (B:Mem) (S:ScrT) (M:SMem) (n dom:Nat) (w:World) (hC:ConfIn w B C) (hS:ScrIn w M S) (hsc:ckScr C S=0) (hn:C.d=(n:Int)) (hdom:dom<n) :
  Calls Tryz.prog 18 #[cv C B,sv S M,.int .i64 (dom:Int)] w fun e w'=>∃ M':SMem,e=.returned (.tuple #[sv (onlyT C n dom S) M',.int .i64 0])∧(∀ wx:World,Ext (fun k=>k<w.heap.size) w' wx→ScrIn wx M' (onlyT C n dom S))∧Below w.heap.size w w':=by
 obtain ⟨hSO,hlen,harr,hr0⟩:=scr_ok hsc
 have hn4:n≤4:=by have:=(conf_nums hSO.cfg).2.2.2;omega
 have hmk:=make28_any n (by omega)
 have q1:=below_new w (.cells (cl C B) 27)
 have q2:=below_new (w.alloc (.cells (cl C B) 27)) (.cells (sl S M) 31)
 have q3:=below_new ((w.alloc (.cells (cl C B) 27)).alloc (.cells (sl S M) 31)) (.cells #[.slice none 0 0,.slice none 0 0,.int .i64 0] 31)
 have HCF:=hid (((hC.keep q1).keep q2).keep q3)
 have HSF:=hid (((hS.keep q1).keep q2).keep q3)
 have hX0:=((rowAt_new2 w w.heap.size (cl C B).toList 27 rfl).below q2 lr).below q3 lr
 have hX1:=(rowAt_new2 (w.alloc (.cells (cl C B) 27)) (w.heap.size+1) (sl S M).toList 31 (by simp)).below q3 lr
 have HX6:=hid (rowAt_new2 ((w.alloc (.cells (cl C B) 27)).alloc (.cells (sl S M) 31)) (w.heap.size+2) [.slice none 0 0,.slice none 0 0,.int .i64 0] 31 (by simp))
 have HB3:=hid (btrans q1 (btrans q2 q3))
 have HSZ3:Hid ((((w.alloc (.cells (cl C B) 27)).alloc (.cells (sl S M) 31)).alloc (.cells #[.slice none 0 0,.slice none 0 0,.int .i64 0] 31)).heap.size=w.heap.size+3):=hid (by simp)
 have CK:=hid (checkOnly_any C B S M (dom:Int) _ HCF.out HSF.out)
 have hck:ckOnly C S (dom:Int)=0:=by unfold ckOnly;rw [if_neg (by rw [hsc];decide),if_pos (by simp [inR];omega)]
 rw [hck] at CK
 have HSO:=hid hSO
 have HN:=hid hn
 have HARR:=hid harr
 have HLEN:Hid (S.acts.length=n):=hid (by omega)
 clear q1 q2 q3 hC hS hsc hSO hlen harr hr0 hck hn
 obtain ⟨a5,a6,a7,a8,c5,c6,c7,c8⟩:=B
 obtain ⟨aA,aR,cA,cR⟩:=M
 obtain ⟨LL,RR,rd⟩:=S
 dsimp only [cv,cl,sv,sl] at *
 have HX0:=hid hX0
 have HX1:=hid hX1
 have g0:=hX0.cell 0 _ rfl
 have g1:=hX0.cell 1 _ rfl
 have g2:=hX0.cell 2 _ rfl
 have g3:=hX0.cell 3 _ rfl
 have g4:=hX0.cell 4 _ rfl
 have g5:=hX0.cell 5 _ rfl
 have g6:=hX0.cell 6 _ rfl
 have g7:=hX0.cell 7 _ rfl
 have g8:=hX0.cell 8 _ rfl
 have s0:=hX1.cell 0 _ rfl
 have s1:=hX1.cell 1 _ rfl
 have s2:=hX1.cell 2 _ rfl
 clear hX0 hX1
 go_enter Tryz.func18,Tryz.ntmps18
 go_wp2_with fail
 refine CK.out.mono ?_
 rintro e w1 ⟨rfl,hb1⟩
 generalize World.alloc (World.alloc (World.alloc w _) _) _=W at *
 clear g0 g1 g2 g3 g4 g5 g6 g7 g8 s0 s1 s2 CK
 have HB1:=hid (btrans HB3.out hb1)
 have HC1:=hid (HCF.out.keep hb1)
 have HS1:=hid (HSF.out.keep hb1)
 have rX0:=HX0.out.below hb1 lr
 have R61:=hid (HX6.out.below hb1 lr)
 have R01:=hid rX0
 have R11:=hid (HX1.out.below hb1 lr)
 have hs1:Hid (w.heap.size+3≤w1.heap.size):=hid (by have:=hb1.size;have:=HSZ3.out;omega)
 have g0:=rX0.cell 0 _ rfl
 have g1:=rX0.cell 1 _ rfl
 have g2:=rX0.cell 2 _ rfl
 have g3:=rX0.cell 3 _ rfl
 have g4:=rX0.cell 4 _ rfl
 have g5:=rX0.cell 5 _ rfl
 have g6:=rX0.cell 6 _ rfl
 have g7:=rX0.cell 7 _ rfl
 have g8:=rX0.cell 8 _ rfl
 have CR:=hid (reach_ok C ⟨a5,a6,a7,a8,c5,c6,c7,c8⟩ w1 HC1.out HSO.out.cfg n HN.out)
 dsimp only [cv,cl] at CR
 clear rX0 hb1 HX0 HX1 HX6 HCF HSF HB3 HSZ3
 go_wp2_with fail
 refine CR.out.mono ?_
 rintro e w2 ⟨r,rfl,hmat,hr,hb2⟩
 clear g0 g1 g2 g3 g4 g5 g6 g7 g8 CR
 have HB2:=hid (btrans HB1.out hb2)
 have R02:=hid (R01.out.below hb2 lr)
 have R12:=hid (R11.out.below hb2 lr)
 have R62:=hid (R61.out.below hb2 lr)
 have HC2:=hid (HC1.out.keep hb2)
 have HS2:=hid (HS1.out.keep hb2)
 have HMAT:=hid hmat
 have hs2:Hid (w.heap.size+3≤w2.heap.size∧w.heap.size+3≤r):=hid (by have:=hb2.size;have:=hs1.out;omega)
 have g2:=R02.out.cell 2 _ rfl
 rw [HN.out] at g2
 have s2:=R12.out.cell 2 _ rfl
 have g2a:=fun o=>cell_old o g2
 have g2b:=fun o o'=>cell_old o' (cell_old o g2)
 have s2a:=fun o=>cell_old o s2
 have s2b:=fun o o'=>cell_old o' (cell_old o s2)
 clear hmat hr hb2 HB1 R01 R11 R61 HC1 HS1
 go_upto_region 5 with fail
 go_cut [11] (fun t wx=>∃ Bo gA:Nat,t=.pointer (some ⟨Bo,0,none⟩)∧RowAt wx Bo 31 [.slice (some ⟨gA,0,none⟩) n n,.slice none 0 0,.int .i64 rd]∧KpA wx.heap.size wx gA n 0 (fun i=>if rbF C n dom i then LL.getD i [] else [])∧Below w2.heap.size w2 wx∧w2.heap.size≤Bo∧w2.heap.size≤gA)
 case first=>
  go_region
  all_goals
   go_wp2
   go_meet
   first
    | exact ⟨w2.heap.size+1,w2.heap.size,rfl,(rowAt_new2 (w2.alloc (.cells (madeCells #[.slice none 0 0] n) 56)) (w2.heap.size+1) [.slice (some ⟨w2.heap.size,0,none⟩) n n,.slice none 0 0,.int .i64 rd] 31 (by simp)).drew,KpA.start ((Below.heap_alloc _ _ _ (by simp)).trans (heap_alloc_new w2 (.cells (madeCells #[.slice none 0 0] n) 56))),(btrans (below_new _ _) (below_new _ _)).drew,by omega,Nat.le_refl _⟩
    | exact ⟨w2.heap.size,w2.heap.size+1,rfl,((rowAt_new2 w2 w2.heap.size [.slice (some ⟨w2.heap.size+1,0,none⟩) n n,.slice none 0 0,.int .i64 rd] 31 rfl).below (below_new _ _) lr).drew,KpA.start (by have:=heap_alloc_new (w2.alloc (.cells #[.slice (some ⟨w2.heap.size+1,0,none⟩) n n,.slice none 0 0,.int .i64 rd] 31)) (.cells (madeCells #[.slice none 0 0] n) 56);rw [show (w2.alloc (.cells #[.slice (some ⟨w2.heap.size+1,0,none⟩) n n,.slice none 0 0,.int .i64 rd] 31)).heap.size=w2.heap.size+1 by simp] at this;exact this),(btrans (below_new _ _) (below_new _ _)).drew,Nat.le_refl _,by omega⟩
 case rest=>
  obtain ⟨Bo,gA,rfl,hbo,hkp,hb3,hBo,hgA⟩:=hcut
  have HBO:=hid hbo
  have HKP:=hid hkp
  have HB3:=hid hb3
  have HBg:=hid (And.intro hBo hgA)
  obtain ⟨csA,hcA,-⟩:=hkp.row
  have HNE:Hid (gA≠Bo∧gA<wc.heap.size∧Bo<wc.heap.size):=hid ⟨row_ne hcA hbo (by decide),hcA.lt,hbo.lt⟩
  have s0:=(R12.out.below hb3 lr).cell 0 _ rfl
  clear hbo hkp hb3 hBo hgA hcA hmk g2 g2a g2b s2 s2a s2b
  go_wp2
  clear s0
  go_loopw [38] (fun i wr=>∃ k:Nat,k≤n∧i=.int .i64 k∧KpA wc.heap.size wr gA n k (fun i=>if rbF C n dom i then LL.getD i [] else [])∧RowAt wr Bo 31 [.slice (some ⟨gA,0,none⟩) n n,.slice none 0 0,.int .i64 rd]∧Below w2.heap.size w2 wr∧wc.heap.size≤wr.heap.size) (fun i _=>n - (intOf i).toNat)
  case atStart=>exact ⟨0,Nat.zero_le _,rfl,HKP.out,HBO.out,HB3.out,Nat.le_refl _⟩
  case round=>
   obtain ⟨k,hk,rfl,hkp,hbo,hbw,hsz⟩:=hrel
   by_cases hlt:k<n
   ·have hk1:(k:Int)<(LL.length:Int):=by have:=HLEN.out;omega
    have hk2:(k:Int)<(n:Int):=by omega
    have hk0:(0:Int)≤(k:Int):=by omega
    have hdm:(dom:Int)<(n:Int):=by omega
    have hd0:(0:Int)≤(dom:Int):=by omega
    obtain ⟨m1,m2⟩:=(HMAT.out.below hbw).at_ hlt hdom
    have hkl:k<LL.length:=by have:=HLEN.out;omega
    obtain ⟨bA,oA,a',c',eA,ac,hch,hc',hl'⟩:=(HS2.out.keep hbw).acts k hkl
    dsimp only at eA
    subst eA
    have HCH:=hid hch
    have HKP2:=hid hkp
    have HBO2:=hid hbo
    have HBW2:=hid hbw
    have HSZ2:=hid hsz
    have HL60:Hid (LL[k].length≤60):=hid (by have:=(HSO.out.acts k).1;rw [show (⟨LL,RR,rd.toNat⟩:Scr).acts.getD k []=LL[k] by simp [hkl]] at this;exact this)
    have HGK:Hid (LL.getD k []=LL[k]):=hid (by simp [hkl])
    change wr.cell? ⟨r+1+k,dom,none⟩=some (.bool (rbF C n dom k)) at m2
    cases hrb:rbF C n dom k with
    | true=>
     have HEQ:Hid ((fun i=>if rbF C n dom i then LL.getD i [] else []) k=LL[k]):=hid (by simp only [hrb,if_true];exact HGK.out)
     rw [hrb] at m2
     have o0:=hbo.cell 0 _ rfl
     obtain ⟨csr,hr1,hr2,-,hr4⟩:=hkp.row
     have HR1:=hid hr1
     have HR4:=hid (hr4 k lr hlt)
     have hbz:Below wr.heap.size wr wr.drew:=(Below.refl _ _).drew
     have CA:=hid (cloneA_any a' LL[k] c' wr.drew (HCH.out.keep hbz) (by have:=HL60.out;omega))
     have HSS:Hid (∀ w',Below wr.heap.size wr w'→w'.cell? ⟨Bo,0,none⟩=some (.slice (some ⟨gA,0,none⟩) n n)):=hid fun w' hb=>(HBO2.out.below hb lr).cell 0 _ rfl
     have e1:¬ gA=Bo:=HNE.out.1
     generalize LL[k]=Lk at *
     clear hkp hbo hbw hsz hr1 hr2 hr4 hch hrb
     go_upto_region 10 with fail
     go_region_held3 (fun w'=>w'.cell? ⟨Bo,0,none⟩=some (.slice (some ⟨gA,0,none⟩) n n))
      (first|with_reducible exact HSS.out _ hB2|with_reducible exact HSS.out _ hbz|go_keep)
      (first|(go_at_call 39;with_reducible refine Calls.mono CA.out ?_;rintro e w5 ⟨v,rfl,ho5,hb5⟩;obtain ⟨va,vc,rfl,_⟩:=owns_cells ho5;have hB2:=btrans hbz hb5;have HO5:=hid ho5;have RR5:=hid (HR1.out.below hB2 lr);have y0:=RR5.out.cell k _ HR4.out;have z0:=RR5.out.frozen k))
     all_goals
      have HE:=hid (HKP2.out.put hlt hB2 HNE.out.2.1 HSZ2.out (v:=.slice va Lk.length vc) (by rw [HEQ.out];exact HO5.out))
      have HE2:=hid (show RowAt (w5.setCell ⟨gA,k,none⟩ (.slice va Lk.length vc)) Bo 31 [.slice (some ⟨gA,0,none⟩) n n,.slice none 0 0,.int .i64 rd] from (heap_set_ne w5 gA k _ Bo (Ne.symm HNE.out.1)).trans (HBO2.out.below hB2 lr))
      have HE3:=hid ((HBW2.out.trans (hB2.mono HBW2.out.size)).setCell (p:=⟨gA,k,none⟩) (show w2.heap.size≤gA from HBg.out.2) (.slice va Lk.length vc))
      have HE4:Hid (wc.heap.size≤(w5.setCell ⟨gA,k,none⟩ (.slice va Lk.length vc)).heap.size):=hid (by have:=hB2.size;have:=HSZ2.out;simp [World.setCell];omega)
      clear y0 z0 hb5 ho5 o0 m1 m2 ac
      go_wp2
      go_roundw
      case rel=>exact ⟨k+1,by omega,by go_num,HE.out,HE2.out,HE3.out,HE4.out⟩
      case measure=>simp [intOf];omega
    | false=>
     have HEQ:Hid ((fun i=>if rbF C n dom i then LL.getD i [] else []) k=[]):=hid (by simp only [hrb];rfl)
     rw [hrb] at m2
     have HE:=hid (hkp.none hlt HEQ.out)
     clear hkp hbo hbw hsz hrb hch
     go_wp2
     go_roundw
     case rel=>exact ⟨k+1,by omega,by go_num,HE.out,HBO2.out,HBW2.out,HSZ2.out⟩
     case measure=>simp [intOf];omega
   ·have hkn:k=n:=by omega
    have hkk:¬ (k:Int)<(LL.length:Int):=by have:=HLEN.out;omega
    rw [hkn] at hkp
    have HACT:Hid (∀ wx,Ext (fun x=>x=Bo∨x<w.heap.size+3) wr wx→ActsIn wx (some ⟨gA,0,none⟩) ((List.range n).map (fun i=>if rbF C n dom i then LL.getD i [] else []))):=hid fun wx hx=>hkp.acts (hx.wider fun x e=>by have:=HNE.out;have:=hs2.out;have:=HB3.out.size;omega) (hx.2 gA (by have:=HNE.out;omega) (by have:=HNE.out;have:=hs2.out;have:=HBg.out;omega))
    have HBO2:=hid hbo
    have HBW2:=hid hbw
    have s1:=(R12.out.below hbw lr).cell 1 _ rfl
    have hBoW:Bo<wr.heap.size:=by have:=HNE.out;omega
    clear hkp hbo hbw hsz hlt hkn HKP HBO HB3
    obtain ⟨W3,rfl⟩:∃ x,x=wr:=⟨_,rfl⟩
    go_wp2
    clear s1
    go_loopw [60] (fun i wr=>∃ j:Nat,j≤RR.length∧i=.int .i64 j∧∃ va vc,RowAt wr Bo 31 [.slice (some ⟨gA,0,none⟩) n n,.slice va ((RR.take j).filter (fun a=>rbF C n dom (ownA C a))).length vc,.int .i64 rd]∧wr.ownsRow W3.heap.size 58 2 (.slice va ((RR.take j).filter (fun a=>rbF C n dom (ownA C a))).length vc) ((RR.take j).filter (fun a=>rbF C n dom (ownA C a))).length (fR ((RR.take j).filter (fun a=>rbF C n dom (ownA C a))))∧(∀ x,x<W3.heap.size→x≠Bo→wr.heap[x]? = W3.heap[x]?)∧Below w2.heap.size w2 wr∧W3.heap.size≤wr.heap.size) (fun i _=>RR.length - (intOf i).toNat)
    case atStart=>exact ⟨0,Nat.zero_le _,rfl,Option.none,0,HBO2.out,World.ownsRow_nil _ _ _ _,fun _ _ _=>rfl,HBW2.out,Nat.le_refl _⟩
    case round=>
     obtain ⟨j,hj,rfl,va,vc,hbo,hown,hag,hbw,hsz⟩:=hrel
     by_cases hjt:j<RR.length
     ·have hj1:(j:Int)<(RR.length:Int):=by omega
      have hj0:(0:Int)≤(j:Int):=by omega
      have hdm:(dom:Int)<(n:Int):=by omega
      have hd0:(0:Int)≤(dom:Int):=by omega
      have hli:=arr_line HARR.out HSO.out.cfg hjt
      obtain ⟨ln,HLN⟩:∃ ln:Nat,Hid (RR[j].2=(ln:Int)):=⟨RR[j].2.toNat,hid (by have:=hli.1;omega)⟩
      have hln:ln<C.ow.length:=by have:=HLN.out;have:=hli.2.1;omega
      have how:=ow_dom HSO.out.cfg hln
      obtain ⟨on,HON⟩:∃ on:Nat,Hid (C.ow[ln]=(on:Int)):=⟨C.ow[ln].toNat,hid (by omega)⟩
      have hon:on<n:=by have:=HON.out;have:=HN.out;omega
      have HOA:Hid (ownA C RR[j]=on):=hid (by
       unfold ownA
       rw [HLN.out,Int.toNat_natCast,show C.ow.getD ln 0=C.ow[ln] by simp [hln],HON.out,Int.toNat_natCast])
      have HTK:Hid (((RR.take (j+1)).filter (fun a=>rbF C n dom (ownA C a)))=((RR.take j).filter (fun a=>rbF C n dom (ownA C a)))++(if rbF C n dom on then [RR[j]] else [])):=hid (by
       rw [List.take_succ_eq_append_getElem hjt,List.filter_append]
       congr 1
       simp only [List.filter_cons,List.filter_nil]
       rw [HOA.out])
      obtain ⟨m1,m2⟩:=(HMAT.out.below hbw).at_ hon hdom
      change wr.cell? ⟨r+1+on,dom,none⟩=some (.bool (rbF C n dom on)) at m2
      obtain ⟨bR,oR,eR,p0,p1⟩:=(HS2.out.keep hbw).arr j hjt
      dsimp only at eR
      subst eR
      rw [HLN.out] at p1
      have r6:=(R02.out.below hbw lr).cell 6 _ rfl
      obtain ⟨b6,o6,e6,ow6⟩:=(HC2.out.keep hbw).ow ln hln
      dsimp only at e6
      subst e6
      rw [HON.out] at ow6
      have hln1:(ln:Int)<(C.ow.length:Int):=by omega
      have hln0:(0:Int)≤(ln:Int):=by omega
      have hon1:(on:Int)<(n:Int):=by omega
      have hon0:(0:Int)≤(on:Int):=by omega
      have HBO3:=hid hbo
      have HOW3:=hid hown
      have HAG3:=hid hag
      have HBW3:=hid hbw
      have HSZ3:=hid hsz
      have HARe:Hid (RR[j]=(RR[j].1,(ln:Int))):=hid (by rw [← HLN.out])
      generalize hA1:RR[j].1=at1 at *
      have q4:=below_new wr (.cells #[.int .i64 at1,.int .i64 (ln:Int)] 58)
      have m1a:=cell_old (.cells #[.int .i64 at1,.int .i64 (ln:Int)] 58) m1
      have m2a:=cell_old (.cells #[.int .i64 at1,.int .i64 (ln:Int)] 58) m2
      have r6a:=cell_old (.cells #[.int .i64 at1,.int .i64 (ln:Int)] 58) r6
      have ow6a:=cell_old (.cells #[.int .i64 at1,.int .i64 (ln:Int)] 58) ow6
      have HBO4:=hid (hbo.below q4 lr)
      have HOW4:=hid (owns_below hown q4)
      have HAG4:Hid (∀ x,x<W3.heap.size→x≠Bo→(wr.alloc (.cells #[.int .i64 at1,.int .i64 (ln:Int)] 58)).heap[x]? = W3.heap[x]?):=hid fun x h1 h2=>(q4.block x (by omega)).trans (hag x h1 h2)
      have HBW4:=hid (hbw.trans (q4.mono hbw.size))
      have HSZ4:Hid (W3.heap.size≤(wr.alloc (.cells #[.int .i64 at1,.int .i64 (ln:Int)] 58)).heap.size):=hid (Nat.le_trans hsz q4.size)
      have R4:=hid (rowAt_new2 wr wr.heap.size [.int .i64 at1,.int .i64 (ln:Int)] 58 rfl)
      have h40:Hid (((RR.take j).filter (fun a=>rbF C n dom (ownA C a))).length≤40):=hid (by
       have h1:=arr_small HARR.out
       have h2:=List.length_filter_le (fun a=>rbF C n dom (ownA C a)) (RR.take j)
       have h3:(RR.take j).length≤j:=by simp;omega
       omega)
      have HJ2:Hid (j+1≤RR.length):=hid hjt
      have hl40:RR.length≤40:=arr_small HARR.out
      clear hbo hown hag hbw hsz hli how hA1 q4
      cases hrb:rbF C n dom on with
      | true=>
       rw [hrb] at m2 m2a
       have HE:Hid (((RR.take (j+1)).filter (fun a=>rbF C n dom (ownA C a)))=((RR.take j).filter (fun a=>rbF C n dom (ownA C a)))++[(at1,(ln:Int))]):=hid (by rw [HTK.out,hrb];simp only [if_true];rw [HARe.out])
       generalize ((RR.take j).filter (fun a=>rbF C n dom (ownA C a)))=AR at *
       have o1:=HBO4.out.cell 1 _ rfl
       have b0:=R4.out.cell 0 _ rfl
       have b1:=R4.out.cell 1 _ rfl
       have q5:=below_new (wr.alloc (.cells #[.int .i64 at1,.int .i64 (ln:Int)] 58)) (.cells #[.int .i64 at1,.int .i64 (ln:Int)] 58)
       have R5:=rowAt_new2 (wr.alloc (.cells #[.int .i64 at1,.int .i64 (ln:Int)] 58)) (wr.heap.size+1) [.int .i64 at1,.int .i64 (ln:Int)] 58 (by simp)
       have HCL:Hid (CellsIn ((wr.alloc (.cells #[.int .i64 at1,.int .i64 (ln:Int)] 58)).alloc (.cells #[.int .i64 at1,.int .i64 (ln:Int)] 58)) (some ⟨wr.heap.size+1,0,none⟩) (fR [(at1,(ln:Int))])):=hid fun _=>⟨_,0,rfl,fun j u hu=>by rw [Nat.zero_add];exact R5.cell j u hu⟩
       have HOW5:=hid (owns_below HOW4.out q5)
       have HBO5:=hid (HBO4.out.below q5 lr)
       have HAG5:Hid (∀ x,x<W3.heap.size→x≠Bo→((wr.alloc (.cells #[.int .i64 at1,.int .i64 (ln:Int)] 58)).alloc (.cells #[.int .i64 at1,.int .i64 (ln:Int)] 58)).heap[x]? = W3.heap[x]?):=hid fun x h1 h2=>(q5.block x (by have:=HSZ4.out;omega)).trans (HAG4.out x h1 h2)
       have HBW5:=hid (HBW4.out.trans (q5.mono HBW4.out.size))
       have HSZ5:Hid (W3.heap.size≤((wr.alloc (.cells #[.int .i64 at1,.int .i64 (ln:Int)] 58)).alloc (.cells #[.int .i64 at1,.int .i64 (ln:Int)] 58)).heap.size):=hid (Nat.le_trans HSZ4.out q5.size)
       clear hrb m1 m2 r6 ow6 q5 R5
       go_wp2_with (at_builtin;refine wpList_appG rfl _ _ 29 58 rfl _ 2 16 Tryz.underlying29 Tryz.info58x rfl (by omega) W3.heap.size (.slice va AR.length vc) AR.length (fR AR) rfl HOW5.out 1 (fR [(at1,(ln:Int))]) rfl (fR_one _) _ _ rfl HCL.out (by have:=h40.out;simp [maxLen];omega) (by have:=h40.out;omega) HSZ5.out ?_)
       intro v8 w8 hown8 hgrow
       obtain ⟨a8',c8',rfl,-⟩:=owns_cells hown8
       rw [← fR_app] at hown8
       generalize World.alloc (World.alloc wr _) _=w7 at *
       have hgt:∀ k,(Value.slice va AR.length vc).ownBlock=some k→W3.heap.size≤k:=fun k hk=>owns_ge HOW5.out k hk
       have R8B:=hid (show RowAt w8 Bo 31 [.slice (some ⟨gA,0,none⟩) n n,.slice va AR.length vc,.int .i64 rd] from (hgrow.block Bo (by have:=HSZ5.out;omega) (fun e=>by have:=hgt _ e.symm;omega)).trans HBO5.out)
       have HAG8:Hid (∀ x,x<W3.heap.size→x≠Bo→w8.heap[x]? = W3.heap[x]?):=hid fun x h1 h2=>(hgrow.block x (by have:=HSZ5.out;omega) (fun e=>by have:=hgt _ e.symm;omega)).trans (HAG5.out x h1 h2)
       have HB8:=hid (HBW5.out.grown hgrow HBW5.out.size (fun k hk=>by have:=hgt k hk;have:=HBW2.out.size;omega))
       have HS8:Hid (W3.heap.size≤w8.heap.size):=hid (Nat.le_trans HSZ5.out hgrow.size)
       have HO8:Hid (w8.ownsRow W3.heap.size 58 2 (.slice a8' (AR++[(at1,(ln:Int))]).length c8') (AR++[(at1,(ln:Int))]).length (fR (AR++[(at1,(ln:Int))]))):=hid (by rw [List.length_append];exact hown8)
       have y1:=R8B.out.cell 1 _ rfl
       have z1:=R8B.out.frozen 1
       have HRf:=hid (rowAt_set1 R8B.out 1 (.slice a8' (AR.length+1) c8'))
       have HOf:Hid ((w8.setCell ⟨Bo,1,none⟩ (.slice a8' (AR.length+1) c8')).ownsRow W3.heap.size 58 2 (.slice a8' (AR++[(at1,(ln:Int))]).length c8') (AR++[(at1,(ln:Int))]).length (fR (AR++[(at1,(ln:Int))]))):=hid (owns_agree HO8.out fun x hx=>heap_set_ne _ _ _ _ x (by have:=owns_ge HO8.out x hx;omega))
       have HAf:Hid (∀ x,x<W3.heap.size→x≠Bo→(w8.setCell ⟨Bo,1,none⟩ (.slice a8' (AR.length+1) c8')).heap[x]? = W3.heap[x]?):=hid fun x h1 h2=>(heap_set_ne _ _ _ _ x h2).trans (HAG8.out x h1 h2)
       have HBf:=hid (HB8.out.setCell (p:=⟨Bo,1,none⟩) (show w2.heap.size≤Bo from HBg.out.1) (.slice a8' (AR.length+1) c8'))
       have HSf:Hid (W3.heap.size≤(w8.setCell ⟨Bo,1,none⟩ (.slice a8' (AR.length+1) c8')).heap.size):=hid (by simp [World.setCell];exact HS8.out)
       have HLe:Hid ((AR++[(at1,(ln:Int))]).length=AR.length+1):=hid (by simp)
       clear hgt hgrow hown8 o1 b0 b1 m1a m2a r6a ow6a
       go_wp2
       go_roundw
       case rel=>
        exact ⟨j+1,HJ2.out,by go_num,a8',c8',by rw [HE.out,HLe.out];exact HRf.out,by rw [HE.out];exact HOf.out,HAf.out,HBf.out,HSf.out⟩
       case measure=>(simp [intOf];omega)
      | false=>
       rw [hrb] at m2 m2a
       have HE:Hid (((RR.take (j+1)).filter (fun a=>rbF C n dom (ownA C a)))=((RR.take j).filter (fun a=>rbF C n dom (ownA C a)))):=hid (by rw [HTK.out,hrb];simp)
       clear hrb m1 m2 r6 ow6
       go_wp2
       generalize World.alloc wr _=w4 at *
       go_roundw
       case rel=>exact ⟨j+1,HJ2.out,by go_num,va,vc,by rw [HE.out];exact HBO4.out,by rw [HE.out];exact HOW4.out,HAG4.out,HBW4.out,HSZ4.out⟩
       case measure=>(simp [intOf];omega)
     ·have hje:j=RR.length:=by omega
      have hjj:¬ (j:Int)<(RR.length:Int):=by omega
      rw [hje] at hbo hown
      rw [List.take_length] at hbo hown
      have hW3:w.heap.size+3≤W3.heap.size:=by have:=hs2.out;have:=HBW2.out.size;omega
      have HSI:Hid (∀ wx:World,Ext (fun x=>x<w.heap.size+3) wr wx→ScrIn wx ⟨some ⟨gA,0,none⟩,va,n,vc⟩ (onlyT C n dom ⟨LL,RR,rd⟩)):=hid fun wx hx=>⟨HACT.out wx ⟨Nat.le_trans hsz hx.1,fun x h1 h2=>(hx.2 x (by omega) (fun e=>h2 (Or.inr e))).trans (hag x h1 (fun e=>h2 (Or.inl e)))⟩,slotsIn_of (owns_in (owns_agree hown fun x h=>hx.2 x (owns_lt hown x h) (by have:=owns_ge hown x h;omega))).1,by show ((List.range n).map _).length≤_;simp;omega,(owns_in hown).2.2⟩
      have HBF:=hid (btrans HB2.out hbw)
      have R6w:=hid (R62.out.below hbw lr)
      have o0:=hbo.cell 0 _ rfl
      have o1:=hbo.cell 1 _ rfl
      have o2:=hbo.cell 2 _ rfl
      have x0:wr.cell? ⟨w.heap.size+1+1,0,none⟩=some (.slice none 0 0):=R6w.out.cell 0 _ rfl
      have x1:wr.cell? ⟨w.heap.size+1+1,1,none⟩=some (.slice none 0 0):=R6w.out.cell 1 _ rfl
      have x2:wr.cell? ⟨w.heap.size+1+1,2,none⟩=some (.int .i64 0):=R6w.out.cell 2 _ rfl
      have f0:wr.frozen? ⟨w.heap.size+1+1,0,none⟩=false:=R6w.out.frozen 0
      have f1:wr.frozen? ⟨w.heap.size+1+1,1,none⟩=false:=R6w.out.frozen 1
      have f2:wr.frozen? ⟨w.heap.size+1+1,2,none⟩=false:=R6w.out.frozen 2
      have HLn:Hid ((onlyT C n dom ⟨LL,RR,rd⟩).acts.length=n):=hid (by show ((List.range n).map _).length=n;simp)
      have hne6:¬ w.heap.size+1+1=Bo:=by have:=HBg.out.1;have:=hs2.out;omega
      clear hbo hown hag hbw hsz hje hW3
      have HFw:Hid (∀ wx:World,Ext (fun k=>k<w.heap.size) (((wr.setCell ⟨w.heap.size+1+1,0,none⟩ (.slice (some ⟨gA,0,none⟩) n n)).setCell ⟨w.heap.size+1+1,1,none⟩ (.slice va (RR.filter (fun a=>rbF C n dom (ownA C a))).length vc)).setCell ⟨w.heap.size+1+1,2,none⟩ (.int .i64 rd)) wx→ScrIn wx ⟨some ⟨gA,0,none⟩,va,n,vc⟩ (onlyT C n dom ⟨LL,RR,rd⟩)):=hid fun wx hx=>HSI.out wx (((((Ext.refl _ _).trans (Ext.set (X:=fun x=>x<w.heap.size+3) _ (show w.heap.size+1+1<w.heap.size+3 by omega) 0 (.slice (some ⟨gA,0,none⟩) n n))).trans (Ext.set (X:=fun x=>x<w.heap.size+3) _ (show w.heap.size+1+1<w.heap.size+3 by omega) 1 (.slice va (RR.filter (fun a=>rbF C n dom (ownA C a))).length vc))).trans (Ext.set (X:=fun x=>x<w.heap.size+3) _ (show w.heap.size+1+1<w.heap.size+3 by omega) 2 (.int .i64 rd))).trans (hx.wider fun k hk=>by show k<w.heap.size+3;omega))
      have HFb:=hid (((HBF.out.setCell (p:=⟨w.heap.size+1+1,0,none⟩) (show w.heap.size≤w.heap.size+1+1 by omega) (.slice (some ⟨gA,0,none⟩) n n)).setCell (p:=⟨w.heap.size+1+1,1,none⟩) (show w.heap.size≤w.heap.size+1+1 by omega) (.slice va (RR.filter (fun a=>rbF C n dom (ownA C a))).length vc)).setCell (p:=⟨w.heap.size+1+1,2,none⟩) (show w.heap.size≤w.heap.size+1+1 by omega) (.int .i64 rd))
      have K0:Hid ((wr.setCell ⟨w.heap.size+1+1,0,none⟩ (.slice (some ⟨gA,0,none⟩) n n)).cell? ⟨w.heap.size+1+1,0,none⟩=some (.slice (some ⟨gA,0,none⟩) n n)):=hid ((rowAt_set1 R6w.out 0 (.slice (some ⟨gA,0,none⟩) n n)).cell 0 _ rfl)
      have K1:Hid (((wr.setCell ⟨w.heap.size+1+1,0,none⟩ (.slice (some ⟨gA,0,none⟩) n n)).setCell ⟨w.heap.size+1+1,1,none⟩ (.slice va (RR.filter (fun a=>rbF C n dom (ownA C a))).length vc)).cell? ⟨w.heap.size+1+1,1,none⟩=some (.slice va (RR.filter (fun a=>rbF C n dom (ownA C a))).length vc)):=hid ((rowAt_set1 (rowAt_set1 R6w.out 0 (.slice (some ⟨gA,0,none⟩) n n)) 1 (.slice va (RR.filter (fun a=>rbF C n dom (ownA C a))).length vc)).cell 1 _ rfl)
      have K2:Hid ((((wr.setCell ⟨w.heap.size+1+1,0,none⟩ (.slice (some ⟨gA,0,none⟩) n n)).setCell ⟨w.heap.size+1+1,1,none⟩ (.slice va (RR.filter (fun a=>rbF C n dom (ownA C a))).length vc)).setCell ⟨w.heap.size+1+1,2,none⟩ (.int .i64 rd)).cell? ⟨w.heap.size+1+1,2,none⟩=some (.int .i64 rd)):=hid ((rowAt_set1 (rowAt_set1 (rowAt_set1 R6w.out 0 (.slice (some ⟨gA,0,none⟩) n n)) 1 (.slice va (RR.filter (fun a=>rbF C n dom (ownA C a))).length vc)) 2 (.int .i64 rd)).cell 2 _ rfl)
      go_wp2
      refine bodyPost_ret (v:=.tuple #[.agg #[.slice (some ⟨gA,0,none⟩) n n,.slice va (RR.filter (fun a=>rbF C n dom (ownA C a))).length vc,.int .i64 rd],.int .i64 0]) (by simp [results,Tryz.results18,go_sem,K0.out,K1.out,K2.out]) rfl ⟨⟨some ⟨gA,0,none⟩,va,n,vc⟩,?_,?_,?_⟩
      ·dsimp only
       rw [HLn.out]
       rfl
      ·exact HFw.out
      ·exact HFb.out
end Go.Proofs.YtejhccmclanlmaaGreatDoor
