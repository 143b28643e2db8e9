/- Texts joined: Bc. -/
import Derived.Test.YtejhccmclanlmaaGreatDoorK45
set_option linter.unusedVariables false
set_option maxRecDepth 100000
namespace Go.Proofs.YtejhccmclanlmaaGreatDoor
open Go.RowKit
set_option maxHeartbeats 8000000 in
theorem windowM_ok (K:MK) (w:World) (gd base:Nat) (Ds:Nat→Dom) (As:Nat→DMem) (La:Nat→Int) (slot d:Nat) (fr te:Int) (L:List ActT) (k0:KT) (aK:Option Addr) (cK:Nat) (D1:Dom) (h:MO K w gd base Ds As La) (hd:d<K.n) (hsl:slot<K.C.sl.length) (hsd:K.C.sl[slot].1=(d:Int)) (hac:d<K.S.acts.length) (hL:K.S.acts[d]=L) (hK:CacheIn w aK k0)
  (CO:∀ wx,Below w.heap.size w wx→Calls Tryz.prog 45 #[cv K.C K.B,.slice K.M.aR K.S.arr.length K.M.cR,.int .i64 slot,dv (Ds d) (As d),.int .i64 (La d),.int .i64 fr] wx fun e w'=>∃ A',e=.returned (.tuple #[dv D1 A',.int .i64 0])∧(∀ wy:World,(∀ x,wx.heap.size≤x→wy.heap[x]? = w'.heap[x]?)→DomIn wy A' D1)∧Below wx.heap.size wx w')
  (CR:∀ wx A1 aL cL,Below w.heap.size w wx→DomIn wx A1 D1→ChansIn wx aL L→Calls Tryz.prog 46 #[cv K.C K.B,.int .i64 d,dv D1 A1,.agg #[.slice aK (List.length k0) cK],.slice aL L.length cL,.int .i64 fr,.int .i64 te] wx fun e w'=>∃ A' aK' cK',e=.returned (.tuple #[dv (runD K.C d L te (te - fr).toNat D1 k0 fr).1 A',.agg #[.slice aK' (List.length (runD K.C d L te (te - fr).toNat D1 k0 fr).2) cK'],.int .i64 0])∧Below wx.heap.size wx w'∧EvO wx.heap.size w' A' (runD K.C d L te (te - fr).toNat D1 k0 fr).1 aK' (runD K.C d L te (te - fr).toNat D1 k0 fr).2)
  (hev:(runD K.C d L te (te - fr).toNat D1 k0 fr).1.evs.length≤100000000000) :
  Calls Tryz.prog 23 #[.pointer (some ⟨K.gm,0,none⟩),.agg #[.int .i64 slot,.int .i64 fr,.int .i64 te],.agg #[.slice aK (List.length k0) cK]] w fun e w'=>∃ (A':DMem) (aK':Option Addr),(∃ cK',e=.returned (.agg #[.slice aK' (List.length (runD K.C d L te (te - fr).toNat D1 k0 fr).2) cK']))∧MO K w' gd base (putF Ds d (shutE (runD K.C d L te (te - fr).toNat D1 k0 fr).1 te)) (putF As d A') (putF La d fr)∧CacheIn w' aK' (runD K.C d L te (te - fr).toNat D1 k0 fr).2∧Ext (MX K gd) w w':=by
 have HCO:=hid CO
 have HCR:=hid CR
 clear CO CR
 generalize hR:runD K.C d L te (te - fr).toNat D1 k0 fr=RR at *
 clear hR
 obtain ⟨RD,RK⟩:=RR
 dsimp only at *
 have hrow:=h.row
 obtain ⟨b5,o5,e5,s0,s1⟩:=h.conf.sl slot hsl
 obtain ⟨bA,oA,aL,cL,eA,ac,hLc,hLl,hLm⟩:=h.scr.acts d hac
 rw [hL] at ac hLc hLl hLm
 rw [hsd] at s0
 obtain ⟨⟨d0,d1,d2,d3,d4,d5,d6⟩,-⟩:=h.at_ d hd
 rw [Nat.zero_add] at d0 d1 d2 d3 d4 d5 d6
 have la:w.cell? ⟨K.gl,d,none⟩=some (.int .i64 (La d)):=h.last.cell d _ (by simp [ivs,hd])
 obtain ⟨nX1,nX2,nX3⟩:=h.ne
 have hhi:=h.hi
 have hgd:=h.drow.lt
 have hsl':(slot:Int)<(K.C.sl.length:Int):=by omega
 have hsl0:(0:Int)≤(slot:Int):=by omega
 have hd':(d:Int)<(K.n:Int):=by omega
 have hda:(d:Int)<(K.S.acts.length:Int):=by omega
 have hd0:(0:Int)≤(d:Int):=by omega
 have l5:=h.cf.l5
 have lA:=h.sc.lA
 have cm:=fun i v hv=>h.row.cell i v hv
 have HH:=hid h
 have HLc:=hid hLc
 have HK0:=hid hK
 have e5':=e5
 have eA':=eA
 have HS0:Hid (∀ w',Below w.heap.size w w'→RowAt w' w.heap.size 79 [.int .i64 (slot:Int),.int .i64 fr,.int .i64 te]→RowAt w' (w.heap.size+1) 72 [.slice aK (List.length k0) cK]→w'.cell? ⟨K.gm,0,none⟩=some (.int .i64 K.C.s)∧w'.cell? ⟨K.gm,1,none⟩=some (.int .i64 K.C.w)∧w'.cell? ⟨K.gm,2,none⟩=some (.int .i64 K.C.d)∧w'.cell? ⟨K.gm,3,none⟩=some (.int .i64 K.C.p)∧w'.cell? ⟨K.gm,4,none⟩=some (.int .i64 K.C.q)∧w'.cell? ⟨K.gm,5,none⟩=some (.slice (some ⟨b5,o5,none⟩) K.C.sl.length K.B.c5)∧w'.cell? ⟨K.gm,6,none⟩=some (.slice K.B.a6 K.C.ow.length K.B.c6)∧w'.cell? ⟨K.gm,7,none⟩=some (.slice K.B.a7 K.C.ch.length K.B.c7)∧w'.cell? ⟨K.gm,8,none⟩=some (.slice K.B.a8 K.C.ta.length K.B.c8)∧w'.cell? ⟨K.gm,9,none⟩=some (.slice (some ⟨bA,oA,none⟩) K.S.acts.length K.M.cA)∧w'.cell? ⟨K.gm,10,none⟩=some (.slice K.M.aR K.S.arr.length K.M.cR)∧w'.cell? ⟨K.gm,11,none⟩=some (.int .i64 K.S.rounds)∧w'.cell? ⟨K.gm,12,none⟩=some (.slice (some ⟨gd,0,none⟩) K.n K.n)∧w'.cell? ⟨K.gm,13,none⟩=some (.slice (some ⟨K.gl,0,none⟩) K.n K.n)∧w'.cell? ⟨gd,d * 7,none⟩=some (.slice (As d).aJ (Ds d).jobs.length (As d).cJ)∧w'.cell? ⟨gd,d * 7+1,none⟩=some (.slice (As d).aR (Ds d).rel.length (As d).cR)∧w'.cell? ⟨gd,d * 7+2,none⟩=some (.int .i64 (Ds d).nxt)∧w'.cell? ⟨gd,d * 7+3,none⟩=some (.slice (As d).aI (Ds d).ins.length (As d).cI)∧w'.cell? ⟨gd,d * 7+4,none⟩=some (.slice (As d).aT (Ds d).tak.length (As d).cT)∧w'.cell? ⟨gd,d * 7+5,none⟩=some (.slice (As d).aO (Ds d).out.length (As d).cO)∧w'.cell? ⟨gd,d * 7+6,none⟩=some (.slice (As d).aE (Ds d).evs.length (As d).cE)∧w'.cell? ⟨K.gl,d,none⟩=some (.int .i64 (La d))∧w'.cell? ⟨b5,o5+slot * 2,none⟩=some (.int .i64 (d:Int))∧w'.cell? ⟨bA,oA+d,none⟩=some (.slice aL L.length cL)∧w'.cell? ⟨w.heap.size,0,none⟩=some (.int .i64 (slot:Int))∧w'.cell? ⟨w.heap.size,1,none⟩=some (.int .i64 fr)∧w'.cell? ⟨w.heap.size,2,none⟩=some (.int .i64 te)∧w'.cell? ⟨w.heap.size+1,0,none⟩=some (.slice aK (List.length k0) cK)):=hid fun w' hb r1 r2=>by
  have g:=fun i v hv=>(hrow.below hb lr).cell i v hv
  have b:=fun {p:Addr} {v:Value} (hc:w.cell? p=some v)=>bkeep hb hc lr
  refine ⟨g 0 _ rfl,g 1 _ rfl,g 2 _ rfl,g 3 _ rfl,g 4 _ rfl,?_,g 6 _ rfl,g 7 _ rfl,g 8 _ rfl,?_,g 10 _ rfl,g 11 _ rfl,g 12 _ rfl,g 13 _ rfl,b d0,b d1,b d2,b d3,b d4,b d5,b d6,b la,b s0,b ac,r1.cell 0 _ rfl,r1.cell 1 _ rfl,r1.cell 2 _ rfl,r2.cell 0 _ rfl⟩
  ·rw [← e5'];exact g 5 _ rfl
  ·rw [← eA'];exact g 9 _ rfl
 have hsz3:(((w.alloc (.cells #[.int .i64 (slot:Int),.int .i64 fr,.int .i64 te] 79)).alloc (.cells #[.slice aK (List.length k0) cK] 72)).alloc (.cells #[.slice none 0 0] 72)).heap.size=w.heap.size+3:=by simp
 have hB3:Below w.heap.size w (((w.alloc (.cells #[.int .i64 (slot:Int),.int .i64 fr,.int .i64 te] 79)).alloc (.cells #[.slice aK (List.length k0) cK] 72)).alloc (.cells #[.slice none 0 0] 72)):=btrans (below_new _ _) (btrans (below_new _ _) (below_new _ _))
 have q2:=below_new (w.alloc (.cells #[.int .i64 (slot:Int),.int .i64 fr,.int .i64 te] 79)) (.cells #[.slice aK (List.length k0) cK] 72)
 have q3:=below_new ((w.alloc (.cells #[.int .i64 (slot:Int),.int .i64 fr,.int .i64 te] 79)).alloc (.cells #[.slice aK (List.length k0) cK] 72)) (.cells #[.slice none 0 0] 72)
 have R1:RowAt (((w.alloc (.cells #[.int .i64 (slot:Int),.int .i64 fr,.int .i64 te] 79)).alloc (.cells #[.slice aK (List.length k0) cK] 72)).alloc (.cells #[.slice none 0 0] 72)) w.heap.size 79 [.int .i64 (slot:Int),.int .i64 fr,.int .i64 te]:=((rowAt_new2 w w.heap.size [.int .i64 (slot:Int),.int .i64 fr,.int .i64 te] 79 rfl).below q2 lr).below q3 lr
 have R2:RowAt (((w.alloc (.cells #[.int .i64 (slot:Int),.int .i64 fr,.int .i64 te] 79)).alloc (.cells #[.slice aK (List.length k0) cK] 72)).alloc (.cells #[.slice none 0 0] 72)) (w.heap.size+1) 72 [.slice aK (List.length k0) cK]:=(rowAt_new2 (w.alloc (.cells #[.int .i64 (slot:Int),.int .i64 fr,.int .i64 te] 79)) (w.heap.size+1) [.slice aK (List.length k0) cK] 72 (by simp)).below q3 lr
 have R3:RowAt (((w.alloc (.cells #[.int .i64 (slot:Int),.int .i64 fr,.int .i64 te] 79)).alloc (.cells #[.slice aK (List.length k0) cK] 72)).alloc (.cells #[.slice none 0 0] 72)) (w.heap.size+2) 72 [.slice none 0 0]:=rowAt_new2 ((w.alloc (.cells #[.int .i64 (slot:Int),.int .i64 fr,.int .i64 te] 79)).alloc (.cells #[.slice aK (List.length k0) cK] 72)) (w.heap.size+2) [.slice none 0 0] 72 (by simp)
 clear q2 q3 h hrow hLc hK s0 s1 d0 d1 d2 d3 d4 d5 d6 la ac cm e5' eA'
 have HS:Hid (∀ w',Below (((w.alloc (.cells #[.int .i64 (slot:Int),.int .i64 fr,.int .i64 te] 79)).alloc (.cells #[.slice aK (List.length k0) cK] 72)).alloc (.cells #[.slice none 0 0] 72)).heap.size (((w.alloc (.cells #[.int .i64 (slot:Int),.int .i64 fr,.int .i64 te] 79)).alloc (.cells #[.slice aK (List.length k0) cK] 72)).alloc (.cells #[.slice none 0 0] 72)) w'→w'.cell? ⟨K.gm,0,none⟩=some (.int .i64 K.C.s)∧w'.cell? ⟨K.gm,1,none⟩=some (.int .i64 K.C.w)∧w'.cell? ⟨K.gm,2,none⟩=some (.int .i64 K.C.d)∧w'.cell? ⟨K.gm,3,none⟩=some (.int .i64 K.C.p)∧w'.cell? ⟨K.gm,4,none⟩=some (.int .i64 K.C.q)∧w'.cell? ⟨K.gm,5,none⟩=some (.slice (some ⟨b5,o5,none⟩) K.C.sl.length K.B.c5)∧w'.cell? ⟨K.gm,6,none⟩=some (.slice K.B.a6 K.C.ow.length K.B.c6)∧w'.cell? ⟨K.gm,7,none⟩=some (.slice K.B.a7 K.C.ch.length K.B.c7)∧w'.cell? ⟨K.gm,8,none⟩=some (.slice K.B.a8 K.C.ta.length K.B.c8)∧w'.cell? ⟨K.gm,9,none⟩=some (.slice (some ⟨bA,oA,none⟩) K.S.acts.length K.M.cA)∧w'.cell? ⟨K.gm,10,none⟩=some (.slice K.M.aR K.S.arr.length K.M.cR)∧w'.cell? ⟨K.gm,11,none⟩=some (.int .i64 K.S.rounds)∧w'.cell? ⟨K.gm,12,none⟩=some (.slice (some ⟨gd,0,none⟩) K.n K.n)∧w'.cell? ⟨K.gm,13,none⟩=some (.slice (some ⟨K.gl,0,none⟩) K.n K.n)∧w'.cell? ⟨gd,d * 7,none⟩=some (.slice (As d).aJ (Ds d).jobs.length (As d).cJ)∧w'.cell? ⟨gd,d * 7+1,none⟩=some (.slice (As d).aR (Ds d).rel.length (As d).cR)∧w'.cell? ⟨gd,d * 7+2,none⟩=some (.int .i64 (Ds d).nxt)∧w'.cell? ⟨gd,d * 7+3,none⟩=some (.slice (As d).aI (Ds d).ins.length (As d).cI)∧w'.cell? ⟨gd,d * 7+4,none⟩=some (.slice (As d).aT (Ds d).tak.length (As d).cT)∧w'.cell? ⟨gd,d * 7+5,none⟩=some (.slice (As d).aO (Ds d).out.length (As d).cO)∧w'.cell? ⟨gd,d * 7+6,none⟩=some (.slice (As d).aE (Ds d).evs.length (As d).cE)∧w'.cell? ⟨K.gl,d,none⟩=some (.int .i64 (La d))∧w'.cell? ⟨b5,o5+slot * 2,none⟩=some (.int .i64 (d:Int))∧w'.cell? ⟨bA,oA+d,none⟩=some (.slice aL L.length cL)∧w'.cell? ⟨w.heap.size,0,none⟩=some (.int .i64 (slot:Int))∧w'.cell? ⟨w.heap.size,1,none⟩=some (.int .i64 fr)∧w'.cell? ⟨w.heap.size,2,none⟩=some (.int .i64 te)∧w'.cell? ⟨w.heap.size+1,0,none⟩=some (.slice aK (List.length k0) cK)):=hid fun w' hb=>HS0.out w' (btrans hB3 hb) (R1.below hb lr) (R2.below hb lr)
 have z:=HS.out _ (Below.refl _ _)
 clear HS0
 obtain ⟨m0,m1,m2,m3,m4,m5,m6,m7,m8,m9,m10,m11,m12,m13,d0,d1,d2,d3,d4,d5,d6,la,s0,ac,t0,t1,t2,kc⟩:=z
 have HR1:=hid R1
 have HR2:=hid R2
 have HR3:=hid R3
 have HB3:=hid hB3
 have HSZ:=hid hsz3
 clear R1 R2 R3 hB3 hsz3
 go_enter Tryz.func23,Tryz.ntmps23
 go_upto_region 1 with fail
 generalize World.alloc (World.alloc (World.alloc w _) _) _=W at *
 have hwW:Below w.heap.size w W:=HB3.out
 go_quiet (fail)
 have hbz0:Below W.heap.size W (W.drewN nq):=⟨rfl,rfl,rfl,Nat.le_refl _,fun _ _=>rfl⟩
 generalize hWd:W.drewN nq=Wd at *
 have hWsz:Hid (Wd.heap.size=W.heap.size):=hid (by rw [← hWd];rfl)
 clear hWd
 obtain ⟨m0,m1,m2,m3,m4,m5,m6,m7,m8,m9,m10,m11,m12,m13,d0,d1,d2,d3,d4,d5,d6,la,s0,ac,t0,t1,t2,kc⟩:=HS.out _ hbz0
 have hbz:Below W.heap.size W Wd.drew:=hbz0.drew
 have hbz2:Below W.heap.size W (Wd.alloc (.cells #[.slice none 0 0,.slice none 0 0,.int .i64 0,.slice none 0 0,.slice none 0 0,.slice none 0 0,.slice none 0 0] 46)).drew:=(hbz0.trans ((below_new _ _).mono (Nat.le_of_eq hWsz.out.symm))).drew
 have RZ:Hid (RowAt (Wd.alloc (.cells #[.slice none 0 0,.slice none 0 0,.int .i64 0,.slice none 0 0,.slice none 0 0,.slice none 0 0,.slice none 0 0] 46)).drew Wd.heap.size 46 [.slice none 0 0,.slice none 0 0,.int .i64 0,.slice none 0 0,.slice none 0 0,.slice none 0 0,.slice none 0 0]):=hid (rowAt_new2 Wd Wd.heap.size [.slice none 0 0,.slice none 0 0,.int .i64 0,.slice none 0 0,.slice none 0 0,.slice none 0 0,.slice none 0 0] 46 rfl)
 have CO1:Hid (∀ wx,Below W.heap.size W wx→Calls Tryz.prog 45 #[.agg #[.int .i64 K.C.s,.int .i64 K.C.w,.int .i64 K.C.d,.int .i64 K.C.p,.int .i64 K.C.q,.slice (some ⟨b5,o5,none⟩) K.C.sl.length K.B.c5,.slice K.B.a6 K.C.ow.length K.B.c6,.slice K.B.a7 K.C.ch.length K.B.c7,.slice K.B.a8 K.C.ta.length K.B.c8],.slice K.M.aR K.S.arr.length K.M.cR,.int .i64 (slot:Int),.agg #[.slice (As d).aJ (Ds d).jobs.length (As d).cJ,.slice (As d).aR (Ds d).rel.length (As d).cR,.int .i64 (Ds d).nxt,.slice (As d).aI (Ds d).ins.length (As d).cI,.slice (As d).aT (Ds d).tak.length (As d).cT,.slice (As d).aO (Ds d).out.length (As d).cO,.slice (As d).aE (Ds d).evs.length (As d).cE],.int .i64 (La d),.int .i64 fr] wx fun e w'=>∃ A',e=.returned (.tuple #[.agg #[.slice A'.aJ D1.jobs.length A'.cJ,.slice A'.aR D1.rel.length A'.cR,.int .i64 D1.nxt,.slice A'.aI D1.ins.length A'.cI,.slice A'.aT D1.tak.length A'.cT,.slice A'.aO D1.out.length A'.cO,.slice A'.aE D1.evs.length A'.cE],.int .i64 0])∧(∀ wy:World,(∀ x,wx.heap.size≤x→wy.heap[x]? = w'.heap[x]?)→DomIn wy A' D1)∧Below wx.heap.size wx w'):=hid fun wx hb=>by
  have:=HCO.out wx (btrans hwW hb)
  dsimp only [cv,cl,dv,dl] at this
  rw [e5] at this
  exact this
 clear HCO hbz0
 go_upto_region 2 with fail
 go_cut [8] (fun t wx=>∃ Br A1,t=.pointer (some ⟨Br,0,none⟩)∧Below W.heap.size W wx∧RowAt wx Br 46 [.slice A1.aJ D1.jobs.length A1.cJ,.slice A1.aR D1.rel.length A1.cR,.int .i64 D1.nxt,.slice A1.aI D1.ins.length A1.cI,.slice A1.aT D1.tak.length A1.cT,.slice A1.aO D1.out.length A1.cO,.slice A1.aE D1.evs.length A1.cE]∧DomIn wx A1 D1∧W.heap.size≤Br)
 case first=>
  go_region_held3 (fun w'=>w'.cell? ⟨K.gm,0,none⟩=some (.int .i64 K.C.s)∧w'.cell? ⟨K.gm,1,none⟩=some (.int .i64 K.C.w)∧w'.cell? ⟨K.gm,2,none⟩=some (.int .i64 K.C.d)∧w'.cell? ⟨K.gm,3,none⟩=some (.int .i64 K.C.p)∧w'.cell? ⟨K.gm,4,none⟩=some (.int .i64 K.C.q)∧w'.cell? ⟨K.gm,5,none⟩=some (.slice (some ⟨b5,o5,none⟩) K.C.sl.length K.B.c5)∧w'.cell? ⟨K.gm,6,none⟩=some (.slice K.B.a6 K.C.ow.length K.B.c6)∧w'.cell? ⟨K.gm,7,none⟩=some (.slice K.B.a7 K.C.ch.length K.B.c7)∧w'.cell? ⟨K.gm,8,none⟩=some (.slice K.B.a8 K.C.ta.length K.B.c8)∧w'.cell? ⟨K.gm,9,none⟩=some (.slice (some ⟨bA,oA,none⟩) K.S.acts.length K.M.cA)∧w'.cell? ⟨K.gm,10,none⟩=some (.slice K.M.aR K.S.arr.length K.M.cR)∧w'.cell? ⟨K.gm,11,none⟩=some (.int .i64 K.S.rounds)∧w'.cell? ⟨K.gm,12,none⟩=some (.slice (some ⟨gd,0,none⟩) K.n K.n)∧w'.cell? ⟨K.gm,13,none⟩=some (.slice (some ⟨K.gl,0,none⟩) K.n K.n)∧w'.cell? ⟨gd,d * 7,none⟩=some (.slice (As d).aJ (Ds d).jobs.length (As d).cJ)∧w'.cell? ⟨gd,d * 7+1,none⟩=some (.slice (As d).aR (Ds d).rel.length (As d).cR)∧w'.cell? ⟨gd,d * 7+2,none⟩=some (.int .i64 (Ds d).nxt)∧w'.cell? ⟨gd,d * 7+3,none⟩=some (.slice (As d).aI (Ds d).ins.length (As d).cI)∧w'.cell? ⟨gd,d * 7+4,none⟩=some (.slice (As d).aT (Ds d).tak.length (As d).cT)∧w'.cell? ⟨gd,d * 7+5,none⟩=some (.slice (As d).aO (Ds d).out.length (As d).cO)∧w'.cell? ⟨gd,d * 7+6,none⟩=some (.slice (As d).aE (Ds d).evs.length (As d).cE)∧w'.cell? ⟨K.gl,d,none⟩=some (.int .i64 (La d))∧w'.cell? ⟨b5,o5+slot * 2,none⟩=some (.int .i64 (d:Int))∧w'.cell? ⟨bA,oA+d,none⟩=some (.slice aL L.length cL)∧w'.cell? ⟨w.heap.size,0,none⟩=some (.int .i64 (slot:Int))∧w'.cell? ⟨w.heap.size,1,none⟩=some (.int .i64 fr)∧w'.cell? ⟨w.heap.size,2,none⟩=some (.int .i64 te)∧w'.cell? ⟨w.heap.size+1,0,none⟩=some (.slice aK (List.length k0) cK))
   (first|with_reducible exact HS.out _ hB2|with_reducible exact HS.out _ (hB2a _)|with_reducible exact HS.out _ (hB2c _ _ _ _ _ _ _)|with_reducible exact HS.out _ hbz|with_reducible exact HS.out _ hbz2|go_keep)
   (first
    | (go_at_call 45;with_reducible refine Calls.mono (CO1.out _ hbz) ?_;rintro e w2 ⟨A1,rfl,hd2,hb2⟩;obtain ⟨jJ,jR,jI,jT,jO,jE,kJ,kR,kI,kT,kO,kE⟩:=A1;dsimp only at *;have hB2:=btrans hbz hb2;have HD2:=hid hd2;have hB2a:∀ o,Below W.heap.size W (w2.alloc o):=fun o=>btrans hB2 (below_new _ o);clear hd2)
    | (go_at_call 45;with_reducible refine Calls.mono (CO1.out _ hbz2) ?_;rintro e w2 ⟨A1,rfl,hd2,hb2⟩;obtain ⟨jJ,jR,jI,jT,jO,jE,kJ,kR,kI,kT,kO,kE⟩:=A1;dsimp only at *;have hB2:=btrans hbz2 hb2;have HD2:=hid hd2;have HZ:=hid (RZ.out.below hb2 lr);have u0:=HZ.out.cell 0 _ rfl;have u1:=HZ.out.cell 1 _ rfl;have u2:=HZ.out.cell 2 _ rfl;have u3:=HZ.out.cell 3 _ rfl;have u4:=HZ.out.cell 4 _ rfl;have u5:=HZ.out.cell 5 _ rfl;have u6:=HZ.out.cell 6 _ rfl;have f0:=HZ.out.frozen 0;have f1:=HZ.out.frozen 1;have f2:=HZ.out.frozen 2;have f3:=HZ.out.frozen 3;have f4:=HZ.out.frozen 4;have f5:=HZ.out.frozen 5;have f6:=HZ.out.frozen 6;have hB2c:∀ v0 v1 v2 v3 v4 v5 v6,Below W.heap.size W (((((((w2.setCell ⟨Wd.heap.size,0,none⟩ v0).setCell ⟨Wd.heap.size,1,none⟩ v1).setCell ⟨Wd.heap.size,2,none⟩ v2).setCell ⟨Wd.heap.size,3,none⟩ v3).setCell ⟨Wd.heap.size,4,none⟩ v4).setCell ⟨Wd.heap.size,5,none⟩ v5).setCell ⟨Wd.heap.size,6,none⟩ v6):=fun v0 v1 v2 v3 v4 v5 v6=>chain7_below hB2 (Nat.le_of_eq hWsz.out.symm) v0 v1 v2 v3 v4 v5 v6;clear hd2))
  all_goals
   go_wp2
   go_meet
   case rel=>
    first
     | (have hM:=hB2a;exact ⟨w2.heap.size,⟨jJ,jR,jI,jT,jO,jE,kJ,kR,kI,kT,kO,kE⟩,rfl,hM _,rowAt_new2 w2 _ [.slice jJ D1.jobs.length kJ,.slice jR D1.rel.length kR,.int .i64 D1.nxt,.slice jI D1.ins.length kI,.slice jT D1.tak.length kT,.slice jO D1.out.length kO,.slice jE D1.evs.length kE] 46 rfl,(HD2.out w2 (fun _ _=>rfl)).keep (below_new _ _),hB2.size⟩)
     | (have hM:=hB2c;exact ⟨Wd.heap.size,⟨jJ,jR,jI,jT,jO,jE,kJ,kR,kI,kT,kO,kE⟩,rfl,hM _ _ _ _ _ _ _,put7_row HZ.out 0 _ _ _ _ _ _ _,HD2.out _ (fun x hx=>put7_ne w2 Wd.heap.size 0 _ _ _ _ _ _ _ x (by simp at hx;omega)),Nat.le_of_eq hWsz.out.symm⟩)
 case rest=>
  obtain ⟨Br,A1,rfl,hbcW,hrB,hDI,hBr⟩:=hcut
  have HRB:=hid hrB
  have HDI:=hid hDI
  have hbc:Below W.heap.size W wc.drew:=hbcW.drew
  have HBC:=hid hbcW
  have HSB:Hid (∀ w',Below wc.drew.heap.size wc.drew w'→w'.cell? ⟨Br,0+0,none⟩=some (.slice A1.aJ D1.jobs.length A1.cJ)∧w'.cell? ⟨Br,0+1,none⟩=some (.slice A1.aR D1.rel.length A1.cR)∧w'.cell? ⟨Br,0+2,none⟩=some (.int .i64 D1.nxt)∧w'.cell? ⟨Br,0+3,none⟩=some (.slice A1.aI D1.ins.length A1.cI)∧w'.cell? ⟨Br,0+4,none⟩=some (.slice A1.aT D1.tak.length A1.cT)∧w'.cell? ⟨Br,0+5,none⟩=some (.slice A1.aO D1.out.length A1.cO)∧w'.cell? ⟨Br,0+6,none⟩=some (.slice A1.aE D1.evs.length A1.cE)):=hid fun w' hb=>by
   have g:=fun i v hv=>(HRB.out.below (btrans (Below.refl _ _).drew hb) lr).cell i v hv
   exact ⟨g 0 _ rfl,g 1 _ rfl,g 2 _ rfl,g 3 _ rfl,g 4 _ rfl,g 5 _ rfl,g 6 _ rfl⟩
  have CR1:Hid (∀ wx,Below wc.drew.heap.size wc.drew wx→Calls Tryz.prog 46 #[.agg #[.int .i64 K.C.s,.int .i64 K.C.w,.int .i64 K.C.d,.int .i64 K.C.p,.int .i64 K.C.q,.slice (some ⟨b5,o5,none⟩) K.C.sl.length K.B.c5,.slice K.B.a6 K.C.ow.length K.B.c6,.slice K.B.a7 K.C.ch.length K.B.c7,.slice K.B.a8 K.C.ta.length K.B.c8],.int .i64 (d:Int),.agg #[.slice A1.aJ D1.jobs.length A1.cJ,.slice A1.aR D1.rel.length A1.cR,.int .i64 D1.nxt,.slice A1.aI D1.ins.length A1.cI,.slice A1.aT D1.tak.length A1.cT,.slice A1.aO D1.out.length A1.cO,.slice A1.aE D1.evs.length A1.cE],.agg #[.slice aK (List.length k0) cK],.slice aL L.length cL,.int .i64 fr,.int .i64 te] wx fun e w'=>∃ A' aK' cK',e=.returned (.tuple #[.agg #[.slice A'.aJ RD.jobs.length A'.cJ,.slice A'.aR RD.rel.length A'.cR,.int .i64 RD.nxt,.slice A'.aI RD.ins.length A'.cI,.slice A'.aT RD.tak.length A'.cT,.slice A'.aO RD.out.length A'.cO,.slice A'.aE RD.evs.length A'.cE],.agg #[.slice aK' (List.length RK) cK'],.int .i64 0])∧Below wx.heap.size wx w'∧EvO wx.heap.size w' A' RD aK' RK):=hid fun wx hb=>by
   have:=HCR.out wx A1 aL cL (btrans hwW (btrans hbc hb)) (HDI.out.keep (btrans (Below.refl _ _).drew hb)) (HLc.out.keep (btrans hwW (btrans hbc hb)))
   dsimp only [cv,cl,dv,dl] at this
   rw [e5] at this
   exact this
  clear HCR hrB hDI m0 m1 m2 m3 m4 m5 m6 m7 m8 m9 m10 m11 m12 m13 d0 d1 d2 d3 d4 d5 d6 la s0 ac t0 t1 t2 kc hbcW CO1 hbz hbz2 RZ
  go_upto_region 3 with fail
  go_cut [] from 9 (fun wx=>∃ (Az:DMem) (aq:Option Addr) (cq:Nat) (w5:World) (n1:Nat),Below wc.drew.heap.size wc.drew w5∧wc.drew.heap.size≤n1∧n1≤w5.heap.size∧EvO2 n1 w5 Az RD aq RK∧wx=(put7 w5 Br 0 (.slice Az.aJ RD.jobs.length Az.cJ) (.slice Az.aR RD.rel.length Az.cR) (.int .i64 RD.nxt) (.slice Az.aI RD.ins.length Az.cI) (.slice Az.aT RD.tak.length Az.cT) (.slice Az.aO RD.out.length Az.cO) (.slice Az.aE RD.evs.length Az.cE)).setCell ⟨w.heap.size+1,0,none⟩ (.slice aq (List.length RK) cq))
  case first=>
   refine wp_region_any (by kernel_rfl) ?_
   change wpAny _ _ _ _ _ _ _ (World.drew _)
   refine wpAny_invM (fun lB aB w'=>∃ x,aB=AF99 x∧BSWb K d slot w.heap.size fr te b5 o5 bA oA aK (List.length k0) cK aL L.length cL Br D1 A1 RD RK x∧(RPg (FCWb K d slot w.heap.size fr te b5 o5 bA oA aK (List.length k0) cK aL L.length cL Br D1 A1 RD RK wc.drew.heap.size) dOWb 24 26 wc.drew lB x w'∨((∀ i∈([0,1,2,3,4,5,6,7,8,9,10,11,12,13,14,15,16,17,18,19,20,21,24]:List Nat),lB.getD i false=true)∧lB.size=26∧lB.getD 25 false=false∧∃ (Az:DMem) (aq:Option Addr) (cq:Nat) (w5:World) (n1:Nat),x 51=.tuple #[.agg #[.slice Az.aJ RD.jobs.length Az.cJ,.slice Az.aR RD.rel.length Az.cR,.int .i64 RD.nxt,.slice Az.aI RD.ins.length Az.cI,.slice Az.aT RD.tak.length Az.cT,.slice Az.aO RD.out.length Az.cO,.slice Az.aE RD.evs.length Az.cE],.agg #[.slice aq (List.length RK) cq],.int .i64 0]∧(lB.getD 22 false=true→x 73=.agg #[.slice aq (List.length RK) cq])∧Below wc.drew.heap.size wc.drew w5∧wc.drew.heap.size≤n1∧n1≤w5.heap.size∧EvO2 n1 w5 Az RD aq RK∧w'=put7 w5 Br 0 (.slice Az.aJ RD.jobs.length Az.cJ) (.slice Az.aR RD.rel.length Az.cR) (.int .i64 RD.nxt) (.slice Az.aI RD.ins.length Az.cI) (.slice Az.aT RD.tak.length Az.cT) (.slice Az.aO RD.out.length Az.cO) (.slice Az.aE RD.evs.length Az.cE))∨((∀ i∈([0,1,2,3,4,5,6,7,8,9,10,11,12,13,14,15,16,17,18,19,20,21,22,24,25]:List Nat),lB.getD i false=true)∧lB.size=26∧∃ (Az:DMem) (aq:Option Addr) (cq:Nat) (w5:World) (n1:Nat),x 51=.tuple #[.agg #[.slice Az.aJ RD.jobs.length Az.cJ,.slice Az.aR RD.rel.length Az.cR,.int .i64 RD.nxt,.slice Az.aI RD.ins.length Az.cI,.slice Az.aT RD.tak.length Az.cT,.slice Az.aO RD.out.length Az.cO,.slice Az.aE RD.evs.length Az.cE],.agg #[.slice aq (List.length RK) cq],.int .i64 0]∧Below wc.drew.heap.size wc.drew w5∧wc.drew.heap.size≤n1∧n1≤w5.heap.size∧EvO2 n1 w5 Az RD aq RK∧w'=(put7 w5 Br 0 (.slice Az.aJ RD.jobs.length Az.cJ) (.slice Az.aR RD.rel.length Az.cR) (.int .i64 RD.nxt) (.slice Az.aI RD.ins.length Az.cI) (.slice Az.aT RD.tak.length Az.cT) (.slice Az.aO RD.out.length Az.cO) (.slice Az.aE RD.evs.length Az.cE)).setCell ⟨w.heap.size+1,0,none⟩ (.slice aq (List.length RK) cq)))) (by kernel_rfl) ?step ?fin _ _ _ _ rfl (by decide) ?start
   case start=>exact ex_frame _ rfl ⟨⟨rfl,rfl,rfl,rfl,rfl,rfl,rfl,rfl,rfl⟩,.inl ⟨rfl,Below.refl _ _,fun i hi=>by simp [Array.getD_eq_getD_getElem?,Array.getElem?_replicate];split <;> simp,fun i h=>absurd h (by simp [Array.getD_eq_getD_getElem?,Array.getElem?_replicate];split <;> simp),fun i h=>absurd h (by simp [Array.getD_eq_getD_getElem?,Array.getElem?_replicate];split <;> simp)⟩⟩
   case step=>
    intro lB aB w2 iB oB h ho hl hdep K' hK
    have hi:iB<26:=by
     have:=(Array.getElem?_eq_some_iff.1 ho).1
     simpa using this
    obtain ⟨x,rfl,hbs,h⟩:=h
    have hcs:iB=0∨iB=1∨iB=2∨iB=3∨iB=4∨iB=5∨iB=6∨iB=7∨iB=8∨iB=9∨iB=10∨iB=11∨iB=12∨iB=13∨iB=14∨iB=15∨iB=16∨iB=17∨iB=18∨iB=19∨iB=20∨iB=21∨iB=22∨iB=23∨iB=24∨iB=25:=by omega
    rcases hcs with rfl|rfl|rfl|rfl|rfl|rfl|rfl|rfl|rfl|rfl|rfl|rfl|rfl|rfl|rfl|rfl|rfl|rfl|rfl|rfl|rfl|rfl|rfl|rfl|rfl|rfl
    ·simp only [List.getElem?_toArray,List.getElem?_cons_zero,Option.some.injEq] at ho
     subst ho
     rcases h with h|⟨hall,hlsz,hnx,hdone⟩|⟨hall,hlsz,hdone⟩
     ·have hbq:=hbs
      obtain ⟨bz0,bz1,bz2,bz3,bz4,bz5,bz6,bz7,bz8⟩:=hbq
      clear hdep
      simp only [AF99,bz0,bz1,bz2,bz3,bz4,bz5,bz6,bz7,bz8]
      go_simp
      exact hK.out _ _ ⟨upd x 52 (.pointer (some ⟨K.gm,0,none⟩)),(by simp only [AF99,upd,reduceIte,Nat.reduceEqDiff,bz0,bz1,bz2,bz3,bz4,bz5,bz6,bz7,bz8]),bsWb_upd _ _ _ (by decide) hbs,.inl (rpg_next fcWb_keep dSWb_inj dOWb_lt h 0 _ (by decide) hl (Below.refl _ _) rfl (fun j hj hne=>absurd hj (by simp [dOWb,hne])))⟩
     ·rw [hall 0 (by decide)] at hl;cases hl
     ·rw [hall 0 (by decide)] at hl;cases hl
    ·simp only [List.getElem?_toArray,List.getElem?_cons_zero,List.getElem?_cons_succ,Option.some.injEq] at ho
     subst ho
     rcases h with h|⟨hall,hlsz,hnx,hdone⟩|⟨hall,hlsz,hdone⟩
     ·have hbq:=hbs
      obtain ⟨bz0,bz1,bz2,bz3,bz4,bz5,bz6,bz7,bz8⟩:=hbq
      have hd0:=dep_of hdep 0 (by kernel_rfl)
      have f0:x 52=.pointer (some ⟨K.gm,0,none⟩):=h.fc 0 hd0
      clear hdep
      simp only [AF99,bz0,bz1,bz2,bz3,bz4,bz5,bz6,bz7,bz8,f0]
      go_simp
      exact hK.out _ _ ⟨upd x 53 (.pointer (some ⟨K.gm,0,none⟩)),(by simp only [AF99,upd,reduceIte,Nat.reduceEqDiff,bz0,bz1,bz2,bz3,bz4,bz5,bz6,bz7,bz8,f0]),bsWb_upd _ _ _ (by decide) hbs,.inl (rpg_next fcWb_keep dSWb_inj dOWb_lt h 1 _ (by decide) hl (Below.refl _ _) rfl (fun j hj hne=>absurd hj (by simp [dOWb,hne])))⟩
     ·rw [hall 1 (by decide)] at hl;cases hl
     ·rw [hall 1 (by decide)] at hl;cases hl
    ·simp only [List.getElem?_toArray,List.getElem?_cons_zero,List.getElem?_cons_succ,Option.some.injEq] at ho
     subst ho
     rcases h with h|⟨hall,hlsz,hnx,hdone⟩|⟨hall,hlsz,hdone⟩
     ·have hbq:=hbs
      obtain ⟨bz0,bz1,bz2,bz3,bz4,bz5,bz6,bz7,bz8⟩:=hbq
      have hd1:=dep_of hdep 1 (by kernel_rfl)
      have f1:x 53=.pointer (some ⟨K.gm,0,none⟩):=h.fc 1 hd1
      clear hdep
      simp only [AF99,bz0,bz1,bz2,bz3,bz4,bz5,bz6,bz7,bz8,f1]
      go_simp
      exact hK.out _ _ ⟨upd x 54 (.pointer (some ⟨K.gm,0,none⟩)),(by simp only [AF99,upd,reduceIte,Nat.reduceEqDiff,bz0,bz1,bz2,bz3,bz4,bz5,bz6,bz7,bz8,f1]),bsWb_upd _ _ _ (by decide) hbs,.inl (rpg_next fcWb_keep dSWb_inj dOWb_lt h 2 _ (by decide) hl (Below.refl _ _) rfl (fun j hj hne=>absurd hj (by simp [dOWb,hne])))⟩
     ·rw [hall 2 (by decide)] at hl;cases hl
     ·rw [hall 2 (by decide)] at hl;cases hl
    ·simp only [List.getElem?_toArray,List.getElem?_cons_zero,List.getElem?_cons_succ,Option.some.injEq] at ho
     subst ho
     rcases h with h|⟨hall,hlsz,hnx,hdone⟩|⟨hall,hlsz,hdone⟩
     ·have hbq:=hbs
      obtain ⟨bz0,bz1,bz2,bz3,bz4,bz5,bz6,bz7,bz8⟩:=hbq
      have hd2:=dep_of hdep 2 (by kernel_rfl)
      have f2:x 54=.pointer (some ⟨K.gm,0,none⟩):=h.fc 2 hd2
      clear hdep
      obtain ⟨m0,m1,m2,m3,m4,m5,m6,m7,m8,m9,m10,m11,m12,m13,d0,d1,d2,d3,d4,d5,d6,la,s0,ac,t0,t1,t2,kc⟩:=HS.out _ (btrans hbc h.b)
      have HT:∀ j u,[.int .i64 K.C.s,.int .i64 K.C.w,.int .i64 K.C.d,.int .i64 K.C.p,.int .i64 K.C.q,.slice (some ⟨b5,o5,none⟩) K.C.sl.length K.B.c5,.slice K.B.a6 K.C.ow.length K.B.c6,.slice K.B.a7 K.C.ch.length K.B.c7,.slice K.B.a8 K.C.ta.length K.B.c8][j]? = some u→w2.cell? ⟨K.gm,0+j,none⟩=some u:=fun j u hu=>by
       match j,hu with
       | 0,hu=>cases hu;exact m0
       | 1,hu=>cases hu;exact m1
       | 2,hu=>cases hu;exact m2
       | 3,hu=>cases hu;exact m3
       | 4,hu=>cases hu;exact m4
       | 5,hu=>cases hu;exact m5
       | 6,hu=>cases hu;exact m6
       | 7,hu=>cases hu;exact m7
       | 8,hu=>cases hu;exact m8
      simp only [AF99,bz0,bz1,bz2,bz3,bz4,bz5,bz6,bz7,bz8,f2]
      refine step_wanted (by rfl) ?_
      refine wp_load_mid 27 _ rfl (K.gm) (0) (by rfl) [.int .i64 K.C.s,.int .i64 K.C.w,.int .i64 K.C.d,.int .i64 K.C.p,.int .i64 K.C.q,.slice (some ⟨b5,o5,none⟩) K.C.sl.length K.B.c5,.slice K.B.a6 K.C.ow.length K.B.c6,.slice K.B.a7 K.C.ch.length K.B.c7,.slice K.B.a8 K.C.ta.length K.B.c8] _ (HT) Tryz.underlying27 rfl (by kernel_rfl) ?_
      refine hK.out _ _ ⟨upd x 55 (.agg #[.int .i64 K.C.s,.int .i64 K.C.w,.int .i64 K.C.d,.int .i64 K.C.p,.int .i64 K.C.q,.slice (some ⟨b5,o5,none⟩) K.C.sl.length K.B.c5,.slice K.B.a6 K.C.ow.length K.B.c6,.slice K.B.a7 K.C.ch.length K.B.c7,.slice K.B.a8 K.C.ta.length K.B.c8]),?_,bsWb_upd _ _ _ (by decide) hbs,.inl (rpg_next fcWb_keep dSWb_inj dOWb_lt h 3 _ (by decide) hl (Below.refl _ _) rfl (fun j hj hne=>absurd hj (by simp [dOWb,hne])))⟩
      simp only [Act.put,List.setIfInBounds_toArray,List.set_cons_zero,List.set_cons_succ,AF99,upd,reduceIte,Nat.reduceEqDiff,bz0,bz1,bz2,bz3,bz4,bz5,bz6,bz7,bz8,f2]
     ·rw [hall 3 (by decide)] at hl;cases hl
     ·rw [hall 3 (by decide)] at hl;cases hl
    ·simp only [List.getElem?_toArray,List.getElem?_cons_zero,List.getElem?_cons_succ,Option.some.injEq] at ho
     subst ho
     rcases h with h|⟨hall,hlsz,hnx,hdone⟩|⟨hall,hlsz,hdone⟩
     ·have hbq:=hbs
      obtain ⟨bz0,bz1,bz2,bz3,bz4,bz5,bz6,bz7,bz8⟩:=hbq
      clear hdep
      simp only [AF99,bz0,bz1,bz2,bz3,bz4,bz5,bz6,bz7,bz8]
      go_simp
      exact hK.out _ _ ⟨upd x 56 (.int .i64 (d:Int)),(by simp only [AF99,upd,reduceIte,Nat.reduceEqDiff,bz0,bz1,bz2,bz3,bz4,bz5,bz6,bz7,bz8]),bsWb_upd _ _ _ (by decide) hbs,.inl (rpg_next fcWb_keep dSWb_inj dOWb_lt h 4 _ (by decide) hl (Below.refl _ _) rfl (fun j hj hne=>absurd hj (by simp [dOWb,hne])))⟩
     ·rw [hall 4 (by decide)] at hl;cases hl
     ·rw [hall 4 (by decide)] at hl;cases hl
    ·simp only [List.getElem?_toArray,List.getElem?_cons_zero,List.getElem?_cons_succ,Option.some.injEq] at ho
     subst ho
     rcases h with h|⟨hall,hlsz,hnx,hdone⟩|⟨hall,hlsz,hdone⟩
     ·have hbq:=hbs
      obtain ⟨bz0,bz1,bz2,bz3,bz4,bz5,bz6,bz7,bz8⟩:=hbq
      clear hdep
      obtain ⟨r0,r1,r2,r3,r4,r5,r6⟩:=HSB.out _ h.b
      have HT:∀ j u,[.slice A1.aJ D1.jobs.length A1.cJ,.slice A1.aR D1.rel.length A1.cR,.int .i64 D1.nxt,.slice A1.aI D1.ins.length A1.cI,.slice A1.aT D1.tak.length A1.cT,.slice A1.aO D1.out.length A1.cO,.slice A1.aE D1.evs.length A1.cE][j]? = some u→w2.cell? ⟨Br,0+j,none⟩=some u:=fun j u hu=>by
       match j,hu with
       | 0,hu=>cases hu;exact r0
       | 1,hu=>cases hu;exact r1
       | 2,hu=>cases hu;exact r2
       | 3,hu=>cases hu;exact r3
       | 4,hu=>cases hu;exact r4
       | 5,hu=>cases hu;exact r5
       | 6,hu=>cases hu;exact r6
      simp only [AF99,bz0,bz1,bz2,bz3,bz4,bz5,bz6,bz7,bz8]
      refine step_wanted (by rfl) ?_
      refine wp_load_mid 46 _ rfl (Br) (0) (by rfl) [.slice A1.aJ D1.jobs.length A1.cJ,.slice A1.aR D1.rel.length A1.cR,.int .i64 D1.nxt,.slice A1.aI D1.ins.length A1.cI,.slice A1.aT D1.tak.length A1.cT,.slice A1.aO D1.out.length A1.cO,.slice A1.aE D1.evs.length A1.cE] _ (HT) Tryz.underlying46 rfl (by kernel_rfl) ?_
      refine hK.out _ _ ⟨upd x 57 (.agg #[.slice A1.aJ D1.jobs.length A1.cJ,.slice A1.aR D1.rel.length A1.cR,.int .i64 D1.nxt,.slice A1.aI D1.ins.length A1.cI,.slice A1.aT D1.tak.length A1.cT,.slice A1.aO D1.out.length A1.cO,.slice A1.aE D1.evs.length A1.cE]),?_,bsWb_upd _ _ _ (by decide) hbs,.inl (rpg_next fcWb_keep dSWb_inj dOWb_lt h 5 _ (by decide) hl (Below.refl _ _) rfl (fun j hj hne=>absurd hj (by simp [dOWb,hne])))⟩
      simp only [Act.put,List.setIfInBounds_toArray,List.set_cons_zero,List.set_cons_succ,AF99,upd,reduceIte,Nat.reduceEqDiff,bz0,bz1,bz2,bz3,bz4,bz5,bz6,bz7,bz8]
     ·rw [hall 5 (by decide)] at hl;cases hl
     ·rw [hall 5 (by decide)] at hl;cases hl
    ·simp only [List.getElem?_toArray,List.getElem?_cons_zero,List.getElem?_cons_succ,Option.some.injEq] at ho
     subst ho
     rcases h with h|⟨hall,hlsz,hnx,hdone⟩|⟨hall,hlsz,hdone⟩
     ·have hbq:=hbs
      obtain ⟨bz0,bz1,bz2,bz3,bz4,bz5,bz6,bz7,bz8⟩:=hbq
      clear hdep
      obtain ⟨m0,m1,m2,m3,m4,m5,m6,m7,m8,m9,m10,m11,m12,m13,d0,d1,d2,d3,d4,d5,d6,la,s0,ac,t0,t1,t2,kc⟩:=HS.out _ (btrans hbc h.b)
      have HT:∀ j u,[.slice aK (List.length k0) cK][j]? = some u→w2.cell? ⟨w.heap.size+1,0+j,none⟩=some u:=fun j u hu=>by
       match j,hu with
       | 0,hu=>cases hu;exact kc
      simp only [AF99,bz0,bz1,bz2,bz3,bz4,bz5,bz6,bz7,bz8]
      refine step_wanted (by rfl) ?_
      refine wp_load_mid 72 _ rfl (w.heap.size+1) (0) (by rfl) [.slice aK (List.length k0) cK] _ (HT) Tryz.underlying72 rfl (by kernel_rfl) ?_
      refine hK.out _ _ ⟨upd x 58 (.agg #[.slice aK (List.length k0) cK]),?_,bsWb_upd _ _ _ (by decide) hbs,.inl (rpg_next fcWb_keep dSWb_inj dOWb_lt h 6 _ (by decide) hl (Below.refl _ _) rfl (fun j hj hne=>absurd hj (by simp [dOWb,hne])))⟩
      simp only [Act.put,List.setIfInBounds_toArray,List.set_cons_zero,List.set_cons_succ,AF99,upd,reduceIte,Nat.reduceEqDiff,bz0,bz1,bz2,bz3,bz4,bz5,bz6,bz7,bz8]
     ·rw [hall 6 (by decide)] at hl;cases hl
     ·rw [hall 6 (by decide)] at hl;cases hl
    ·simp only [List.getElem?_toArray,List.getElem?_cons_zero,List.getElem?_cons_succ,Option.some.injEq] at ho
     subst ho
     rcases h with h|⟨hall,hlsz,hnx,hdone⟩|⟨hall,hlsz,hdone⟩
     ·have hbq:=hbs
      obtain ⟨bz0,bz1,bz2,bz3,bz4,bz5,bz6,bz7,bz8⟩:=hbq
      clear hdep
      simp only [AF99,bz0,bz1,bz2,bz3,bz4,bz5,bz6,bz7,bz8]
      go_simp
      exact hK.out _ _ ⟨upd x 59 (.pointer (some ⟨K.gm,0,none⟩)),(by simp only [AF99,upd,reduceIte,Nat.reduceEqDiff,bz0,bz1,bz2,bz3,bz4,bz5,bz6,bz7,bz8]),bsWb_upd _ _ _ (by decide) hbs,.inl (rpg_next fcWb_keep dSWb_inj dOWb_lt h 7 _ (by decide) hl (Below.refl _ _) rfl (fun j hj hne=>absurd hj (by simp [dOWb,hne])))⟩
     ·rw [hall 7 (by decide)] at hl;cases hl
     ·rw [hall 7 (by decide)] at hl;cases hl
    ·simp only [List.getElem?_toArray,List.getElem?_cons_zero,List.getElem?_cons_succ,Option.some.injEq] at ho
     subst ho
     rcases h with h|⟨hall,hlsz,hnx,hdone⟩|⟨hall,hlsz,hdone⟩
     ·have hbq:=hbs
      obtain ⟨bz0,bz1,bz2,bz3,bz4,bz5,bz6,bz7,bz8⟩:=hbq
      have hd7:=dep_of hdep 7 (by kernel_rfl)
      have f7:x 59=.pointer (some ⟨K.gm,0,none⟩):=h.fc 7 hd7
      clear hdep
      simp only [AF99,bz0,bz1,bz2,bz3,bz4,bz5,bz6,bz7,bz8,f7]
      go_simp
      exact hK.out _ _ ⟨upd x 60 (.pointer (some ⟨K.gm,0,none⟩)),(by simp only [AF99,upd,reduceIte,Nat.reduceEqDiff,bz0,bz1,bz2,bz3,bz4,bz5,bz6,bz7,bz8,f7]),bsWb_upd _ _ _ (by decide) hbs,.inl (rpg_next fcWb_keep dSWb_inj dOWb_lt h 8 _ (by decide) hl (Below.refl _ _) rfl (fun j hj hne=>absurd hj (by simp [dOWb,hne])))⟩
     ·rw [hall 8 (by decide)] at hl;cases hl
     ·rw [hall 8 (by decide)] at hl;cases hl
    ·simp only [List.getElem?_toArray,List.getElem?_cons_zero,List.getElem?_cons_succ,Option.some.injEq] at ho
     subst ho
     rcases h with h|⟨hall,hlsz,hnx,hdone⟩|⟨hall,hlsz,hdone⟩
     ·have hbq:=hbs
      obtain ⟨bz0,bz1,bz2,bz3,bz4,bz5,bz6,bz7,bz8⟩:=hbq
      have hd8:=dep_of hdep 8 (by kernel_rfl)
      have f8:x 60=.pointer (some ⟨K.gm,0,none⟩):=h.fc 8 hd8
      clear hdep
      simp only [AF99,bz0,bz1,bz2,bz3,bz4,bz5,bz6,bz7,bz8,f8]
      go_simp
      exact hK.out _ _ ⟨upd x 61 (.pointer (some ⟨K.gm,9,none⟩)),(by simp only [AF99,upd,reduceIte,Nat.reduceEqDiff,bz0,bz1,bz2,bz3,bz4,bz5,bz6,bz7,bz8,f8]),bsWb_upd _ _ _ (by decide) hbs,.inl (rpg_next fcWb_keep dSWb_inj dOWb_lt h 9 _ (by decide) hl (Below.refl _ _) rfl (fun j hj hne=>absurd hj (by simp [dOWb,hne])))⟩
     ·rw [hall 9 (by decide)] at hl;cases hl
     ·rw [hall 9 (by decide)] at hl;cases hl
    ·simp only [List.getElem?_toArray,List.getElem?_cons_zero,List.getElem?_cons_succ,Option.some.injEq] at ho
     subst ho
     rcases h with h|⟨hall,hlsz,hnx,hdone⟩|⟨hall,hlsz,hdone⟩
     ·have hbq:=hbs
      obtain ⟨bz0,bz1,bz2,bz3,bz4,bz5,bz6,bz7,bz8⟩:=hbq
      have hd9:=dep_of hdep 9 (by kernel_rfl)
      have f9:x 61=.pointer (some ⟨K.gm,9,none⟩):=h.fc 9 hd9
      clear hdep
      simp only [AF99,bz0,bz1,bz2,bz3,bz4,bz5,bz6,bz7,bz8,f9]
      go_simp
      exact hK.out _ _ ⟨upd x 62 (.pointer (some ⟨K.gm,9,none⟩)),(by simp only [AF99,upd,reduceIte,Nat.reduceEqDiff,bz0,bz1,bz2,bz3,bz4,bz5,bz6,bz7,bz8,f9]),bsWb_upd _ _ _ (by decide) hbs,.inl (rpg_next fcWb_keep dSWb_inj dOWb_lt h 10 _ (by decide) hl (Below.refl _ _) rfl (fun j hj hne=>absurd hj (by simp [dOWb,hne])))⟩
     ·rw [hall 10 (by decide)] at hl;cases hl
     ·rw [hall 10 (by decide)] at hl;cases hl
    ·simp only [List.getElem?_toArray,List.getElem?_cons_zero,List.getElem?_cons_succ,Option.some.injEq] at ho
     subst ho
     rcases h with h|⟨hall,hlsz,hnx,hdone⟩|⟨hall,hlsz,hdone⟩
     ·have hbq:=hbs
      obtain ⟨bz0,bz1,bz2,bz3,bz4,bz5,bz6,bz7,bz8⟩:=hbq
      have hd10:=dep_of hdep 10 (by kernel_rfl)
      have f10:x 62=.pointer (some ⟨K.gm,9,none⟩):=h.fc 10 hd10
      clear hdep
      obtain ⟨m0,m1,m2,m3,m4,m5,m6,m7,m8,m9,m10,m11,m12,m13,d0,d1,d2,d3,d4,d5,d6,la,s0,ac,t0,t1,t2,kc⟩:=HS.out _ (btrans hbc h.b)
      simp only [AF99,bz0,bz1,bz2,bz3,bz4,bz5,bz6,bz7,bz8,f10]
      go_simp
      exact hK.out _ _ ⟨upd x 63 (.slice (some ⟨bA,oA,none⟩) K.S.acts.length K.M.cA),(by simp only [AF99,upd,reduceIte,Nat.reduceEqDiff,bz0,bz1,bz2,bz3,bz4,bz5,bz6,bz7,bz8,f10]),bsWb_upd _ _ _ (by decide) hbs,.inl (rpg_next fcWb_keep dSWb_inj dOWb_lt h 11 _ (by decide) hl (Below.refl _ _) rfl (fun j hj hne=>absurd hj (by simp [dOWb,hne])))⟩
     ·rw [hall 11 (by decide)] at hl;cases hl
     ·rw [hall 11 (by decide)] at hl;cases hl
    ·simp only [List.getElem?_toArray,List.getElem?_cons_zero,List.getElem?_cons_succ,Option.some.injEq] at ho
     subst ho
     rcases h with h|⟨hall,hlsz,hnx,hdone⟩|⟨hall,hlsz,hdone⟩
     ·have hbq:=hbs
      obtain ⟨bz0,bz1,bz2,bz3,bz4,bz5,bz6,bz7,bz8⟩:=hbq
      clear hdep
      simp only [AF99,bz0,bz1,bz2,bz3,bz4,bz5,bz6,bz7,bz8]
      go_simp
      exact hK.out _ _ ⟨upd x 64 (.int .i64 (d:Int)),(by simp only [AF99,upd,reduceIte,Nat.reduceEqDiff,bz0,bz1,bz2,bz3,bz4,bz5,bz6,bz7,bz8]),bsWb_upd _ _ _ (by decide) hbs,.inl (rpg_next fcWb_keep dSWb_inj dOWb_lt h 12 _ (by decide) hl (Below.refl _ _) rfl (fun j hj hne=>absurd hj (by simp [dOWb,hne])))⟩
     ·rw [hall 12 (by decide)] at hl;cases hl
     ·rw [hall 12 (by decide)] at hl;cases hl
    ·simp only [List.getElem?_toArray,List.getElem?_cons_zero,List.getElem?_cons_succ,Option.some.injEq] at ho
     subst ho
     rcases h with h|⟨hall,hlsz,hnx,hdone⟩|⟨hall,hlsz,hdone⟩
     ·have hbq:=hbs
      obtain ⟨bz0,bz1,bz2,bz3,bz4,bz5,bz6,bz7,bz8⟩:=hbq
      have hd11:=dep_of hdep 11 (by kernel_rfl)
      have f11:x 63=.slice (some ⟨bA,oA,none⟩) K.S.acts.length K.M.cA:=h.fc 11 hd11
      have hd12:=dep_of hdep 12 (by kernel_rfl)
      have f12:x 64=.int .i64 (d:Int):=h.fc 12 hd12
      clear hdep
      simp only [AF99,bz0,bz1,bz2,bz3,bz4,bz5,bz6,bz7,bz8,f11,f12]
      go_simp
      exact hK.out _ _ ⟨upd x 65 (.pointer (some ⟨bA,oA+d,none⟩)),(by simp only [AF99,upd,reduceIte,Nat.reduceEqDiff,bz0,bz1,bz2,bz3,bz4,bz5,bz6,bz7,bz8,f11,f12]),bsWb_upd _ _ _ (by decide) hbs,.inl (rpg_next fcWb_keep dSWb_inj dOWb_lt h 13 _ (by decide) hl (Below.refl _ _) rfl (fun j hj hne=>absurd hj (by simp [dOWb,hne])))⟩
     ·rw [hall 13 (by decide)] at hl;cases hl
     ·rw [hall 13 (by decide)] at hl;cases hl
    ·simp only [List.getElem?_toArray,List.getElem?_cons_zero,List.getElem?_cons_succ,Option.some.injEq] at ho
     subst ho
     rcases h with h|⟨hall,hlsz,hnx,hdone⟩|⟨hall,hlsz,hdone⟩
     ·have hbq:=hbs
      obtain ⟨bz0,bz1,bz2,bz3,bz4,bz5,bz6,bz7,bz8⟩:=hbq
      have hd13:=dep_of hdep 13 (by kernel_rfl)
      have f13:x 65=.pointer (some ⟨bA,oA+d,none⟩):=h.fc 13 hd13
      clear hdep
      obtain ⟨m0,m1,m2,m3,m4,m5,m6,m7,m8,m9,m10,m11,m12,m13,d0,d1,d2,d3,d4,d5,d6,la,s0,ac,t0,t1,t2,kc⟩:=HS.out _ (btrans hbc h.b)
      simp only [AF99,bz0,bz1,bz2,bz3,bz4,bz5,bz6,bz7,bz8,f13]
      go_simp
      exact hK.out _ _ ⟨upd x 66 (.slice aL L.length cL),(by simp only [AF99,upd,reduceIte,Nat.reduceEqDiff,bz0,bz1,bz2,bz3,bz4,bz5,bz6,bz7,bz8,f13]),bsWb_upd _ _ _ (by decide) hbs,.inl (rpg_next fcWb_keep dSWb_inj dOWb_lt h 14 _ (by decide) hl (Below.refl _ _) rfl (fun j hj hne=>absurd hj (by simp [dOWb,hne])))⟩
     ·rw [hall 14 (by decide)] at hl;cases hl
     ·rw [hall 14 (by decide)] at hl;cases hl
    ·simp only [List.getElem?_toArray,List.getElem?_cons_zero,List.getElem?_cons_succ,Option.some.injEq] at ho
     subst ho
     rcases h with h|⟨hall,hlsz,hnx,hdone⟩|⟨hall,hlsz,hdone⟩
     ·have hbq:=hbs
      obtain ⟨bz0,bz1,bz2,bz3,bz4,bz5,bz6,bz7,bz8⟩:=hbq
      clear hdep
      simp only [AF99,bz0,bz1,bz2,bz3,bz4,bz5,bz6,bz7,bz8]
      go_simp
      exact hK.out _ _ ⟨upd x 67 (.pointer (some ⟨w.heap.size,1,none⟩)),(by simp only [AF99,upd,reduceIte,Nat.reduceEqDiff,bz0,bz1,bz2,bz3,bz4,bz5,bz6,bz7,bz8]),bsWb_upd _ _ _ (by decide) hbs,.inl (rpg_next fcWb_keep dSWb_inj dOWb_lt h 15 _ (by decide) hl (Below.refl _ _) rfl (fun j hj hne=>absurd hj (by simp [dOWb,hne])))⟩
     ·rw [hall 15 (by decide)] at hl;cases hl
     ·rw [hall 15 (by decide)] at hl;cases hl
    ·simp only [List.getElem?_toArray,List.getElem?_cons_zero,List.getElem?_cons_succ,Option.some.injEq] at ho
     subst ho
     rcases h with h|⟨hall,hlsz,hnx,hdone⟩|⟨hall,hlsz,hdone⟩
     ·have hbq:=hbs
      obtain ⟨bz0,bz1,bz2,bz3,bz4,bz5,bz6,bz7,bz8⟩:=hbq
      have hd15:=dep_of hdep 15 (by kernel_rfl)
      have f15:x 67=.pointer (some ⟨w.heap.size,1,none⟩):=h.fc 15 hd15
      clear hdep
      obtain ⟨m0,m1,m2,m3,m4,m5,m6,m7,m8,m9,m10,m11,m12,m13,d0,d1,d2,d3,d4,d5,d6,la,s0,ac,t0,t1,t2,kc⟩:=HS.out _ (btrans hbc h.b)
      simp only [AF99,bz0,bz1,bz2,bz3,bz4,bz5,bz6,bz7,bz8,f15]
      go_simp
      exact hK.out _ _ ⟨upd x 68 (.int .i64 fr),(by simp only [AF99,upd,reduceIte,Nat.reduceEqDiff,bz0,bz1,bz2,bz3,bz4,bz5,bz6,bz7,bz8,f15]),bsWb_upd _ _ _ (by decide) hbs,.inl (rpg_next fcWb_keep dSWb_inj dOWb_lt h 16 _ (by decide) hl (Below.refl _ _) rfl (fun j hj hne=>absurd hj (by simp [dOWb,hne])))⟩
     ·rw [hall 16 (by decide)] at hl;cases hl
     ·rw [hall 16 (by decide)] at hl;cases hl
    ·simp only [List.getElem?_toArray,List.getElem?_cons_zero,List.getElem?_cons_succ,Option.some.injEq] at ho
     subst ho
     rcases h with h|⟨hall,hlsz,hnx,hdone⟩|⟨hall,hlsz,hdone⟩
     ·have hbq:=hbs
      obtain ⟨bz0,bz1,bz2,bz3,bz4,bz5,bz6,bz7,bz8⟩:=hbq
      clear hdep
      simp only [AF99,bz0,bz1,bz2,bz3,bz4,bz5,bz6,bz7,bz8]
      go_simp
      exact hK.out _ _ ⟨upd x 69 (.pointer (some ⟨w.heap.size,2,none⟩)),(by simp only [AF99,upd,reduceIte,Nat.reduceEqDiff,bz0,bz1,bz2,bz3,bz4,bz5,bz6,bz7,bz8]),bsWb_upd _ _ _ (by decide) hbs,.inl (rpg_next fcWb_keep dSWb_inj dOWb_lt h 17 _ (by decide) hl (Below.refl _ _) rfl (fun j hj hne=>absurd hj (by simp [dOWb,hne])))⟩
     ·rw [hall 17 (by decide)] at hl;cases hl
     ·rw [hall 17 (by decide)] at hl;cases hl
    ·simp only [List.getElem?_toArray,List.getElem?_cons_zero,List.getElem?_cons_succ,Option.some.injEq] at ho
     subst ho
     rcases h with h|⟨hall,hlsz,hnx,hdone⟩|⟨hall,hlsz,hdone⟩
     ·have hbq:=hbs
      obtain ⟨bz0,bz1,bz2,bz3,bz4,bz5,bz6,bz7,bz8⟩:=hbq
      have hd17:=dep_of hdep 17 (by kernel_rfl)
      have f17:x 69=.pointer (some ⟨w.heap.size,2,none⟩):=h.fc 17 hd17
      clear hdep
      obtain ⟨m0,m1,m2,m3,m4,m5,m6,m7,m8,m9,m10,m11,m12,m13,d0,d1,d2,d3,d4,d5,d6,la,s0,ac,t0,t1,t2,kc⟩:=HS.out _ (btrans hbc h.b)
      simp only [AF99,bz0,bz1,bz2,bz3,bz4,bz5,bz6,bz7,bz8,f17]
      go_simp
      exact hK.out _ _ ⟨upd x 70 (.int .i64 te),(by simp only [AF99,upd,reduceIte,Nat.reduceEqDiff,bz0,bz1,bz2,bz3,bz4,bz5,bz6,bz7,bz8,f17]),bsWb_upd _ _ _ (by decide) hbs,.inl (rpg_next fcWb_keep dSWb_inj dOWb_lt h 18 _ (by decide) hl (Below.refl _ _) rfl (fun j hj hne=>absurd hj (by simp [dOWb,hne])))⟩
     ·rw [hall 18 (by decide)] at hl;cases hl
     ·rw [hall 18 (by decide)] at hl;cases hl
    ·simp only [List.getElem?_toArray,List.getElem?_cons_zero,List.getElem?_cons_succ,Option.some.injEq] at ho
     subst ho
     rcases h with h|⟨hall,hlsz,hnx,hdone⟩|⟨hall,hlsz,hdone⟩
     ·have hbq:=hbs
      obtain ⟨bz0,bz1,bz2,bz3,bz4,bz5,bz6,bz7,bz8⟩:=hbq
      have hd3:=dep_of hdep 3 (by kernel_rfl)
      have f3:x 55=.agg #[.int .i64 K.C.s,.int .i64 K.C.w,.int .i64 K.C.d,.int .i64 K.C.p,.int .i64 K.C.q,.slice (some ⟨b5,o5,none⟩) K.C.sl.length K.B.c5,.slice K.B.a6 K.C.ow.length K.B.c6,.slice K.B.a7 K.C.ch.length K.B.c7,.slice K.B.a8 K.C.ta.length K.B.c8]:=h.fc 3 hd3
      have hd4:=dep_of hdep 4 (by kernel_rfl)
      have f4:x 56=.int .i64 (d:Int):=h.fc 4 hd4
      have hd5:=dep_of hdep 5 (by kernel_rfl)
      have f5:x 57=.agg #[.slice A1.aJ D1.jobs.length A1.cJ,.slice A1.aR D1.rel.length A1.cR,.int .i64 D1.nxt,.slice A1.aI D1.ins.length A1.cI,.slice A1.aT D1.tak.length A1.cT,.slice A1.aO D1.out.length A1.cO,.slice A1.aE D1.evs.length A1.cE]:=h.fc 5 hd5
      have hd6:=dep_of hdep 6 (by kernel_rfl)
      have f6:x 58=.agg #[.slice aK (List.length k0) cK]:=h.fc 6 hd6
      have hd14:=dep_of hdep 14 (by kernel_rfl)
      have f14:x 66=.slice aL L.length cL:=h.fc 14 hd14
      have hd16:=dep_of hdep 16 (by kernel_rfl)
      have f16:x 68=.int .i64 fr:=h.fc 16 hd16
      have hd18:=dep_of hdep 18 (by kernel_rfl)
      have f18:x 70=.int .i64 te:=h.fc 18 hd18
      clear hdep
      have hsz:=h.b.size
      simp only [AF99,bz0,bz1,bz2,bz3,bz4,bz5,bz6,bz7,bz8,f3,f4,f5,f6,f14,f16,f18]
      go_simp
      refine Calls.mono (CR1.out _ h.b) ?_
      rintro e w3 ⟨Az,aq,cq,rfl,hb3,hev3⟩
      exact hK.out _ _ ⟨upd x 71 (.tuple #[.agg #[.slice Az.aJ RD.jobs.length Az.cJ,.slice Az.aR RD.rel.length Az.cR,.int .i64 RD.nxt,.slice Az.aI RD.ins.length Az.cI,.slice Az.aT RD.tak.length Az.cT,.slice Az.aO RD.out.length Az.cO,.slice Az.aE RD.evs.length Az.cE],.agg #[.slice aq (List.length RK) cq],.int .i64 0]),(by simp only [AF99,upd,reduceIte,Nat.reduceEqDiff,bz0,bz1,bz2,bz3,bz4,bz5,bz6,bz7,bz8,f3,f4,f5,f6,f14,f16,f18]),bsWb_upd _ _ _ (by decide) hbs,.inl (rpg_next fcWb_keep dSWb_inj dOWb_lt h 19 _ (by decide) hl hb3 ⟨Az,aq,cq,rfl,w2.heap.size,hsz,hb3.size,hev3.two⟩ (fun j hj hne=>absurd hj (by simp [dOWb,hne])))⟩
     ·rw [hall 19 (by decide)] at hl;cases hl
     ·rw [hall 19 (by decide)] at hl;cases hl
    ·simp only [List.getElem?_toArray,List.getElem?_cons_zero,List.getElem?_cons_succ,Option.some.injEq] at ho
     subst ho
     rcases h with h|⟨hall,hlsz,hnx,hdone⟩|⟨hall,hlsz,hdone⟩
     ·have hbq:=hbs
      obtain ⟨bz0,bz1,bz2,bz3,bz4,bz5,bz6,bz7,bz8⟩:=hbq
      have hd19:=dep_of hdep 19 (by kernel_rfl)
      obtain ⟨Az19,aq19,cq19,f19,e19⟩:=h.fc 19 hd19
      clear hdep
      simp only [AF99,bz0,bz1,bz2,bz3,bz4,bz5,bz6,bz7,bz8,f19]
      go_simp
      exact hK.out _ _ ⟨upd x 51 (.tuple #[.agg #[.slice Az19.aJ RD.jobs.length Az19.cJ,.slice Az19.aR RD.rel.length Az19.cR,.int .i64 RD.nxt,.slice Az19.aI RD.ins.length Az19.cI,.slice Az19.aT RD.tak.length Az19.cT,.slice Az19.aO RD.out.length Az19.cO,.slice Az19.aE RD.evs.length Az19.cE],.agg #[.slice aq19 (List.length RK) cq19],.int .i64 0]),(by simp only [AF99,upd,reduceIte,Nat.reduceEqDiff,bz0,bz1,bz2,bz3,bz4,bz5,bz6,bz7,bz8,f19]),bsWb_upd _ _ _ (by decide) hbs,.inl (rpg_next fcWb_keep dSWb_inj dOWb_lt h 20 _ (by decide) hl (Below.refl _ _) ⟨Az19,aq19,cq19,rfl,e19⟩ (fun j hj hne=>absurd hj (by simp [dOWb,hne])))⟩
     ·rw [hall 20 (by decide)] at hl;cases hl
     ·rw [hall 20 (by decide)] at hl;cases hl
    ·simp only [List.getElem?_toArray,List.getElem?_cons_zero,List.getElem?_cons_succ,Option.some.injEq] at ho
     subst ho
     rcases h with h|⟨hall,hlsz,hnx,hdone⟩|⟨hall,hlsz,hdone⟩
     ·have hbq:=hbs
      obtain ⟨bz0,bz1,bz2,bz3,bz4,bz5,bz6,bz7,bz8⟩:=hbq
      have hd20:=dep_of hdep 20 (by kernel_rfl)
      obtain ⟨Az20,aq20,cq20,f20,e20⟩:=h.fc 20 hd20
      clear hdep
      simp only [AF99,bz0,bz1,bz2,bz3,bz4,bz5,bz6,bz7,bz8,f20]
      go_simp
      exact hK.out _ _ ⟨upd x 72 (.agg #[.slice Az20.aJ RD.jobs.length Az20.cJ,.slice Az20.aR RD.rel.length Az20.cR,.int .i64 RD.nxt,.slice Az20.aI RD.ins.length Az20.cI,.slice Az20.aT RD.tak.length Az20.cT,.slice Az20.aO RD.out.length Az20.cO,.slice Az20.aE RD.evs.length Az20.cE]),(by simp only [AF99,upd,reduceIte,Nat.reduceEqDiff,bz0,bz1,bz2,bz3,bz4,bz5,bz6,bz7,bz8,f20]),bsWb_upd _ _ _ (by decide) hbs,.inl (rpg_next fcWb_keep dSWb_inj dOWb_lt h 21 _ (by decide) hl (Below.refl _ _) ⟨Az20,aq20,cq20,rfl,f20⟩ (fun j hj hne=>by
        simp only [dOWb,List.mem_cons,List.not_mem_nil,or_false] at hj
        rcases hj with rfl|rfl
        ·exact hd20
        ·exact absurd rfl hne))⟩
     ·rw [hall 21 (by decide)] at hl;cases hl
     ·rw [hall 21 (by decide)] at hl;cases hl
    ·simp only [List.getElem?_toArray,List.getElem?_cons_zero,List.getElem?_cons_succ,Option.some.injEq] at ho
     subst ho
     rcases h with h|⟨hall,hlsz,hnx,hdone⟩|⟨hall,hlsz,hdone⟩
     ·have hbq:=hbs
      obtain ⟨bz0,bz1,bz2,bz3,bz4,bz5,bz6,bz7,bz8⟩:=hbq
      have hd20:=dep_of hdep 20 (by kernel_rfl)
      obtain ⟨Az20,aq20,cq20,f20,e20⟩:=h.fc 20 hd20
      clear hdep
      simp only [AF99,bz0,bz1,bz2,bz3,bz4,bz5,bz6,bz7,bz8,f20]
      go_simp
      exact hK.out _ _ ⟨upd x 73 (.agg #[.slice aq20 (List.length RK) cq20]),(by simp only [AF99,upd,reduceIte,Nat.reduceEqDiff,bz0,bz1,bz2,bz3,bz4,bz5,bz6,bz7,bz8,f20]),bsWb_upd _ _ _ (by decide) hbs,.inl (rpg_next fcWb_keep dSWb_inj dOWb_lt h 22 _ (by decide) hl (Below.refl _ _) ⟨Az20,aq20,cq20,rfl,f20⟩ (fun j hj hne=>by
        simp only [dOWb,List.mem_cons,List.not_mem_nil,or_false] at hj
        rcases hj with rfl|rfl
        ·exact hd20
        ·exact absurd rfl hne))⟩
     ·obtain ⟨Az,aq,cq,w5,n1,f20,hk73',hrest⟩:=hdone
      have hk73:=hid hk73'
      clear hk73'
      have hbq:=hbs
      obtain ⟨bz0,bz1,bz2,bz3,bz4,bz5,bz6,bz7,bz8⟩:=hbq
      have HRST:=hid hrest
      clear hdep hrest
      simp only [AF99,bz0,bz1,bz2,bz3,bz4,bz5,bz6,bz7,bz8,f20]
      go_simp
      exact hK.out _ _ ⟨upd x 73 (.agg #[.slice aq (List.length RK) cq]),(by simp only [AF99,upd,reduceIte,Nat.reduceEqDiff,bz0,bz1,bz2,bz3,bz4,bz5,bz6,bz7,bz8,f20]),bsWb_upd _ _ _ (by decide) hbs,.inr (.inl ⟨all_keepL hall,by rw [Array.size_setIfInBounds];exact hlsz,(getD_set_ne false (by decide)).trans hnx,Az,aq,cq,w5,n1,f20,fun _=>rfl,HRST.out⟩)⟩
     ·rw [hall 22 (by decide)] at hl;cases hl
    ·simp only [List.getElem?_toArray,List.getElem?_cons_zero,List.getElem?_cons_succ,Option.some.injEq] at ho
     subst ho
     rcases h with h|⟨hall,hlsz,hnx,hdone⟩|⟨hall,hlsz,hdone⟩
     ·have hbq:=hbs
      obtain ⟨bz0,bz1,bz2,bz3,bz4,bz5,bz6,bz7,bz8⟩:=hbq
      have hd20:=dep_of hdep 20 (by kernel_rfl)
      obtain ⟨Az20,aq20,cq20,f20,e20⟩:=h.fc 20 hd20
      clear hdep
      simp only [AF99,bz0,bz1,bz2,bz3,bz4,bz5,bz6,bz7,bz8,f20]
      go_simp
      exact hK.out _ _ ⟨upd x 74 (.int .i64 0),(by simp only [AF99,upd,reduceIte,Nat.reduceEqDiff,bz0,bz1,bz2,bz3,bz4,bz5,bz6,bz7,bz8,f20]),bsWb_upd _ _ _ (by decide) hbs,.inl (rpg_next fcWb_keep dSWb_inj dOWb_lt h 23 _ (by decide) hl (Below.refl _ _) rfl (fun j hj hne=>absurd hj (by simp [dOWb,hne])))⟩
     ·obtain ⟨Az,aq,cq,w5,n1,f20,hk73',hrest⟩:=hdone
      have hk73:=hid hk73'
      clear hk73'
      have hbq:=hbs
      obtain ⟨bz0,bz1,bz2,bz3,bz4,bz5,bz6,bz7,bz8⟩:=hbq
      have HRST:=hid hrest
      clear hdep hrest
      simp only [AF99,bz0,bz1,bz2,bz3,bz4,bz5,bz6,bz7,bz8,f20]
      go_simp
      exact hK.out _ _ ⟨upd x 74 (.int .i64 0),(by simp only [AF99,upd,reduceIte,Nat.reduceEqDiff,bz0,bz1,bz2,bz3,bz4,bz5,bz6,bz7,bz8,f20]),bsWb_upd _ _ _ (by decide) hbs,.inr (.inl ⟨all_keepL hall,by rw [Array.size_setIfInBounds];exact hlsz,(getD_set_ne false (by decide)).trans hnx,Az,aq,cq,w5,n1,f20,fun h22=>hk73.out (by rw [getD_set_ne false (by decide)] at h22;exact h22),HRST.out⟩)⟩
     ·obtain ⟨Az,aq,cq,w5,n1,f20,hrest⟩:=hdone
      have hbq:=hbs
      obtain ⟨bz0,bz1,bz2,bz3,bz4,bz5,bz6,bz7,bz8⟩:=hbq
      have HRST:=hid hrest
      clear hdep hrest
      simp only [AF99,bz0,bz1,bz2,bz3,bz4,bz5,bz6,bz7,bz8,f20]
      go_simp
      exact hK.out _ _ ⟨upd x 74 (.int .i64 0),(by simp only [AF99,upd,reduceIte,Nat.reduceEqDiff,bz0,bz1,bz2,bz3,bz4,bz5,bz6,bz7,bz8,f20]),bsWb_upd _ _ _ (by decide) hbs,.inr (.inr ⟨all_keepL hall,by rw [Array.size_setIfInBounds];exact hlsz,Az,aq,cq,w5,n1,f20,HRST.out⟩)⟩
    ·simp only [List.getElem?_toArray,List.getElem?_cons_zero,List.getElem?_cons_succ,Option.some.injEq] at ho
     subst ho
     rcases h with h|⟨hall,hlsz,hnx,hdone⟩|⟨hall,hlsz,hdone⟩
     ·have hbq:=hbs
      obtain ⟨bz0,bz1,bz2,bz3,bz4,bz5,bz6,bz7,bz8⟩:=hbq
      have hd20:=dep_of hdep 20 (by kernel_rfl)
      obtain ⟨Az20,aq20,cq20,f20,e20⟩:=h.fc 20 hd20
      have hd21:=dep_of hdep 21 (by kernel_rfl)
      obtain ⟨Az21,aq21,cq21,f21,e21⟩:=h.fc 21 hd21
      have HALL:=hid (all_setL (k:=24) (m:=26) h.sz (by decide) (all_depL [0,1,2,3,4,5,6,7,8,9,10,11,12,13,14,15,16,17,18,19,20,21] hdep (by kernel_rfl)))
      have hA:Value.agg #[.slice Az20.aJ RD.jobs.length Az20.cJ,.slice Az20.aR RD.rel.length Az20.cR,.int .i64 RD.nxt,.slice Az20.aI RD.ins.length Az20.cI,.slice Az20.aT RD.tak.length Az20.cT,.slice Az20.aO RD.out.length Az20.cO,.slice Az20.aE RD.evs.length Az20.cE]=Value.agg #[.slice Az21.aJ RD.jobs.length Az21.cJ,.slice Az21.aR RD.rel.length Az21.cR,.int .i64 RD.nxt,.slice Az21.aI RD.ins.length Az21.cI,.slice Az21.aT RD.tak.length Az21.cT,.slice Az21.aO RD.out.length Az21.cO,.slice Az21.aE RD.evs.length Az21.cE]:=congrArg tup0 (f20.symm.trans e21)
      have f72:x 72=.agg #[.slice Az20.aJ RD.jobs.length Az20.cJ,.slice Az20.aR RD.rel.length Az20.cR,.int .i64 RD.nxt,.slice Az20.aI RD.ins.length Az20.cI,.slice Az20.aT RD.tak.length Az20.cT,.slice Az20.aO RD.out.length Az20.cO,.slice Az20.aE RD.evs.length Az20.cE]:=f21.trans hA.symm
      obtain ⟨n1,k1,k2,k3⟩:=e20
      have HK73:Hid ((lB.setIfInBounds 24 true).getD 22 false=true→x 73=.agg #[.slice aq20 (List.length RK) cq20]):=hid fun h22=>by
       rw [getD_set_ne false (by decide)] at h22
       obtain ⟨Az22,aq22,cq22,f22,e22⟩:=h.fc 22 h22
       exact f22.trans (congrArg tup1 (e22.symm.trans f20))
      have HNX:Hid ((lB.setIfInBounds 24 true).getD 25 false=false):=hid ((getD_set_ne false (by decide)).trans (h.un 25 (by decide)))
      have F20:=hid f20
      have F72:=hid f72
      have HSZ0:=hid h.sz
      have hB2:=hid h.b
      have hrow:=HRB.out.below (btrans (Below.refl _ _).drew h.b) lr
      have K1:=hid k1
      have K2:=hid k2
      have K3:=hid k3
      clear f21 hA e21 f20 k1 k2 k3 h hdep
      simp only [AF99,bz0,bz1,bz2,bz3,bz4,bz5,bz6,bz7,bz8,f72]
      refine step_wanted (by rfl) ?_
      refine wp_store_mid 46 _ _ rfl Br 0 #[.slice Az20.aJ RD.jobs.length Az20.cJ,.slice Az20.aR RD.rel.length Az20.cR,.int .i64 RD.nxt,.slice Az20.aI RD.ins.length Az20.cI,.slice Az20.aT RD.tak.length Az20.cT,.slice Az20.aO RD.out.length Az20.cO,.slice Az20.aE RD.evs.length Az20.cE] (by rfl) (by rfl) (show w2.there Br 0 7 from there_row hrow) (by kernel_rfl) (by kernel_rfl) ?_
      refine hK.out _ _ ⟨x,?_,hbs,.inr (.inl ⟨HALL.out,by rw [Array.size_setIfInBounds];exact HSZ0.out,HNX.out,Az20,aq20,cq20,w2,n1,F20.out,HK73.out,hB2.out,K1.out,K2.out,K3.out,rfl⟩)⟩
      simp only [Act.put,AF99,F72.out,bz0,bz1,bz2,bz3,bz4,bz5,bz6,bz7,bz8]
     ·rw [hall 24 (by decide)] at hl;cases hl
     ·rw [hall 24 (by decide)] at hl;cases hl
    ·simp only [List.getElem?_toArray,List.getElem?_cons_zero,List.getElem?_cons_succ,Option.some.injEq] at ho
     subst ho
     rcases h with h|⟨hall,hlsz,hnx,hdone⟩|⟨hall,hlsz,hdone⟩
     ·have:=dep_of hdep 24 (by kernel_rfl)
      rw [h.un 24 (by decide)] at this
      cases this
     ·obtain ⟨Az,aq,cq,w5,n1,f20,hk73,hB5,k1,k2,k3,hw2⟩:=hdone
      have hd22:=dep_of hdep 22 (by kernel_rfl)
      have f73:=hk73 hd22
      have hbq:=hbs
      obtain ⟨bz0,bz1,bz2,bz3,bz4,bz5,bz6,bz7,bz8⟩:=hbq
      have F73:=hid f73
      have F20:=hid f20
      have HK3:=hid k3
      have HALL:Hid (∀ i∈([0,1,2,3,4,5,6,7,8,9,10,11,12,13,14,15,16,17,18,19,20,21,22,24,25]:List Nat),(lB.setIfInBounds 25 true).getD i false=true):=hid (fun i hi=>by
       by_cases e:i=25
       ·subst e;exact getD_set_self (by omega)
       ·by_cases e2:i=22
        ·subst e2;exact getD_set_true hd22
        ·exact getD_set_true (hall i (by simp only [List.mem_cons,List.not_mem_nil,or_false] at hi ⊢;omega)))
      have hrow:RowAt w2 (w.heap.size+1) 72 [.slice aK (List.length k0) cK]:=by
       rw [hw2]
       exact (put7_ne w5 Br 0 _ _ _ _ _ _ _ (w.heap.size+1) (by have:=HSZ.out;omega)).trans (HR2.out.below (btrans hbc hB5) lr)
      clear f20 hk73 hdep k3
      simp only [AF99,bz0,bz1,bz2,bz3,bz4,bz5,bz6,bz7,bz8,f73]
      refine step_wanted (by rfl) ?_
      refine wp_store_mid 72 _ _ rfl (w.heap.size+1) 0 #[.slice aq (List.length RK) cq] (by rfl) (by rfl) (show w2.there (w.heap.size+1) 0 1 from there_row hrow) (by kernel_rfl) (by kernel_rfl) ?_
      refine hK.out _ _ ⟨x,?_,hbs,.inr (.inr ⟨HALL.out,by rw [Array.size_setIfInBounds];exact hlsz,Az,aq,cq,w5,n1,F20.out,hB5,k1,k2,HK3.out,by rw [hw2];rfl⟩)⟩
      simp only [Act.put,AF99,F73.out,bz0,bz1,bz2,bz3,bz4,bz5,bz6,bz7,bz8]
     ·rw [hall 25 (by decide)] at hl;cases hl
   case fin=>
    rintro lB aB w2 ⟨x,rfl,hbs,h|⟨_,_,hnx,_⟩|⟨_,_,Az,aq,cq,w5,n1,_,hB5,k1,k2,k3,rfl⟩⟩ hall
    ·have:=hall 24 (by decide)
     rw [h.un 24 (by decide)] at this
     cases this
    ·have:=hall 25 (by decide)
     rw [hnx] at this
     cases this
    obtain ⟨bz0,bz1,bz2,bz3,bz4,bz5,bz6,bz7,bz8⟩:=hbs
    have HX5:=hid (And.intro hB5 (And.intro k1 (And.intro k2 k3)))
    clear hB5 k1 k2 k3
    simp only [AF99,bz0,bz1,bz2,bz3,bz4,bz5,bz6,bz7,bz8]
    clear bz0 bz1 bz2 bz3 bz4 bz5 bz6 bz7 bz8
    go_wp2
    go_meet
    case rel=>exact ⟨Az,aq,cq,w5,n1,HX5.out.1,HX5.out.2.1,HX5.out.2.2.1,HX5.out.2.2.2,rfl⟩
  case rest=>
   obtain ⟨Az,aq,cq,w5,n1,hB5,hn1,hn1b,hev5,rfl⟩:=hcut
   have hn1':wc.heap.size≤n1:=hn1
   have hBrl:Br<wc.heap.size:=HRB.out.lt
   have hB5W:=btrans hbc hB5
   have hszW:W.heap.size=w.heap.size+3:=HSZ.out
   have rB5:=HRB.out.below (btrans (Below.refl _ _).drew hB5) lr
   have rB6:=put7_row rB5 0 (.slice Az.aJ RD.jobs.length Az.cJ) (.slice Az.aR RD.rel.length Az.cR) (.int .i64 RD.nxt) (.slice Az.aI RD.ins.length Az.cI) (.slice Az.aT RD.tak.length Az.cT) (.slice Az.aO RD.out.length Az.cO) (.slice Az.aE RD.evs.length Az.cE)
   have ne6:=fun k (h1:k≠Br) (h2:k≠w.heap.size+1)=>(heap_set_ne (put7 w5 Br 0 (.slice Az.aJ RD.jobs.length Az.cJ) (.slice Az.aR RD.rel.length Az.cR) (.int .i64 RD.nxt) (.slice Az.aI RD.ins.length Az.cI) (.slice Az.aT RD.tak.length Az.cT) (.slice Az.aO RD.out.length Az.cO) (.slice Az.aE RD.evs.length Az.cE)) (w.heap.size+1) 0 (.slice aq (List.length RK) cq) k h2).trans (put7_ne w5 Br 0 (.slice Az.aJ RD.jobs.length Az.cJ) (.slice Az.aR RD.rel.length Az.cR) (.int .i64 RD.nxt) (.slice Az.aI RD.ins.length Az.cI) (.slice Az.aT RD.tak.length Az.cT) (.slice Az.aO RD.out.length Az.cO) (.slice Az.aE RD.evs.length Az.cE) k h1)
   have R6B:=hid (show RowAt ((put7 w5 Br 0 (.slice Az.aJ RD.jobs.length Az.cJ) (.slice Az.aR RD.rel.length Az.cR) (.int .i64 RD.nxt) (.slice Az.aI RD.ins.length Az.cI) (.slice Az.aT RD.tak.length Az.cT) (.slice Az.aO RD.out.length Az.cO) (.slice Az.aE RD.evs.length Az.cE)).setCell ⟨w.heap.size+1,0,none⟩ (.slice aq (List.length RK) cq)) Br 46 [.slice Az.aJ RD.jobs.length Az.cJ,.slice Az.aR RD.rel.length Az.cR,.int .i64 RD.nxt,.slice Az.aI RD.ins.length Az.cI,.slice Az.aT RD.tak.length Az.cT,.slice Az.aO RD.out.length Az.cO,.slice Az.aE RD.evs.length Az.cE] from (heap_set_ne (put7 w5 Br 0 (.slice Az.aJ RD.jobs.length Az.cJ) (.slice Az.aR RD.rel.length Az.cR) (.int .i64 RD.nxt) (.slice Az.aI RD.ins.length Az.cI) (.slice Az.aT RD.tak.length Az.cT) (.slice Az.aO RD.out.length Az.cO) (.slice Az.aE RD.evs.length Az.cE)) (w.heap.size+1) 0 (.slice aq (List.length RK) cq) Br (by omega)).trans rB6)
   have R6K:=hid (rowAt_set1 (show RowAt (put7 w5 Br 0 (.slice Az.aJ RD.jobs.length Az.cJ) (.slice Az.aR RD.rel.length Az.cR) (.int .i64 RD.nxt) (.slice Az.aI RD.ins.length Az.cI) (.slice Az.aT RD.tak.length Az.cT) (.slice Az.aO RD.out.length Az.cO) (.slice Az.aE RD.evs.length Az.cE)) (w.heap.size+1) 72 [.slice aK (List.length k0) cK] from (put7_ne w5 Br 0 (.slice Az.aJ RD.jobs.length Az.cJ) (.slice Az.aR RD.rel.length Az.cR) (.int .i64 RD.nxt) (.slice Az.aI RD.ins.length Az.cI) (.slice Az.aT RD.tak.length Az.cT) (.slice Az.aO RD.out.length Az.cO) (.slice Az.aE RD.evs.length Az.cE) (w.heap.size+1) (by omega)).trans (HR2.out.below hB5W lr)) 0 (.slice aq (List.length RK) cq))
   have R6t:=hid (show RowAt _ w.heap.size 79 _ from (ne6 w.heap.size (by omega) (by omega)).trans (HR1.out.below hB5W lr))
   have R6r:=hid (show RowAt _ (w.heap.size+2) 72 _ from (ne6 (w.heap.size+2) (by omega) (by omega)).trans (HR3.out.below hB5W lr))
   have HB6:Hid (Below w.heap.size w ((put7 w5 Br 0 (.slice Az.aJ RD.jobs.length Az.cJ) (.slice Az.aR RD.rel.length Az.cR) (.int .i64 RD.nxt) (.slice Az.aI RD.ins.length Az.cI) (.slice Az.aT RD.tak.length Az.cT) (.slice Az.aO RD.out.length Az.cO) (.slice Az.aE RD.evs.length Az.cE)).setCell ⟨w.heap.size+1,0,none⟩ (.slice aq (List.length RK) cq))):=hid ((put7_below (btrans hwW hB5W) (show w.heap.size≤Br by omega) 0 _ _ _ _ _ _ _).setCell (p:=⟨w.heap.size+1,0,none⟩) (by show w.heap.size≤w.heap.size+1;omega) _)
   have hs6:((put7 w5 Br 0 (.slice Az.aJ RD.jobs.length Az.cJ) (.slice Az.aR RD.rel.length Az.cR) (.int .i64 RD.nxt) (.slice Az.aI RD.ins.length Az.cI) (.slice Az.aT RD.tak.length Az.cT) (.slice Az.aO RD.out.length Az.cO) (.slice Az.aE RD.evs.length Az.cE)).setCell ⟨w.heap.size+1,0,none⟩ (.slice aq (List.length RK) cq)).heap.size=w5.heap.size:=by simp [World.setCell,put7]
   have HS6:=hid hs6
   have HK6:Hid (∀ x,n1≤x→((put7 w5 Br 0 (.slice Az.aJ RD.jobs.length Az.cJ) (.slice Az.aR RD.rel.length Az.cR) (.int .i64 RD.nxt) (.slice Az.aI RD.ins.length Az.cI) (.slice Az.aT RD.tak.length Az.cT) (.slice Az.aO RD.out.length Az.cO) (.slice Az.aE RD.evs.length Az.cE)).setCell ⟨w.heap.size+1,0,none⟩ (.slice aq (List.length RK) cq)).heap[x]? = w5.heap[x]?):=hid fun x hx=>ne6 x (by omega) (by omega)
   have HEV:=hid hev5
   have HN1:=hid (And.intro hn1' (And.intro hn1b (And.intro hBrl hszW)))
   have HB5W:=hid hB5W
   generalize hw6:(put7 w5 Br 0 (.slice Az.aJ RD.jobs.length Az.cJ) (.slice Az.aR RD.rel.length Az.cR) (.int .i64 RD.nxt) (.slice Az.aI RD.ins.length Az.cI) (.slice Az.aT RD.tak.length Az.cT) (.slice Az.aO RD.out.length Az.cO) (.slice Az.aE RD.evs.length Az.cE)).setCell ⟨w.heap.size+1,0,none⟩ (.slice aq (List.length RK) cq)=w6 at *
   clear hw6 hB5 hn1 hn1b hev5 hn1' hBrl hB5W hszW rB5 rB6 ne6 hs6 CR1 HSB HRB HDI HBC HB3 HR1 HR2 HR3 HSZ
   have HD6:=hid (HH.out.keep HB6.out)
   have q7:=below_new w6 (.cells #[.int .i64 te,.int .i64 13,.int .i64 0,.int .i64 0] 92)
   have R7e:=hid (rowAt_new2 w6 w6.heap.size [.int .i64 te,.int .i64 13,.int .i64 0,.int .i64 0] 92 rfl)
   have HO7:Hid ((w6.alloc (.cells #[.int .i64 te,.int .i64 13,.int .i64 0,.int .i64 0] 92)).ownsRow n1 92 4 (.slice Az.aE RD.evs.length Az.cE) RD.evs.length (fE RD.evs)):=hid (owns_below (owns_agree HEV.out.1 (fun x hx=>HK6.out x (owns_ge HEV.out.1 x hx))) q7)
   have HCL:Hid (CellsIn (w6.alloc (.cells #[.int .i64 te,.int .i64 13,.int .i64 0,.int .i64 0] 92)) (some ⟨w6.heap.size,0,none⟩) (fE [(te,13,0,0)])):=hid fun _=>⟨_,0,rfl,fun j u hu=>by rw [Nat.zero_add];exact R7e.out.cell j u hu⟩
   have R7B:=hid (R6B.out.below q7 lr)
   have R7K:=hid (R6K.out.below q7 lr)
   have R7t:=hid (R6t.out.below q7 lr)
   have R7r:=hid (R6r.out.below q7 lr)
   have HB7:=hid (btrans HB6.out q7)
   have hs7:Hid ((w6.alloc (.cells #[.int .i64 te,.int .i64 13,.int .i64 0,.int .i64 0] 92)).heap.size=w6.heap.size+1):=hid (by simp)
   have HK7:Hid (∀ x,n1≤x→x<w5.heap.size→(w6.alloc (.cells #[.int .i64 te,.int .i64 13,.int .i64 0,.int .i64 0] 92)).heap[x]? = w5.heap[x]?):=hid fun x hx hlt=>(q7.block x (by have:=HS6.out;omega)).trans (HK6.out x hx)
   have r6:=R6B.out.cell 6 _ rfl
   have tt2:=R6t.out.cell 2 _ rfl
   clear q7
   obtain ⟨jJ,jR,jI,jT,jO,jE,kJ,kR,kI,kT,kO,kE⟩:=Az
   dsimp only at *
   go_wp2_with (at_builtin;refine wpList_appG rfl _ _ 44 92 rfl _ 4 32 Tryz.underlying44 Tryz.info92x rfl (by omega) n1 (.slice jE RD.evs.length kE) RD.evs.length (fE RD.evs) rfl HO7.out 1 (fE [(te,13,0,0)]) rfl (fE_one _) _ _ rfl HCL.out (by simp [maxLen];omega) (by omega) (by have:=HN1.out;have:=HS6.out;rw [hs7.out];omega) ?_)
   intro v8 w8 hown8 hgrow
   obtain ⟨a8',c8',rfl,-⟩:=owns_cells hown8
   rw [← fE_app] at hown8
   generalize World.alloc w6 _=w7 at *
   have hgt:∀ k,(Value.slice jE RD.evs.length kE).ownBlock=some k→n1≤k:=fun k hk=>owns_ge HO7.out k hk
   have HN:=HN1.out
   have hs7':=hs7.out
   have hs6':=HS6.out
   have R8B:=hid (show RowAt w8 Br 46 [.slice jJ RD.jobs.length kJ,.slice jR RD.rel.length kR,.int .i64 RD.nxt,.slice jI RD.ins.length kI,.slice jT RD.tak.length kT,.slice jO RD.out.length kO,.slice jE RD.evs.length kE] from (hgrow.block Br (by omega) (fun e=>by have:=hgt _ e.symm;omega)).trans R7B.out)
   have R8K:=hid (show RowAt w8 (w.heap.size+1) 72 [.slice aq (List.length RK) cq] from (hgrow.block (w.heap.size+1) (by omega) (fun e=>by have:=hgt _ e.symm;omega)).trans R7K.out)
   have R8t:=hid (show RowAt w8 w.heap.size 79 [.int .i64 (slot:Int),.int .i64 fr,.int .i64 te] from (hgrow.block w.heap.size (by omega) (fun e=>by have:=hgt _ e.symm;omega)).trans R7t.out)
   have R8r:=hid (show RowAt w8 (w.heap.size+2) 72 [.slice none 0 0] from (hgrow.block (w.heap.size+2) (by omega) (fun e=>by have:=hgt _ e.symm;omega)).trans R7r.out)
   have HB8:=hid (HB7.out.grown hgrow (by omega) (fun k hk=>by have:=hgt k hk;omega))
   have hown9:w8.ownsRow n1 92 4 (.slice a8' (RD.evs++[(te,13,0,0)]).length c8') (RD.evs++[(te,13,0,0)]).length (fE (RD.evs++[(te,13,0,0)])):=by rw [List.length_append];exact hown8
   have HTD:=hid (HEV.out.told (w6:=w7) (by omega) HK7.out hgrow hown9 (w8:=w8.setCell ⟨Br,6,none⟩ (.slice a8' (RD.evs.length+1) c8')) ⟨by simp [World.setCell],fun k hk hx=>heap_set_ne _ _ _ _ k (by omega)⟩)
   have y6:=R8B.out.cell 6 _ rfl
   have z6:=R8B.out.frozen 6
   have R9B:=hid (rowAt_set1 R8B.out 6 (.slice a8' (RD.evs.length+1) c8'))
   have R9K:=hid (show RowAt (w8.setCell ⟨Br,6,none⟩ (.slice a8' (RD.evs.length+1) c8')) (w.heap.size+1) 72 _ from (heap_set_ne w8 Br 6 _ (w.heap.size+1) (by omega)).trans R8K.out)
   have R9t:=hid (show RowAt (w8.setCell ⟨Br,6,none⟩ (.slice a8' (RD.evs.length+1) c8')) w.heap.size 79 _ from (heap_set_ne w8 Br 6 _ w.heap.size (by omega)).trans R8t.out)
   have R9r:=hid (show RowAt (w8.setCell ⟨Br,6,none⟩ (.slice a8' (RD.evs.length+1) c8')) (w.heap.size+2) 72 _ from (heap_set_ne w8 Br 6 _ (w.heap.size+2) (by omega)).trans R8r.out)
   have HB9:=hid (HB8.out.setCell (p:=⟨Br,6,none⟩) (by show w.heap.size≤Br;omega) (.slice a8' (RD.evs.length+1) c8'))
   have hn12:w.heap.size+2<n1:=by omega
   have hn13:w.heap.size≤n1:=by omega
   have hBrw:w.heap.size≤Br:=by omega
   have HXn:=hid (And.intro hn12 hn13)
   clear HN hs7' hs6' hgt hgrow hown8 hown9 R8B R8K R8t R8r HB8 R7B R7K R7t R7r R6B R6K R6t R6r HO7 HCL HEV HK6 HK7 HB6 HB7 HS6 HN1 R7e hs7 HB5W r6 tt2
   go_upto_region 5 with fail
   generalize hw9:w8.setCell ⟨Br,6,none⟩ (.slice a8' (RD.evs.length+1) c8')=w9 at *
   clear hw9 y6 z6
   have HM9:=hid (HH.out.keep HB9.out)
   have HWN:=hid (HH.out.win HB9.out hd (D:=shutE RD te) (A:=⟨jJ,jR,jI,jT,jO,a8',kJ,kR,kI,kT,kO,c8'⟩) HTD.out.1 HXn.out.2 fr (bx:=w.heap.size+2) (by omega) HXn.out.1 0 (.slice aq (List.length RK) cq))
   have HSS:Hid (∀ w',Below w9.heap.size w9 w'→w'.cell? ⟨K.gm,12,none⟩=some (.slice (some ⟨gd,0,none⟩) K.n K.n)∧w'.cell? ⟨K.gm,13,none⟩=some (.slice (some ⟨K.gl,0,none⟩) K.n K.n)∧w'.cell? ⟨Br,0,none⟩=some (.slice jJ RD.jobs.length kJ)∧w'.cell? ⟨Br,1,none⟩=some (.slice jR RD.rel.length kR)∧w'.cell? ⟨Br,2,none⟩=some (.int .i64 RD.nxt)∧w'.cell? ⟨Br,3,none⟩=some (.slice jI RD.ins.length kI)∧w'.cell? ⟨Br,4,none⟩=some (.slice jT RD.tak.length kT)∧w'.cell? ⟨Br,5,none⟩=some (.slice jO RD.out.length kO)∧w'.cell? ⟨Br,6,none⟩=some (.slice a8' (RD.evs.length+1) c8')∧w'.cell? ⟨w.heap.size,1,none⟩=some (.int .i64 fr)):=hid fun w' hb=>by
    have g:=fun i v hv=>((HM9.out.row).below hb lr).cell i v hv
    have b:=fun i v hv=>(R9B.out.below hb lr).cell i v hv
    exact ⟨g 12 _ rfl,g 13 _ rfl,b 0 _ rfl,b 1 _ rfl,b 2 _ rfl,b 3 _ rfl,b 4 _ rfl,b 5 _ rfl,b 6 _ rfl,(R9t.out.below hb lr).cell 1 _ rfl⟩
   obtain ⟨g12,g13,p0,p1,p2,p3,p4,p5,p6,p7⟩:=HSS.out _ (Below.refl _ _)
   obtain ⟨csr,hr1,hr2⟩:=HM9.out.drow
   obtain ⟨v0,c0⟩:∃ v,w9.cell? ⟨gd,d * 7,none⟩=some v:=⟨_,hr1.cell (d * 7) csr[d * 7] (by simp)⟩
   obtain ⟨v1,c1⟩:∃ v,w9.cell? ⟨gd,d * 7+1,none⟩=some v:=⟨_,hr1.cell (d * 7+1) csr[d * 7+1] (by simp)⟩
   obtain ⟨v2,c2⟩:∃ v,w9.cell? ⟨gd,d * 7+2,none⟩=some v:=⟨_,hr1.cell (d * 7+2) csr[d * 7+2] (by simp)⟩
   obtain ⟨v3,c3⟩:∃ v,w9.cell? ⟨gd,d * 7+3,none⟩=some v:=⟨_,hr1.cell (d * 7+3) csr[d * 7+3] (by simp)⟩
   obtain ⟨v4,c4⟩:∃ v,w9.cell? ⟨gd,d * 7+4,none⟩=some v:=⟨_,hr1.cell (d * 7+4) csr[d * 7+4] (by simp)⟩
   obtain ⟨v5,c5⟩:∃ v,w9.cell? ⟨gd,d * 7+5,none⟩=some v:=⟨_,hr1.cell (d * 7+5) csr[d * 7+5] (by simp)⟩
   obtain ⟨v6,c6⟩:∃ v,w9.cell? ⟨gd,d * 7+6,none⟩=some v:=⟨_,hr1.cell (d * 7+6) csr[d * 7+6] (by simp)⟩
   have z0:=hr1.frozen (d * 7)
   have z1:=hr1.frozen (d * 7+1)
   have z2:=hr1.frozen (d * 7+2)
   have z3:=hr1.frozen (d * 7+3)
   have z4:=hr1.frozen (d * 7+4)
   have z5:=hr1.frozen (d * 7+5)
   have z6:=hr1.frozen (d * 7+6)
   have cl:=HM9.out.last.cell d (.int .i64 (La d)) (by simp [ivs,hd])
   have zl:=HM9.out.last.frozen d
   have k1:=R9K.out.cell 0 _ rfl
   have r1:=R9r.out.cell 0 _ rfl
   have zr:=R9r.out.frozen 0
   have e1:¬ K.gm=gd:=nX1
   have e2:¬ K.gm=K.gl:=nX2
   have e3:¬ gd=K.gl:=nX3
   have e1':¬ gd=K.gm:=Ne.symm nX1
   have e2':¬ K.gl=K.gm:=Ne.symm nX2
   have e3':¬ K.gl=gd:=Ne.symm nX3
   have e4:¬ gd=Br:=by omega
   have e5:¬ K.gl=Br:=by omega
   have e6:¬ gd=w.heap.size:=by omega
   have e7:¬ K.gl=w.heap.size:=by omega
   have e8:¬ gd=w.heap.size+1:=by omega
   have e9:¬ K.gl=w.heap.size+1:=by omega
   have e10:¬ gd=w.heap.size+1+1:=by omega
   have e11:¬ K.gl=w.heap.size+1+1:=by omega
   rw [show (shutE RD te).evs.length=RD.evs.length+1 by simp [shutE]] at HWN
   dsimp only [shutE] at HWN
   clear hr1 hr2
   go_region_held3 (fun w'=>w'.cell? ⟨K.gm,12,none⟩=some (.slice (some ⟨gd,0,none⟩) K.n K.n)∧w'.cell? ⟨K.gm,13,none⟩=some (.slice (some ⟨K.gl,0,none⟩) K.n K.n)∧w'.cell? ⟨Br,0,none⟩=some (.slice jJ RD.jobs.length kJ)∧w'.cell? ⟨Br,1,none⟩=some (.slice jR RD.rel.length kR)∧w'.cell? ⟨Br,2,none⟩=some (.int .i64 RD.nxt)∧w'.cell? ⟨Br,3,none⟩=some (.slice jI RD.ins.length kI)∧w'.cell? ⟨Br,4,none⟩=some (.slice jT RD.tak.length kT)∧w'.cell? ⟨Br,5,none⟩=some (.slice jO RD.out.length kO)∧w'.cell? ⟨Br,6,none⟩=some (.slice a8' (RD.evs.length+1) c8')∧w'.cell? ⟨w.heap.size,1,none⟩=some (.int .i64 fr))
    (first|with_reducible exact HSS.out _ hbz9|go_keep) (fail)
   have HT2:=hid HTD.out.2
   go_wp2
   refine bodyPost_ret (v:=.agg #[.slice aq (List.length RK) cq]) ?res rfl ⟨⟨jJ,jR,jI,jT,jO,a8',kJ,kR,kI,kT,kO,c8'⟩,aq,⟨cq,rfl⟩,HWN.out.1.keep (Below.refl _ _).drew,HT2.out _ (HWN.out.2.2.trans (Ext.below (Below.refl _ _).drew)),HWN.out.2.1.trans (Ext.below (Below.refl _ _).drew)⟩
   case res=>simp [results,Tryz.results23,go_sem,r1]
end Go.Proofs.YtejhccmclanlmaaGreatDoor
