/- Bc -/
import Derived.Test.YtejhccmclanlmaaGreatDoorV33
set_option linter.all false
set_option maxRecDepth 100000
set_option maxHeartbeats 8000000
namespace Go.Proofs.YtejhccmclanlmaaGreatDoor
open Go.RowKit Go.Proofs.Tryz
theorem Zoy (K:MK) (w:World) (gd base:Nat) (Ds:Nat→Dom) (As:Nat→Yk) (La:Nat→Int) (slot d:Nat) (fr te:Int) (L:List Qg) (k0:KT) (aK:Option Addr) (cK:Nat) (D1:Dom) (h:MO K w gd base Ds As La) (hd:d<K.n) (hsl:slot<K.C.sl.length) (hsd:K.C.sl[slot].1=(d:Int)) (hac:d<K.S.acts.length) (hL:K.S.acts[d]=L) (hK:Z8 w aK k0)
  (CO:∀ wx,Below w.heap.size w wx→Calls prog 45 #[cv K.C K.B,.slice K.M.aR K.S.arr.length K.M.cR,.int .i64 slot,dv (Ds d) (As d),.int .i64 (La d),.int .i64 fr] wx fun e w'=>∃ A',e=.returned (.tuple #[dv D1 A',.int .i64 0])∧(∀ wy:World,(∀ x,wx.heap.size≤x→wy.heap[x]? = w'.heap[x]?)→Yz wy A' D1)∧Below wx.heap.size wx w')
  (CR:∀ wx A1 aL cL,Below w.heap.size w wx→Yz wx A1 D1→Yn wx aL L→Calls prog 46 #[cv K.C K.B,.int .i64 d,dv D1 A1,.agg #[.slice aK (List.length k0) cK],.slice aL L.length cL,.int .i64 fr,.int .i64 te] wx fun e w'=>∃ A' aK' cK',e=.returned (.tuple #[dv (Zbq K.C d L te (te-fr).toNat D1 k0 fr).1 A',.agg #[.slice aK' (List.length (Zbq K.C d L te (te-fr).toNat D1 k0 fr).2) cK'],.int .i64 0])∧Below wx.heap.size wx w'∧EvO wx.heap.size w' A' (Zbq K.C d L te (te-fr).toNat D1 k0 fr).1 aK' (Zbq K.C d L te (te-fr).toNat D1 k0 fr).2)
  (hev:(Zbq K.C d L te (te-fr).toNat D1 k0 fr).1.evs.length≤100000000000) :
  Calls prog 23 #[.pointer (some ⟨K.gm,0,none⟩),.agg #[.int .i64 slot,.int .i64 fr,.int .i64 te],.agg #[.slice aK (List.length k0) cK]] w fun e w'=>∃ (A':Yk) (aK':Option Addr),(∃ cK',e=.returned (.agg #[.slice aK' (List.length (Zbq K.C d L te (te-fr).toNat D1 k0 fr).2) cK']))∧MO K w' gd base (Zct Ds d (Znj (Zbq K.C d L te (te-fr).toNat D1 k0 fr).1 te)) (Zct As d A') (Zct La d fr)∧Z8 w' aK' (Zbq K.C d L te (te-fr).toNat D1 k0 fr).2∧Ext (MX K gd) w w':=by
 have dy:=hid CO;have dz:=hid CR;clear CO CR;generalize hR:Zbq K.C d L te (te-fr).toNat D1 k0 fr=RR at *
 clear hR;obtain ⟨RD,RK⟩:=RR;dsimp only at *
 have b0:=h.row;obtain ⟨b5,o5,e5,s0,s1⟩:=h.conf.sl slot hsl;obtain ⟨bA,oA,aL,cL,eA,ac,cp,gy,gz⟩:=h.scr.acts d hac;rw [hL] at ac cp gy gz;rw [hsd] at s0;obtain ⟨⟨d0,d1,d2,d3,d4,d5,d6⟩,-⟩:=h.at_ d hd;rw [Nat.zero_add] at d0 d1 d2 d3 d4 d5 d6;have la:w.cell? ⟨K.gl,d,none⟩=some (.int .i64 (La d)):=h.last.cell d _ (by simp [ivs,hd]);obtain ⟨fa,fb,fd⟩:=h.ne;have ia:=h.hi;have ib:=h.drow.lt;have h0:(slot:Int)<(K.C.sl.length:Int):=by omega
 have h3:(0:Int)≤(slot:Int):=by omega
 have ic:(d:Int)<(K.n:Int):=by omega
 have id:(d:Int)<(K.S.acts.length:Int):=by omega
 have ff:(0:Int)≤(d:Int):=by omega
 have l5:=h.cf.l5;have lA:=h.sc.lA;have cm:=fun i v hv=>h.row.cell i v hv
 have HH:=hid h;have h4:=hid cp;have ie:=hid hK;have fg:=e5;have fh:=eA;have fi:Hid (∀ w',Below w.heap.size w w'→Zf w' w.heap.size 79 [.int .i64 (slot:Int),.int .i64 fr,.int .i64 te]→Zf w' (w.heap.size+1) 72 [.slice aK (List.length k0) cK]→w'.cell? ⟨K.gm,0,none⟩=some (.int .i64 K.C.s)∧w'.cell? ⟨K.gm,1,none⟩=some (.int .i64 K.C.w)∧w'.cell? ⟨K.gm,2,none⟩=some (.int .i64 K.C.d)∧w'.cell? ⟨K.gm,3,none⟩=some (.int .i64 K.C.p)∧w'.cell? ⟨K.gm,4,none⟩=some (.int .i64 K.C.q)∧w'.cell? ⟨K.gm,5,none⟩=some (.slice (some ⟨b5,o5,none⟩) K.C.sl.length K.B.c5)∧w'.cell? ⟨K.gm,6,none⟩=some (.slice K.B.a6 K.C.ow.length K.B.c6)∧w'.cell? ⟨K.gm,7,none⟩=some (.slice K.B.a7 K.C.ch.length K.B.c7)∧w'.cell? ⟨K.gm,8,none⟩=some (.slice K.B.a8 K.C.ta.length K.B.c8)∧w'.cell? ⟨K.gm,9,none⟩=some (.slice (some ⟨bA,oA,none⟩) K.S.acts.length K.M.cA)∧w'.cell? ⟨K.gm,10,none⟩=some (.slice K.M.aR K.S.arr.length K.M.cR)∧w'.cell? ⟨K.gm,11,none⟩=some (.int .i64 K.S.rounds)∧w'.cell? ⟨K.gm,12,none⟩=some (.slice (some ⟨gd,0,none⟩) K.n K.n)∧w'.cell? ⟨K.gm,13,none⟩=some (.slice (some ⟨K.gl,0,none⟩) K.n K.n)∧w'.cell? ⟨gd,d*7,none⟩=some (.slice (As d).aJ (Ds d).jobs.length (As d).cJ)∧w'.cell? ⟨gd,d*7+1,none⟩=some (.slice (As d).aR (Ds d).rel.length (As d).cR)∧w'.cell? ⟨gd,d*7+2,none⟩=some (.int .i64 (Ds d).nxt)∧w'.cell? ⟨gd,d*7+3,none⟩=some (.slice (As d).aI (Ds d).ins.length (As d).cI)∧w'.cell? ⟨gd,d*7+4,none⟩=some (.slice (As d).aT (Ds d).tak.length (As d).cT)∧w'.cell? ⟨gd,d*7+5,none⟩=some (.slice (As d).aO (Ds d).out.length (As d).cO)∧w'.cell? ⟨gd,d*7+6,none⟩=some (.slice (As d).aE (Ds d).evs.length (As d).cE)∧w'.cell? ⟨K.gl,d,none⟩=some (.int .i64 (La d))∧w'.cell? ⟨b5,o5+slot*2,none⟩=some (.int .i64 (d:Int))∧w'.cell? ⟨bA,oA+d,none⟩=some (.slice aL L.length cL)∧w'.cell? ⟨w.heap.size,0,none⟩=some (.int .i64 (slot:Int))∧w'.cell? ⟨w.heap.size,1,none⟩=some (.int .i64 fr)∧w'.cell? ⟨w.heap.size,2,none⟩=some (.int .i64 te)∧w'.cell? ⟨w.heap.size+1,0,none⟩=some (.slice aK (List.length k0) cK)):=hid fun w' hb r1 r2=>by
  have g:=fun i v hv=>(b0.below hb lr).cell i v hv
  have b:=fun {p:Addr} {v:Value} (hc:w.cell? p=some v)=>Zg hb hc lr
  refine ⟨g 0 _ rfl,g 1 _ rfl,g 2 _ rfl,g 3 _ rfl,g 4 _ rfl,?_,g 6 _ rfl,g 7 _ rfl,g 8 _ rfl,?_,g 10 _ rfl,g 11 _ rfl,g 12 _ rfl,g 13 _ rfl,b d0,b d1,b d2,b d3,b d4,b d5,b d6,b la,b s0,b ac,r1.cell 0 _ rfl,r1.cell 1 _ rfl,r1.cell 2 _ rfl,r2.cell 0 _ rfl⟩
  ·rw [← fg];exact g 5 _ rfl
  ·rw [← fh];exact g 9 _ rfl
 have bn:(((w.alloc (.cells #[.int .i64 (slot:Int),.int .i64 fr,.int .i64 te] 79)).alloc (.cells #[.slice aK (List.length k0) cK] 72)).alloc (.cells #[.slice none 0 0] 72)).heap.size=w.heap.size+3:=by simp
 have cr:Below w.heap.size w (((w.alloc (.cells #[.int .i64 (slot:Int),.int .i64 fr,.int .i64 te] 79)).alloc (.cells #[.slice aK (List.length k0) cK] 72)).alloc (.cells #[.slice none 0 0] 72)):=Zb (Za _ _) (Zb (Za _ _) (Za _ _));have q2:=Za (w.alloc (.cells #[.int .i64 (slot:Int),.int .i64 fr,.int .i64 te] 79)) (.cells #[.slice aK (List.length k0) cK] 72);have q3:=Za ((w.alloc (.cells #[.int .i64 (slot:Int),.int .i64 fr,.int .i64 te] 79)).alloc (.cells #[.slice aK (List.length k0) cK] 72)) (.cells #[.slice none 0 0] 72);have R1:Zf (((w.alloc (.cells #[.int .i64 (slot:Int),.int .i64 fr,.int .i64 te] 79)).alloc (.cells #[.slice aK (List.length k0) cK] 72)).alloc (.cells #[.slice none 0 0] 72)) w.heap.size 79 [.int .i64 (slot:Int),.int .i64 fr,.int .i64 te]:=((Zc w w.heap.size [.int .i64 (slot:Int),.int .i64 fr,.int .i64 te] 79 rfl).below q2 lr).below q3 lr;have R2:Zf (((w.alloc (.cells #[.int .i64 (slot:Int),.int .i64 fr,.int .i64 te] 79)).alloc (.cells #[.slice aK (List.length k0) cK] 72)).alloc (.cells #[.slice none 0 0] 72)) (w.heap.size+1) 72 [.slice aK (List.length k0) cK]:=(Zc (w.alloc (.cells #[.int .i64 (slot:Int),.int .i64 fr,.int .i64 te] 79)) (w.heap.size+1) [.slice aK (List.length k0) cK] 72 (by simp)).below q3 lr;have R3:Zf (((w.alloc (.cells #[.int .i64 (slot:Int),.int .i64 fr,.int .i64 te] 79)).alloc (.cells #[.slice aK (List.length k0) cK] 72)).alloc (.cells #[.slice none 0 0] 72)) (w.heap.size+2) 72 [.slice none 0 0]:=Zc ((w.alloc (.cells #[.int .i64 (slot:Int),.int .i64 fr,.int .i64 te] 79)).alloc (.cells #[.slice aK (List.length k0) cK] 72)) (w.heap.size+2) [.slice none 0 0] 72 (by simp);clear q2 q3 h b0 cp hK s0 s1 d0 d1 d2 d3 d4 d5 d6 la ac cm fg fh;have HS:Hid (∀ w',Below (((w.alloc (.cells #[.int .i64 (slot:Int),.int .i64 fr,.int .i64 te] 79)).alloc (.cells #[.slice aK (List.length k0) cK] 72)).alloc (.cells #[.slice none 0 0] 72)).heap.size (((w.alloc (.cells #[.int .i64 (slot:Int),.int .i64 fr,.int .i64 te] 79)).alloc (.cells #[.slice aK (List.length k0) cK] 72)).alloc (.cells #[.slice none 0 0] 72)) w'→w'.cell? ⟨K.gm,0,none⟩=some (.int .i64 K.C.s)∧w'.cell? ⟨K.gm,1,none⟩=some (.int .i64 K.C.w)∧w'.cell? ⟨K.gm,2,none⟩=some (.int .i64 K.C.d)∧w'.cell? ⟨K.gm,3,none⟩=some (.int .i64 K.C.p)∧w'.cell? ⟨K.gm,4,none⟩=some (.int .i64 K.C.q)∧w'.cell? ⟨K.gm,5,none⟩=some (.slice (some ⟨b5,o5,none⟩) K.C.sl.length K.B.c5)∧w'.cell? ⟨K.gm,6,none⟩=some (.slice K.B.a6 K.C.ow.length K.B.c6)∧w'.cell? ⟨K.gm,7,none⟩=some (.slice K.B.a7 K.C.ch.length K.B.c7)∧w'.cell? ⟨K.gm,8,none⟩=some (.slice K.B.a8 K.C.ta.length K.B.c8)∧w'.cell? ⟨K.gm,9,none⟩=some (.slice (some ⟨bA,oA,none⟩) K.S.acts.length K.M.cA)∧w'.cell? ⟨K.gm,10,none⟩=some (.slice K.M.aR K.S.arr.length K.M.cR)∧w'.cell? ⟨K.gm,11,none⟩=some (.int .i64 K.S.rounds)∧w'.cell? ⟨K.gm,12,none⟩=some (.slice (some ⟨gd,0,none⟩) K.n K.n)∧w'.cell? ⟨K.gm,13,none⟩=some (.slice (some ⟨K.gl,0,none⟩) K.n K.n)∧w'.cell? ⟨gd,d*7,none⟩=some (.slice (As d).aJ (Ds d).jobs.length (As d).cJ)∧w'.cell? ⟨gd,d*7+1,none⟩=some (.slice (As d).aR (Ds d).rel.length (As d).cR)∧w'.cell? ⟨gd,d*7+2,none⟩=some (.int .i64 (Ds d).nxt)∧w'.cell? ⟨gd,d*7+3,none⟩=some (.slice (As d).aI (Ds d).ins.length (As d).cI)∧w'.cell? ⟨gd,d*7+4,none⟩=some (.slice (As d).aT (Ds d).tak.length (As d).cT)∧w'.cell? ⟨gd,d*7+5,none⟩=some (.slice (As d).aO (Ds d).out.length (As d).cO)∧w'.cell? ⟨gd,d*7+6,none⟩=some (.slice (As d).aE (Ds d).evs.length (As d).cE)∧w'.cell? ⟨K.gl,d,none⟩=some (.int .i64 (La d))∧w'.cell? ⟨b5,o5+slot*2,none⟩=some (.int .i64 (d:Int))∧w'.cell? ⟨bA,oA+d,none⟩=some (.slice aL L.length cL)∧w'.cell? ⟨w.heap.size,0,none⟩=some (.int .i64 (slot:Int))∧w'.cell? ⟨w.heap.size,1,none⟩=some (.int .i64 fr)∧w'.cell? ⟨w.heap.size,2,none⟩=some (.int .i64 te)∧w'.cell? ⟨w.heap.size+1,0,none⟩=some (.slice aK (List.length k0) cK)):=hid fun w' hb=>fi.out w' (Zb cr hb) (R1.below hb lr) (R2.below hb lr)
 have z:=HS.out _ br;clear fi;obtain ⟨m0,m1,m2,m3,m4,m5,m6,m7,m8,m9,bb,bc,bd,be,d0,d1,d2,d3,d4,d5,d6,la,s0,ac,t0,t1,t2,kc⟩:=z;have fj:=hid R1;have cs:=hid R2;have fk:=hid R3;have fl:=hid cr;have ct:=hid bn;clear R1 R2 R3 cr bn;go_enter func23,ntmps23;go_upto_region 1 with fail;generalize World.alloc (World.alloc (World.alloc w _) _) _=W at *
 have ca:Below w.heap.size w W:=fl.out;go_quiet (fail)
 have b8:Below W.heap.size W (W.drewN nq):=⟨rfl,rfl,rfl,lr,fun _ _=>rfl⟩
 generalize hWd:W.drewN nq=Wd at *
 have bg:Hid (Wd.heap.size=W.heap.size):=hid (by rw [← hWd];rfl);clear hWd;obtain ⟨m0,m1,m2,m3,m4,m5,m6,m7,m8,m9,bb,bc,bd,be,d0,d1,d2,d3,d4,d5,d6,la,s0,ac,t0,t1,t2,kc⟩:=HS.out _ b8;have cb:Below W.heap.size W Wd.drew:=b8.drew;have b9:Below W.heap.size W (Wd.alloc (.cells #[.slice none 0 0,.slice none 0 0,.int .i64 0,.slice none 0 0,.slice none 0 0,.slice none 0 0,.slice none 0 0] 46)).drew:=(b8.trans ((Za _ _).mono (Nat.le_of_eq bg.out.symm))).drew;have RZ:Hid (Zf (Wd.alloc (.cells #[.slice none 0 0,.slice none 0 0,.int .i64 0,.slice none 0 0,.slice none 0 0,.slice none 0 0,.slice none 0 0] 46)).drew Wd.heap.size 46 [.slice none 0 0,.slice none 0 0,.int .i64 0,.slice none 0 0,.slice none 0 0,.slice none 0 0,.slice none 0 0]):=hid (Zc Wd Wd.heap.size [.slice none 0 0,.slice none 0 0,.int .i64 0,.slice none 0 0,.slice none 0 0,.slice none 0 0,.slice none 0 0] 46 rfl);have cu:Hid (∀ wx,Below W.heap.size W wx→Calls prog 45 #[.agg #[.int .i64 K.C.s,.int .i64 K.C.w,.int .i64 K.C.d,.int .i64 K.C.p,.int .i64 K.C.q,.slice (some ⟨b5,o5,none⟩) K.C.sl.length K.B.c5,.slice K.B.a6 K.C.ow.length K.B.c6,.slice K.B.a7 K.C.ch.length K.B.c7,.slice K.B.a8 K.C.ta.length K.B.c8],.slice K.M.aR K.S.arr.length K.M.cR,.int .i64 (slot:Int),.agg #[.slice (As d).aJ (Ds d).jobs.length (As d).cJ,.slice (As d).aR (Ds d).rel.length (As d).cR,.int .i64 (Ds d).nxt,.slice (As d).aI (Ds d).ins.length (As d).cI,.slice (As d).aT (Ds d).tak.length (As d).cT,.slice (As d).aO (Ds d).out.length (As d).cO,.slice (As d).aE (Ds d).evs.length (As d).cE],.int .i64 (La d),.int .i64 fr] wx fun e w'=>∃ A',e=.returned (.tuple #[.agg #[.slice A'.aJ D1.jobs.length A'.cJ,.slice A'.aR D1.rel.length A'.cR,.int .i64 D1.nxt,.slice A'.aI D1.ins.length A'.cI,.slice A'.aT D1.tak.length A'.cT,.slice A'.aO D1.out.length A'.cO,.slice A'.aE D1.evs.length A'.cE],.int .i64 0])∧(∀ wy:World,(∀ x,wx.heap.size≤x→wy.heap[x]? = w'.heap[x]?)→Yz wy A' D1)∧Below wx.heap.size wx w'):=hid fun wx hb=>by
  have:=dy.out wx (Zb ca hb)
  dsimp only [cv,cl,dv,dl] at this;rw [e5] at this;exact this
 clear dy b8;go_upto_region 2 with fail;go_cut [8] (fun t wx=>∃ Br A1,t=.pointer (some ⟨Br,0,none⟩)∧Below W.heap.size W wx∧Zf wx Br 46 [.slice A1.aJ D1.jobs.length A1.cJ,.slice A1.aR D1.rel.length A1.cR,.int .i64 D1.nxt,.slice A1.aI D1.ins.length A1.cI,.slice A1.aT D1.tak.length A1.cT,.slice A1.aO D1.out.length A1.cO,.slice A1.aE D1.evs.length A1.cE]∧Yz wx A1 D1∧W.heap.size≤Br)
 case first=>
  go_region_held3 (fun w'=>w'.cell? ⟨K.gm,0,none⟩=some (.int .i64 K.C.s)∧w'.cell? ⟨K.gm,1,none⟩=some (.int .i64 K.C.w)∧w'.cell? ⟨K.gm,2,none⟩=some (.int .i64 K.C.d)∧w'.cell? ⟨K.gm,3,none⟩=some (.int .i64 K.C.p)∧w'.cell? ⟨K.gm,4,none⟩=some (.int .i64 K.C.q)∧w'.cell? ⟨K.gm,5,none⟩=some (.slice (some ⟨b5,o5,none⟩) K.C.sl.length K.B.c5)∧w'.cell? ⟨K.gm,6,none⟩=some (.slice K.B.a6 K.C.ow.length K.B.c6)∧w'.cell? ⟨K.gm,7,none⟩=some (.slice K.B.a7 K.C.ch.length K.B.c7)∧w'.cell? ⟨K.gm,8,none⟩=some (.slice K.B.a8 K.C.ta.length K.B.c8)∧w'.cell? ⟨K.gm,9,none⟩=some (.slice (some ⟨bA,oA,none⟩) K.S.acts.length K.M.cA)∧w'.cell? ⟨K.gm,10,none⟩=some (.slice K.M.aR K.S.arr.length K.M.cR)∧w'.cell? ⟨K.gm,11,none⟩=some (.int .i64 K.S.rounds)∧w'.cell? ⟨K.gm,12,none⟩=some (.slice (some ⟨gd,0,none⟩) K.n K.n)∧w'.cell? ⟨K.gm,13,none⟩=some (.slice (some ⟨K.gl,0,none⟩) K.n K.n)∧w'.cell? ⟨gd,d*7,none⟩=some (.slice (As d).aJ (Ds d).jobs.length (As d).cJ)∧w'.cell? ⟨gd,d*7+1,none⟩=some (.slice (As d).aR (Ds d).rel.length (As d).cR)∧w'.cell? ⟨gd,d*7+2,none⟩=some (.int .i64 (Ds d).nxt)∧w'.cell? ⟨gd,d*7+3,none⟩=some (.slice (As d).aI (Ds d).ins.length (As d).cI)∧w'.cell? ⟨gd,d*7+4,none⟩=some (.slice (As d).aT (Ds d).tak.length (As d).cT)∧w'.cell? ⟨gd,d*7+5,none⟩=some (.slice (As d).aO (Ds d).out.length (As d).cO)∧w'.cell? ⟨gd,d*7+6,none⟩=some (.slice (As d).aE (Ds d).evs.length (As d).cE)∧w'.cell? ⟨K.gl,d,none⟩=some (.int .i64 (La d))∧w'.cell? ⟨b5,o5+slot*2,none⟩=some (.int .i64 (d:Int))∧w'.cell? ⟨bA,oA+d,none⟩=some (.slice aL L.length cL)∧w'.cell? ⟨w.heap.size,0,none⟩=some (.int .i64 (slot:Int))∧w'.cell? ⟨w.heap.size,1,none⟩=some (.int .i64 fr)∧w'.cell? ⟨w.heap.size,2,none⟩=some (.int .i64 te)∧w'.cell? ⟨w.heap.size+1,0,none⟩=some (.slice aK (List.length k0) cK))
   (first|with_reducible exact HS.out _ hB2|with_reducible exact HS.out _ (hB2a _)|with_reducible exact HS.out _ (hB2c _ _ _ _ _ _ _)|with_reducible exact HS.out _ cb|with_reducible exact HS.out _ b9|go_keep)
   (first
    | (go_at_call 45;with_reducible refine Calls.mono (cu.out _ cb) ?_;rintro e w2 ⟨A1,rfl,bh,cc⟩;obtain ⟨jJ,jR,jI,jT,jO,jE,kJ,kR,kI,kT,kO,kE⟩:=A1;dsimp only at *;have hB2:=Zb cb cc;have cw:=hid bh;have hB2a:∀ o,Below W.heap.size W (w2.alloc o):=fun o=>Zb hB2 (Za _ o);clear bh)
    | (go_at_call 45;with_reducible refine Calls.mono (cu.out _ b9) ?_;rintro e w2 ⟨A1,rfl,bh,cc⟩;obtain ⟨jJ,jR,jI,jT,jO,jE,kJ,kR,kI,kT,kO,kE⟩:=A1;dsimp only at *;have hB2:=Zb b9 cc;have cw:=hid bh;have HZ:=hid (RZ.out.below cc lr);have u0:=HZ.out.cell 0 _ rfl;have u1:=HZ.out.cell 1 _ rfl;have u2:=HZ.out.cell 2 _ rfl;have u3:=HZ.out.cell 3 _ rfl;have u4:=HZ.out.cell 4 _ rfl;have u5:=HZ.out.cell 5 _ rfl;have u6:=HZ.out.cell 6 _ rfl;have f0:=HZ.out.frozen 0;have f1:=HZ.out.frozen 1;have f2:=HZ.out.frozen 2;have f3:=HZ.out.frozen 3;have f4:=HZ.out.frozen 4;have f5:=HZ.out.frozen 5;have f6:=HZ.out.frozen 6;have hB2c:∀ v0 v1 v2 v3 v4 v5 v6,Below W.heap.size W (((((((w2.setCell ⟨Wd.heap.size,0,none⟩ v0).setCell ⟨Wd.heap.size,1,none⟩ v1).setCell ⟨Wd.heap.size,2,none⟩ v2).setCell ⟨Wd.heap.size,3,none⟩ v3).setCell ⟨Wd.heap.size,4,none⟩ v4).setCell ⟨Wd.heap.size,5,none⟩ v5).setCell ⟨Wd.heap.size,6,none⟩ v6):=fun v0 v1 v2 v3 v4 v5 v6=>Zkn hB2 (Nat.le_of_eq bg.out.symm) v0 v1 v2 v3 v4 v5 v6;clear bh))
  all_goals
   go_wp2;go_meet
   case rel=>
    first
     | (have hM:=hB2a;exact ⟨w2.heap.size,⟨jJ,jR,jI,jT,jO,jE,kJ,kR,kI,kT,kO,kE⟩,rfl,hM _,Zc w2 _ [.slice jJ D1.jobs.length kJ,.slice jR D1.rel.length kR,.int .i64 D1.nxt,.slice jI D1.ins.length kI,.slice jT D1.tak.length kT,.slice jO D1.out.length kO,.slice jE D1.evs.length kE] 46 rfl,(cw.out w2 (fun _ _=>rfl)).keep (Za _ _),hB2.size⟩)
     | (have hM:=hB2c;exact ⟨Wd.heap.size,⟨jJ,jR,jI,jT,jO,jE,kJ,kR,kI,kT,kO,kE⟩,rfl,hM _ _ _ _ _ _ _,Zjh HZ.out 0 _ _ _ _ _ _ _,cw.out _ (fun x hx=>Zd1 w2 Wd.heap.size 0 _ _ _ _ _ _ _ x (by simp at hx;omega)),Nat.le_of_eq bg.out.symm⟩)
 case rest=>
  obtain ⟨Br,A1,rfl,bi,fm,fn,ig⟩:=hcut;have bo:=hid fm;have fo:=hid fn;have b7:Below W.heap.size W wc.drew:=bi.drew;have h5:=hid bi;have fp:Hid (∀ w',Below wc.drew.heap.size wc.drew w'→w'.cell? ⟨Br,0+0,none⟩=some (.slice A1.aJ D1.jobs.length A1.cJ)∧w'.cell? ⟨Br,0+1,none⟩=some (.slice A1.aR D1.rel.length A1.cR)∧w'.cell? ⟨Br,0+2,none⟩=some (.int .i64 D1.nxt)∧w'.cell? ⟨Br,0+3,none⟩=some (.slice A1.aI D1.ins.length A1.cI)∧w'.cell? ⟨Br,0+4,none⟩=some (.slice A1.aT D1.tak.length A1.cT)∧w'.cell? ⟨Br,0+5,none⟩=some (.slice A1.aO D1.out.length A1.cO)∧w'.cell? ⟨Br,0+6,none⟩=some (.slice A1.aE D1.evs.length A1.cE)):=hid fun w' hb=>by
   have g:=fun i v hv=>(bo.out.below (Zb br.drew hb) lr).cell i v hv
   exact ⟨g 0 _ rfl,g 1 _ rfl,g 2 _ rfl,g 3 _ rfl,g 4 _ rfl,g 5 _ rfl,g 6 _ rfl⟩
  have fq:Hid (∀ wx,Below wc.drew.heap.size wc.drew wx→Calls prog 46 #[.agg #[.int .i64 K.C.s,.int .i64 K.C.w,.int .i64 K.C.d,.int .i64 K.C.p,.int .i64 K.C.q,.slice (some ⟨b5,o5,none⟩) K.C.sl.length K.B.c5,.slice K.B.a6 K.C.ow.length K.B.c6,.slice K.B.a7 K.C.ch.length K.B.c7,.slice K.B.a8 K.C.ta.length K.B.c8],.int .i64 (d:Int),.agg #[.slice A1.aJ D1.jobs.length A1.cJ,.slice A1.aR D1.rel.length A1.cR,.int .i64 D1.nxt,.slice A1.aI D1.ins.length A1.cI,.slice A1.aT D1.tak.length A1.cT,.slice A1.aO D1.out.length A1.cO,.slice A1.aE D1.evs.length A1.cE],.agg #[.slice aK (List.length k0) cK],.slice aL L.length cL,.int .i64 fr,.int .i64 te] wx fun e w'=>∃ A' aK' cK',e=.returned (.tuple #[.agg #[.slice A'.aJ RD.jobs.length A'.cJ,.slice A'.aR RD.rel.length A'.cR,.int .i64 RD.nxt,.slice A'.aI RD.ins.length A'.cI,.slice A'.aT RD.tak.length A'.cT,.slice A'.aO RD.out.length A'.cO,.slice A'.aE RD.evs.length A'.cE],.agg #[.slice aK' (List.length RK) cK'],.int .i64 0])∧Below wx.heap.size wx w'∧EvO wx.heap.size w' A' RD aK' RK):=hid fun wx hb=>by
   have:=dz.out wx A1 aL cL (Zb ca (Zb b7 hb)) (fo.out.keep (Zb br.drew hb)) (h4.out.keep (Zb ca (Zb b7 hb)))
   dsimp only [cv,cl,dv,dl] at this;rw [e5] at this;exact this
  clear dz fm fn m0 m1 m2 m3 m4 m5 m6 m7 m8 m9 bb bc bd be d0 d1 d2 d3 d4 d5 d6 la s0 ac t0 t1 t2 kc bi cu cb b9 RZ;go_upto_region 3 with fail;go_cut [] from 9 (fun wx=>∃ (Az:Yk) (aq:Option Addr) (cq:Nat) (w5:World) (n1:Nat),Below wc.drew.heap.size wc.drew w5∧wc.drew.heap.size≤n1∧n1≤w5.heap.size∧Zrk n1 w5 Az RD aq RK∧wx=(Zc7 w5 Br 0 (.slice Az.aJ RD.jobs.length Az.cJ) (.slice Az.aR RD.rel.length Az.cR) (.int .i64 RD.nxt) (.slice Az.aI RD.ins.length Az.cI) (.slice Az.aT RD.tak.length Az.cT) (.slice Az.aO RD.out.length Az.cO) (.slice Az.aE RD.evs.length Az.cE)).setCell ⟨w.heap.size+1,0,none⟩ (.slice aq (List.length RK) cq))
  case first=>
   refine wp_region_any (by kernel_rfl) ?_;change wpAny _ _ _ _ _ _ _ (World.drew _);refine Zfg (fun lB aB w'=>∃ x,aB=J1 x∧Yag K d slot w.heap.size fr te b5 o5 bA oA aK (List.length k0) cK aL L.length cL Br D1 A1 RD RK x∧(RPg (Yac K d slot w.heap.size fr te b5 o5 bA oA aK (List.length k0) cK aL L.length cL Br D1 A1 RD RK wc.drew.heap.size) Zai 24 26 wc.drew lB x w'∨((∀ i∈([0,1,2,3,4,5,6,7,8,9,10,11,12,13,14,15,16,17,18,19,20,21,24]:List Nat),lB.getD i false=true)∧lB.size=26∧lB.getD 25 false=false∧∃ (Az:Yk) (aq:Option Addr) (cq:Nat) (w5:World) (n1:Nat),x 51=.tuple #[.agg #[.slice Az.aJ RD.jobs.length Az.cJ,.slice Az.aR RD.rel.length Az.cR,.int .i64 RD.nxt,.slice Az.aI RD.ins.length Az.cI,.slice Az.aT RD.tak.length Az.cT,.slice Az.aO RD.out.length Az.cO,.slice Az.aE RD.evs.length Az.cE],.agg #[.slice aq (List.length RK) cq],.int .i64 0]∧(lB.getD 22 false=true→x 73=.agg #[.slice aq (List.length RK) cq])∧Below wc.drew.heap.size wc.drew w5∧wc.drew.heap.size≤n1∧n1≤w5.heap.size∧Zrk n1 w5 Az RD aq RK∧w'=Zc7 w5 Br 0 (.slice Az.aJ RD.jobs.length Az.cJ) (.slice Az.aR RD.rel.length Az.cR) (.int .i64 RD.nxt) (.slice Az.aI RD.ins.length Az.cI) (.slice Az.aT RD.tak.length Az.cT) (.slice Az.aO RD.out.length Az.cO) (.slice Az.aE RD.evs.length Az.cE))∨((∀ i∈([0,1,2,3,4,5,6,7,8,9,10,11,12,13,14,15,16,17,18,19,20,21,22,24,25]:List Nat),lB.getD i false=true)∧lB.size=26∧∃ (Az:Yk) (aq:Option Addr) (cq:Nat) (w5:World) (n1:Nat),x 51=.tuple #[.agg #[.slice Az.aJ RD.jobs.length Az.cJ,.slice Az.aR RD.rel.length Az.cR,.int .i64 RD.nxt,.slice Az.aI RD.ins.length Az.cI,.slice Az.aT RD.tak.length Az.cT,.slice Az.aO RD.out.length Az.cO,.slice Az.aE RD.evs.length Az.cE],.agg #[.slice aq (List.length RK) cq],.int .i64 0]∧Below wc.drew.heap.size wc.drew w5∧wc.drew.heap.size≤n1∧n1≤w5.heap.size∧Zrk n1 w5 Az RD aq RK∧w'=(Zc7 w5 Br 0 (.slice Az.aJ RD.jobs.length Az.cJ) (.slice Az.aR RD.rel.length Az.cR) (.int .i64 RD.nxt) (.slice Az.aI RD.ins.length Az.cI) (.slice Az.aT RD.tak.length Az.cT) (.slice Az.aO RD.out.length Az.cO) (.slice Az.aE RD.evs.length Az.cE)).setCell ⟨w.heap.size+1,0,none⟩ (.slice aq (List.length RK) cq)))) (by kernel_rfl) ?step ?fin _ _ _ _ rfl (by decide) ?start
   case start=>exact Zj9 _ rfl ⟨⟨rfl,rfl,rfl,rfl,rfl,rfl,rfl,rfl,rfl⟩,.inl ⟨rfl,br,fun i hi=>by simp [Array.getD_eq_getD_getElem?,Array.getElem?_replicate];split<;>simp,fun i h=>absurd h (by simp [Array.getD_eq_getD_getElem?,Array.getElem?_replicate];split<;>simp),fun i h=>absurd h (by simp [Array.getD_eq_getD_getElem?,Array.getElem?_replicate];split<;>simp)⟩⟩
   case step=>
    intro lB aB w2 iB oB h ho hl a2 K' hK;have hi:iB<26:=by
     have:=(Array.getElem?_eq_some_iff.1 ho).1
     simpa using this
    obtain ⟨x,rfl,ai,h⟩:=h;have h6:iB=0∨iB=1∨iB=2∨iB=3∨iB=4∨iB=5∨iB=6∨iB=7∨iB=8∨iB=9∨iB=10∨iB=11∨iB=12∨iB=13∨iB=14∨iB=15∨iB=16∨iB=17∨iB=18∨iB=19∨iB=20∨iB=21∨iB=22∨iB=23∨iB=24∨iB=25:=by omega
    rcases h6 with rfl|rfl|rfl|rfl|rfl|rfl|rfl|rfl|rfl|rfl|rfl|rfl|rfl|rfl|rfl|rfl|rfl|rfl|rfl|rfl|rfl|rfl|rfl|rfl|rfl|rfl
    ·simp only [xJ1,xJ2,xJ4] at ho
     subst ho;rcases h with h|⟨a0,a3,al,a1⟩|⟨a0,a3,a1⟩
     ·have aj:=ai
      obtain ⟨a5,a9,aa,ab,ad,ae,af,ag,ah⟩:=aj;clear a2;simp only [J1,a5,a9,aa,ab,ad,ae,af,ag,ah];go_simp;exact hK.out _ _ ⟨upd x 52 (.pointer (some ⟨K.gm,0,none⟩)),(by simp only [J1,upd,reduceIte,Nat.reduceEqDiff,a5,a9,aa,ab,ad,ae,af,ag,ah]),Yl _ _ _ (by decide) ai,.inl (Zj Yf Yu Y9 h 0 _ (by decide) hl br rfl (fun j hj hne=>absurd hj (by simp [Zai,hne])))⟩
     ·rw [a0 0 (by decide)] at hl;cases hl
     ·rw [a0 0 (by decide)] at hl;cases hl
    ·simp only [xJ1,xJ2,xJ3,xJ4] at ho
     subst ho;rcases h with h|⟨a0,a3,al,a1⟩|⟨a0,a3,a1⟩
     ·have aj:=ai
      obtain ⟨a5,a9,aa,ab,ad,ae,af,ag,ah⟩:=aj;have ff:=Zn a2 0 (by kernel_rfl);have f0:x 52=.pointer (some ⟨K.gm,0,none⟩):=h.fc 0 ff;clear a2;simp only [J1,a5,a9,aa,ab,ad,ae,af,ag,ah,f0];go_simp;exact hK.out _ _ ⟨upd x 53 (.pointer (some ⟨K.gm,0,none⟩)),(by simp only [J1,upd,reduceIte,Nat.reduceEqDiff,a5,a9,aa,ab,ad,ae,af,ag,ah,f0]),Yl _ _ _ (by decide) ai,.inl (Zj Yf Yu Y9 h 1 _ (by decide) hl br rfl (fun j hj hne=>absurd hj (by simp [Zai,hne])))⟩
     ·rw [a0 1 (by decide)] at hl;cases hl
     ·rw [a0 1 (by decide)] at hl;cases hl
    ·simp only [xJ1,xJ2,xJ3,xJ4] at ho
     subst ho;rcases h with h|⟨a0,a3,al,a1⟩|⟨a0,a3,a1⟩
     ·have aj:=ai
      obtain ⟨a5,a9,aa,ab,ad,ae,af,ag,ah⟩:=aj;have h7:=Zn a2 1 (by kernel_rfl);have f1:x 53=.pointer (some ⟨K.gm,0,none⟩):=h.fc 1 h7;clear a2;simp only [J1,a5,a9,aa,ab,ad,ae,af,ag,ah,f1];go_simp;exact hK.out _ _ ⟨upd x 54 (.pointer (some ⟨K.gm,0,none⟩)),(by simp only [J1,upd,reduceIte,Nat.reduceEqDiff,a5,a9,aa,ab,ad,ae,af,ag,ah,f1]),Yl _ _ _ (by decide) ai,.inl (Zj Yf Yu Y9 h 2 _ (by decide) hl br rfl (fun j hj hne=>absurd hj (by simp [Zai,hne])))⟩
     ·rw [a0 2 (by decide)] at hl;cases hl
     ·rw [a0 2 (by decide)] at hl;cases hl
    ·simp only [xJ1,xJ2,xJ3,xJ4] at ho
     subst ho;rcases h with h|⟨a0,a3,al,a1⟩|⟨a0,a3,a1⟩
     ·have aj:=ai
      obtain ⟨a5,a9,aa,ab,ad,ae,af,ag,ah⟩:=aj;have bh:=Zn a2 2 (by kernel_rfl);have f2:x 54=.pointer (some ⟨K.gm,0,none⟩):=h.fc 2 bh;clear a2;obtain ⟨m0,m1,m2,m3,m4,m5,m6,m7,m8,m9,bb,bc,bd,be,d0,d1,d2,d3,d4,d5,d6,la,s0,ac,t0,t1,t2,kc⟩:=HS.out _ (Zb b7 h.b);have HT:∀ j u,[.int .i64 K.C.s,.int .i64 K.C.w,.int .i64 K.C.d,.int .i64 K.C.p,.int .i64 K.C.q,.slice (some ⟨b5,o5,none⟩) K.C.sl.length K.B.c5,.slice K.B.a6 K.C.ow.length K.B.c6,.slice K.B.a7 K.C.ch.length K.B.c7,.slice K.B.a8 K.C.ta.length K.B.c8][j]? = some u→w2.cell? ⟨K.gm,0+j,none⟩=some u:=fun j u hu=>by
       match j,hu with
       | 0,hu=>cases hu;exact m0
       | 1,hu=>cases hu;exact m1
       | 2,hu=>cases hu;exact m2
       | 3,hu=>cases hu;exact m3
       | 4,hu=>cases hu;exact m4
       | 5,hu=>cases hu;exact m5
       | 6,hu=>cases hu;exact m6
       | 7,hu=>cases hu;exact m7
       | 8,hu=>cases hu;exact m8
      simp only [J1,a5,a9,aa,ab,ad,ae,af,ag,ah,f2];refine Yw (by rfl) ?_;refine wp_load_mid 27 _ rfl (K.gm) (0) (by rfl) [.int .i64 K.C.s,.int .i64 K.C.w,.int .i64 K.C.d,.int .i64 K.C.p,.int .i64 K.C.q,.slice (some ⟨b5,o5,none⟩) K.C.sl.length K.B.c5,.slice K.B.a6 K.C.ow.length K.B.c6,.slice K.B.a7 K.C.ch.length K.B.c7,.slice K.B.a8 K.C.ta.length K.B.c8] _ (HT) underlying27 rfl (by kernel_rfl) ?_;refine hK.out _ _ ⟨upd x 55 (.agg #[.int .i64 K.C.s,.int .i64 K.C.w,.int .i64 K.C.d,.int .i64 K.C.p,.int .i64 K.C.q,.slice (some ⟨b5,o5,none⟩) K.C.sl.length K.B.c5,.slice K.B.a6 K.C.ow.length K.B.c6,.slice K.B.a7 K.C.ch.length K.B.c7,.slice K.B.a8 K.C.ta.length K.B.c8]),?_,Yl _ _ _ (by decide) ai,.inl (Zj Yf Yu Y9 h 3 _ (by decide) hl br rfl (fun j hj hne=>absurd hj (by simp [Zai,hne])))⟩;simp only [Act.put,List.setIfInBounds_toArray,List.set_cons_zero,List.set_cons_succ,J1,upd,reduceIte,Nat.reduceEqDiff,a5,a9,aa,ab,ad,ae,af,ag,ah,f2]
     ·rw [a0 3 (by decide)] at hl;cases hl
     ·rw [a0 3 (by decide)] at hl;cases hl
    ·simp only [xJ1,xJ2,xJ3,xJ4] at ho
     subst ho;rcases h with h|⟨a0,a3,al,a1⟩|⟨a0,a3,a1⟩
     ·have aj:=ai
      obtain ⟨a5,a9,aa,ab,ad,ae,af,ag,ah⟩:=aj;clear a2;simp only [J1,a5,a9,aa,ab,ad,ae,af,ag,ah];go_simp;exact hK.out _ _ ⟨upd x 56 (.int .i64 (d:Int)),(by simp only [J1,upd,reduceIte,Nat.reduceEqDiff,a5,a9,aa,ab,ad,ae,af,ag,ah]),Yl _ _ _ (by decide) ai,.inl (Zj Yf Yu Y9 h 4 _ (by decide) hl br rfl (fun j hj hne=>absurd hj (by simp [Zai,hne])))⟩
     ·rw [a0 4 (by decide)] at hl;cases hl
     ·rw [a0 4 (by decide)] at hl;cases hl
    ·simp only [xJ1,xJ2,xJ3,xJ4] at ho
     subst ho;rcases h with h|⟨a0,a3,al,a1⟩|⟨a0,a3,a1⟩
     ·have aj:=ai
      obtain ⟨a5,a9,aa,ab,ad,ae,af,ag,ah⟩:=aj;clear a2;obtain ⟨r0,r1,r2,r3,r4,r5,r6⟩:=fp.out _ h.b;have HT:∀ j u,[.slice A1.aJ D1.jobs.length A1.cJ,.slice A1.aR D1.rel.length A1.cR,.int .i64 D1.nxt,.slice A1.aI D1.ins.length A1.cI,.slice A1.aT D1.tak.length A1.cT,.slice A1.aO D1.out.length A1.cO,.slice A1.aE D1.evs.length A1.cE][j]? = some u→w2.cell? ⟨Br,0+j,none⟩=some u:=fun j u hu=>by
       match j,hu with
       | 0,hu=>cases hu;exact r0
       | 1,hu=>cases hu;exact r1
       | 2,hu=>cases hu;exact r2
       | 3,hu=>cases hu;exact r3
       | 4,hu=>cases hu;exact r4
       | 5,hu=>cases hu;exact r5
       | 6,hu=>cases hu;exact r6
      simp only [J1,a5,a9,aa,ab,ad,ae,af,ag,ah];refine Yw (by rfl) ?_;refine wp_load_mid 46 _ rfl (Br) (0) (by rfl) [.slice A1.aJ D1.jobs.length A1.cJ,.slice A1.aR D1.rel.length A1.cR,.int .i64 D1.nxt,.slice A1.aI D1.ins.length A1.cI,.slice A1.aT D1.tak.length A1.cT,.slice A1.aO D1.out.length A1.cO,.slice A1.aE D1.evs.length A1.cE] _ (HT) underlying46 rfl (by kernel_rfl) ?_;refine hK.out _ _ ⟨upd x 57 (.agg #[.slice A1.aJ D1.jobs.length A1.cJ,.slice A1.aR D1.rel.length A1.cR,.int .i64 D1.nxt,.slice A1.aI D1.ins.length A1.cI,.slice A1.aT D1.tak.length A1.cT,.slice A1.aO D1.out.length A1.cO,.slice A1.aE D1.evs.length A1.cE]),?_,Yl _ _ _ (by decide) ai,.inl (Zj Yf Yu Y9 h 5 _ (by decide) hl br rfl (fun j hj hne=>absurd hj (by simp [Zai,hne])))⟩;simp only [Act.put,List.setIfInBounds_toArray,List.set_cons_zero,List.set_cons_succ,J1,upd,reduceIte,Nat.reduceEqDiff,a5,a9,aa,ab,ad,ae,af,ag,ah]
     ·rw [a0 5 (by decide)] at hl;cases hl
     ·rw [a0 5 (by decide)] at hl;cases hl
    ·simp only [xJ1,xJ2,xJ3,xJ4] at ho
     subst ho;rcases h with h|⟨a0,a3,al,a1⟩|⟨a0,a3,a1⟩
     ·have aj:=ai
      obtain ⟨a5,a9,aa,ab,ad,ae,af,ag,ah⟩:=aj;clear a2;obtain ⟨m0,m1,m2,m3,m4,m5,m6,m7,m8,m9,bb,bc,bd,be,d0,d1,d2,d3,d4,d5,d6,la,s0,ac,t0,t1,t2,kc⟩:=HS.out _ (Zb b7 h.b);have HT:∀ j u,[.slice aK (List.length k0) cK][j]? = some u→w2.cell? ⟨w.heap.size+1,0+j,none⟩=some u:=fun j u hu=>by
       match j,hu with
       | 0,hu=>cases hu;exact kc
      simp only [J1,a5,a9,aa,ab,ad,ae,af,ag,ah];refine Yw (by rfl) ?_;refine wp_load_mid 72 _ rfl (w.heap.size+1) (0) (by rfl) [.slice aK (List.length k0) cK] _ (HT) underlying72 rfl (by kernel_rfl) ?_;refine hK.out _ _ ⟨upd x 58 (.agg #[.slice aK (List.length k0) cK]),?_,Yl _ _ _ (by decide) ai,.inl (Zj Yf Yu Y9 h 6 _ (by decide) hl br rfl (fun j hj hne=>absurd hj (by simp [Zai,hne])))⟩;simp only [Act.put,List.setIfInBounds_toArray,List.set_cons_zero,List.set_cons_succ,J1,upd,reduceIte,Nat.reduceEqDiff,a5,a9,aa,ab,ad,ae,af,ag,ah]
     ·rw [a0 6 (by decide)] at hl;cases hl
     ·rw [a0 6 (by decide)] at hl;cases hl
    ·simp only [xJ1,xJ2,xJ3,xJ4] at ho
     subst ho;rcases h with h|⟨a0,a3,al,a1⟩|⟨a0,a3,a1⟩
     ·have aj:=ai
      obtain ⟨a5,a9,aa,ab,ad,ae,af,ag,ah⟩:=aj;clear a2;simp only [J1,a5,a9,aa,ab,ad,ae,af,ag,ah];go_simp;exact hK.out _ _ ⟨upd x 59 (.pointer (some ⟨K.gm,0,none⟩)),(by simp only [J1,upd,reduceIte,Nat.reduceEqDiff,a5,a9,aa,ab,ad,ae,af,ag,ah]),Yl _ _ _ (by decide) ai,.inl (Zj Yf Yu Y9 h 7 _ (by decide) hl br rfl (fun j hj hne=>absurd hj (by simp [Zai,hne])))⟩
     ·rw [a0 7 (by decide)] at hl;cases hl
     ·rw [a0 7 (by decide)] at hl;cases hl
    ·simp only [xJ1,xJ2,xJ3,xJ4] at ho
     subst ho;rcases h with h|⟨a0,a3,al,a1⟩|⟨a0,a3,a1⟩
     ·have aj:=ai
      obtain ⟨a5,a9,aa,ab,ad,ae,af,ag,ah⟩:=aj;have h8:=Zn a2 7 (by kernel_rfl);have f7:x 59=.pointer (some ⟨K.gm,0,none⟩):=h.fc 7 h8;clear a2;simp only [J1,a5,a9,aa,ab,ad,ae,af,ag,ah,f7];go_simp;exact hK.out _ _ ⟨upd x 60 (.pointer (some ⟨K.gm,0,none⟩)),(by simp only [J1,upd,reduceIte,Nat.reduceEqDiff,a5,a9,aa,ab,ad,ae,af,ag,ah,f7]),Yl _ _ _ (by decide) ai,.inl (Zj Yf Yu Y9 h 8 _ (by decide) hl br rfl (fun j hj hne=>absurd hj (by simp [Zai,hne])))⟩
     ·rw [a0 8 (by decide)] at hl;cases hl
     ·rw [a0 8 (by decide)] at hl;cases hl
    ·simp only [xJ1,xJ2,xJ3,xJ4] at ho
     subst ho;rcases h with h|⟨a0,a3,al,a1⟩|⟨a0,a3,a1⟩
     ·have aj:=ai
      obtain ⟨a5,a9,aa,ab,ad,ae,af,ag,ah⟩:=aj;have h9:=Zn a2 8 (by kernel_rfl);have f8:x 60=.pointer (some ⟨K.gm,0,none⟩):=h.fc 8 h9;clear a2;simp only [J1,a5,a9,aa,ab,ad,ae,af,ag,ah,f8];go_simp;exact hK.out _ _ ⟨upd x 61 (.pointer (some ⟨K.gm,9,none⟩)),(by simp only [J1,upd,reduceIte,Nat.reduceEqDiff,a5,a9,aa,ab,ad,ae,af,ag,ah,f8]),Yl _ _ _ (by decide) ai,.inl (Zj Yf Yu Y9 h 9 _ (by decide) hl br rfl (fun j hj hne=>absurd hj (by simp [Zai,hne])))⟩
     ·rw [a0 9 (by decide)] at hl;cases hl
     ·rw [a0 9 (by decide)] at hl;cases hl
    ·simp only [xJ1,xJ2,xJ3,xJ4] at ho
     subst ho;rcases h with h|⟨a0,a3,al,a1⟩|⟨a0,a3,a1⟩
     ·have aj:=ai
      obtain ⟨a5,a9,aa,ab,ad,ae,af,ag,ah⟩:=aj;have ha:=Zn a2 9 (by kernel_rfl);have f9:x 61=.pointer (some ⟨K.gm,9,none⟩):=h.fc 9 ha;clear a2;simp only [J1,a5,a9,aa,ab,ad,ae,af,ag,ah,f9];go_simp;exact hK.out _ _ ⟨upd x 62 (.pointer (some ⟨K.gm,9,none⟩)),(by simp only [J1,upd,reduceIte,Nat.reduceEqDiff,a5,a9,aa,ab,ad,ae,af,ag,ah,f9]),Yl _ _ _ (by decide) ai,.inl (Zj Yf Yu Y9 h 10 _ (by decide) hl br rfl (fun j hj hne=>absurd hj (by simp [Zai,hne])))⟩
     ·rw [a0 10 (by decide)] at hl;cases hl
     ·rw [a0 10 (by decide)] at hl;cases hl
    ·simp only [xJ1,xJ2,xJ3,xJ4] at ho
     subst ho;rcases h with h|⟨a0,a3,al,a1⟩|⟨a0,a3,a1⟩
     ·have aj:=ai
      obtain ⟨a5,a9,aa,ab,ad,ae,af,ag,ah⟩:=aj;have cx:=Zn a2 10 (by kernel_rfl);have fs:x 62=.pointer (some ⟨K.gm,9,none⟩):=h.fc 10 cx;clear a2;obtain ⟨m0,m1,m2,m3,m4,m5,m6,m7,m8,m9,bb,bc,bd,be,d0,d1,d2,d3,d4,d5,d6,la,s0,ac,t0,t1,t2,kc⟩:=HS.out _ (Zb b7 h.b);simp only [J1,a5,a9,aa,ab,ad,ae,af,ag,ah,fs];go_simp;exact hK.out _ _ ⟨upd x 63 (.slice (some ⟨bA,oA,none⟩) K.S.acts.length K.M.cA),(by simp only [J1,upd,reduceIte,Nat.reduceEqDiff,a5,a9,aa,ab,ad,ae,af,ag,ah,fs]),Yl _ _ _ (by decide) ai,.inl (Zj Yf Yu Y9 h 11 _ (by decide) hl br rfl (fun j hj hne=>absurd hj (by simp [Zai,hne])))⟩
     ·rw [a0 11 (by decide)] at hl;cases hl
     ·rw [a0 11 (by decide)] at hl;cases hl
    ·simp only [xJ1,xJ2,xJ3,xJ4] at ho
     subst ho;rcases h with h|⟨a0,a3,al,a1⟩|⟨a0,a3,a1⟩
     ·have aj:=ai
      obtain ⟨a5,a9,aa,ab,ad,ae,af,ag,ah⟩:=aj;clear a2;simp only [J1,a5,a9,aa,ab,ad,ae,af,ag,ah];go_simp;exact hK.out _ _ ⟨upd x 64 (.int .i64 (d:Int)),(by simp only [J1,upd,reduceIte,Nat.reduceEqDiff,a5,a9,aa,ab,ad,ae,af,ag,ah]),Yl _ _ _ (by decide) ai,.inl (Zj Yf Yu Y9 h 12 _ (by decide) hl br rfl (fun j hj hne=>absurd hj (by simp [Zai,hne])))⟩
     ·rw [a0 12 (by decide)] at hl;cases hl
     ·rw [a0 12 (by decide)] at hl;cases hl
    ·simp only [xJ1,xJ2,xJ3,xJ4] at ho
     subst ho;rcases h with h|⟨a0,a3,al,a1⟩|⟨a0,a3,a1⟩
     ·have aj:=ai
      obtain ⟨a5,a9,aa,ab,ad,ae,af,ag,ah⟩:=aj;have cy:=Zn a2 11 (by kernel_rfl);have ft:x 63=.slice (some ⟨bA,oA,none⟩) K.S.acts.length K.M.cA:=h.fc 11 cy;have cz:=Zn a2 12 (by kernel_rfl);have fu:x 64=.int .i64 (d:Int):=h.fc 12 cz;clear a2;simp only [J1,a5,a9,aa,ab,ad,ae,af,ag,ah,ft,fu];go_simp;exact hK.out _ _ ⟨upd x 65 (.pointer (some ⟨bA,oA+d,none⟩)),(by simp only [J1,upd,reduceIte,Nat.reduceEqDiff,a5,a9,aa,ab,ad,ae,af,ag,ah,ft,fu]),Yl _ _ _ (by decide) ai,.inl (Zj Yf Yu Y9 h 13 _ (by decide) hl br rfl (fun j hj hne=>absurd hj (by simp [Zai,hne])))⟩
     ·rw [a0 13 (by decide)] at hl;cases hl
     ·rw [a0 13 (by decide)] at hl;cases hl
    ·simp only [xJ1,xJ2,xJ3,xJ4] at ho
     subst ho;rcases h with h|⟨a0,a3,al,a1⟩|⟨a0,a3,a1⟩
     ·have aj:=ai
      obtain ⟨a5,a9,aa,ab,ad,ae,af,ag,ah⟩:=aj;have d7:=Zn a2 13 (by kernel_rfl);have fv:x 65=.pointer (some ⟨bA,oA+d,none⟩):=h.fc 13 d7;clear a2;obtain ⟨m0,m1,m2,m3,m4,m5,m6,m7,m8,m9,bb,bc,bd,be,d0,d1,d2,d3,d4,d5,d6,la,s0,ac,t0,t1,t2,kc⟩:=HS.out _ (Zb b7 h.b);simp only [J1,a5,a9,aa,ab,ad,ae,af,ag,ah,fv];go_simp;exact hK.out _ _ ⟨upd x 66 (.slice aL L.length cL),(by simp only [J1,upd,reduceIte,Nat.reduceEqDiff,a5,a9,aa,ab,ad,ae,af,ag,ah,fv]),Yl _ _ _ (by decide) ai,.inl (Zj Yf Yu Y9 h 14 _ (by decide) hl br rfl (fun j hj hne=>absurd hj (by simp [Zai,hne])))⟩
     ·rw [a0 14 (by decide)] at hl;cases hl
     ·rw [a0 14 (by decide)] at hl;cases hl
    ·simp only [xJ1,xJ2,xJ3,xJ4] at ho
     subst ho;rcases h with h|⟨a0,a3,al,a1⟩|⟨a0,a3,a1⟩
     ·have aj:=ai
      obtain ⟨a5,a9,aa,ab,ad,ae,af,ag,ah⟩:=aj;clear a2;simp only [J1,a5,a9,aa,ab,ad,ae,af,ag,ah];go_simp;exact hK.out _ _ ⟨upd x 67 (.pointer (some ⟨w.heap.size,1,none⟩)),(by simp only [J1,upd,reduceIte,Nat.reduceEqDiff,a5,a9,aa,ab,ad,ae,af,ag,ah]),Yl _ _ _ (by decide) ai,.inl (Zj Yf Yu Y9 h 15 _ (by decide) hl br rfl (fun j hj hne=>absurd hj (by simp [Zai,hne])))⟩
     ·rw [a0 15 (by decide)] at hl;cases hl
     ·rw [a0 15 (by decide)] at hl;cases hl
    ·simp only [xJ1,xJ2,xJ3,xJ4] at ho
     subst ho;rcases h with h|⟨a0,a3,al,a1⟩|⟨a0,a3,a1⟩
     ·have aj:=ai
      obtain ⟨a5,a9,aa,ab,ad,ae,af,ag,ah⟩:=aj;have d8:=Zn a2 15 (by kernel_rfl);have fw:x 67=.pointer (some ⟨w.heap.size,1,none⟩):=h.fc 15 d8;clear a2;obtain ⟨m0,m1,m2,m3,m4,m5,m6,m7,m8,m9,bb,bc,bd,be,d0,d1,d2,d3,d4,d5,d6,la,s0,ac,t0,t1,t2,kc⟩:=HS.out _ (Zb b7 h.b);simp only [J1,a5,a9,aa,ab,ad,ae,af,ag,ah,fw];go_simp;exact hK.out _ _ ⟨upd x 68 (.int .i64 fr),(by simp only [J1,upd,reduceIte,Nat.reduceEqDiff,a5,a9,aa,ab,ad,ae,af,ag,ah,fw]),Yl _ _ _ (by decide) ai,.inl (Zj Yf Yu Y9 h 16 _ (by decide) hl br rfl (fun j hj hne=>absurd hj (by simp [Zai,hne])))⟩
     ·rw [a0 16 (by decide)] at hl;cases hl
     ·rw [a0 16 (by decide)] at hl;cases hl
    ·simp only [xJ1,xJ2,xJ3,xJ4] at ho
     subst ho;rcases h with h|⟨a0,a3,al,a1⟩|⟨a0,a3,a1⟩
     ·have aj:=ai
      obtain ⟨a5,a9,aa,ab,ad,ae,af,ag,ah⟩:=aj;clear a2;simp only [J1,a5,a9,aa,ab,ad,ae,af,ag,ah];go_simp;exact hK.out _ _ ⟨upd x 69 (.pointer (some ⟨w.heap.size,2,none⟩)),(by simp only [J1,upd,reduceIte,Nat.reduceEqDiff,a5,a9,aa,ab,ad,ae,af,ag,ah]),Yl _ _ _ (by decide) ai,.inl (Zj Yf Yu Y9 h 17 _ (by decide) hl br rfl (fun j hj hne=>absurd hj (by simp [Zai,hne])))⟩
     ·rw [a0 17 (by decide)] at hl;cases hl
     ·rw [a0 17 (by decide)] at hl;cases hl
    ·simp only [xJ1,xJ2,xJ3,xJ4] at ho
     subst ho;rcases h with h|⟨a0,a3,al,a1⟩|⟨a0,a3,a1⟩
     ·have aj:=ai
      obtain ⟨a5,a9,aa,ab,ad,ae,af,ag,ah⟩:=aj;have d9:=Zn a2 17 (by kernel_rfl);have fx:x 69=.pointer (some ⟨w.heap.size,2,none⟩):=h.fc 17 d9;clear a2;obtain ⟨m0,m1,m2,m3,m4,m5,m6,m7,m8,m9,bb,bc,bd,be,d0,d1,d2,d3,d4,d5,d6,la,s0,ac,t0,t1,t2,kc⟩:=HS.out _ (Zb b7 h.b);simp only [J1,a5,a9,aa,ab,ad,ae,af,ag,ah,fx];go_simp;exact hK.out _ _ ⟨upd x 70 (.int .i64 te),(by simp only [J1,upd,reduceIte,Nat.reduceEqDiff,a5,a9,aa,ab,ad,ae,af,ag,ah,fx]),Yl _ _ _ (by decide) ai,.inl (Zj Yf Yu Y9 h 18 _ (by decide) hl br rfl (fun j hj hne=>absurd hj (by simp [Zai,hne])))⟩
     ·rw [a0 18 (by decide)] at hl;cases hl
     ·rw [a0 18 (by decide)] at hl;cases hl
    ·simp only [xJ1,xJ2,xJ3,xJ4] at ho
     subst ho;rcases h with h|⟨a0,a3,al,a1⟩|⟨a0,a3,a1⟩
     ·have aj:=ai
      obtain ⟨a5,a9,aa,ab,ad,ae,af,ag,ah⟩:=aj;have he:=Zn a2 3 (by kernel_rfl);have f3:x 55=.agg #[.int .i64 K.C.s,.int .i64 K.C.w,.int .i64 K.C.d,.int .i64 K.C.p,.int .i64 K.C.q,.slice (some ⟨b5,o5,none⟩) K.C.sl.length K.B.c5,.slice K.B.a6 K.C.ow.length K.B.c6,.slice K.B.a7 K.C.ch.length K.B.c7,.slice K.B.a8 K.C.ta.length K.B.c8]:=h.fc 3 he;have hf:=Zn a2 4 (by kernel_rfl);have f4:x 56=.int .i64 (d:Int):=h.fc 4 hf;have hg:=Zn a2 5 (by kernel_rfl);have f5:x 57=.agg #[.slice A1.aJ D1.jobs.length A1.cJ,.slice A1.aR D1.rel.length A1.cR,.int .i64 D1.nxt,.slice A1.aI D1.ins.length A1.cI,.slice A1.aT D1.tak.length A1.cT,.slice A1.aO D1.out.length A1.cO,.slice A1.aE D1.evs.length A1.cE]:=h.fc 5 hg;have hh:=Zn a2 6 (by kernel_rfl);have f6:x 58=.agg #[.slice aK (List.length k0) cK]:=h.fc 6 hh;have da:=Zn a2 14 (by kernel_rfl);have fy:x 66=.slice aL L.length cL:=h.fc 14 da;have db:=Zn a2 16 (by kernel_rfl);have fz:x 68=.int .i64 fr:=h.fc 16 db;have dc:=Zn a2 18 (by kernel_rfl);have g0:x 70=.int .i64 te:=h.fc 18 dc;clear a2;have hm:=h.b.size;simp only [J1,a5,a9,aa,ab,ad,ae,af,ag,ah,f3,f4,f5,f6,fy,fz,g0];go_simp;refine Calls.mono (fq.out _ h.b) ?_;rintro e w3 ⟨Az,aq,cq,rfl,g1,dd⟩;exact hK.out _ _ ⟨upd x 71 (.tuple #[.agg #[.slice Az.aJ RD.jobs.length Az.cJ,.slice Az.aR RD.rel.length Az.cR,.int .i64 RD.nxt,.slice Az.aI RD.ins.length Az.cI,.slice Az.aT RD.tak.length Az.cT,.slice Az.aO RD.out.length Az.cO,.slice Az.aE RD.evs.length Az.cE],.agg #[.slice aq (List.length RK) cq],.int .i64 0]),(by simp only [J1,upd,reduceIte,Nat.reduceEqDiff,a5,a9,aa,ab,ad,ae,af,ag,ah,f3,f4,f5,f6,fy,fz,g0]),Yl _ _ _ (by decide) ai,.inl (Zj Yf Yu Y9 h 19 _ (by decide) hl g1 ⟨Az,aq,cq,rfl,w2.heap.size,hm,g1.size,dd.two⟩ (fun j hj hne=>absurd hj (by simp [Zai,hne])))⟩
     ·rw [a0 19 (by decide)] at hl;cases hl
     ·rw [a0 19 (by decide)] at hl;cases hl
    ·simp only [xJ1,xJ2,xJ3,xJ4] at ho
     subst ho;rcases h with h|⟨a0,a3,al,a1⟩|⟨a0,a3,a1⟩
     ·have aj:=ai
      obtain ⟨a5,a9,aa,ab,ad,ae,af,ag,ah⟩:=aj;have de:=Zn a2 19 (by kernel_rfl);obtain ⟨am,bp,bq,g2,hn⟩:=h.fc 19 de;clear a2;simp only [J1,a5,a9,aa,ab,ad,ae,af,ag,ah,g2];go_simp;exact hK.out _ _ ⟨upd x 51 (.tuple #[.agg #[.slice am.aJ RD.jobs.length am.cJ,.slice am.aR RD.rel.length am.cR,.int .i64 RD.nxt,.slice am.aI RD.ins.length am.cI,.slice am.aT RD.tak.length am.cT,.slice am.aO RD.out.length am.cO,.slice am.aE RD.evs.length am.cE],.agg #[.slice bp (List.length RK) bq],.int .i64 0]),(by simp only [J1,upd,reduceIte,Nat.reduceEqDiff,a5,a9,aa,ab,ad,ae,af,ag,ah,g2]),Yl _ _ _ (by decide) ai,.inl (Zj Yf Yu Y9 h 20 _ (by decide) hl br ⟨am,bp,bq,rfl,hn⟩ (fun j hj hne=>absurd hj (by simp [Zai,hne])))⟩
     ·rw [a0 20 (by decide)] at hl;cases hl
     ·rw [a0 20 (by decide)] at hl;cases hl
    ·simp only [xJ1,xJ2,xJ3,xJ4] at ho
     subst ho;rcases h with h|⟨a0,a3,al,a1⟩|⟨a0,a3,a1⟩
     ·have aj:=ai
      obtain ⟨a5,a9,aa,ab,ad,ae,af,ag,ah⟩:=aj;have ar:=Zn a2 20 (by kernel_rfl);obtain ⟨a4,au,aw,ak,cd⟩:=h.fc 20 ar;clear a2;simp only [J1,a5,a9,aa,ab,ad,ae,af,ag,ah,ak];go_simp;exact hK.out _ _ ⟨upd x 72 (.agg #[.slice a4.aJ RD.jobs.length a4.cJ,.slice a4.aR RD.rel.length a4.cR,.int .i64 RD.nxt,.slice a4.aI RD.ins.length a4.cI,.slice a4.aT RD.tak.length a4.cT,.slice a4.aO RD.out.length a4.cO,.slice a4.aE RD.evs.length a4.cE]),(by simp only [J1,upd,reduceIte,Nat.reduceEqDiff,a5,a9,aa,ab,ad,ae,af,ag,ah,ak]),Yl _ _ _ (by decide) ai,.inl (Zj Yf Yu Y9 h 21 _ (by decide) hl br ⟨a4,au,aw,rfl,ak⟩ (fun j hj hne=>by
        simp only [Zai,List.mem_cons,List.not_mem_nil,or_false] at hj;rcases hj with rfl|rfl
        ·exact ar
        ·exact absurd rfl hne))⟩
     ·rw [a0 21 (by decide)] at hl;cases hl
     ·rw [a0 21 (by decide)] at hl;cases hl
    ·simp only [xJ1,xJ2,xJ3,xJ4] at ho
     subst ho;rcases h with h|⟨a0,a3,al,a1⟩|⟨a0,a3,a1⟩
     ·have aj:=ai
      obtain ⟨a5,a9,aa,ab,ad,ae,af,ag,ah⟩:=aj;have ar:=Zn a2 20 (by kernel_rfl);obtain ⟨a4,au,aw,ak,cd⟩:=h.fc 20 ar;clear a2;simp only [J1,a5,a9,aa,ab,ad,ae,af,ag,ah,ak];go_simp;exact hK.out _ _ ⟨upd x 73 (.agg #[.slice au (List.length RK) aw]),(by simp only [J1,upd,reduceIte,Nat.reduceEqDiff,a5,a9,aa,ab,ad,ae,af,ag,ah,ak]),Yl _ _ _ (by decide) ai,.inl (Zj Yf Yu Y9 h 22 _ (by decide) hl br ⟨a4,au,aw,rfl,ak⟩ (fun j hj hne=>by
        simp only [Zai,List.mem_cons,List.not_mem_nil,or_false] at hj;rcases hj with rfl|rfl
        ·exact ar
        ·exact absurd rfl hne))⟩
     ·obtain ⟨Az,aq,cq,w5,n1,ak,ax,an⟩:=a1
      have b4:=hid ax;clear ax;have aj:=ai;obtain ⟨a5,a9,aa,ab,ad,ae,af,ag,ah⟩:=aj;have b6:=hid an;clear a2 an;simp only [J1,a5,a9,aa,ab,ad,ae,af,ag,ah,ak];go_simp;exact hK.out _ _ ⟨upd x 73 (.agg #[.slice aq (List.length RK) cq]),(by simp only [J1,upd,reduceIte,Nat.reduceEqDiff,a5,a9,aa,ab,ad,ae,af,ag,ah,ak]),Yl _ _ _ (by decide) ai,.inr (.inl ⟨Zel a0,by rw [Array.size_setIfInBounds];exact a3,(getD_set_ne false (by decide)).trans al,Az,aq,cq,w5,n1,ak,fun _=>rfl,b6.out⟩)⟩
     ·rw [a0 22 (by decide)] at hl;cases hl
    ·simp only [xJ1,xJ2,xJ3,xJ4] at ho
     subst ho;rcases h with h|⟨a0,a3,al,a1⟩|⟨a0,a3,a1⟩
     ·have aj:=ai
      obtain ⟨a5,a9,aa,ab,ad,ae,af,ag,ah⟩:=aj;have ar:=Zn a2 20 (by kernel_rfl);obtain ⟨a4,au,aw,ak,cd⟩:=h.fc 20 ar;clear a2;simp only [J1,a5,a9,aa,ab,ad,ae,af,ag,ah,ak];go_simp;exact hK.out _ _ ⟨upd x 74 (.int .i64 0),(by simp only [J1,upd,reduceIte,Nat.reduceEqDiff,a5,a9,aa,ab,ad,ae,af,ag,ah,ak]),Yl _ _ _ (by decide) ai,.inl (Zj Yf Yu Y9 h 23 _ (by decide) hl br rfl (fun j hj hne=>absurd hj (by simp [Zai,hne])))⟩
     ·obtain ⟨Az,aq,cq,w5,n1,ak,ax,an⟩:=a1
      have b4:=hid ax;clear ax;have aj:=ai;obtain ⟨a5,a9,aa,ab,ad,ae,af,ag,ah⟩:=aj;have b6:=hid an;clear a2 an;simp only [J1,a5,a9,aa,ab,ad,ae,af,ag,ah,ak];go_simp;exact hK.out _ _ ⟨upd x 74 (.int .i64 0),(by simp only [J1,upd,reduceIte,Nat.reduceEqDiff,a5,a9,aa,ab,ad,ae,af,ag,ah,ak]),Yl _ _ _ (by decide) ai,.inr (.inl ⟨Zel a0,by rw [Array.size_setIfInBounds];exact a3,(getD_set_ne false (by decide)).trans al,Az,aq,cq,w5,n1,ak,fun h22=>b4.out (by rw [getD_set_ne false (by decide)] at h22;exact h22),b6.out⟩)⟩
     ·obtain ⟨Az,aq,cq,w5,n1,ak,an⟩:=a1
      have aj:=ai;obtain ⟨a5,a9,aa,ab,ad,ae,af,ag,ah⟩:=aj;have b6:=hid an;clear a2 an;simp only [J1,a5,a9,aa,ab,ad,ae,af,ag,ah,ak];go_simp;exact hK.out _ _ ⟨upd x 74 (.int .i64 0),(by simp only [J1,upd,reduceIte,Nat.reduceEqDiff,a5,a9,aa,ab,ad,ae,af,ag,ah,ak]),Yl _ _ _ (by decide) ai,.inr (.inr ⟨Zel a0,by rw [Array.size_setIfInBounds];exact a3,Az,aq,cq,w5,n1,ak,b6.out⟩)⟩
    ·simp only [xJ1,xJ2,xJ3,xJ4] at ho
     subst ho;rcases h with h|⟨a0,a3,al,a1⟩|⟨a0,a3,a1⟩
     ·have aj:=ai
      obtain ⟨a5,a9,aa,ab,ad,ae,af,ag,ah⟩:=aj;have ar:=Zn a2 20 (by kernel_rfl);obtain ⟨a4,au,aw,ak,cd⟩:=h.fc 20 ar;have df:=Zn a2 21 (by kernel_rfl);obtain ⟨ao,hp,hq,g3,g4⟩:=h.fc 21 df;have bj:=hid (Zof (k:=24) (m:=26) h.sz (by decide) (Zn0 [0,1,2,3,4,5,6,7,8,9,10,11,12,13,14,15,16,17,18,19,20,21] a2 (by kernel_rfl)));have hA:Value.agg #[.slice a4.aJ RD.jobs.length a4.cJ,.slice a4.aR RD.rel.length a4.cR,.int .i64 RD.nxt,.slice a4.aI RD.ins.length a4.cI,.slice a4.aT RD.tak.length a4.cT,.slice a4.aO RD.out.length a4.cO,.slice a4.aE RD.evs.length a4.cE]=Value.agg #[.slice ao.aJ RD.jobs.length ao.cJ,.slice ao.aR RD.rel.length ao.cR,.int .i64 RD.nxt,.slice ao.aI RD.ins.length ao.cI,.slice ao.aT RD.tak.length ao.cT,.slice ao.aO RD.out.length ao.cO,.slice ao.aE RD.evs.length ao.cE]:=congrArg Yap (ak.symm.trans g4);have g5:x 72=.agg #[.slice a4.aJ RD.jobs.length a4.cJ,.slice a4.aR RD.rel.length a4.cR,.int .i64 RD.nxt,.slice a4.aI RD.ins.length a4.cI,.slice a4.aT RD.tak.length a4.cT,.slice a4.aO RD.out.length a4.cO,.slice a4.aE RD.evs.length a4.cE]:=g3.trans hA.symm;obtain ⟨n1,k1,k2,k3⟩:=cd;have dg:Hid ((lB.setIfInBounds 24 true).getD 22 false=true→x 73=.agg #[.slice au (List.length RK) aw]):=hid fun h22=>by
       rw [getD_set_ne false (by decide)] at h22;obtain ⟨hr,hs,ht,hw,hy⟩:=h.fc 22 h22;exact hw.trans (congrArg Yaz (hy.symm.trans ak))
      have hz:Hid ((lB.setIfInBounds 24 true).getD 25 false=false):=hid ((getD_set_ne false (by decide)).trans (h.un 25 (by decide)));have dh:=hid ak;have i0:=hid g5;have di:=hid h.sz;have hB2:=hid h.b;have b0:=bo.out.below (Zb br.drew h.b) lr;have K1:=hid k1;have K2:=hid k2;have K3:=hid k3;clear g3 hA g4 ak k1 k2 k3 h a2;simp only [J1,a5,a9,aa,ab,ad,ae,af,ag,ah,g5];refine Yw (by rfl) ?_;refine wp_store_mid 46 _ _ rfl Br 0 #[.slice a4.aJ RD.jobs.length a4.cJ,.slice a4.aR RD.rel.length a4.cR,.int .i64 RD.nxt,.slice a4.aI RD.ins.length a4.cI,.slice a4.aT RD.tak.length a4.cT,.slice a4.aO RD.out.length a4.cO,.slice a4.aE RD.evs.length a4.cE] (by rfl) (by rfl) (show w2.there Br 0 7 from Zc1 b0) (by kernel_rfl) (by kernel_rfl) ?_;refine hK.out _ _ ⟨x,?_,ai,.inr (.inl ⟨bj.out,by rw [Array.size_setIfInBounds];exact di.out,hz.out,a4,au,aw,w2,n1,dh.out,dg.out,hB2.out,K1.out,K2.out,K3.out,rfl⟩)⟩;simp only [Act.put,J1,i0.out,a5,a9,aa,ab,ad,ae,af,ag,ah]
     ·rw [a0 24 (by decide)] at hl;cases hl
     ·rw [a0 24 (by decide)] at hl;cases hl
    ·simp only [xJ1,xJ2,xJ3,xJ4] at ho
     subst ho;rcases h with h|⟨a0,a3,al,a1⟩|⟨a0,a3,a1⟩
     ·have:=Zn a2 24 (by kernel_rfl)
      rw [h.un 24 (by decide)] at this;cases this
     ·obtain ⟨Az,aq,cq,w5,n1,ak,b4,ba,k1,k2,k3,g6⟩:=a1
      have bs:=Zn a2 22 (by kernel_rfl);have g7:=b4 bs;have aj:=ai;obtain ⟨a5,a9,aa,ab,ad,ae,af,ag,ah⟩:=aj;have i1:=hid g7;have dh:=hid ak;have i2:=hid k3;have bj:Hid (∀ i∈([0,1,2,3,4,5,6,7,8,9,10,11,12,13,14,15,16,17,18,19,20,21,22,24,25]:List Nat),(lB.setIfInBounds 25 true).getD i false=true):=hid (fun i hi=>by
       by_cases e:i=25
       ·subst e;exact Qv (by omega)
       ·by_cases e2:i=22
        ·subst e2;exact getD_set_true bs
        ·exact getD_set_true (a0 i (by simp only [List.mem_cons,List.not_mem_nil,or_false] at hi ⊢;omega)))
      have b0:Zf w2 (w.heap.size+1) 72 [.slice aK (List.length k0) cK]:=by
       rw [g6];exact (Zd1 w5 Br 0 _ _ _ _ _ _ _ (w.heap.size+1) (by have:=ct.out;omega)).trans (cs.out.below (Zb b7 ba) lr)
      clear ak b4 a2 k3;simp only [J1,a5,a9,aa,ab,ad,ae,af,ag,ah,g7];refine Yw (by rfl) ?_;refine wp_store_mid 72 _ _ rfl (w.heap.size+1) 0 #[.slice aq (List.length RK) cq] (by rfl) (by rfl) (show w2.there (w.heap.size+1) 0 1 from Zc1 b0) (by kernel_rfl) (by kernel_rfl) ?_;refine hK.out _ _ ⟨x,?_,ai,.inr (.inr ⟨bj.out,by rw [Array.size_setIfInBounds];exact a3,Az,aq,cq,w5,n1,dh.out,ba,k1,k2,i2.out,by rw [g6];rfl⟩)⟩;simp only [Act.put,J1,i1.out,a5,a9,aa,ab,ad,ae,af,ag,ah]
     ·rw [a0 25 (by decide)] at hl;cases hl
   case fin=>
    rintro lB aB w2 ⟨x,rfl,ai,h|⟨_,_,al,_⟩|⟨_,_,Az,aq,cq,w5,n1,_,ba,k1,k2,k3,rfl⟩⟩ a0
    ·have:=a0 24 (by decide)
     rw [h.un 24 (by decide)] at this;cases this
    ·have:=a0 25 (by decide)
     rw [al] at this;cases this
    obtain ⟨a5,a9,aa,ab,ad,ae,af,ag,ah⟩:=ai;have ce:=hid (And.intro ba (And.intro k1 (And.intro k2 k3)));clear ba k1 k2 k3;simp only [J1,a5,a9,aa,ab,ad,ae,af,ag,ah];clear a5 a9 aa ab ad ae af ag ah;go_wp2;go_meet
    case rel=>exact ⟨Az,aq,cq,w5,n1,ce.out.1,ce.out.2.1,ce.out.2.2.1,ce.out.2.2.2,rfl⟩
  case rest=>
   obtain ⟨Az,aq,cq,w5,n1,ba,g8,bt,bu,rfl⟩:=hcut;have bv:wc.heap.size≤n1:=g8;have bw:Br<wc.heap.size:=bo.out.lt;have b1:=Zb b7 ba;have bz:W.heap.size=w.heap.size+3:=ct.out;have g9:=bo.out.below (Zb br.drew ba) lr;have ga:=Zjh g9 0 (.slice Az.aJ RD.jobs.length Az.cJ) (.slice Az.aR RD.rel.length Az.cR) (.int .i64 RD.nxt) (.slice Az.aI RD.ins.length Az.cI) (.slice Az.aT RD.tak.length Az.cT) (.slice Az.aO RD.out.length Az.cO) (.slice Az.aE RD.evs.length Az.cE);have cg:=fun k (h1:k≠Br) (h2:k≠w.heap.size+1)=>(Zd (Zc7 w5 Br 0 (.slice Az.aJ RD.jobs.length Az.cJ) (.slice Az.aR RD.rel.length Az.cR) (.int .i64 RD.nxt) (.slice Az.aI RD.ins.length Az.cI) (.slice Az.aT RD.tak.length Az.cT) (.slice Az.aO RD.out.length Az.cO) (.slice Az.aE RD.evs.length Az.cE)) (w.heap.size+1) 0 (.slice aq (List.length RK) cq) k h2).trans (Zd1 w5 Br 0 (.slice Az.aJ RD.jobs.length Az.cJ) (.slice Az.aR RD.rel.length Az.cR) (.int .i64 RD.nxt) (.slice Az.aI RD.ins.length Az.cI) (.slice Az.aT RD.tak.length Az.cT) (.slice Az.aO RD.out.length Az.cO) (.slice Az.aE RD.evs.length Az.cE) k h1)
   have dj:=hid (show Zf ((Zc7 w5 Br 0 (.slice Az.aJ RD.jobs.length Az.cJ) (.slice Az.aR RD.rel.length Az.cR) (.int .i64 RD.nxt) (.slice Az.aI RD.ins.length Az.cI) (.slice Az.aT RD.tak.length Az.cT) (.slice Az.aO RD.out.length Az.cO) (.slice Az.aE RD.evs.length Az.cE)).setCell ⟨w.heap.size+1,0,none⟩ (.slice aq (List.length RK) cq)) Br 46 [.slice Az.aJ RD.jobs.length Az.cJ,.slice Az.aR RD.rel.length Az.cR,.int .i64 RD.nxt,.slice Az.aI RD.ins.length Az.cI,.slice Az.aT RD.tak.length Az.cT,.slice Az.aO RD.out.length Az.cO,.slice Az.aE RD.evs.length Az.cE] from (Zd (Zc7 w5 Br 0 (.slice Az.aJ RD.jobs.length Az.cJ) (.slice Az.aR RD.rel.length Az.cR) (.int .i64 RD.nxt) (.slice Az.aI RD.ins.length Az.cI) (.slice Az.aT RD.tak.length Az.cT) (.slice Az.aO RD.out.length Az.cO) (.slice Az.aE RD.evs.length Az.cE)) (w.heap.size+1) 0 (.slice aq (List.length RK) cq) Br (by omega)).trans ga);have gb:=hid (Ze (show Zf (Zc7 w5 Br 0 (.slice Az.aJ RD.jobs.length Az.cJ) (.slice Az.aR RD.rel.length Az.cR) (.int .i64 RD.nxt) (.slice Az.aI RD.ins.length Az.cI) (.slice Az.aT RD.tak.length Az.cT) (.slice Az.aO RD.out.length Az.cO) (.slice Az.aE RD.evs.length Az.cE)) (w.heap.size+1) 72 [.slice aK (List.length k0) cK] from (Zd1 w5 Br 0 (.slice Az.aJ RD.jobs.length Az.cJ) (.slice Az.aR RD.rel.length Az.cR) (.int .i64 RD.nxt) (.slice Az.aI RD.ins.length Az.cI) (.slice Az.aT RD.tak.length Az.cT) (.slice Az.aO RD.out.length Az.cO) (.slice Az.aE RD.evs.length Az.cE) (w.heap.size+1) (by omega)).trans (cs.out.below b1 lr)) 0 (.slice aq (List.length RK) cq));have dk:=hid (show Zf _ w.heap.size 79 _ from (cg w.heap.size (by omega) (by omega)).trans (fj.out.below b1 lr));have gc:=hid (show Zf _ (w.heap.size+2) 72 _ from (cg (w.heap.size+2) (by omega) (by omega)).trans (fk.out.below b1 lr));have dm:Hid (Below w.heap.size w ((Zc7 w5 Br 0 (.slice Az.aJ RD.jobs.length Az.cJ) (.slice Az.aR RD.rel.length Az.cR) (.int .i64 RD.nxt) (.slice Az.aI RD.ins.length Az.cI) (.slice Az.aT RD.tak.length Az.cT) (.slice Az.aO RD.out.length Az.cO) (.slice Az.aE RD.evs.length Az.cE)).setCell ⟨w.heap.size+1,0,none⟩ (.slice aq (List.length RK) cq))):=hid ((Zac (Zb ca b1) (show w.heap.size≤Br by omega) 0 _ _ _ _ _ _ _).setCell (p:=⟨w.heap.size+1,0,none⟩) (by show w.heap.size≤w.heap.size+1;omega) _);have ge:((Zc7 w5 Br 0 (.slice Az.aJ RD.jobs.length Az.cJ) (.slice Az.aR RD.rel.length Az.cR) (.int .i64 RD.nxt) (.slice Az.aI RD.ins.length Az.cI) (.slice Az.aT RD.tak.length Az.cT) (.slice Az.aO RD.out.length Az.cO) (.slice Az.aE RD.evs.length Az.cE)).setCell ⟨w.heap.size+1,0,none⟩ (.slice aq (List.length RK) cq)).heap.size=w5.heap.size:=by simp [World.setCell,Zc7]
   have ci:=hid ge;have dn:Hid (∀ x,n1≤x→((Zc7 w5 Br 0 (.slice Az.aJ RD.jobs.length Az.cJ) (.slice Az.aR RD.rel.length Az.cR) (.int .i64 RD.nxt) (.slice Az.aI RD.ins.length Az.cI) (.slice Az.aT RD.tak.length Az.cT) (.slice Az.aO RD.out.length Az.cO) (.slice Az.aE RD.evs.length Az.cE)).setCell ⟨w.heap.size+1,0,none⟩ (.slice aq (List.length RK) cq)).heap[x]? = w5.heap[x]?):=hid fun x hx=>cg x (by omega) (by omega)
   have cj:=hid bu;have dp:=hid (And.intro bv (And.intro bt (And.intro bw bz)));have dq:=hid b1;generalize hw6:(Zc7 w5 Br 0 (.slice Az.aJ RD.jobs.length Az.cJ) (.slice Az.aR RD.rel.length Az.cR) (.int .i64 RD.nxt) (.slice Az.aI RD.ins.length Az.cI) (.slice Az.aT RD.tak.length Az.cT) (.slice Az.aO RD.out.length Az.cO) (.slice Az.aE RD.evs.length Az.cE)).setCell ⟨w.heap.size+1,0,none⟩ (.slice aq (List.length RK) cq)=w6 at *
   clear hw6 ba g8 bt bu bv bw b1 bz g9 ga cg ge fq fp bo fo h5 fl fj cs fk ct;have ih:=hid (HH.out.keep dm);have q7:=Za w6 (.cells #[.int .i64 te,.int .i64 13,.int .i64 0,.int .i64 0] 92);have gf:=hid (Zc w6 w6.heap.size [.int .i64 te,.int .i64 13,.int .i64 0,.int .i64 0] 92 rfl);have dr:Hid ((w6.alloc (.cells #[.int .i64 te,.int .i64 13,.int .i64 0,.int .i64 0] 92)).ownsRow n1 92 4 (.slice Az.aE RD.evs.length Az.cE) RD.evs.length (fE RD.evs)):=hid (Zy (Zi cj.out.1 (fun x hx=>dn.out x (Zv cj.out.1 x hx))) q7);have gg:Hid (Q9 (w6.alloc (.cells #[.int .i64 te,.int .i64 13,.int .i64 0,.int .i64 0] 92)) (some ⟨w6.heap.size,0,none⟩) (fE [(te,13,0,0)])):=hid fun _=>⟨_,0,rfl,fun j u hu=>by rw [Nat.zero_add];exact gf.out.cell j u hu⟩
   have gh:=hid (dj.out.below q7 lr);have gi:=hid (gb.out.below q7 lr);have gj:=hid (dk.out.below q7 lr);have gk:=hid (gc.out.below q7 lr);have gn:=hid (Zb dm q7);have ds:Hid ((w6.alloc (.cells #[.int .i64 te,.int .i64 13,.int .i64 0,.int .i64 0] 92)).heap.size=w6.heap.size+1):=hid (by simp);have go:Hid (∀ x,n1≤x→x<w5.heap.size→(w6.alloc (.cells #[.int .i64 te,.int .i64 13,.int .i64 0,.int .i64 0] 92)).heap[x]? = w5.heap[x]?):=hid fun x hx hlt=>(q7.block x (by have:=ci.out;omega)).trans (dn.out x hx)
   have r6:=dj.out.cell 6 _ rfl;have i3:=dk.out.cell 2 _ rfl;clear q7;obtain ⟨jJ,jR,jI,jT,jO,jE,kJ,kR,kI,kT,kO,kE⟩:=Az;dsimp only at *
   go_wp2_with (at_builtin;refine Js rfl _ _ 44 92 rfl _ 4 32 underlying44 Tryz.info92x rfl (by omega) n1 (.slice jE RD.evs.length kE) RD.evs.length (fE RD.evs) rfl dr.out 1 (fE [(te,13,0,0)]) rfl (Ziv _) _ _ rfl gg.out (by simp [maxLen];omega) (by omega) (by have:=dp.out;have:=ci.out;rw [ds.out];omega) ?_);intro v8 w8 az ap;obtain ⟨b2,b3,rfl,-⟩:=Zu az;rw [← Zla] at az;generalize World.alloc w6 _=w7 at *
   have bm:∀ k,(Value.slice jE RD.evs.length kE).ownBlock=some k→n1≤k:=fun k hk=>Zv dr.out k hk
   have HN:=dp.out;have dt:=ds.out;have du:=ci.out;have cn:=hid (show Zf w8 Br 46 [.slice jJ RD.jobs.length kJ,.slice jR RD.rel.length kR,.int .i64 RD.nxt,.slice jI RD.ins.length kI,.slice jT RD.tak.length kT,.slice jO RD.out.length kO,.slice jE RD.evs.length kE] from (ap.block Br (by omega) (fun e=>by have:=bm _ e.symm;omega)).trans gh.out);have gp:=hid (show Zf w8 (w.heap.size+1) 72 [.slice aq (List.length RK) cq] from (ap.block (w.heap.size+1) (by omega) (fun e=>by have:=bm _ e.symm;omega)).trans gi.out);have gq:=hid (show Zf w8 w.heap.size 79 [.int .i64 (slot:Int),.int .i64 fr,.int .i64 te] from (ap.block w.heap.size (by omega) (fun e=>by have:=bm _ e.symm;omega)).trans gj.out);have gr:=hid (show Zf w8 (w.heap.size+2) 72 [.slice none 0 0] from (ap.block (w.heap.size+2) (by omega) (fun e=>by have:=bm _ e.symm;omega)).trans gk.out);have gs:=hid (gn.out.grown ap (by omega) (fun k hk=>by have:=bm k hk;omega));have bf:w8.ownsRow n1 92 4 (.slice b2 (RD.evs++[(te,13,0,0)]).length b3) (RD.evs++[(te,13,0,0)]).length (fE (RD.evs++[(te,13,0,0)])):=by rw [List.length_append];exact az
   have gt:=hid (cj.out.told (w6:=w7) (by omega) go.out ap bf (w8:=w8.setCell ⟨Br,6,none⟩ (.slice b2 (RD.evs.length+1) b3)) ⟨by simp [World.setCell],fun k hk hx=>Zd _ _ _ _ k (by omega)⟩);have y6:=cn.out.cell 6 _ rfl;have z6:=cn.out.frozen 6;have i4:=hid (Ze cn.out 6 (.slice b2 (RD.evs.length+1) b3));have i5:=hid (show Zf (w8.setCell ⟨Br,6,none⟩ (.slice b2 (RD.evs.length+1) b3)) (w.heap.size+1) 72 _ from (Zd w8 Br 6 _ (w.heap.size+1) (by omega)).trans gp.out);have i6:=hid (show Zf (w8.setCell ⟨Br,6,none⟩ (.slice b2 (RD.evs.length+1) b3)) w.heap.size 79 _ from (Zd w8 Br 6 _ w.heap.size (by omega)).trans gq.out);have gu:=hid (show Zf (w8.setCell ⟨Br,6,none⟩ (.slice b2 (RD.evs.length+1) b3)) (w.heap.size+2) 72 _ from (Zd w8 Br 6 _ (w.heap.size+2) (by omega)).trans gr.out);have gv:=hid (gs.out.setCell (p:=⟨Br,6,none⟩) (by show w.heap.size≤Br;omega) (.slice b2 (RD.evs.length+1) b3));have dw:w.heap.size+2<n1:=by omega
   have dx:w.heap.size≤n1:=by omega
   have i7:w.heap.size≤Br:=by omega
   have gw:=hid (And.intro dw dx);clear HN dt du bm ap az bf cn gp gq gr gs gh gi gj gk dj gb dk gc dr gg cj dn go dm gn ci dp gf ds dq r6 i3;go_upto_region 5 with fail;generalize hw9:w8.setCell ⟨Br,6,none⟩ (.slice b2 (RD.evs.length+1) b3)=w9 at *
   clear hw9 y6 z6;have co:=hid (HH.out.keep gv);have c9:=hid (HH.out.win gv.out hd (D:=Znj RD te) (A:=⟨jJ,jR,jI,jT,jO,b2,kJ,kR,kI,kT,kO,b3⟩) gt.out.1 gw.out.2 fr (bx:=w.heap.size+2) (by omega) gw.out.1 0 (.slice aq (List.length RK) cq));have gx:Hid (∀ w',Below w9.heap.size w9 w'→w'.cell? ⟨K.gm,12,none⟩=some (.slice (some ⟨gd,0,none⟩) K.n K.n)∧w'.cell? ⟨K.gm,13,none⟩=some (.slice (some ⟨K.gl,0,none⟩) K.n K.n)∧w'.cell? ⟨Br,0,none⟩=some (.slice jJ RD.jobs.length kJ)∧w'.cell? ⟨Br,1,none⟩=some (.slice jR RD.rel.length kR)∧w'.cell? ⟨Br,2,none⟩=some (.int .i64 RD.nxt)∧w'.cell? ⟨Br,3,none⟩=some (.slice jI RD.ins.length kI)∧w'.cell? ⟨Br,4,none⟩=some (.slice jT RD.tak.length kT)∧w'.cell? ⟨Br,5,none⟩=some (.slice jO RD.out.length kO)∧w'.cell? ⟨Br,6,none⟩=some (.slice b2 (RD.evs.length+1) b3)∧w'.cell? ⟨w.heap.size,1,none⟩=some (.int .i64 fr)):=hid fun w' hb=>by
    have g:=fun i v hv=>((co.out.row).below hb lr).cell i v hv
    have b:=fun i v hv=>(i4.out.below hb lr).cell i v hv
    exact ⟨g 12 _ rfl,g 13 _ rfl,b 0 _ rfl,b 1 _ rfl,b 2 _ rfl,b 3 _ rfl,b 4 _ rfl,b 5 _ rfl,b 6 _ rfl,(i6.out.below hb lr).cell 1 _ rfl⟩
   obtain ⟨ii,ij,p0,p1,p2,p3,p4,p5,p6,p7⟩:=gx.out _ br;obtain ⟨bk,ay,i8⟩:=co.out.drow;obtain ⟨v0,c0⟩:∃ v,w9.cell? ⟨gd,d*7,none⟩=some v:=⟨_,ay.cell (d*7) bk[d*7] (by simp)⟩
   obtain ⟨v1,c1⟩:∃ v,w9.cell? ⟨gd,d*7+1,none⟩=some v:=⟨_,ay.cell (d*7+1) bk[d*7+1] (by simp)⟩
   obtain ⟨v2,c2⟩:∃ v,w9.cell? ⟨gd,d*7+2,none⟩=some v:=⟨_,ay.cell (d*7+2) bk[d*7+2] (by simp)⟩
   obtain ⟨v3,c3⟩:∃ v,w9.cell? ⟨gd,d*7+3,none⟩=some v:=⟨_,ay.cell (d*7+3) bk[d*7+3] (by simp)⟩
   obtain ⟨v4,c4⟩:∃ v,w9.cell? ⟨gd,d*7+4,none⟩=some v:=⟨_,ay.cell (d*7+4) bk[d*7+4] (by simp)⟩
   obtain ⟨v5,c5⟩:∃ v,w9.cell? ⟨gd,d*7+5,none⟩=some v:=⟨_,ay.cell (d*7+5) bk[d*7+5] (by simp)⟩
   obtain ⟨v6,c6⟩:∃ v,w9.cell? ⟨gd,d*7+6,none⟩=some v:=⟨_,ay.cell (d*7+6) bk[d*7+6] (by simp)⟩
   have z0:=ay.frozen (d*7);have z1:=ay.frozen (d*7+1);have z2:=ay.frozen (d*7+2);have z3:=ay.frozen (d*7+3);have z4:=ay.frozen (d*7+4);have z5:=ay.frozen (d*7+5);have z6:=ay.frozen (d*7+6);have cl:=co.out.last.cell d (.int .i64 (La d)) (by simp [ivs,hd]);have zl:=co.out.last.frozen d;have k1:=i5.out.cell 0 _ rfl;have r1:=gu.out.cell 0 _ rfl;have zr:=gu.out.frozen 0;have e1:¬ K.gm=gd:=fa;have e2:¬ K.gm=K.gl:=fb;have e3:¬ gd=K.gl:=fd;have ik:¬ gd=K.gm:=Ne.symm fa;have il:¬ K.gl=K.gm:=Ne.symm fb;have im:¬ K.gl=gd:=Ne.symm fd;have e4:¬ gd=Br:=by omega
   have e5:¬ K.gl=Br:=by omega
   have e6:¬ gd=w.heap.size:=by omega
   have e7:¬ K.gl=w.heap.size:=by omega
   have e8:¬ gd=w.heap.size+1:=by omega
   have e9:¬ K.gl=w.heap.size+1:=by omega
   have io:¬ gd=w.heap.size+1+1:=by omega
   have ip:¬ K.gl=w.heap.size+1+1:=by omega
   rw [show (Znj RD te).evs.length=RD.evs.length+1 by simp [Znj]] at c9;dsimp only [Znj] at c9;clear ay i8;go_region_held3 (fun w'=>w'.cell? ⟨K.gm,12,none⟩=some (.slice (some ⟨gd,0,none⟩) K.n K.n)∧w'.cell? ⟨K.gm,13,none⟩=some (.slice (some ⟨K.gl,0,none⟩) K.n K.n)∧w'.cell? ⟨Br,0,none⟩=some (.slice jJ RD.jobs.length kJ)∧w'.cell? ⟨Br,1,none⟩=some (.slice jR RD.rel.length kR)∧w'.cell? ⟨Br,2,none⟩=some (.int .i64 RD.nxt)∧w'.cell? ⟨Br,3,none⟩=some (.slice jI RD.ins.length kI)∧w'.cell? ⟨Br,4,none⟩=some (.slice jT RD.tak.length kT)∧w'.cell? ⟨Br,5,none⟩=some (.slice jO RD.out.length kO)∧w'.cell? ⟨Br,6,none⟩=some (.slice b2 (RD.evs.length+1) b3)∧w'.cell? ⟨w.heap.size,1,none⟩=some (.int .i64 fr))
    (first|with_reducible exact gx.out _ hbz9|go_keep) (fail)
   have i9:=hid gt.out.2;go_wp2;refine bodyPost_ret (v:=.agg #[.slice aq (List.length RK) cq]) ?res rfl ⟨⟨jJ,jR,jI,jT,jO,b2,kJ,kR,kI,kT,kO,b3⟩,aq,⟨cq,rfl⟩,c9.out.1.keep br.drew,i9.out _ (c9.out.2.2.trans (Ext.below br.drew)),c9.out.2.1.trans (Ext.below br.drew)⟩
   case res=>simp [results,results23,go_sem,r1]
end Go.Proofs.YtejhccmclanlmaaGreatDoor
