/- Wg Fh Wf Wl -/
import Derived.Lib.SliceRun
import Derived.Test.YtejhccmclanlmaaGreatDoorV21
import Derived.Test.YtejhccmclanlmaaGreatDoorV22
set_option linter.all false
set_option maxRecDepth 100000
set_option maxHeartbeats 8000000
namespace Go.Proofs.YtejhccmclanlmaaGreatDoor
open Go.RowKit Go.Proofs.Tryz
abbrev shA (M:RM) (D:Dom) (g:Nat):Yk:=⟨M.A.aJ,M.A.aR,M.A.aI,M.A.aT,some ⟨g,0,none⟩,none,M.A.cJ,M.A.cR,M.A.cI,M.A.cT,D.out.length,0⟩
theorem Zrv {X:RC} {w w1:World} {M:RM} {D:Dom} {K:KT} {now:Int} (h:RO X w M D K now) (hb:Below w.heap.size w w1) {g:Nat} (hg:w1.heap[g]? = some (.cells (madeCells #[.slice none 0 0] D.out.length) 23 (0,0))):Yz w1 (shA M D g) (Zq D):=by
 have d:=h.dom.keep hb;have hO:=h.lO;refine ⟨d.jobs,d.rel,d.ins,d.tak,?_,?_,d.lJ,d.lR,d.lI,d.lT,by simp [Zq];omega,by simp [Zq]⟩
 ·intro i hi
  have a0:i<D.out.length:=by simpa [Zq] using hi
  have e:(Zq D).out[i]=[]:=by simp [Zq]
  refine ⟨g,0,none,0,rfl,?_,?_,?_,?_⟩
  ·have:=(Je.start (m:=0) (L:=D.out) hg)
   obtain ⟨cs,v,h1,h2,h3,h4⟩:=this;rw [e,Nat.zero_add];have hc:w1.cell? ⟨g,i,none⟩=(madeCells #[Value.slice none 0 0] D.out.length)[i]? := by simp [World.cell?,hg]
   rw [hc,List.length_nil];rw [← Array.getElem?_toList,toList_madeCells_one,List.getElem?_replicate,if_pos a0]
  ·rw [e];intro j hj;simp at hj
  ·rw [e];exact zl
  ·rw [e];exact zl
 ·intro i hi;simp [Zq] at hi
theorem Zi8 (X:RC) (M:RM) (D:Dom) (K:KT) (now:Int) (w:World) (h:RO X w M D K now):
  Calls prog 134 #[.pointer (some ⟨X.rb,0,none⟩)] w fun e w'=>∃ g,e=.returned (dv (Zq D) (shA M D g))∧Yz w' (shA M D g) (Zq D)∧Below w.heap.size w w':=by
 have a0:X.rb<w.heap.size:=h.row.lt;have HH:=hid h;obtain ⟨c0,c1,c2,c3,c4,c5,c6⟩:=h.row.q7 rfl rfl rfl rfl rfl rfl rfl;have hO:=h.lO;have a1:=Zfa D.out.length (by omega);clear h;go_enter func134,ntmps134;go_wp2;have HB:=Zb (Zb (Za w (.cells #[.slice M.A.aJ D.jobs.length M.A.cJ,.slice M.A.aR D.rel.length M.A.cR,.int .i64 D.nxt,.slice M.A.aI D.ins.length M.A.cI,.slice M.A.aT D.tak.length M.A.cT,.slice (some ⟨w.heap.size+1+1,0,none⟩) D.out.length D.out.length,.slice none 0 0] 46)) (Za _ (.cells #[.slice M.A.aJ D.jobs.length M.A.cJ,.slice M.A.aR D.rel.length M.A.cR,.int .i64 D.nxt,.slice M.A.aI D.ins.length M.A.cI,.slice M.A.aT D.tak.length M.A.cT,.slice (some ⟨w.heap.size+1+1,0,none⟩) D.out.length D.out.length,.slice none 0 0] 46))) (Za _ (.cells (madeCells #[.slice none 0 0] D.out.length) 23));refine bodyPost_ret (v:=.agg #[.slice M.A.aJ D.jobs.length M.A.cJ,.slice M.A.aR D.rel.length M.A.cR,.int .i64 D.nxt,.slice M.A.aI D.ins.length M.A.cI,.slice M.A.aT D.tak.length M.A.cT,.slice (some ⟨w.heap.size+1+1,0,none⟩) D.out.length D.out.length,.slice none 0 0]) (by simp [results,results134,go_sem]) rfl ⟨w.heap.size+1+1,by simp [Zq],Zrv HH.out HB ?_,HB⟩
 have:=heap_alloc_new ((w.alloc (.cells #[.slice M.A.aJ D.jobs.length M.A.cJ,.slice M.A.aR D.rel.length M.A.cR,.int .i64 D.nxt,.slice M.A.aI D.ins.length M.A.cI,.slice M.A.aT D.tak.length M.A.cT,.slice (some ⟨w.heap.size+1+1,0,none⟩) D.out.length D.out.length,.slice none 0 0] 46)).alloc (.cells #[.slice M.A.aJ D.jobs.length M.A.cJ,.slice M.A.aR D.rel.length M.A.cR,.int .i64 D.nxt,.slice M.A.aI D.ins.length M.A.cI,.slice M.A.aT D.tak.length M.A.cT,.slice (some ⟨w.heap.size+1+1,0,none⟩) D.out.length D.out.length,.slice none 0 0] 46)) (.cells (madeCells #[.slice none 0 0] D.out.length) 23)
 simpa using this
end Go.Proofs.YtejhccmclanlmaaGreatDoor
namespace Go.Proofs.YtejhccmclanlmaaGreatDoor
open Go.RowKit Go.Shelf Go.Proofs.Tryz
attribute [local go_sem] Oper.semAt_some
def Znu (s c:Int):Int:=if s<0 then c else if c<s then c else s
def Zq0 (C:Zm) (D:Dom) (l:List NT):Int:=l.foldl (fun s x=>Znu s (Y0 C D x.1)) (-1)
theorem Zr6 (C:Zm) (D:Dom) (l:List NT) (x:NT):Zq0 C D (l++[x])=Znu (Zq0 C D l) (Y0 C D x.1):=by simp [Zq0]
theorem Zyn (D:Dom) (A:Yk) (C:Zm) (B:Mem) (dn:Int) (w:World) (hC:Z1 w B C) (hD:Yz w A D) (hz:ckD C dn D=0):
  Calls prog 158 #[cv C B,.int .i64 dn,dv D A] w fun e w'=>e=.returned (.tuple #[.int .i64 (Zq0 C D (Za0 C dn C.ta.length)),.int .i64 0])∧Below w.heap.size w w':=by
 have q1:=Za w (.cells (cl C B) 27);have q2:=Za (w.alloc (.cells (cl C B) 27)) (.cells (dl D A) 46);have HC:=hid (hC.keep (Zb q1 q2));have HD:=hid (hD.keep (Zb q1 q2));have HX:=hid ((Yq w C B).keep q2);have HR:=hid (Zc (w.alloc (.cells (cl C B) 27)) (w.heap.size+1) (dl D A).toList 46 (by simp));have HB:=hid (Zb q1 q2);have ag:=hid hC;have ax:=hid hD;have HZ:=hid hz;clear q1 q2 hC hD hz;obtain ⟨aJ,aR,aI,aT,aO,aE,cJ,cR,cI,cT,cO,cE⟩:=A;obtain ⟨a5,a6,a7,a8,c5,c6,c7,c8⟩:=B;dsimp only [cv,cl,dv,dl] at *
 refine (callsIn_wide (n:=6)).1 (callsIn_of_wp_marks func158 rfl trivial ?_ rfl);refine wpIn_wide.2 ?_;simp only [ntmps158,List.size_toArray,List.length_cons,List.length_nil,Nat.reduceAdd,Nat.reduceSub,Array.replicate_succ,Array.replicate_zero,List.push_toArray,List.append_toArray,List.nil_append,List.cons_append];obtain ⟨g0,g1,g2,g3,g4,g5,g6,g7,g8⟩:=HX.out;obtain ⟨d0,d1,d2,d3,d4,d5,d6⟩:=HR.out.q7 rfl rfl rfl rfl rfl rfl rfl;go_wp2_with fail;refine (Za1 D ⟨aJ,aR,aI,aT,aO,aE,cJ,cR,cI,cT,cO,cE⟩ C ⟨a5,a6,a7,a8,c5,c6,c7,c8⟩ dn _ HC HD).mono ?_;rintro e w1 ⟨rfl,ac⟩;rw [HZ.out];generalize World.alloc (World.alloc w _) _=W at *
 clear g0 g1 g2 g3 g4 g5 g6 g7 g8 d0 d1 d2 d3 d4 d5 d6;have ao:=hid (Zb HB ac);obtain ⟨g0,g1,g2,g3,g4,g5,g6,g7,g8⟩:=HX.out.keep ac;have r:=HR.out.below ac lr;obtain ⟨d0,d1,d2,d3,d4,d5,d6⟩:=r.q7 rfl rfl rfl rfl rfl rfl rfl;clear r ac HC HD HX HR HB;go_wp2_with fail;refine ((callsIn_wide (n:=5)).1 (Zke 5 _ _)).mono ?_;rintro e w' ⟨rfl,tt,rfl⟩;have q3:=Za w1 (.cells #[.slice aJ D.jobs.length cJ,.slice aR D.rel.length cR,.int .i64 D.nxt,.slice aI D.ins.length cI,.slice aT D.tak.length cT,.slice aO D.out.length cO,.slice aE D.evs.length cE,.int .i64 C.s,.int .i64 C.w,.int .i64 C.d,.int .i64 C.p,.int .i64 C.q,.slice a5 C.sl.length c5,.slice a6 C.ow.length c6,.slice a7 C.ch.length c7,.slice a8 C.ta.length c8,.int .i64 dn] 179);have q4:=Za (w1.alloc (.cells #[.slice aJ D.jobs.length cJ,.slice aR D.rel.length cR,.int .i64 D.nxt,.slice aI D.ins.length cI,.slice aT D.tak.length cT,.slice aO D.out.length cO,.slice aE D.evs.length cE,.int .i64 C.s,.int .i64 C.w,.int .i64 C.d,.int .i64 C.p,.int .i64 C.q,.slice a5 C.sl.length c5,.slice a6 C.ow.length c6,.slice a7 C.ch.length c7,.slice a8 C.ta.length c8,.int .i64 dn] 179)) (.cells #[.int .i64 (-1)] 3);have q5:=Za ((w1.alloc (.cells #[.slice aJ D.jobs.length cJ,.slice aR D.rel.length cR,.int .i64 D.nxt,.slice aI D.ins.length cI,.slice aT D.tak.length cT,.slice aO D.out.length cO,.slice aE D.evs.length cE,.int .i64 C.s,.int .i64 C.w,.int .i64 C.d,.int .i64 C.p,.int .i64 C.q,.slice a5 C.sl.length c5,.slice a6 C.ow.length c6,.slice a7 C.ch.length c7,.slice a8 C.ta.length c8,.int .i64 dn] 179)).alloc (.cells #[.int .i64 (-1)] 3)) (.cells #[.pointer (some ⟨w1.heap.size,0,none⟩)] tt);have RK:=hid ((Zc w1 w1.heap.size [.slice aJ D.jobs.length cJ,.slice aR D.rel.length cR,.int .i64 D.nxt,.slice aI D.ins.length cI,.slice aT D.tak.length cT,.slice aO D.out.length cO,.slice aE D.evs.length cE,.int .i64 C.s,.int .i64 C.w,.int .i64 C.d,.int .i64 C.p,.int .i64 C.q,.slice a5 C.sl.length c5,.slice a6 C.ow.length c6,.slice a7 C.ch.length c7,.slice a8 C.ta.length c8,.int .i64 dn] 179 rfl).below (Zb q4 q5) lr);have RS:=hid ((Zc (w1.alloc (.cells #[.slice aJ D.jobs.length cJ,.slice aR D.rel.length cR,.int .i64 D.nxt,.slice aI D.ins.length cI,.slice aT D.tak.length cT,.slice aO D.out.length cO,.slice aE D.evs.length cE,.int .i64 C.s,.int .i64 C.w,.int .i64 C.d,.int .i64 C.p,.int .i64 C.q,.slice a5 C.sl.length c5,.slice a6 C.ow.length c6,.slice a7 C.ch.length c7,.slice a8 C.ta.length c8,.int .i64 dn] 179)) (w1.heap.size+1) [.int .i64 (-1)] 3 (by simp)).below q5 lr);have ah:(((w1.alloc (.cells #[.slice aJ D.jobs.length cJ,.slice aR D.rel.length cR,.int .i64 D.nxt,.slice aI D.ins.length cI,.slice aT D.tak.length cT,.slice aO D.out.length cO,.slice aE D.evs.length cE,.int .i64 C.s,.int .i64 C.w,.int .i64 C.d,.int .i64 C.p,.int .i64 C.q,.slice a5 C.sl.length c5,.slice a6 C.ow.length c6,.slice a7 C.ch.length c7,.slice a8 C.ta.length c8,.int .i64 dn] 179)).alloc (.cells #[.int .i64 (-1)] 3)).alloc (.cells #[.pointer (some ⟨w1.heap.size,0,none⟩)] tt)).cell? ⟨w1.heap.size+1+1,0,none⟩=some (.pointer (some ⟨w1.heap.size,0,none⟩)):=by
  have:=(Boxed.new ((w1.alloc (.cells #[.slice aJ D.jobs.length cJ,.slice aR D.rel.length cR,.int .i64 D.nxt,.slice aI D.ins.length cI,.slice aT D.tak.length cT,.slice aO D.out.length cO,.slice aE D.evs.length cE,.int .i64 C.s,.int .i64 C.w,.int .i64 C.d,.int .i64 C.p,.int .i64 C.q,.slice a5 C.sl.length c5,.slice a6 C.ow.length c6,.slice a7 C.ch.length c7,.slice a8 C.ta.length c8,.int .i64 dn] 179)).alloc (.cells #[.int .i64 (-1)] 3)) tt (.pointer (some ⟨w1.heap.size,0,none⟩))).cell
  simp only [World.size_alloc] at this;exact this
 have ap:=hid (Zb ao (Zb q3 (Zb q4 q5)));have ay:Hid ((((w1.alloc (.cells #[.slice aJ D.jobs.length cJ,.slice aR D.rel.length cR,.int .i64 D.nxt,.slice aI D.ins.length cI,.slice aT D.tak.length cT,.slice aO D.out.length cO,.slice aE D.evs.length cE,.int .i64 C.s,.int .i64 C.w,.int .i64 C.d,.int .i64 C.p,.int .i64 C.q,.slice a5 C.sl.length c5,.slice a6 C.ow.length c6,.slice a7 C.ch.length c7,.slice a8 C.ta.length c8,.int .i64 dn] 179)).alloc (.cells #[.int .i64 (-1)] 3)).alloc (.cells #[.pointer (some ⟨w1.heap.size,0,none⟩)] tt)).heap.size=w1.heap.size+3):=hid (by simp);generalize (((w1.alloc (.cells #[.slice aJ D.jobs.length cJ,.slice aR D.rel.length cR,.int .i64 D.nxt,.slice aI D.ins.length cI,.slice aT D.tak.length cT,.slice aO D.out.length cO,.slice aE D.evs.length cE,.int .i64 C.s,.int .i64 C.w,.int .i64 C.d,.int .i64 C.p,.int .i64 C.q,.slice a5 C.sl.length c5,.slice a6 C.ow.length c6,.slice a7 C.ch.length c7,.slice a8 C.ta.length c8,.int .i64 dn] 179)).alloc (.cells #[.int .i64 (-1)] 3)).alloc (.cells #[.pointer (some ⟨w1.heap.size,0,none⟩)] tt))=W0 at *
 clear q3 q4 q5 g0 g1 g2 g3 g4 g5 g6 g7 g8 d0 d1 d2 d3 d4 d5 d6;have b7:=ay.out;have az:=ao.out.size;have aq:Hid (∀ wx,Zbb (fun x=>x=w1.heap.size+1) W0 wx→Jf wx w1.heap.size D ⟨aJ,aR,aI,aT,aO,aE,cJ,cR,cI,cT,cO,cE⟩ C ⟨a5,a6,a7,a8,c5,c6,c7,c8⟩ dn):=hid fun wx h=>by
  have hb:Below (w1.heap.size+1) W0 wx:=h.to_below (by omega) (fun x hx=>by omega);have hw:Below w.heap.size w wx:=ap.out.trans (hb.mono (by omega));exact ⟨(hb.block _ (by omega)).trans RK.out,ax.out.keep hw,ag.out.keep hw⟩
 have ad:=aq.out W0 (Zbb.refl _ _);have ai:=ad.row.cell 15 _ rfl;have aj:=ad.row.cell 16 _ rfl;have ak:=ad.con.ta;have al:∀ b o,a8=some ⟨b,o,none⟩→0<C.ta.length→b<w.heap.size:=Zew ag.out.ta;have b0:C.ta.length≤9223372036854775807:=ag.out.l8;have am:Hid (∀ W W',Zbb (fun x=>x=w1.heap.size+1) W0 W→Zbb (fun x=>x=w1.heap.size+1) W0 W'→W.heap.size≤W'.heap.size→TK (w1.heap.size+1+1) w1.heap.size a8 C.ta.length W W'):=hid fun W W' h h' hs=>
  TK.of_heap hs ((h'.same _ (by omega) (by omega)).trans (h.same _ (by omega) (by omega)).symm) ((h'.same _ (by omega) (by omega)).trans (h.same _ (by omega) (by omega)).symm) (fun b o e hn=>by
   have hb:=al b o e hn;exact (h'.same _ (by omega) (by omega)).trans (h.same _ (by omega) (by omega)).symm)
 clear ad;go_wp2;refine (wpIn_wide (n:=6)).1 ?_;refine wpIn_rangeFunc_ownH rfl (by omega) (gf:=173) (lb:=#[.pointer (some ⟨w1.heap.size+1+1,0,none⟩)]) rfl trivial (enters_of func173 (by kernel_rfl) rfl)
  (Zfo (6-1) (by omega) (w1.heap.size+1+1) w1.heap.size (w1.heap.size+3) C a8 c8 dn (by omega) (by omega) b0 W0 ah ai aj ak (fun b o e h=>by have:=al b o e h;omega) (by omega))
  TK.trans (TK.book (by omega) (by omega) (fun b o e h=>by have:=al b o e h;omega)) br (fun _=>rfl)
  (fun (pre:List (OT C dn)) W=>Zbb (fun x=>x=w1.heap.size+1) W0 W∧Zf W (w1.heap.size+1) 3 [.int .i64 (Zq0 C D (pre.map (·.1)))])
  (fun c pre W=>False)
  (fun pre W W' row hs hg hr=>⟨hs.1.grown hg (fun x e=>.inr (hr x e).1),by
   have h1:=hg.block (w1.heap.size+1) hs.2.lt (fun e=>by have:=(hr _ e.symm).1;omega);have h2:W.heap[w1.heap.size+1]? = _:=hs.2;exact h1.trans h2⟩)
  (fun c=>ownFrom_pure _ _)
  ⟨Zbb.refl _ _,RS.out⟩
  (fun y a' W=>a'={tmps:=#[.agg #[.int .i64 C.s,.int .i64 C.w,.int .i64 C.d,.int .i64 C.p,.int .i64 C.q,.slice a5 C.sl.length c5,.slice a6 C.ow.length c6,.slice a7 C.ch.length c7,.slice a8 C.ta.length c8],.int .i64 dn,.agg #[.slice aJ D.jobs.length cJ,.slice aR D.rel.length cR,.int .i64 D.nxt,.slice aI D.ins.length cI,.slice aT D.tak.length cT,.slice aO D.out.length cO,.slice aE D.evs.length cE],.pointer (some ⟨w.heap.size,0,none⟩),undef,.pointer (some ⟨w.heap.size+1,0,none⟩),.int .i64 0,.int .i64 0,.int .i64 0,.pointer (some ⟨w1.heap.size,0,none⟩),.pointer (some ⟨w1.heap.size+1,0,none⟩),.int .i64 (y.1.1:Int),undef,.agg #[.int .i64 C.s,.int .i64 C.w,.int .i64 C.d,.int .i64 C.p,.int .i64 C.q,.slice a5 C.sl.length c5,.slice a6 C.ow.length c6,.slice a7 C.ch.length c7,.slice a8 C.ta.length c8],.int .i64 dn,.agg #[.slice aJ D.jobs.length cJ,.slice aR D.rel.length cR,.int .i64 D.nxt,.slice aI D.ins.length cI,.slice aT D.tak.length cT,.slice aO D.out.length cO,.slice aE D.evs.length cE],.int .i64 0,.int .i64 0,.bool false,undef,.agg #[.slice aJ D.jobs.length cJ,.slice aR D.rel.length cR,.int .i64 D.nxt,.slice aI D.ins.length cI,.slice aT D.tak.length cT,.slice aO D.out.length cO,.slice aE D.evs.length cE],.agg #[.int .i64 C.s,.int .i64 C.w,.int .i64 C.d,.int .i64 C.p,.int .i64 C.q,.slice a5 C.sl.length c5,.slice a6 C.ow.length c6,.slice a7 C.ch.length c7,.slice a8 C.ta.length c8],.int .i64 dn,.agg #[.slice aJ D.jobs.length cJ,.slice aR D.rel.length cR,.int .i64 D.nxt,.slice aI D.ins.length cI,.slice aT D.tak.length cT,.slice aO D.out.length cO,.slice aE D.evs.length cE,.int .i64 C.s,.int .i64 C.w,.int .i64 C.d,.int .i64 C.p,.int .i64 C.q,.slice a5 C.sl.length c5,.slice a6 C.ow.length c6,.slice a7 C.ch.length c7,.slice a8 C.ta.length c8,.int .i64 dn],.func (.func 173) #[] #[.pointer (some ⟨w1.heap.size+1+1,0,none⟩)],.int .i64 (y.1.1:Int),.agg #[.int .i64 y.1.2.1,.int .i64 y.1.2.2.1,.int .i64 y.1.2.2.2.1,.int .i64 y.1.2.2.2.2],undef,undef,undef,undef,undef,undef,undef,undef,undef,undef,undef],defers:=[]})
  (fun y a'=>ownFrom_pure _ _)
  ?assign ?body ?done ?stop
 case assign=>
  rintro l pre y W K hI hK;dsimp only [Zua];gi_wp2;exact hK _ _ (KeepsFrom.refl _ _) (TK.refl _ _ _ _ _) hI rfl
 case stop=>
  rintro Dd c pre W hD hS hF;exact hF.elim
 case body=>
  rintro l pre ⟨⟨k,b1⟩,hy⟩ a' W hl ⟨r,hr⟩ ⟨a4,a1⟩ rfl b2;have a9:=Zb9 _ hy;dsimp only at a9;have a2:Hid (Zq0 C D ((pre++[(⟨(k,b1),hy⟩:OT C dn)]).map (·.1))=Znu (Zq0 C D (pre.map (·.1))) (Y0 C D k)):=hid (by rw [List.map_append];exact Zr6 C D _ _);generalize Zq0 C D (pre.map (·.1))=s at *
  have b8:=Ye.1 (Z0.1 HZ).2.1;have ar:=hid (Zgs w1.heap.size D ⟨aJ,aR,aI,aT,aO,aE,cJ,cR,cI,cT,cO,cE⟩ C ⟨a5,a6,a7,a8,c5,c6,c7,c8⟩ dn k W (aq.out W a4) a9.1 (by omega));generalize Y0 C D k=c at *
  have ae:=hid a4;have an:=hid a1;clear a4 a1 ak ai aj ah;gi_wp2;refine ⟨trivial,(CallsIn.inRound l (callsIn_wide.2 ar.out)).mono ?_⟩;rintro e w5 ⟨rfl,af⟩;have a0:=hid (ae.out.below af);have aa:=hid (an.out.below af lr);have a3:=hid (Z6 af);have s0:=aa.out.cell 0 _ rfl;have f0:=aa.out.frozen 0;clear af ar;by_cases h1:s<0
  ·have ab:Hid (Znu s c=c):=hid (by simp [Znu,h1])
   gi_wp2;exact ⟨(a3.out.trans (KeepsOthers.setCell _ _ _)).from _,am.out _ _ ae.out (a0.out.set (.inl rfl) 0 _) (by have:=a3.out.size;simpa using this),a0.out.set (.inl rfl) 0 _,by rw [a2.out,ab.out];exact Ze aa.out 0 _⟩
  ·by_cases h2:c<s
   ·have ab:Hid (Znu s c=c):=hid (by simp [Znu,h1,h2])
    gi_wp2;exact ⟨(a3.out.trans (KeepsOthers.setCell _ _ _)).from _,am.out _ _ ae.out (a0.out.set (.inl rfl) 0 _) (by have:=a3.out.size;simpa using this),a0.out.set (.inl rfl) 0 _,by rw [a2.out,ab.out];exact Ze aa.out 0 _⟩
   ·have ab:Hid (Znu s c=s):=hid (by simp [Znu,h1,h2])
    gi_wp2;exact ⟨a3.out.from _,am.out _ _ ae.out a0.out a3.out.size,a0.out,by rw [a2.out,ab.out];exact aa.out⟩
 case done=>
  rintro Dd ys W hD hS ⟨a4,a1⟩ au;have b3:ys.map (·.1)=Za0 C dn C.ta.length:=hS;rw [b3] at a1;have s0:=a1.cell 0 _ rfl;have b4:Hid (Below w.heap.size w W):=hid (ap.out.trans (a4.to_below (by omega) (fun x hx=>by omega)));have aw:=hid au;have b5:=hid hD;generalize hdl:Zq0 C D (Za0 C dn C.ta.length)=du at *
  have b6:=hid hdl;clear au hdl ak ai aj ah;go_wp2;refine ⟨by simp,.inl ⟨_,_,rfl,run_takeDeferred aw.out,?_⟩⟩;refine ⟨.tuple #[.int .i64 du,.int .i64 0],?_,by rw [b6.out],b4.out.trans (belowK_b (w:=w) lr W Dd _ _ (by have:=b5.out;omega) aw.out rfl rfl)⟩;simp [results,results158,go_sem]
end Go.Proofs.YtejhccmclanlmaaGreatDoor
namespace Go.Proofs.YtejhccmclanlmaaGreatDoor
open Go.RowKit Go.Proofs.Tryz
theorem J2 (X:RC) (M:RM) (D:Dom) (K:KT) (now kd p q:Int) (w:World) (h:RO X w M D K now) (hl:D.evs.length≤1000000000000):
  Calls prog 159 #[.pointer (some ⟨X.rb,0,none⟩),.int .i64 kd,.int .i64 p,.int .i64 q] w fun e w'=>e=.returned (.tuple #[])∧∃ a' c',RO X w' (evM M a' c') (Y7 D (now,kd,p,q)) K now:=by
 have a9:X.w0.heap.size≤w.heap.size:=h.ag.size;have c6:=h.row.cell 6 _ rfl;have aa:=h.row.cell 19 _ rfl;have a3:Below w.heap.size w (w.alloc (.cells #[.int .i64 now,.int .i64 kd,.int .i64 p,.int .i64 q] 92)).drew:=(Za _ _).drew;have HA:=hid (h.below a3);have RE:Hid (Zf (w.alloc (.cells #[.int .i64 now,.int .i64 kd,.int .i64 p,.int .i64 q] 92)).drew w.heap.size 92 [.int .i64 now,.int .i64 kd,.int .i64 p,.int .i64 q]):=hid (Zc w w.heap.size [.int .i64 now,.int .i64 kd,.int .i64 p,.int .i64 q] 92 rfl);have a8:∀ o,(w.alloc o).cell? ⟨X.rb,6,none⟩=some (.slice M.A.aE D.evs.length M.A.cE):=fun o=>Zl o c6
 clear a3 h;obtain ⟨⟨aJ,aR,aI,aT,aO,aE,cJ,cR,cI,cT,cO,cE⟩,V,gI,gO,aK,cK⟩:=M;dsimp only at *
 go_enter func159,ntmps159;go_wp2;go_region_law (first
  | (refine Zak (by rfl) _ _ 44 92 (by rfl) _ 4 32 underlying44 Tryz.info92x rfl (by omega) X.w0.heap.size (.slice aE D.evs.length cE) D.evs.length (fE D.evs) (by rfl) HA.out.px.evs w.heap.size 1 1 (fE [(now,kd,p,q)]) (by rfl) rfl (fun j u hu=>RE.out.cell j u hu) (Ziv _) (by omega) (by simp [maxLen];omega) (by omega) (by simp;omega) ?_;intro g a4 w4 a1 a0 a2;have r4:Zf w4 X.rb 152 _:=(a0.block X.rb HA.out.row.lt (fun e=>Yi HA.out.px.evs HA.out.row (by decide) X.rb e.symm rfl)).trans HA.out.row;have e0:=r4.cell 6 _ rfl;have f0:=r4.frozen 6;have a5:=hid a1;have a6:=hid a0;have a7:=hid a2;clear a1 a0 r4 a2))
 all_goals
  have HE:Hid (∃ a' c',RO X (w4.setCell ⟨X.rb,6,none⟩ (.slice (some ⟨g,0,none⟩) (D.evs.length+1) a4)) (evM ⟨⟨aJ,aR,aI,aT,aO,aE,cJ,cR,cI,cT,cO,cE⟩,V,gI,gO,aK,cK⟩ a' c') (Y7 D (now,kd,p,q)) K now):=by
   have:=HA.out.told (E:=D.evs++[(now,kd,p,q)]) (a':=some ⟨g,0,none⟩) (c':=a4) a6.out (by rw [Zla,List.length_append];exact a5.out) (fun x hx=>by
    simp only [Value.ownBlock,Option.some.injEq] at hx;subst hx;rcases a7.out with h'|h'
    ·exact .inl h'
    ·exact .inr (by omega))
   rw [List.length_append] at this;exact hid ⟨_,_,this⟩
  clear HA a5 a6 a7 c6 a8;go_wp2;go_end0;exact ⟨rfl,HE.out⟩
theorem Zb6 {g:Nat} {t:TypeId}:∀ (vs:List Value) (o:Nat) (w:World) (cur:Array Value),w.heap[g]? = some (.cells cur t (0,0))→o+vs.length≤cur.size→∃ cur',(w.setCells g o vs).heap[g]? = some (.cells cur' t (0,0))∧cur'.size=cur.size∧cur'.toList=cur.toList.take o++vs++cur.toList.drop (o+vs.length)
 | [],o,w,cur,h,hl=>⟨cur,h,rfl,by simp⟩
 | v::r,o,w,cur,h,hl=>by
  have hl':o+(r.length+1)≤cur.size:=hl;obtain ⟨cur',h1,h2,h3⟩:=Zb6 r (o+1) (w.setCell ⟨g,o,none⟩ v) (cur.setIfInBounds o v) (Zjr h) (by simp;omega);refine ⟨cur',h1,by rw [h2];simp,?_⟩;rw [h3,Array.toList_setIfInBounds];have ho:o<cur.toList.length:=by simp;omega
  generalize cur.toList=L at *
  obtain ⟨p,x,q,rfl,rfl⟩:∃ p x q,L=p++x::q∧p.length=o:=⟨L.take o,L[o],L.drop (o+1),by simp,by simp;omega⟩
  have e1:(p++x::q).set p.length v=p++v::q:=by simp
  have d1:∀ y:Value,List.drop (p.length+1+r.length) (p++y::q)=q.drop r.length:=fun y=>by
   rw [show p++y::q=(p++[y])++q by simp,List.drop_append];simp [List.drop_eq_nil_of_le]
  rw [e1,d1,show p.length+(v::r).length=p.length+1+r.length by simp;omega,d1];rw [show p++v::q=(p++[v])++q by simp,List.take_append_of_le_length (by simp),List.take_of_length_le (by simp)];simp
theorem Zbp (g:Nat):∀ (vs:List Value) (o:Nat) (w:World),w.grownBy (w.setCells g o vs) (some g)
 | [],o,w=>⟨rfl,rfl,rfl,lr,fun _ _ _=>rfl⟩
 | v::r,o,w=>by
  have h:=Zbp g r (o+1) (w.setCell ⟨g,o,none⟩ v);refine ⟨h.os,h.tape,h.output,Nat.le_trans (by simp) h.size,fun k hk hne=>?_⟩;rw [show (w.setCells g o (v::r)).heap[k]? = ((w.setCell ⟨g,o,none⟩ v).setCells g (o+1) r).heap[k]? from rfl,h.block k (by simpa using hk) hne,Zd _ _ _ _ k (fun e=>hne (by rw [e]))]
theorem Zxt (w:World) (ty:TypeId) (b o c:Nat) (hc:∀ j,j<6→(w.cell? ⟨b,o+j,none⟩).isSome=true) (hf:∀ j,j<6→w.frozen? ⟨b,o+j,none⟩=false):
  (Builtin.clear_ #[41] ty #[.slice (some ⟨b,o,none⟩) 1 c]).run prog w=.ok (.tuple #[]) (w.setCells b o [.int .i64 0,.int .i64 0,.int .i64 0,.int .i64 0,.bool false,.bool false]):=by
 have a1:=run_storeCells_cells (P:=prog) b o [.int .i64 0,.int .i64 0,.int .i64 0,.int .i64 0,.bool false,.bool false] 0 w (by simpa using hc) (by simpa using hf) (by intro v a2;simp at a2;rcases a2 with rfl|rfl<;>rfl);simp only [Nat.add_zero] at a1;have hz:∀ w,(zeroValue 87).run prog w=.ok (.agg #[.int .i64 0,.int .i64 0,.int .i64 0,.int .i64 0,.bool false,.bool false]) w:=fun w=>by kernel_rfl
 have a0:(Builtin.zeroCells (Value.agg #[.int .i64 0,.int .i64 0,.int .i64 0,.int .i64 0,.bool false,.bool false]).cells 1).toList=[.int .i64 0,.int .i64 0,.int .i64 0,.int .i64 0,.bool false,.bool false]:=by kernel_rfl
 simp [Builtin.clear_,run_underlying underlying41,hz,a0,a1]
theorem Zgm {α:Type} (a b:List α) (k:Nat) (h:a.length=k):(a++b).take k=a:=by subst h;simp
theorem Zos (J:List J6) (i:Nat) (hi:i<J.length) (c0 c1 c2 z:List Value) (cap:Nat) (hl:c0.length=cap*6) (hcap:J.length≤cap) (h0:c0.take (J.length*6)=fJ J) (h1:c1=c0.take (i*6)++fJ (J.drop (i+1))++c0.drop (i*6+(fJ (J.drop (i+1))).length)) (h2:c2=c1.take ((J.length-1)*6)++z++c1.drop ((J.length-1)*6+z.length)):c2.take ((J.length-1)*6)=fJ (J.eraseIdx i):=by
 have t2:c0.take (i*6)=fJ (J.take i):=by
  have e1:c0.take (i*6)=(fJ J).take (i*6):=by rw [← h0,List.take_take,Nat.min_eq_left (by omega)]
  have e2:fJ J=fJ (J.take i)++fJ (J.drop i):=by rw [← Zod,List.take_append_drop]
  rw [e1,e2];exact Zgm _ _ _ (by rw [Zdf,List.length_take,Nat.min_eq_left (by omega)])
 have hd:(fJ (J.drop (i+1))).length=(J.length-(i+1))*6:=by rw [Zdf,List.length_drop]
 have a0:(fJ (J.take i)++fJ (J.drop (i+1))).length=(J.length-1)*6:=by
  rw [List.length_append,hd,Zdf,List.length_take,Nat.min_eq_left (by omega)];omega
 have t3:c1.take ((J.length-1)*6)=fJ (J.take i)++fJ (J.drop (i+1)):=by
  rw [h1,t2];exact Zgm _ _ _ a0
 rw [h2,t3,List.append_assoc,Zgm _ _ _ a0,← Zod,List.eraseIdx_eq_take_drop_succ]
theorem Zo9 (g cap i base:Nat) (J:List J6) (w:World) (ho:w.ownsRow base 87 6 (.slice (some ⟨g,0,none⟩) J.length cap) J.length (fJ J)) (hi:i<J.length):
  Calls prog 179 #[.slice (some ⟨g,0,none⟩) J.length cap,.int .i64 (i:Int),.int .i64 ((i+1:Nat):Int)] w fun e w'=>e=.returned (.slice (some ⟨g,0,none⟩) (J.length-1) cap)∧w'.ownsRow base 87 6 (.slice (some ⟨g,0,none⟩) (J.length-1) cap) (J.length-1) (fJ (J.eraseIdx i))∧w.grownBy w' (some g):=by
 obtain ⟨a4,a6,ad,a7,ak,a5,al⟩:∃ a4,w.heap[g]? = some (.cells a4 87 (0,0))∧J.length≤cap∧cap≤maxLen∧a4.size=cap*6∧a4.toList.take (J.length*6)=fJ J∧base≤g:=by
  rcases ho.2 with ⟨q,_⟩|⟨g',am,a4,e1,e2,e3,e4,e5,e6,e7⟩
  ·cases q
  ·cases e1
   exact ⟨a4,e3,e4,e5,e6,e7,e2⟩
 have au:cap≤9223372036854775807:=by simp only [maxLen] at a7;omega
 obtain ⟨n,hn⟩:∃ n,J.length=n:=⟨_,rfl⟩
 have a2:∀ k,k<n*6→w.cell? ⟨g,k,none⟩=(fJ J)[k]? := fun k hk=>by
  rw [← a5,hn];simp [World.cell?,a6,hk]
 have ag:∀ k,w.frozen? ⟨g,k,none⟩=false:=fun k=>by simp [World.frozen?,a6]
 have an:(fJ J).length=n*6:=by rw [Zdf,hn]
 obtain ⟨i0,ao,aw,ap,ax⟩:=Zbk Tryz.info87x;obtain ⟨a0,a1⟩:∃ a0,a0=fJ (J.drop (i+1)):=⟨_,rfl⟩
 have ah:a0.length=(n-(i+1))*6:=by rw [a1,Zdf,List.length_drop,hn]
 have a3:fJ J=fJ (J.take (i+1))++a0:=by rw [a1,← Zod,List.take_append_drop]
 have ai:(fJ (J.take (i+1))).length=(i+1)*6:=by rw [Zdf,List.length_take];congr 1;omega
 have a8:∀ t u,a0[t]? = some u→w.cell? ⟨g,(i+1)*6+t,none⟩=some u:=fun t u hu=>by
  have ht:=(List.getElem?_eq_some_iff.1 hu).1;rw [a2 _ (by omega),a3,List.getElem?_append_right (by omega),ai,Nat.add_sub_cancel_left];exact hu
 have ay:n≤cap:=by omega
 have az:i<n:=by omega
 obtain ⟨A,hA,ae⟩:∃ A:Addr,(if cap=i+1 then some (⟨g,0,none⟩:Addr) else some ⟨g,(i+1)*6,none⟩)=some A∧Hid (∀ t u,a0[t]? = some u→w.drew.cell? (A.add t)=some u):=by
  by_cases h:cap=i+1
  ·refine ⟨⟨g,0,none⟩,by simp [h],fun t u hu=>?_⟩
   have h0:a0.length=0:=by rw [ah];omega
   rw [List.length_eq_zero_iff.1 h0] at hu;simp at hu
  ·refine ⟨⟨g,(i+1)*6,none⟩,by simp [h],fun t u hu=>?_⟩
   rw [Addr.add_lit];exact a8 t u hu
 have s1:Hid (a0.length=(n-(i+1))*6):=hid ah;have s2:Hid (∀ u∈a0,u.oneCell'=true):=by rw [a1];exact hid (Zqi _)
 have s3:Hid (∀ t,t<a0.length→(w.drew.cell? ⟨g,0+i*6+t,none⟩).isSome=true∧w.drew.frozen? ⟨g,0+i*6+t,none⟩=false):=hid fun t ht=>by
  refine ⟨?_,ag _⟩;show (w.cell? _).isSome=true
  rw [a2 _ (by omega),List.getElem?_eq_getElem (by omega)];rfl
 obtain ⟨W1,ab⟩:∃ W1,W1=w.drew.setCells g (0+i*6) a0:=⟨_,rfl⟩
 obtain ⟨c1,ac,aq,a9⟩:=Zb6 (t:=87) a0 (0+i*6) w.drew a4 a6 (by omega);rw [← ab] at ac;have b0:∀ ty,(Builtin.clear_ #[41] ty #[.slice (some ⟨g,(n-1)*6,none⟩) 1 (cap-(n-1))]).run prog W1=.ok (.tuple #[]) (W1.setCells g ((n-1)*6) [.int .i64 0,.int .i64 0,.int .i64 0,.int .i64 0,.bool false,.bool false]):=fun ty=>Zxt W1 ty g ((n-1)*6) (cap-(n-1)) (fun j hj=>by
   have:(n-1)*6+j<c1.size:=by omega
   simp [World.cell?,ac,this]) (fun j hj=>by simp [World.frozen?,ac])
 have HW:Hid (W1=w.drew.setCells g (0+i*6) a0):=hid ab;have b1:i≤cap:=by omega
 have b2:i+1≤cap:=by omega
 have b3:i+1≤n:=by omega
 have e1:i+(n-(i+1))=n-1:=by omega
 have z1:(0:Int)≤(i:Int)+1:=by omega
 have z2:(i:Int)+1≤(n:Int):=by omega
 rw [hn];have e2:n-(n-1)=1:=by omega
 have e3:¬ cap=n-1:=by omega
 have z3:((n-1:Nat):Int)≤(n:Int):=by omega
 obtain ⟨c2,aj,af,aa⟩:=Zb6 (t:=87) [.int .i64 0,.int .i64 0,.int .i64 0,.int .i64 0,.bool false,.bool false] ((n-1)*6) W1 c1 ac (by simp;omega);have HG:Hid (w.grownBy (W1.setCells g ((n-1)*6) [.int .i64 0,.int .i64 0,.int .i64 0,.int .i64 0,.bool false,.bool false]) (some g)):=by
  have g1:=Zbp g a0 (0+i*6) w.drew;rw [← ab] at g1;have g2:=Zbp g [.int .i64 0,.int .i64 0,.int .i64 0,.int .i64 0,.bool false,.bool false] ((n-1)*6) W1;exact hid ⟨g2.os.trans g1.os,g2.tape.trans g1.tape,g2.output.trans g1.output,Nat.le_trans g1.size g2.size,fun k hk hne=>(g2.block k (Nat.lt_of_lt_of_le hk g1.size) hne).trans (g1.block k hk hne)⟩
 have HO:Hid ((W1.setCells g ((n-1)*6) [.int .i64 0,.int .i64 0,.int .i64 0,.int .i64 0,.bool false,.bool false]).ownsRow base 87 6 (.slice (some ⟨g,0,none⟩) (n-1) cap) (n-1) (fJ (J.eraseIdx i))):=by
  have ar:(J.eraseIdx i).length=n-1:=by rw [List.length_eraseIdx_of_lt hi,hn]
  refine hid ⟨by rw [Zdf,ar],.inr ⟨g,cap,c2,rfl,al,aj,by omega,a7,by omega,?_⟩⟩;rw [← hn];exact Zos J i hi a4.toList c1.toList c2.toList [.int .i64 0,.int .i64 0,.int .i64 0,.int .i64 0,.bool false,.bool false] cap (by rw [Array.length_toList,ak]) ad a5 (by rw [a9,a1,Nat.zero_add]) (by rw [aa,hn])
 clear ab a2 a8 a3 ai ho ag aj aa af a9;go_enter func179,ntmps179;go_wp2_with fail;go_region_law (refine step_append_room rfl (.tmp 22) (.tmp 25) 41 rfl 87 i0 6 underlying41 ao ap g 0 i cap (by simp [Act.eval,Act.put]) A (n-(i+1)) (cap-(i+1)) a0 (by simp [Act.eval,Act.put]) s1.out ae.out s2.out (by omega) s3.out ?_;rw [← HW.out,e1])
 go_wp2;go_ret;exact ⟨rfl,HO.out,HG.out⟩
theorem Zuz (X:RC) (M:RM) (D:Dom) (K:KT) (now:Int) (k:Nat) (w:World) (h:RO X w M D K now) (hk:k<D.jobs.length):
  Calls prog 166 #[.pointer (some ⟨X.rb,0,none⟩),.int .i64 (k:Int)] w fun e w'=>e=.returned (.tuple #[])∧∃ a' c',RO X w' (jM M a' c') (Zno D k) K now:=by
 have c0:=h.row.cell 0 _ rfl;have a3:=h.row.lt;have o:=h.px.jobs;dsimp only at o;obtain ⟨g,hg,⟨a6,a4⟩,a7⟩:=Zb2 o (by omega);have a5:g≠X.rb:=Yi o h.row (by decide) g (by rw [hg];rfl);rw [hg] at o c0;have hl:=(Zz o).2.2;have a8:(k:Int)<(D.jobs.length:Int):=by omega
 have ob:(Value.slice M.A.aJ D.jobs.length M.A.cJ).ownBlock=some g:=by rw [hg];rfl
 have HH:=hid h;have HD:=hid (Zo9 g M.A.cJ k X.w0.heap.size D.jobs w o hk);clear h o;go_enter func166,ntmps166;go_wp2_with fail;refine Calls.mono HD.out ?_;rintro e w1 ⟨rfl,a1,a0⟩;have r1:Zf w1 X.rb 152 _:=(a0.block X.rb a3 (fun e=>a5 (by cases e;rfl))).trans HH.out.row;have d0:=r1.cell 0 _ rfl;have f0:=r1.frozen 0;have a2:(D.jobs.eraseIdx k).length=D.jobs.length-1:=List.length_eraseIdx_of_lt hk;have HE:Hid (RO X (w1.setCell ⟨X.rb,0,none⟩ (.slice (some ⟨g,0,none⟩) (D.jobs.length-1) M.A.cJ)) (jM M (some ⟨g,0,none⟩) M.A.cJ) (Zno D k) K now):=by
  have:=HH.out.newJobs (w1:=w1) (a':=some ⟨g,0,none⟩) (c':=M.A.cJ) (J:=D.jobs.eraseIdx k) (by rw [ob];exact a0) (by rw [a2];exact a1) (fun x hx=>.inl (by rw [ob];exact hx))
  rw [a2] at this;exact hid this
 clear a1 a0 HD c0;go_wp2;go_end0;exact ⟨rfl,_,_,HE.out⟩
end Go.Proofs.YtejhccmclanlmaaGreatDoor
