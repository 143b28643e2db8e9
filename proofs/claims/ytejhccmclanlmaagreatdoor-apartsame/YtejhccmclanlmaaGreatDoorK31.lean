/- Texts joined: Wg. -/
import Derived.Test.YtejhccmclanlmaaGreatDoorK12
import Derived.Test.YtejhccmclanlmaaGreatDoorK24
set_option linter.unusedVariables false
set_option maxRecDepth 100000
namespace Go.Proofs.YtejhccmclanlmaaGreatDoor
open Go.RowKit
abbrev shA (M:RM) (D:Dom) (g:Nat):DMem:=⟨M.A.aJ,M.A.aR,M.A.aI,M.A.aT,some ⟨g,0,none⟩,none,M.A.cJ,M.A.cR,M.A.cI,M.A.cT,D.out.length,0⟩
theorem shown_dom {X:RC} {w w1:World} {M:RM} {D:Dom} {K:KT} {now:Int} (h:RO X w M D K now) (hb:Below w.heap.size w w1) {g:Nat} (hg:w1.heap[g]? = some (.cells (madeCells #[.slice none 0 0] D.out.length) 23 (0,0))):DomIn w1 (shA M D g) (shownD D):=by
 have d:=h.dom.keep hb
 have hO:=h.lO
 refine ⟨d.jobs,d.rel,d.ins,d.tak,?_,?_,d.lJ,d.lR,d.lI,d.lT,by simp [shownD];omega,by simp [shownD]⟩
 ·intro i hi
  have hi':i<D.out.length:=by simpa [shownD] using hi
  have e:(shownD D).out[i]=[]:=by simp [shownD]
  refine ⟨g,0,none,0,rfl,?_,?_,?_,?_⟩
  ·have:=(ListsK.start (m:=0) (L:=D.out) hg)
   obtain ⟨cs,v,h1,h2,h3,h4⟩:=this
   rw [e,Nat.zero_add]
   have hc:w1.cell? ⟨g,i,none⟩=(madeCells #[Value.slice none 0 0] D.out.length)[i]? := by simp [World.cell?,hg]
   rw [hc,List.length_nil]
   rw [← Array.getElem?_toList,toList_madeCells_one,List.getElem?_replicate,if_pos hi']
  ·rw [e];intro j hj;simp at hj
  ·rw [e];exact Nat.zero_le _
  ·rw [e];exact Nat.zero_le _
 ·intro i hi;simp [shownD] at hi
set_option maxHeartbeats 1000000 in
theorem shown_ok (X:RC) (M:RM) (D:Dom) (K:KT) (now:Int) (w:World) (h:RO X w M D K now) :
  Calls Tryz.prog 134 #[.pointer (some ⟨X.rb,0,none⟩)] w fun e w'=>∃ g,e=.returned (dv (shownD D) (shA M D g))∧DomIn w' (shA M D g) (shownD D)∧Below w.heap.size w w':=by
 have hrb:X.rb<w.heap.size:=h.row.lt
 have HH:=hid h
 have c0:=h.row.cell 0 _ rfl
 have c1:=h.row.cell 1 _ rfl
 have c2:=h.row.cell 2 _ rfl
 have c3:=h.row.cell 3 _ rfl
 have c4:=h.row.cell 4 _ rfl
 have c5:=h.row.cell 5 _ rfl
 have c6:=h.row.cell 6 _ rfl
 have hO:=h.lO
 have hmk:=make83_any D.out.length (by omega)
 clear h
 go_enter Tryz.func134,Tryz.ntmps134
 go_wp2
 have HB:=btrans (btrans (below_new w (.cells #[.slice M.A.aJ D.jobs.length M.A.cJ,.slice M.A.aR D.rel.length M.A.cR,.int .i64 D.nxt,.slice M.A.aI D.ins.length M.A.cI,.slice M.A.aT D.tak.length M.A.cT,.slice (some ⟨w.heap.size+1+1,0,none⟩) D.out.length D.out.length,.slice none 0 0] 46)) (below_new _ (.cells #[.slice M.A.aJ D.jobs.length M.A.cJ,.slice M.A.aR D.rel.length M.A.cR,.int .i64 D.nxt,.slice M.A.aI D.ins.length M.A.cI,.slice M.A.aT D.tak.length M.A.cT,.slice (some ⟨w.heap.size+1+1,0,none⟩) D.out.length D.out.length,.slice none 0 0] 46))) (below_new _ (.cells (madeCells #[.slice none 0 0] D.out.length) 23))
 refine bodyPost_ret (v:=.agg #[.slice M.A.aJ D.jobs.length M.A.cJ,.slice M.A.aR D.rel.length M.A.cR,.int .i64 D.nxt,.slice M.A.aI D.ins.length M.A.cI,.slice M.A.aT D.tak.length M.A.cT,.slice (some ⟨w.heap.size+1+1,0,none⟩) D.out.length D.out.length,.slice none 0 0]) (by simp [results,Tryz.results134,go_sem]) rfl ⟨w.heap.size+1+1,by simp [shownD],shown_dom HH.out HB ?_,HB⟩
 have:=heap_alloc_new ((w.alloc (.cells #[.slice M.A.aJ D.jobs.length M.A.cJ,.slice M.A.aR D.rel.length M.A.cR,.int .i64 D.nxt,.slice M.A.aI D.ins.length M.A.cI,.slice M.A.aT D.tak.length M.A.cT,.slice (some ⟨w.heap.size+1+1,0,none⟩) D.out.length D.out.length,.slice none 0 0] 46)).alloc (.cells #[.slice M.A.aJ D.jobs.length M.A.cJ,.slice M.A.aR D.rel.length M.A.cR,.int .i64 D.nxt,.slice M.A.aI D.ins.length M.A.cI,.slice M.A.aT D.tak.length M.A.cT,.slice (some ⟨w.heap.size+1+1,0,none⟩) D.out.length D.out.length,.slice none 0 0] 46)) (.cells (madeCells #[.slice none 0 0] D.out.length) 23)
 simpa using this
end Go.Proofs.YtejhccmclanlmaaGreatDoor
