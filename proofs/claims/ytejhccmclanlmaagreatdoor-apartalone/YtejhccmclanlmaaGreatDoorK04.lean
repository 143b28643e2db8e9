/- Texts joined: Ci Cj. -/
import Derived.Deep.OwnRows
import Derived.Test.YtejhccmclanlmaaGreatDoorK03
set_option linter.unusedVariables false
set_option maxRecDepth 100000
namespace Go.Proofs.YtejhccmclanlmaaGreatDoor
open Go.RowKit
theorem useSet_miss {ls:List (Int×Bool)} {ln:Int} {wr:Bool} (h:idx ln ls=-1):useSet ls ln wr=((ln,wr) :: ls.dropLast,10+wb (ls.getLastD (0,false)).2):=by
 unfold idx at h
 unfold useSet
 cases hf:ls.findIdx? (fun x=>x.1 == ln) with
 | none=>rfl
 | some k=>rw [hf] at h;simp at h
theorem useSet_hit {ls : List (Int × Bool)} {ln : Int} {wr : Bool} {k : Nat} (h : idx ln ls = k) : useSet ls ln wr = (((ls.getD k (0, false)).1, (ls.getD k (0, false)).2 || wr) :: ls.eraseIdx k, 1) := by
  unfold idx at h
  unfold useSet
  cases hf : ls.findIdx? (fun x => x.1 == ln) with
  | none => rw [hf] at h; simp at h
  | some j => rw [hf] at h; simp at h; obtain rfl : j = k := by omega
              rfl
def UsePost (g cap base n:Nat) (w:World) (p:List (Int×Bool)×Int) (e:Ending) (w':World):Prop:=
 e=.returned (.int .i64 p.2)∧w'.ownsRow base 125 2 (.slice (some ⟨g,0,none⟩) n cap) n (flat p.1)∧w.grownBy w' (some g)
theorem use_any (g cap base:Nat) (ls:List (Int×Bool)) (ln:Int) (wr:Bool) (w:World) (hown:w.ownsRow base 125 2 (.slice (some ⟨g,0,none⟩) ls.length cap) ls.length (flat ls)) (hpos:0<ls.length) (hl:ls.length≤3) :
  Calls Tryz.prog 190 #[.slice (some ⟨g,0,none⟩) ls.length cap,.int .i64 ln,.bool wr] w (UsePost g cap base ls.length w (useSet ls ln wr)):=by
 obtain ⟨r,hr,hlen,hn,hm,hb⟩:=rowAt_of_owns hown
 have fin:∀ (p:List (Int×Bool)×Int) (X:List (Int×Bool)) (c:Int),p=(X,c)→X.length=ls.length→∀ (e:Ending) (w':World),(e=.returned (.int .i64 c)∧RowAt w' g 125 (flat X++r)∧w.grownBy w' (some g))→UsePost g cap base ls.length w p e w':=by
  rintro p X c rfl hX e w' ⟨rfl,h1,h2⟩
  refine ⟨rfl,owns_of_rowAt h1 ?_ hn hm hb hX,h2⟩
  rw [List.length_append,flat_len] at hlen ⊢
  rw [hX];exact hlen
 match ls,hpos,hl with
 | [(a1,a2)],_,_=>
  rcases idx_cases ln [(a1,a2)] with ⟨hx,_⟩|⟨k,hk,hx,_,_⟩
  ·exact (use1_miss g cap a1 ln a2 wr r w hn hm hr hx).mono (fin _ _ _ (useSet_miss hx) rfl)
  ·match k,hk,hx with
   | 0,_,hx=>
    cases a2
    ·exact (use1_0f g cap a1 ln wr r w hn hm hr hx).mono (fin _ _ _ (useSet_hit (k:=0) hx) rfl)
    ·exact (use1_0t g cap a1 ln wr r w hn hm hr hx).mono (fin _ _ _ (useSet_hit (k:=0) hx) rfl)
 | [(a1,a2),(b1,b2)],_,_=>
  rcases idx_cases ln [(a1,a2),(b1,b2)] with ⟨hx,_⟩|⟨k,hk,hx,_,_⟩
  ·exact (use2_miss g cap a1 b1 ln a2 b2 wr r w hn hm hr hx).mono (fin _ _ _ (useSet_miss hx) rfl)
  ·match k,hk,hx with
   | 0,_,hx=>
    cases a2
    ·exact (use2_0f g cap a1 b1 ln b2 wr r w hn hm hr hx).mono (fin _ _ _ (useSet_hit (k:=0) hx) rfl)
    ·exact (use2_0t g cap a1 b1 ln b2 wr r w hn hm hr hx).mono (fin _ _ _ (useSet_hit (k:=0) hx) rfl)
   | 1,_,hx=>
    cases b2
    ·exact (use2_1f g cap a1 b1 ln a2 wr r w hn hm hr hx).mono (fin _ _ _ (useSet_hit (k:=1) hx) rfl)
    ·exact (use2_1t g cap a1 b1 ln a2 wr r w hn hm hr hx).mono (fin _ _ _ (useSet_hit (k:=1) hx) rfl)
 | [(a1,a2),(b1,b2),(c1,c2)],_,_=>
  rcases idx_cases ln [(a1,a2),(b1,b2),(c1,c2)] with ⟨hx,_⟩|⟨k,hk,hx,_,_⟩
  ·exact (use3_miss g cap a1 b1 c1 ln a2 b2 c2 wr r w hn hm hr hx).mono (fin _ _ _ (useSet_miss hx) rfl)
  ·match k,hk,hx with
   | 0,_,hx=>
    cases a2
    ·exact (use3_0f g cap a1 b1 c1 ln b2 c2 wr r w hn hm hr hx).mono (fin _ _ _ (useSet_hit (k:=0) hx) rfl)
    ·exact (use3_0t g cap a1 b1 c1 ln b2 c2 wr r w hn hm hr hx).mono (fin _ _ _ (useSet_hit (k:=0) hx) rfl)
   | 1,_,hx=>
    cases b2
    ·exact (use3_1f g cap a1 b1 c1 ln a2 c2 wr r w hn hm hr hx).mono (fin _ _ _ (useSet_hit (k:=1) hx) rfl)
    ·exact (use3_1t g cap a1 b1 c1 ln a2 c2 wr r w hn hm hr hx).mono (fin _ _ _ (useSet_hit (k:=1) hx) rfl)
   | 2,_,hx=>
    cases c2
    ·exact (use3_2f g cap a1 b1 c1 ln a2 b2 wr r w hn hm hr hx).mono (fin _ _ _ (useSet_hit (k:=2) hx) rfl)
    ·exact (use3_2t g cap a1 b1 c1 ln a2 b2 wr r w hn hm hr hx).mono (fin _ _ _ (useSet_hit (k:=2) hx) rfl)
theorem Tryz.info123:(Tryz.prog.info? 123).map (fun i=>(i.zero,i.size,i.bytes))=some (some (.slice none 0 0),1,24):=by kernel_rfl
def OwnC (w:World) (g0:Nat) (C:List (List (Int×Bool))) (k:Nat):Prop:=
 ∃ (L:List Value) (G cp:Nat→Nat),RowAt w g0 123 L∧L.length=C.length ∧
  (∀ j (h:j<C.length),j<k→L[j]? = some (.slice (some ⟨G j,0,none⟩) C[j].length (cp j))∧w.ownsRow (g0+1) 125 2 (.slice (some ⟨G j,0,none⟩) C[j].length (cp j)) C[j].length (flat C[j])) ∧
  (∀ i j,i<j→j<k→G i<G j)
theorem rowAt_new (w:World) (n:Nat) (L:List Value) (t:TypeId) (h:w.heap.size=n):RowAt (w.alloc (.cells L.toArray t)) n t L:=by
 subst h;exact heap_alloc_new w _
theorem RowAt.drew {w:World} {g:Nat} {t:TypeId} {L:List Value} (h:RowAt w g t L):RowAt w.drew g t L:=h
theorem ownsK_below {w w':World} {base e size n:Nat} {v:Value} {xs:List Value} (h:w.ownsRow base e size v n xs) (hb:Below w.heap.size w w'):w'.ownsRow base e size v n xs:=
 h.kept (row:=none) ⟨hb.os,hb.tape,hb.output,hb.size,fun k hk _=>hb.block k hk⟩ (by cases v.ownBlock <;> simp)
theorem owns_setCell {w:World} {base e size n g:Nat} {xs:List Value} {l c:Nat} (h:w.ownsRow base e size (.slice (some ⟨g,0,none⟩) l c) n xs) (a:Addr) (v:Value) (hne:g≠a.block):(w.setCell a v).ownsRow base e size (.slice (some ⟨g,0,none⟩) l c) n xs:=
 h.kept (row:=some a.block) ⟨rfl,rfl,rfl,by simp [World.setCell],fun k _ hk=>Below.heap_setCell _ _ _ _ (by intro e;exact hk (by rw [e]))⟩ (.inr (by simpa [Value.ownBlock] using hne))
theorem OwnC.below {w w':World} {g0 k:Nat} {C:List (List (Int×Bool))} (h:OwnC w g0 C k) (hb:Below w.heap.size w w'):OwnC w' g0 C k:=by
 obtain ⟨L,G,cp,h1,h2,h3,h4⟩:=h
 exact ⟨L,G,cp,h1.below hb lr,h2,fun j hj hk=>⟨(h3 j hj hk).1,ownsK_below (h3 j hj hk).2 hb⟩,h4⟩
theorem OwnC.drew {w:World} {g0 k:Nat} {C:List (List (Int×Bool))} (h:OwnC w g0 C k):OwnC w.drew g0 C k:=h
theorem OwnC.cellAt {w:World} {g0 k:Nat} {C:List (List (Int×Bool))} (h:OwnC w g0 C k) (j:Nat) (hj:j<C.length):(∃ v,w.cell? ⟨g0,j,none⟩=some v)∧w.frozen? ⟨g0,j,none⟩=false:=by
 obtain ⟨L,G,cp,h1,h2,h3,h4⟩:=h
 exact ⟨⟨_,h1.cell j _ (List.getElem?_eq_getElem (by omega))⟩,h1.frozen j⟩
theorem OwnC.setOther {w:World} {g0 k:Nat} {C:List (List (Int×Bool))} (h:OwnC w g0 C k) (a:Addr) (v:Value) (hlt:a.block<g0):OwnC (w.setCell a v) g0 C k:=by
 obtain ⟨L,G,cp,h1,h2,h3,h4⟩:=h
 refine ⟨L,G,cp,h1.setOther a v (by omega),h2,fun j hj hk=>⟨(h3 j hj hk).1,owns_setCell (h3 j hj hk).2 a v ?_⟩,h4⟩
 have:=((h3 j hj hk).2.lt (G j) rfl).1
 omega
theorem OwnC.step {w w':World} {g0 k g cap:Nat} {C:List (List (Int×Bool))} (h:OwnC w g0 C k) (hk:k<C.length) (hb:Below w.heap.size w w')
  (hown:w'.ownsRow w.heap.size 125 2 (.slice (some ⟨g,0,none⟩) C[k].length cap) C[k].length (flat C[k])) :
  OwnC (w'.setCell ⟨g0,k,none⟩ (.slice (some ⟨g,0,none⟩) C[k].length cap)) g0 C (k+1):=by
 obtain ⟨L,G,cp,h1,h2,h3,h4⟩:=h
 have hg:w.heap.size≤g:=(hown.lt g rfl).1
 have hg0:g0<w.heap.size:=h1.lt
 have hlt:∀ j,j<k→j<C.length→G j<w.heap.size:=fun j hj hjc=>((h3 j hjc hj).2.lt (G j) rfl).2
 have hgt:∀ j,j<k→j<C.length→g0+1≤G j:=fun j hj hjc=>((h3 j hjc hj).2.lt (G j) rfl).1
 have h1':=(h1.below hb lr).setCell k (.slice (some ⟨g,0,none⟩) C[k].length cap)
 refine ⟨_,fun j=>if j=k then g else G j,fun j=>if j=k then cap else cp j,h1',by simp [h2],fun j hj hjk=>?_,fun i j hij hjk=>?_⟩
 ·by_cases e:j=k
  ·subst e
   simp only [if_true]
   refine ⟨by simp [h2,hj],?_⟩
   refine owns_setCell ?_ _ _ (by show g≠g0;omega)
   obtain ⟨q1,q2⟩:=hown
   refine ⟨q1,?_⟩
   rcases q2 with q|⟨g',cap',cur,e1,e2,r⟩
   ·exact .inl q
   ·exact .inr ⟨g',cap',cur,e1,by omega,r⟩
  ·simp only [if_neg e]
   have hjk':j<k:=by omega
   have hlj:=hlt j hjk' hj
   have hgj:=hgt j hjk' hj
   refine ⟨by rw [List.getElem?_set_ne (by omega)];exact (h3 j hj hjk').1,owns_setCell (ownsK_below (h3 j hj hjk').2 hb) _ _ (by show G j≠g0;omega)⟩
 ·by_cases e:j=k
  ·subst e
   have:i≠j:=by omega
   simp only [if_true,if_neg this]
   have:=hlt i hij (by omega)
   omega
  ·have:i≠k:=by omega
   simp only [if_neg e,if_neg this]
   exact h4 i j hij (by omega)
set_option maxHeartbeats 1000000 in
theorem clone_any (a:Option Addr) (C:List (List (Int×Bool))) (cap:Nat) (w:World) (hw:CacheIn w a C) (hl:(C.length:Int)≤4) (hl1:(1:Int)≤C.length) (hn:∀ ls∈C,0<ls.length∧ls.length≤3) :
  Calls Tryz.prog 70 #[.agg #[.slice a C.length cap]] w fun e w'=>∃ g0,e=.returned (.agg #[.slice (some ⟨g0,0,none⟩) C.length C.length])∧w.heap.size≤g0∧OwnC w' g0 C C.length∧Below w.heap.size w w':=by
 have hmk22:=run_make_row' (P:=Tryz.prog) 70 123 (.slice none 0 0) 24 Tryz.underlying70 Tryz.info123 rfl .i64 .i64 C.length (by omega) (by omega)
 go_enter Tryz.func70,Tryz.ntmps70
 go_wp2
 clear hmk22
 have hB0:Below w.heap.size w ((((w.alloc (Obj.cells #[Value.slice a C.length cap] 72)).alloc (Obj.cells #[Value.slice none 0 0] 72)).alloc (Obj.cells (madeCells #[Value.slice none 0 0] C.length) 123)).alloc (Obj.cells #[Value.slice (some ⟨w.heap.size+1+1,0,none⟩) C.length C.length] 72)):=
  ((((Below.refl _ _).alloc lr _).alloc (by simp) _).alloc (by simp;omega) _).alloc (by simp;omega) _
 have hO0:OwnC ((((w.alloc (Obj.cells #[Value.slice a C.length cap] 72)).alloc (Obj.cells #[Value.slice none 0 0] 72)).alloc (Obj.cells (madeCells #[Value.slice none 0 0] C.length) 123)).alloc (Obj.cells #[Value.slice (some ⟨w.heap.size+1+1,0,none⟩) C.length C.length] 72)) (w.heap.size+1+1) C 0:=by
  refine ⟨(madeCells #[Value.slice none 0 0] C.length).toList,fun _=>0,fun _=>0,?_,by simp [madeCells],fun j _ h=>by omega,fun i j _ h=>by omega⟩
  refine RowAt.alloc ?_ _
  have:=rowAt_new ((w.alloc (Obj.cells #[Value.slice a C.length cap] 72)).alloc (Obj.cells #[Value.slice none 0 0] 72)) (w.heap.size+1+1) (madeCells #[Value.slice none 0 0] C.length).toList 123 (by simp)
  simpa using this
 have hc30:((((w.alloc (Obj.cells #[Value.slice a C.length cap] 72)).alloc (Obj.cells #[Value.slice none 0 0] 72)).alloc (Obj.cells (madeCells #[Value.slice none 0 0] C.length) 123)).alloc (Obj.cells #[Value.slice (some ⟨w.heap.size+1+1,0,none⟩) C.length C.length] 72)).cell? ⟨w.heap.size+1+1+1,0,none⟩=some (.slice (some ⟨w.heap.size+1+1,0,none⟩) C.length C.length):=by
  rw [cell_new _ _ _ _ _ (by simp)];rfl
 have hr10:RowAt ((((w.alloc (Obj.cells #[Value.slice a C.length cap] 72)).alloc (Obj.cells #[Value.slice none 0 0] 72)).alloc (Obj.cells (madeCells #[Value.slice none 0 0] C.length) 123)).alloc (Obj.cells #[Value.slice (some ⟨w.heap.size+1+1,0,none⟩) C.length C.length] 72)) (w.heap.size+1) 72 [Value.slice none 0 0]:=
  ((rowAt_new (w.alloc (Obj.cells #[Value.slice a C.length cap] 72)) (w.heap.size+1) [Value.slice none 0 0] 72 (by simp)).alloc _).alloc _
 have Hc30:=hid hc30
 have Hr10:=hid hr10
 clear hc30 hr10
 have HB0:=hid hB0
 have HO0:=hid hO0
 clear hB0 hO0
 go_loopw [14] (fun i wr=>∃ k:Nat,k≤C.length∧i=.int .i64 k∧Below w.heap.size w wr∧OwnC wr (w.heap.size+1+1) C k∧wr.cell? ⟨w.heap.size+1+1+1,0,none⟩=some (.slice (some ⟨w.heap.size+1+1,0,none⟩) C.length C.length)∧wr.cell? ⟨w.heap.size+1,0,none⟩=some (.slice none 0 0)∧wr.frozen? ⟨w.heap.size+1,0,none⟩=false) (fun i _=>C.length - (intOf i).toNat)
 case atStart=>exact ⟨0,Nat.zero_le _,rfl,HB0.out,HO0.out,Hc30.out,Hr10.out.cell 0 _ rfl,Hr10.out.frozen 0⟩
 case round=>
  clear HB0 HO0 Hc30 Hr10
  obtain ⟨k,hk,rfl,hbl,hO,hA,hR,hRf⟩:=hrel
  have HO:=hid hO
  clear hO
  by_cases hlt:k<C.length
  ·obtain ⟨b',o',a2,cap2,rfl,hc1,hws,hcap,hlen⟩:=hw k hlt
   have hc1':=bkeep hbl hc1 lr
   have hws':=hws.keep hbl
   obtain ⟨hp,h3⟩:=hn C[k] (List.getElem_mem hlt)
   obtain ⟨b2,o2,rfl,_,_⟩:=hws 0 hp
   have hk4:(k:Int)<(C.length:Int):=by omega
   have hk0:(0:Int)≤(k:Int):=by omega
   go_wp2
   go_region_held3 (fun w'=>w'.cell? ⟨w.heap.size+1+1+1,0,none⟩=some (.slice (some ⟨w.heap.size+1+1,0,none⟩) C.length C.length)) (first|go_keep|exact bkeep hb5 (show wr.drew.cell? _=_ from hA) lr)
    (first|(go_at_call 99;refine (clone53_any b2 o2 C[k] cap2 _ (by exact hws') hp h3).mono ?_;rintro e w5 ⟨g,cap5,rfl,hown5,hb5⟩;obtain ⟨⟨v5,hst5⟩,hfz5⟩:=(HO.out.drew.below hb5).cellAt k hlt))
   have hA5:=bkeep hb5 (show wr.drew.cell? _=_ from hA) lr
   have hR5:=bkeep hb5 (show wr.drew.cell? _=_ from hR) lr
   have hlt5:w.heap.size+1<wr.heap.size:=World.block_lt_of_cell? _ _ hR
   have hF5:w5.frozen? ⟨w.heap.size+1,0,none⟩=false:=by rw [hb5.frozen (p:=⟨w.heap.size+1,0,none⟩) (by exact hlt5)];exact hRf
   have Hrel:Hid (Below w.heap.size w (w5.setCell ⟨w.heap.size+1+1,k,none⟩ (.slice (some ⟨g,0,none⟩) C[k].length cap5))∧OwnC (w5.setCell ⟨w.heap.size+1+1,k,none⟩ (.slice (some ⟨g,0,none⟩) C[k].length cap5)) (w.heap.size+1+1) C (k+1)
     ∧ (w5.setCell ⟨w.heap.size+1+1,k,none⟩ (.slice (some ⟨g,0,none⟩) C[k].length cap5)).cell? ⟨w.heap.size+1+1+1,0,none⟩=some (.slice (some ⟨w.heap.size+1+1,0,none⟩) C.length C.length)
     ∧ (w5.setCell ⟨w.heap.size+1+1,k,none⟩ (.slice (some ⟨g,0,none⟩) C[k].length cap5)).cell? ⟨w.heap.size+1,0,none⟩=some (.slice none 0 0)
     ∧ (w5.setCell ⟨w.heap.size+1+1,k,none⟩ (.slice (some ⟨g,0,none⟩) C[k].length cap5)).frozen? ⟨w.heap.size+1,0,none⟩=false):=by
    refine ⟨(btrans hbl.drew hb5).setCell (by show w.heap.size≤w.heap.size+1+1;omega) _,HO.out.drew.step hlt hb5 hown5,?_,?_,?_⟩
    ·rw [World.cell?_setCell_other _ _ _ _ (by simp)];exact hA5
    ·rw [World.cell?_setCell_other _ _ _ _ (by simp)];exact hR5
    ·simpa using hF5
   clear hA5 hR5 hF5 hA hR hRf
   go_wp2
   go_roundw
   case rel=>exact ⟨k+1,by omega,by go_num,Hrel.out⟩
   case measure=>simp [intOf];omega
  ·obtain rfl:k=C.length:=by omega
   go_wp2
   refine bodyPost_ret (v:=.agg #[.slice (some ⟨w.heap.size+1+1,0,none⟩) C.length C.length]) (by simp [results,Tryz.results70,go_sem,World.cell?_setCell_same wr _ _ hR]) rfl ⟨_,rfl,by omega,HO.out.setOther _ _ (by show w.heap.size+1<w.heap.size+1+1;omega),hbl.setCell (by show w.heap.size≤w.heap.size+1;omega) _⟩
end Go.Proofs.YtejhccmclanlmaaGreatDoor
