/- Walks: what the use of a line in a set comes to, whatever the set. Walks: what a copy of a cache comes to. Walks: what an empty cache comes to. Walks: what a new cache, an access and a flush come to. Walks: what an access comes to. Actions: what is right, what they may cost; walks: checkAction, worst, Worst. -/
import Derived.Test.YtildebflnmbefaaGreatKl
import Derived.Test.YtildebflnmbefaaGreatKm
import Derived.Deep.OwnRows
import Derived.Test.YtildebflnmbefaaGreatKd
set_option linter.unusedVariables false
namespace Go.Proofs.YtildebflnmbefaaGreat
open Go.RowKit

theorem useSet_miss {ls : List (Int × Bool)} {ln : Int} {wr : Bool} (h : idx ln ls = -1) : useSet ls ln wr = ((ln, wr) :: ls.dropLast, 10 + wb (ls.getLastD (0, false)).2) := by
  unfold idx at h
  unfold useSet
  cases hf : ls.findIdx? (fun x => x.1 == ln) with
  | none => rfl
  | some k => rw [hf] at h; simp at h

theorem useSet_hit {ls : List (Int × Bool)} {ln : Int} {wr : Bool} {k : Nat} (h : idx ln ls = k) : useSet ls ln wr = (((ls.getD k (0, false)).1, (ls.getD k (0, false)).2 || wr) :: ls.eraseIdx k, 1) := by
  unfold idx at h
  unfold useSet
  cases hf : ls.findIdx? (fun x => x.1 == ln) with
  | none => rw [hf] at h; simp at h
  | some j => rw [hf] at h; simp at h; obtain rfl : j = k := by omega
              rfl

def UsePost (g cap base n : Nat) (w : World) (p : List (Int × Bool) × Int) (e : Ending) (w' : World) : Prop :=
  e = .returned (.int .i64 p.2) ∧ w'.ownsRow base 87 2 (.slice (some ⟨g, 0, none⟩) n cap) n (flat p.1) ∧ w.grownBy w' (some g)

theorem use_any (g cap base : Nat) (ls : List (Int × Bool)) (ln : Int) (wr : Bool) (w : World) (hown : w.ownsRow base 87 2 (.slice (some ⟨g, 0, none⟩) ls.length cap) ls.length (flat ls)) (hpos : 0 < ls.length) (hl : ls.length ≤ 3) :
    Calls Tryz.prog 34 #[.slice (some ⟨g, 0, none⟩) ls.length cap, .int .i64 ln, .bool wr] w (UsePost g cap base ls.length w (useSet ls ln wr)) := by
  obtain ⟨r, hr, hlen, hn, hm, hb⟩ := rowAt_of_owns hown
  have fin : ∀ (p : List (Int × Bool) × Int) (X : List (Int × Bool)) (c : Int), p = (X, c) → X.length = ls.length → ∀ (e : Ending) (w' : World), (e = .returned (.int .i64 c) ∧ RowAt w' g 87 (flat X ++ r) ∧ w.grownBy w' (some g)) → UsePost g cap base ls.length w p e w' := by
    rintro p X c rfl hX e w' ⟨rfl, h1, h2⟩
    refine ⟨rfl, owns_of_rowAt h1 ?_ hn hm hb hX, h2⟩
    rw [List.length_append, flat_len] at hlen ⊢
    rw [hX]; exact hlen
  match ls, hpos, hl with
  | [(a1, a2)], _, _ =>
    rcases idx_cases ln [(a1, a2)] with ⟨hx, _⟩ | ⟨k, hk, hx, _, _⟩
    · exact (use1_miss g cap a1 ln a2 wr r w hn hm hr hx).mono (fin _ _ _ (useSet_miss hx) rfl)
    · match k, hk, hx with
      | 0, _, hx =>
        cases a2
        · exact (use1_0f g cap a1 ln wr r w hn hm hr hx).mono (fin _ _ _ (useSet_hit (k := 0) hx) rfl)
        · exact (use1_0t g cap a1 ln wr r w hn hm hr hx).mono (fin _ _ _ (useSet_hit (k := 0) hx) rfl)
  | [(a1, a2), (b1, b2)], _, _ =>
    rcases idx_cases ln [(a1, a2), (b1, b2)] with ⟨hx, _⟩ | ⟨k, hk, hx, _, _⟩
    · exact (use2_miss g cap a1 b1 ln a2 b2 wr r w hn hm hr hx).mono (fin _ _ _ (useSet_miss hx) rfl)
    · match k, hk, hx with
      | 0, _, hx =>
        cases a2
        · exact (use2_0f g cap a1 b1 ln b2 wr r w hn hm hr hx).mono (fin _ _ _ (useSet_hit (k := 0) hx) rfl)
        · exact (use2_0t g cap a1 b1 ln b2 wr r w hn hm hr hx).mono (fin _ _ _ (useSet_hit (k := 0) hx) rfl)
      | 1, _, hx =>
        cases b2
        · exact (use2_1f g cap a1 b1 ln a2 wr r w hn hm hr hx).mono (fin _ _ _ (useSet_hit (k := 1) hx) rfl)
        · exact (use2_1t g cap a1 b1 ln a2 wr r w hn hm hr hx).mono (fin _ _ _ (useSet_hit (k := 1) hx) rfl)
  | [(a1, a2), (b1, b2), (c1, c2)], _, _ =>
    rcases idx_cases ln [(a1, a2), (b1, b2), (c1, c2)] with ⟨hx, _⟩ | ⟨k, hk, hx, _, _⟩
    · exact (use3_miss g cap a1 b1 c1 ln a2 b2 c2 wr r w hn hm hr hx).mono (fin _ _ _ (useSet_miss hx) rfl)
    · match k, hk, hx with
      | 0, _, hx =>
        cases a2
        · exact (use3_0f g cap a1 b1 c1 ln b2 c2 wr r w hn hm hr hx).mono (fin _ _ _ (useSet_hit (k := 0) hx) rfl)
        · exact (use3_0t g cap a1 b1 c1 ln b2 c2 wr r w hn hm hr hx).mono (fin _ _ _ (useSet_hit (k := 0) hx) rfl)
      | 1, _, hx =>
        cases b2
        · exact (use3_1f g cap a1 b1 c1 ln a2 c2 wr r w hn hm hr hx).mono (fin _ _ _ (useSet_hit (k := 1) hx) rfl)
        · exact (use3_1t g cap a1 b1 c1 ln a2 c2 wr r w hn hm hr hx).mono (fin _ _ _ (useSet_hit (k := 1) hx) rfl)
      | 2, _, hx =>
        cases c2
        · exact (use3_2f g cap a1 b1 c1 ln a2 b2 wr r w hn hm hr hx).mono (fin _ _ _ (useSet_hit (k := 2) hx) rfl)
        · exact (use3_2t g cap a1 b1 c1 ln a2 b2 wr r w hn hm hr hx).mono (fin _ _ _ (useSet_hit (k := 2) hx) rfl)

end Go.Proofs.YtildebflnmbefaaGreat

namespace Go.Proofs.YtildebflnmbefaaGreat
open Go.RowKit

theorem Tryz.info84 : (Tryz.prog.info? 84).map (fun i => (i.zero, i.size, i.bytes)) = some (some (.slice none 0 0), 1, 24) := by kernel_rfl

/-- The first k sets of a cache in memory of its own: a block a set, each behind the last. -/
def OwnC (w : World) (g0 : Nat) (C : List (List (Int × Bool))) (k : Nat) : Prop :=
  ∃ (L : List Value) (G cp : Nat → Nat), RowAt w g0 84 L ∧ L.length = C.length ∧
    (∀ j (h : j < C.length), j < k → L[j]? = some (.slice (some ⟨G j, 0, none⟩) C[j].length (cp j)) ∧ w.ownsRow (g0 + 1) 87 2 (.slice (some ⟨G j, 0, none⟩) C[j].length (cp j)) C[j].length (flat C[j])) ∧
    (∀ i j, i < j → j < k → G i < G j)

theorem rowAt_new (w : World) (n : Nat) (L : List Value) (t : TypeId) (h : w.heap.size = n) : RowAt (w.alloc (.cells L.toArray t)) n t L := by
  subst h; exact heap_alloc_new w _

theorem RowAt.drew {w : World} {g : Nat} {t : TypeId} {L : List Value} (h : RowAt w g t L) : RowAt w.drew g t L := h

theorem ownsK_below {w w' : World} {base e size n : Nat} {v : Value} {xs : List Value} (h : w.ownsRow base e size v n xs) (hb : Below w.heap.size w w') : w'.ownsRow base e size v n xs :=
  h.kept (row := none) ⟨hb.os, hb.tape, hb.output, hb.size, fun k hk _ => hb.block k hk⟩ (by cases v.ownBlock <;> simp)

theorem owns_setCell {w : World} {base e size n g : Nat} {xs : List Value} {l c : Nat} (h : w.ownsRow base e size (.slice (some ⟨g, 0, none⟩) l c) n xs) (a : Addr) (v : Value) (hne : g ≠ a.block) : (w.setCell a v).ownsRow base e size (.slice (some ⟨g, 0, none⟩) l c) n xs :=
  h.kept (row := some a.block) ⟨rfl, rfl, rfl, by simp [World.setCell], fun k _ hk => Below.heap_setCell _ _ _ _ (by intro e; exact hk (by rw [e]))⟩ (.inr (by simpa [Value.ownBlock] using hne))

theorem OwnC.below {w w' : World} {g0 k : Nat} {C : List (List (Int × Bool))} (h : OwnC w g0 C k) (hb : Below w.heap.size w w') : OwnC w' g0 C k := by
  obtain ⟨L, G, cp, h1, h2, h3, h4⟩ := h
  exact ⟨L, G, cp, h1.below hb (Nat.le_refl _), h2, fun j hj hk => ⟨(h3 j hj hk).1, ownsK_below (h3 j hj hk).2 hb⟩, h4⟩

theorem OwnC.drew {w : World} {g0 k : Nat} {C : List (List (Int × Bool))} (h : OwnC w g0 C k) : OwnC w.drew g0 C k := h

theorem OwnC.cellAt {w : World} {g0 k : Nat} {C : List (List (Int × Bool))} (h : OwnC w g0 C k) (j : Nat) (hj : j < C.length) : (∃ v, w.cell? ⟨g0, j, none⟩ = some v) ∧ w.frozen? ⟨g0, j, none⟩ = false := by
  obtain ⟨L, G, cp, h1, h2, h3, h4⟩ := h
  exact ⟨⟨_, h1.cell j _ (List.getElem?_eq_getElem (by omega))⟩, h1.frozen j⟩

theorem OwnC.setOther {w : World} {g0 k : Nat} {C : List (List (Int × Bool))} (h : OwnC w g0 C k) (a : Addr) (v : Value) (hlt : a.block < g0) : OwnC (w.setCell a v) g0 C k := by
  obtain ⟨L, G, cp, h1, h2, h3, h4⟩ := h
  refine ⟨L, G, cp, h1.setOther a v (by omega), h2, fun j hj hk => ⟨(h3 j hj hk).1, owns_setCell (h3 j hj hk).2 a v ?_⟩, h4⟩
  have := ((h3 j hj hk).2.lt (G j) rfl).1
  omega

theorem OwnC.step {w w' : World} {g0 k g cap : Nat} {C : List (List (Int × Bool))} (h : OwnC w g0 C k) (hk : k < C.length) (hb : Below w.heap.size w w')
    (hown : w'.ownsRow w.heap.size 87 2 (.slice (some ⟨g, 0, none⟩) C[k].length cap) C[k].length (flat C[k])) :
    OwnC (w'.setCell ⟨g0, k, none⟩ (.slice (some ⟨g, 0, none⟩) C[k].length cap)) g0 C (k + 1) := by
  obtain ⟨L, G, cp, h1, h2, h3, h4⟩ := h
  have hg : w.heap.size ≤ g := (hown.lt g rfl).1
  have hg0 : g0 < w.heap.size := h1.lt
  have hlt : ∀ j, j < k → j < C.length → G j < w.heap.size := fun j hj hjc => ((h3 j hjc hj).2.lt (G j) rfl).2
  have hgt : ∀ j, j < k → j < C.length → g0 + 1 ≤ G j := fun j hj hjc => ((h3 j hjc hj).2.lt (G j) rfl).1
  have h1' := (h1.below hb (Nat.le_refl _)).setCell k (.slice (some ⟨g, 0, none⟩) C[k].length cap)
  refine ⟨_, fun j => if j = k then g else G j, fun j => if j = k then cap else cp j, h1', by simp [h2], fun j hj hjk => ?_, fun i j hij hjk => ?_⟩
  · by_cases e : j = k
    · subst e
      simp only [if_true]
      refine ⟨by simp [h2, hj], ?_⟩
      refine owns_setCell ?_ _ _ (by show g ≠ g0; omega)
      obtain ⟨q1, q2⟩ := hown
      refine ⟨q1, ?_⟩
      rcases q2 with q | ⟨g', cap', cur, e1, e2, r⟩
      · exact .inl q
      · exact .inr ⟨g', cap', cur, e1, by omega, r⟩
    · simp only [if_neg e]
      have hjk' : j < k := by omega
      have hlj := hlt j hjk' hj
      have hgj := hgt j hjk' hj
      refine ⟨by rw [List.getElem?_set_ne (by omega)]; exact (h3 j hj hjk').1, owns_setCell (ownsK_below (h3 j hj hjk').2 hb) _ _ (by show G j ≠ g0; omega)⟩
  · by_cases e : j = k
    · subst e
      have : i ≠ j := by omega
      simp only [if_true, if_neg this]
      have := hlt i hij (by omega)
      omega
    · have : i ≠ k := by omega
      simp only [if_neg e, if_neg this]
      exact h4 i j hij (by omega)

set_option maxRecDepth 100000 in
set_option maxHeartbeats 1000000 in
theorem clone_any (a : Option Addr) (C : List (List (Int × Bool))) (cap : Nat) (w : World) (hw : CacheIn w a C) (hl : (C.length : Int) ≤ 4) (hl1 : (1 : Int) ≤ C.length) (hn : ∀ ls ∈ C, 0 < ls.length ∧ ls.length ≤ 3) :
    Calls Tryz.prog 13 #[.agg #[.slice a C.length cap]] w fun e w' => ∃ g0, e = .returned (.agg #[.slice (some ⟨g0, 0, none⟩) C.length C.length]) ∧ w.heap.size ≤ g0 ∧ OwnC w' g0 C C.length ∧ Below w.heap.size w w' := by
  have hmk22 := run_make_row' (P := Tryz.prog) 34 84 (.slice none 0 0) 24 Tryz.underlying34 Tryz.info84 rfl .i64 .i64 C.length (by omega) (by omega)
  go_enter Tryz.func13, Tryz.ntmps13
  go_wp2
  clear hmk22
  have hB0 : Below w.heap.size w ((((w.alloc (Obj.cells #[Value.slice a C.length cap] 36)).alloc (Obj.cells #[Value.slice none 0 0] 36)).alloc (Obj.cells (madeCells #[Value.slice none 0 0] C.length) 84)).alloc (Obj.cells #[Value.slice (some ⟨w.heap.size + 1 + 1, 0, none⟩) C.length C.length] 36)) :=
    ((((Below.refl _ _).alloc (Nat.le_refl _) _).alloc (by simp) _).alloc (by simp; omega) _).alloc (by simp; omega) _
  have hO0 : OwnC ((((w.alloc (Obj.cells #[Value.slice a C.length cap] 36)).alloc (Obj.cells #[Value.slice none 0 0] 36)).alloc (Obj.cells (madeCells #[Value.slice none 0 0] C.length) 84)).alloc (Obj.cells #[Value.slice (some ⟨w.heap.size + 1 + 1, 0, none⟩) C.length C.length] 36)) (w.heap.size + 1 + 1) C 0 := by
    refine ⟨(madeCells #[Value.slice none 0 0] C.length).toList, fun _ => 0, fun _ => 0, ?_, by simp [madeCells], fun j _ h => by omega, fun i j _ h => by omega⟩
    refine RowAt.alloc ?_ _
    have := rowAt_new ((w.alloc (Obj.cells #[Value.slice a C.length cap] 36)).alloc (Obj.cells #[Value.slice none 0 0] 36)) (w.heap.size + 1 + 1) (madeCells #[Value.slice none 0 0] C.length).toList 84 (by simp)
    simpa using this
  have hc30 : ((((w.alloc (Obj.cells #[Value.slice a C.length cap] 36)).alloc (Obj.cells #[Value.slice none 0 0] 36)).alloc (Obj.cells (madeCells #[Value.slice none 0 0] C.length) 84)).alloc (Obj.cells #[Value.slice (some ⟨w.heap.size + 1 + 1, 0, none⟩) C.length C.length] 36)).cell? ⟨w.heap.size + 1 + 1 + 1, 0, none⟩ = some (.slice (some ⟨w.heap.size + 1 + 1, 0, none⟩) C.length C.length) := by
    rw [cell_new _ _ _ _ _ (by simp)]; rfl
  have hr10 : RowAt ((((w.alloc (Obj.cells #[Value.slice a C.length cap] 36)).alloc (Obj.cells #[Value.slice none 0 0] 36)).alloc (Obj.cells (madeCells #[Value.slice none 0 0] C.length) 84)).alloc (Obj.cells #[Value.slice (some ⟨w.heap.size + 1 + 1, 0, none⟩) C.length C.length] 36)) (w.heap.size + 1) 36 [Value.slice none 0 0] :=
    ((rowAt_new (w.alloc (Obj.cells #[Value.slice a C.length cap] 36)) (w.heap.size + 1) [Value.slice none 0 0] 36 (by simp)).alloc _).alloc _
  have Hc30 := hid hc30
  have Hr10 := hid hr10
  clear hc30 hr10
  have HB0 := hid hB0
  have HO0 := hid hO0
  clear hB0 hO0
  go_loopw [14] (fun i wr => ∃ k : Nat, k ≤ C.length ∧ i = .int .i64 k ∧ Below w.heap.size w wr ∧ OwnC wr (w.heap.size + 1 + 1) C k ∧ wr.cell? ⟨w.heap.size + 1 + 1 + 1, 0, none⟩ = some (.slice (some ⟨w.heap.size + 1 + 1, 0, none⟩) C.length C.length) ∧ wr.cell? ⟨w.heap.size + 1, 0, none⟩ = some (.slice none 0 0) ∧ wr.frozen? ⟨w.heap.size + 1, 0, none⟩ = false) (fun i _ => C.length - (intOf i).toNat)
  case atStart => exact ⟨0, Nat.zero_le _, rfl, HB0.out, HO0.out, Hc30.out, Hr10.out.cell 0 _ rfl, Hr10.out.frozen 0⟩
  case round =>
    clear HB0 HO0 Hc30 Hr10
    obtain ⟨k, hk, rfl, hbl, hO, hA, hR, hRf⟩ := hrel
    have HO := hid hO
    clear hO
    by_cases hlt : k < C.length
    · obtain ⟨b', o', a2, cap2, rfl, hc1, hws, hcap, hlen⟩ := hw k hlt
      have hc1' := bkeep hbl hc1 (Nat.le_refl _)
      have hws' := hws.keep hbl
      obtain ⟨hp, h3⟩ := hn C[k] (List.getElem_mem hlt)
      obtain ⟨b2, o2, rfl, _, _⟩ := hws 0 hp
      have hk4 : (k : Int) < (C.length : Int) := by omega
      have hk0 : (0 : Int) ≤ (k : Int) := by omega
      go_wp2
      go_region_held3 (fun w' => w'.cell? ⟨w.heap.size + 1 + 1 + 1, 0, none⟩ = some (.slice (some ⟨w.heap.size + 1 + 1, 0, none⟩) C.length C.length)) (first | go_keep | exact bkeep hb5 (show wr.drew.cell? _ = _ from hA) (Nat.le_refl _))
        (first | (go_at_call 26; refine (clone53_any b2 o2 C[k] cap2 _ (by exact hws') hp h3).mono ?_; rintro e w5 ⟨g, cap5, rfl, hown5, hb5⟩; obtain ⟨⟨v5, hst5⟩, hfz5⟩ := (HO.out.drew.below hb5).cellAt k hlt))
      have hA5 := bkeep hb5 (show wr.drew.cell? _ = _ from hA) (Nat.le_refl _)
      have hR5 := bkeep hb5 (show wr.drew.cell? _ = _ from hR) (Nat.le_refl _)
      have hlt5 : w.heap.size + 1 < wr.heap.size := World.block_lt_of_cell? _ _ hR
      have hF5 : w5.frozen? ⟨w.heap.size + 1, 0, none⟩ = false := by rw [hb5.frozen (p := ⟨w.heap.size + 1, 0, none⟩) (by exact hlt5)]; exact hRf
      have Hrel : Hid (Below w.heap.size w (w5.setCell ⟨w.heap.size + 1 + 1, k, none⟩ (.slice (some ⟨g, 0, none⟩) C[k].length cap5)) ∧ OwnC (w5.setCell ⟨w.heap.size + 1 + 1, k, none⟩ (.slice (some ⟨g, 0, none⟩) C[k].length cap5)) (w.heap.size + 1 + 1) C (k + 1)
          ∧ (w5.setCell ⟨w.heap.size + 1 + 1, k, none⟩ (.slice (some ⟨g, 0, none⟩) C[k].length cap5)).cell? ⟨w.heap.size + 1 + 1 + 1, 0, none⟩ = some (.slice (some ⟨w.heap.size + 1 + 1, 0, none⟩) C.length C.length)
          ∧ (w5.setCell ⟨w.heap.size + 1 + 1, k, none⟩ (.slice (some ⟨g, 0, none⟩) C[k].length cap5)).cell? ⟨w.heap.size + 1, 0, none⟩ = some (.slice none 0 0)
          ∧ (w5.setCell ⟨w.heap.size + 1 + 1, k, none⟩ (.slice (some ⟨g, 0, none⟩) C[k].length cap5)).frozen? ⟨w.heap.size + 1, 0, none⟩ = false) := by
        refine ⟨(btrans hbl.drew hb5).setCell (by show w.heap.size ≤ w.heap.size + 1 + 1; omega) _, HO.out.drew.step hlt hb5 hown5, ?_, ?_, ?_⟩
        · rw [World.cell?_setCell_other _ _ _ _ (by simp)]; exact hA5
        · rw [World.cell?_setCell_other _ _ _ _ (by simp)]; exact hR5
        · simpa using hF5
      clear hA5 hR5 hF5 hA hR hRf
      go_wp2
      go_roundw
      case rel => exact ⟨k + 1, by omega, by go_num, Hrel.out⟩
      case measure => simp [intOf]; omega
    · obtain rfl : k = C.length := by omega
      go_wp2
      refine bodyPost_ret (v := .agg #[.slice (some ⟨w.heap.size + 1 + 1, 0, none⟩) C.length C.length]) (by simp [results, Tryz.results13, go_sem, World.cell?_setCell_same wr _ _ hR]) rfl ⟨_, rfl, by omega, HO.out.setOther _ _ (by show w.heap.size + 1 < w.heap.size + 1 + 1; omega), hbl.setCell (by show w.heap.size ≤ w.heap.size + 1; omega) _⟩

end Go.Proofs.YtildebflnmbefaaGreat

namespace Go.Proofs.YtildebflnmbefaaGreat
open Go.RowKit

def emptyC (N n : Nat) : List (List (Int × Bool)) := List.replicate N (List.replicate n (0, false))

theorem emptyC_len (N n : Nat) : (emptyC N n).length = N := by simp [emptyC]
theorem emptyC_at (N n j : Nat) (h : j < (emptyC N n).length) : (emptyC N n)[j] = List.replicate n (0, false) := by simp [emptyC]

theorem make35_1 (w : World) : (Instr.makeSlice 84 (.int .i64 1) (.int .i64 1)).run Tryz.prog w = .ok (.slice (some ⟨w.heap.size, 0, none⟩) 1 1) (w.alloc (.cells (flat (List.replicate 1 (0, false))).toArray 87)) := by kernel_rfl
theorem make35_2 (w : World) : (Instr.makeSlice 84 (.int .i64 2) (.int .i64 2)).run Tryz.prog w = .ok (.slice (some ⟨w.heap.size, 0, none⟩) 2 2) (w.alloc (.cells (flat (List.replicate 2 (0, false))).toArray 87)) := by kernel_rfl
theorem make35_3 (w : World) : (Instr.makeSlice 84 (.int .i64 3) (.int .i64 3)).run Tryz.prog w = .ok (.slice (some ⟨w.heap.size, 0, none⟩) 3 3) (w.alloc (.cells (flat (List.replicate 3 (0, false))).toArray 87)) := by kernel_rfl

theorem make35 (n : Nat) (h1 : 1 ≤ n) (h3 : n ≤ 3) (w : World) :
    (Instr.makeSlice 84 (.int .i64 n) (.int .i64 n)).run Tryz.prog w = .ok (.slice (some ⟨w.heap.size, 0, none⟩) n n) (w.alloc (.cells (flat (List.replicate n (0, false))).toArray 87)) := by
  match n, h1, h3 with
  | 1, _, _ => exact make35_1 w
  | 2, _, _ => exact make35_2 w
  | 3, _, _ => exact make35_3 w

theorem owns_made (w : World) (n : Nat) (hn : n ≤ 3) : (w.alloc (.cells (flat (List.replicate n (0, false))).toArray 87)).ownsRow w.heap.size 87 2 (.slice (some ⟨w.heap.size, 0, none⟩) n n) n (flat (List.replicate n (0, false))) := by
  have h := rowAt_new w _ (flat (List.replicate n (0, false)) ++ []) 87 rfl
  rw [List.append_nil] at h
  refine owns_of_rowAt (r := []) (by rw [List.append_nil]; exact h) (by rw [List.append_nil, flat_len]; simp) (Nat.le_refl _) (by simp [maxLen]; omega) (Nat.le_refl _) (by simp)

set_option maxRecDepth 100000 in
set_option maxHeartbeats 1000000 in
theorem empty_any (N n : Nat) (w : World) (hl : (N : Int) ≤ 4) (hl1 : (1 : Int) ≤ N) (hn : 1 ≤ n) (hn3 : n ≤ 3) :
    Calls Tryz.prog 17 #[.int .i64 N, .int .i64 n] w fun e w' => ∃ g0, e = .returned (.agg #[.slice (some ⟨g0, 0, none⟩) N N]) ∧ w.heap.size ≤ g0 ∧ OwnC w' g0 (emptyC N n) N ∧ Below w.heap.size w w' := by
  have hmk22 := run_make_row' (P := Tryz.prog) 34 84 (.slice none 0 0) 24 Tryz.underlying34 Tryz.info84 rfl .i64 .i64 N (by omega) (by omega)
  have hmk35 := make35 n hn hn3
  go_enter Tryz.func17, Tryz.ntmps17
  go_wp2
  clear hmk22
  have HB0 : Hid (Below w.heap.size w (((w.alloc (Obj.cells #[Value.slice none 0 0] 36)).alloc (Obj.cells (madeCells #[Value.slice none 0 0] N) 84)).alloc (Obj.cells #[Value.slice (some ⟨w.heap.size + 1, 0, none⟩) N N] 36))) :=
    (((Below.refl _ _).alloc (Nat.le_refl _) _).alloc (by simp) _).alloc (by simp; omega) _
  have HO0 : Hid (OwnC (((w.alloc (Obj.cells #[Value.slice none 0 0] 36)).alloc (Obj.cells (madeCells #[Value.slice none 0 0] N) 84)).alloc (Obj.cells #[Value.slice (some ⟨w.heap.size + 1, 0, none⟩) N N] 36)) (w.heap.size + 1) (emptyC N n) 0) := by
    refine ⟨(madeCells #[Value.slice none 0 0] N).toList, fun _ => 0, fun _ => 0, ?_, by simp [madeCells, emptyC], fun j _ h => by omega, fun i j _ h => by omega⟩
    refine RowAt.alloc ?_ _
    have := rowAt_new (w.alloc (Obj.cells #[Value.slice none 0 0] 36)) (w.heap.size + 1) (madeCells #[Value.slice none 0 0] N).toList 84 (by simp)
    simpa using this
  have Hc30 : Hid ((((w.alloc (Obj.cells #[Value.slice none 0 0] 36)).alloc (Obj.cells (madeCells #[Value.slice none 0 0] N) 84)).alloc (Obj.cells #[Value.slice (some ⟨w.heap.size + 1, 0, none⟩) N N] 36)).cell? ⟨w.heap.size + 1 + 1, 0, none⟩ = some (.slice (some ⟨w.heap.size + 1, 0, none⟩) N N)) := by
    show _ = _
    rw [cell_new _ _ _ _ _ (by simp)]; rfl
  have Hr10 : Hid (RowAt (((w.alloc (Obj.cells #[Value.slice none 0 0] 36)).alloc (Obj.cells (madeCells #[Value.slice none 0 0] N) 84)).alloc (Obj.cells #[Value.slice (some ⟨w.heap.size + 1, 0, none⟩) N N] 36)) w.heap.size 36 [Value.slice none 0 0]) :=
    ((rowAt_new w w.heap.size [Value.slice none 0 0] 36 rfl).alloc _).alloc _
  go_loopw [13] (fun i wr => ∃ k : Nat, k ≤ N ∧ i = .int .i64 k ∧ Below w.heap.size w wr ∧ OwnC wr (w.heap.size + 1) (emptyC N n) k ∧ wr.cell? ⟨w.heap.size + 1 + 1, 0, none⟩ = some (.slice (some ⟨w.heap.size + 1, 0, none⟩) N N) ∧ wr.cell? ⟨w.heap.size, 0, none⟩ = some (.slice none 0 0) ∧ wr.frozen? ⟨w.heap.size, 0, none⟩ = false) (fun i _ => N - (intOf i).toNat)
  case atStart => exact ⟨0, Nat.zero_le _, rfl, HB0.out, HO0.out, Hc30.out, Hr10.out.cell 0 _ rfl, Hr10.out.frozen 0⟩
  case round =>
    clear HB0 HO0 Hc30 Hr10
    obtain ⟨k, hk, rfl, hbl, hO, hA, hR, hRf⟩ := hrel
    have HO := hid hO
    clear hO
    by_cases hlt : k < N
    · have hltC : k < (emptyC N n).length := by rw [emptyC_len]; exact hlt
      have hk4 : (k : Int) < (N : Int) := by omega
      have hk0 : (0 : Int) ≤ (k : Int) := by omega
      have hlt5 : w.heap.size < wr.heap.size := World.block_lt_of_cell? _ _ hR
      have hlt6 : w.heap.size + 1 + 1 < wr.heap.size := World.block_lt_of_cell? _ _ hA
      obtain ⟨⟨v5, hst5⟩, hfz5⟩ := HO.out.cellAt k hltC
      have hlt7 : w.heap.size + 1 < wr.heap.size := World.block_lt_of_cell? _ _ hst5
      have hst6 : ∀ o, (wr.alloc o).cell? ⟨w.heap.size + 1, k, none⟩ = some v5 := fun o => by rw [World.cell?_alloc_lt _ _ _ (by exact hlt7)]; exact hst5
      have hfz6 : ∀ o, (wr.alloc o).frozen? ⟨w.heap.size + 1, k, none⟩ = false := fun o => by rw [((Below.refl wr.heap.size wr).alloc (Nat.le_refl _) o).frozen (p := ⟨w.heap.size + 1, k, none⟩) hlt7]; exact hfz5
      go_wp2
      go_region_held3 (fun w' => w'.cell? ⟨w.heap.size + 1 + 1, 0, none⟩ = some (.slice (some ⟨w.heap.size + 1, 0, none⟩) N N)) (go_keep) (fail)
      have Hrel := hid (HO.out.drew.step hltC ((Below.refl _ _).alloc (Nat.le_refl _) _) (by rw [emptyC_at]; simpa using owns_made wr.drew n hn3))
      rw [World.setCell_alloc_past (w := wr.drew) _ _ _ _ (by exact hlt7), show (emptyC N n)[k].length = n by rw [emptyC_at]; simp] at Hrel
      have Hrel2 : Hid (Below w.heap.size w (((wr.drew.setCell ⟨w.heap.size + 1, k, none⟩ (.slice (some ⟨wr.heap.size, 0, none⟩) n n)).alloc (.cells (flat (List.replicate n (0, false))).toArray 87)))
          ∧ ((wr.drew.setCell ⟨w.heap.size + 1, k, none⟩ (.slice (some ⟨wr.heap.size, 0, none⟩) n n)).alloc (.cells (flat (List.replicate n (0, false))).toArray 87)).cell? ⟨w.heap.size + 1 + 1, 0, none⟩ = some (.slice (some ⟨w.heap.size + 1, 0, none⟩) N N)
          ∧ ((wr.drew.setCell ⟨w.heap.size + 1, k, none⟩ (.slice (some ⟨wr.heap.size, 0, none⟩) n n)).alloc (.cells (flat (List.replicate n (0, false))).toArray 87)).cell? ⟨w.heap.size, 0, none⟩ = some (.slice none 0 0)
          ∧ ((wr.drew.setCell ⟨w.heap.size + 1, k, none⟩ (.slice (some ⟨wr.heap.size, 0, none⟩) n n)).alloc (.cells (flat (List.replicate n (0, false))).toArray 87)).frozen? ⟨w.heap.size, 0, none⟩ = false) := by
        have q1 : Below w.heap.size w (wr.drew.setCell ⟨w.heap.size + 1, k, none⟩ (.slice (some ⟨wr.heap.size, 0, none⟩) n n)) := hbl.drew.setCell (by show w.heap.size ≤ w.heap.size + 1; omega) _
        have q2 : ∀ x : World, Below x.heap.size x (x.alloc (.cells (flat (List.replicate n (0, false))).toArray 87)) := fun x => (Below.refl _ _).alloc (Nat.le_refl _) _
        refine ⟨btrans q1 (q2 _), bkeep (q2 _) ?_ (Nat.le_refl _), bkeep (q2 _) ?_ (Nat.le_refl _), ?_⟩
        · rw [World.cell?_setCell_other _ _ _ _ (by simp)]; exact hA
        · rw [World.cell?_setCell_other _ _ _ _ (by simp)]; exact hR
        · rw [(q2 _).frozen (p := ⟨w.heap.size, 0, none⟩) (by simpa using hlt5)]; simpa using hRf
      clear hA hR hRf hst5 hfz5 hst6 hfz6 hmk35
      go_wp2
      go_roundw
      case rel => exact ⟨k + 1, by omega, by go_num, Hrel2.out.1, Hrel.out, Hrel2.out.2⟩
      case measure => simp [intOf]; omega
    · obtain rfl : k = N := by omega
      clear hmk35
      go_wp2
      exact bodyPost_ret (v := .agg #[.slice (some ⟨w.heap.size + 1, 0, none⟩) k k]) (by simp [results, Tryz.results17, go_sem, World.cell?_setCell_same wr _ _ hR]) rfl ⟨_, rfl, by omega, HO.out.setOther _ _ (by show w.heap.size < w.heap.size + 1; omega), hbl.setCell (Nat.le_refl _) _⟩

end Go.Proofs.YtildebflnmbefaaGreat

namespace Go.Proofs.YtildebflnmbefaaGreat
open Go.RowKit

theorem cacheIn_of_own {w : World} {g0 k : Nat} {C : List (List (Int × Bool))} (h : OwnC w g0 C k) (hk : C.length ≤ k) (hn : ∀ ls ∈ C, ls.length ≤ 3) : CacheIn w (some ⟨g0, 0, none⟩) C := by
  obtain ⟨L, G, cp, h1, h2, h3, h4⟩ := h
  intro j hj
  obtain ⟨e1, e2⟩ := h3 j hj (by omega)
  obtain ⟨r, _, _, q3, _, _⟩ := rowAt_of_owns e2
  exact ⟨g0, 0, some ⟨G j, 0, none⟩, cp j, rfl, by rw [Nat.zero_add]; exact h1.cell j _ e1, waysIn_of_owns e2, q3, by have := hn C[j] (List.getElem_mem hj); omega⟩

set_option maxRecDepth 100000 in
set_option maxHeartbeats 1000000 in
theorem new_bad (s n : Int) (w : World) (h : (inR s 1 4 && inR n 1 3) = false) :
    Calls Tryz.prog 8 #[.int .i64 s, .int .i64 n] w fun e w' => e = .returned (.tuple #[.agg #[.slice none 0 0], .int .i64 3]) ∧ Below w.heap.size w w' := by
  cases h1 : inR s 1 4 with
  | false =>
    clear h
    go_enter Tryz.func8, Tryz.ntmps8
    go_wp2_with fail
    refine (within_any _ _ _ _).mono ?_
    rintro e w' ⟨rfl, rfl⟩
    rw [h1]
    clear h1
    go_wp2
    exact bodyPost_ret (v := .tuple #[.agg #[.slice none 0 0], .int .i64 3]) (by simp [results, Tryz.results8, go_sem]) rfl ⟨rfl, (Below.refl _ _).alloc (Nat.le_refl _) _⟩
  | true =>
    have h2 : inR n 1 3 = false := by simpa [h1] using h
    clear h
    go_enter Tryz.func8, Tryz.ntmps8
    go_wp2_with fail
    refine (within_any _ _ _ _).mono ?_
    rintro e w' ⟨rfl, rfl⟩
    rw [h1]
    clear h1
    go_wp2_with fail
    refine (within_any _ _ _ _).mono ?_
    rintro e w' ⟨rfl, rfl⟩
    rw [h2]
    clear h2
    go_wp2
    exact bodyPost_ret (v := .tuple #[.agg #[.slice none 0 0], .int .i64 3]) (by simp [results, Tryz.results8, go_sem]) rfl ⟨rfl, (Below.refl _ _).alloc (Nat.le_refl _) _⟩

set_option maxRecDepth 100000 in
set_option maxHeartbeats 1000000 in
theorem new_ok (N n : Nat) (w : World) (hN1 : 1 ≤ N) (hN : N ≤ 4) (hn1 : 1 ≤ n) (hn : n ≤ 3) :
    Calls Tryz.prog 8 #[.int .i64 N, .int .i64 n] w fun e w' => ∃ g0, e = .returned (.tuple #[.agg #[.slice (some ⟨g0, 0, none⟩) N N], .int .i64 0]) ∧ OwnC w' g0 (emptyC N n) N ∧ w.heap.size ≤ g0 ∧ Below w.heap.size w w' := by
  have h1 : inR N 1 4 = true := by simp [inR]; omega
  have h2 : inR n 1 3 = true := by simp [inR]; omega
  go_enter Tryz.func8, Tryz.ntmps8
  go_wp2_with fail
  refine (within_any _ _ _ _).mono ?_
  rintro e w' ⟨rfl, rfl⟩
  rw [h1]
  clear h1
  go_wp2_with fail
  refine (within_any _ _ _ _).mono ?_
  rintro e w' ⟨rfl, rfl⟩
  rw [h2]
  clear h2
  go_wp2_with fail
  refine (empty_any N n _ (by omega) (by omega) hn1 hn).mono ?_
  rintro e w1 ⟨g0, rfl, hg0, hO, hb1⟩
  have HO := hid hO
  clear hO
  have hr : RowAt (w.alloc (.cells #[.slice none 0 0] 36)) w.heap.size 36 [.slice none 0 0] := rowAt_new w _ [.slice none 0 0] 36 rfl
  have hr1 := hr.below hb1 (Nat.le_refl _)
  have hc1 := hr1.cell 0 _ rfl
  have hf1 := hr1.frozen 0
  have hg1 : w.heap.size < g0 := by simp at hg0; omega
  have h0 : Below w.heap.size w (w.alloc (.cells #[.slice none 0 0] 36)) := (Below.refl _ _).alloc (Nat.le_refl _) _
  go_wp2
  exact bodyPost_ret (v := .tuple #[.agg #[.slice (some ⟨g0, 0, none⟩) N N], .int .i64 0]) (by simp [results, Tryz.results8, go_sem, World.cell?_setCell_same w1 _ _ hc1]) rfl ⟨_, rfl, HO.out.setOther _ _ hg1, by omega, (btrans h0 hb1).setCell (Nat.le_refl _) _⟩

end Go.Proofs.YtildebflnmbefaaGreat

namespace Go.Proofs.YtildebflnmbefaaGreat
open Go.RowKit

theorem RowAt.grown {w w' : World} {g : Nat} {t : TypeId} {L : List Value} {row : Option Nat} (h : RowAt w g t L) (hg : w.grownBy w' row) (hne : some g ≠ row) : RowAt w' g t L := by
  show w'.heap[g]? = _
  rw [hg.block g h.lt hne]; exact h

theorem OwnC.parts {w : World} {g0 s : Nat} {C : List (List (Int × Bool))} (h : OwnC w g0 C C.length) (hs : s < C.length) :
    ∃ g cap, w.cell? ⟨g0, s, none⟩ = some (.slice (some ⟨g, 0, none⟩) C[s].length cap) ∧ w.ownsRow (g0 + 1) 87 2 (.slice (some ⟨g, 0, none⟩) C[s].length cap) C[s].length (flat C[s]) ∧ g0 < g ∧
      ∀ (w' : World) (ls : List (Int × Bool)), ls.length = C[s].length → w.grownBy w' (some g) → w'.ownsRow (g0 + 1) 87 2 (.slice (some ⟨g, 0, none⟩) C[s].length cap) C[s].length (flat ls) → OwnC w' g0 (C.set s ls) C.length := by
  obtain ⟨L, G, cp, h1, h2, h3, h4⟩ := h
  obtain ⟨e1, e2⟩ := h3 s hs hs
  have hgt : g0 + 1 ≤ G s := (e2.lt (G s) rfl).1
  refine ⟨G s, cp s, h1.cell s _ e1, e2, hgt, fun w' ls hl hg ho => ?_⟩
  refine ⟨L, G, cp, h1.grown hg (by simp; omega), by simp [h2], fun j hj hk => ?_, h4⟩
  have hj' : j < C.length := by simpa using hj
  by_cases e : j = s
  · subst e
    simp only [List.getElem_set_self, hl]
    exact ⟨e1, ho⟩
  · have hne : G j ≠ G s := by
      rcases Nat.lt_or_gt_of_ne e with h | h
      · have := h4 j s h hs; omega
      · have := h4 s j h hk; omega
    simp only [List.getElem_set_ne (fun h => e h.symm)]
    exact ⟨(h3 j hj' hk).1, (h3 j hj' hk).2.kept hg (.inr (by simpa [Value.ownBlock] using hne))⟩

theorem ckK_ok {C : List (List (Int × Bool))} (h : ck C = 0) : ckShape C = 0 ∧ 1 ≤ C.length ∧ C.length ≤ 4 ∧ ∀ ls ∈ C, 0 < ls.length ∧ ls.length ≤ 3 := by
  have hs : ckShape C = 0 := by
    unfold ck at h
    by_cases e : ckShape C = 0
    · exact e
    · simp [e] at h
  refine ⟨hs, ?_⟩
  unfold ckShape at hs
  split at hs
  · omega
  · rename_i h1
    split at hs
    · omega
    · rename_i h2
      simp [inR] at h1 h2
      refine ⟨by omega, by omega, fun ls hls => ?_⟩
      have := h2 ls hls
      omega

theorem useSet_len (ls : List (Int × Bool)) (ln : Int) (wr : Bool) (h : 0 < ls.length) : (useSet ls ln wr).1.length = ls.length := by
  rcases idx_cases ln ls with ⟨hx, _⟩ | ⟨k, hk, hx, _, _⟩
  · rw [useSet_miss hx]; simp; omega
  · rw [useSet_hit hx]; simp [List.length_eraseIdx, hk]; omega

set_option maxRecDepth 100000 in
set_option maxHeartbeats 1000000 in
theorem access_bad (a : Option Addr) (C : List (List (Int × Bool))) (cap : Nat) (l : Int) (wr : Bool) (w : World) (hw : CacheIn w a C) (hl : C.length ≤ 9223372036854775807) (h : ck C ≠ 0) :
    Calls Tryz.prog 20 #[.agg #[.slice a C.length cap], .int .i64 l, .bool wr] w fun e w' => e = .returned (.tuple #[.agg #[.slice none 0 0], .int .i64 0, .int .i64 (ck C)]) ∧ Below w.heap.size w w' := by
  have h1 : Below w.heap.size w (w.alloc (.cells #[.slice a C.length cap] 36)) := (Below.refl _ _).alloc (Nat.le_refl _) _
  have h2 : Below w.heap.size w ((w.alloc (.cells #[.slice a C.length cap] 36)).alloc (.cells #[.slice none 0 0] 36)) := h1.alloc (by simp) _
  have hr : RowAt ((w.alloc (.cells #[.slice a C.length cap] 36)).alloc (.cells #[.slice none 0 0] 36)) (w.heap.size + 1) 36 [.slice none 0 0] := rowAt_new _ _ [.slice none 0 0] 36 (by simp)
  have h' : (ck C != 0) = true := by simp [h]
  go_enter Tryz.func20, Tryz.ntmps20
  go_wp2_with fail
  refine (check_any a C cap _ (hw.keep h2) hl).mono ?_
  rintro e w1 ⟨rfl, hb1⟩
  have hr1 := hr.below hb1 (Nat.le_refl _)
  have hc1 := hr1.cell 0 _ rfl
  have hf1 := hr1.frozen 0
  clear h hr hw
  generalize hq : ck C = q at *
  have HQ := hid hq
  clear hq
  go_wp2
  exact bodyPost_ret (v := .tuple #[.agg #[.slice none 0 0], .int .i64 0, .int .i64 q]) (by simp [results, Tryz.results20, go_sem, World.cell?_setCell_same w1 _ _ hc1]) rfl ⟨by rw [HQ.out], (btrans h2 hb1).setCell (by show w.heap.size ≤ w.heap.size + 1; omega) _⟩

set_option maxRecDepth 100000 in
set_option maxHeartbeats 1000000 in
theorem access_range (a : Option Addr) (C : List (List (Int × Bool))) (cap : Nat) (l : Int) (wr : Bool) (w : World) (hw : CacheIn w a C) (hl : C.length ≤ 9223372036854775807) (h : ck C = 0) (hr0 : inR l 1 1000 = false) :
    Calls Tryz.prog 20 #[.agg #[.slice a C.length cap], .int .i64 l, .bool wr] w fun e w' => e = .returned (.tuple #[.agg #[.slice none 0 0], .int .i64 0, .int .i64 3]) ∧ Below w.heap.size w w' := by
  have h1 : Below w.heap.size w (w.alloc (.cells #[.slice a C.length cap] 36)) := (Below.refl _ _).alloc (Nat.le_refl _) _
  have h2 : Below w.heap.size w ((w.alloc (.cells #[.slice a C.length cap] 36)).alloc (.cells #[.slice none 0 0] 36)) := h1.alloc (by simp) _
  have hr : RowAt ((w.alloc (.cells #[.slice a C.length cap] 36)).alloc (.cells #[.slice none 0 0] 36)) (w.heap.size + 1) 36 [.slice none 0 0] := rowAt_new _ _ [.slice none 0 0] 36 (by simp)
  go_enter Tryz.func20, Tryz.ntmps20
  go_wp2_with fail
  refine (check_any a C cap _ (hw.keep h2) hl).mono ?_
  rintro e w1 ⟨rfl, hb1⟩
  have hr1 := hr.below hb1 (Nat.le_refl _)
  have hc1 := hr1.cell 0 _ rfl
  have hf1 := hr1.frozen 0
  rw [h]
  clear h hr hw
  go_wp2_with fail
  refine (within_any _ _ _ _).mono ?_
  rintro e w' ⟨rfl, rfl⟩
  rw [hr0]
  clear hr0
  go_wp2
  exact bodyPost_ret (v := .tuple #[.agg #[.slice none 0 0], .int .i64 0, .int .i64 3]) (by simp [results, Tryz.results20, go_sem, World.cell?_setCell_same w1 _ _ hc1]) rfl ⟨rfl, (btrans h2 hb1).setCell (by show w.heap.size ≤ w.heap.size + 1; omega) _⟩

set_option maxRecDepth 100000 in
set_option maxHeartbeats 1000000 in
theorem access_ok (a : Option Addr) (C : List (List (Int × Bool))) (cap : Nat) (l : Int) (wr : Bool) (s : Nat) (w : World) (hw : CacheIn w a C) (hl : C.length ≤ 9223372036854775807) (h : ck C = 0) (hr0 : inR l 1 1000 = true) (hs : l % (C.length : Int) = (s : Int)) (hsl : s < C.length) :
    Calls Tryz.prog 20 #[.agg #[.slice a C.length cap], .int .i64 l, .bool wr] w fun e w' => ∃ g0, e = .returned (.tuple #[.agg #[.slice (some ⟨g0, 0, none⟩) C.length C.length], .int .i64 (useSet C[s] l wr).2, .int .i64 0]) ∧ OwnC w' g0 (C.set s (useSet C[s] l wr).1) C.length ∧ w.heap.size ≤ g0 ∧ Below w.heap.size w w' := by
  have h1 : Below w.heap.size w (w.alloc (.cells #[.slice a C.length cap] 36)) := (Below.refl _ _).alloc (Nat.le_refl _) _
  have h2 : Below w.heap.size w ((w.alloc (.cells #[.slice a C.length cap] 36)).alloc (.cells #[.slice none 0 0] 36)) := h1.alloc (by simp) _
  have hr : RowAt ((w.alloc (.cells #[.slice a C.length cap] 36)).alloc (.cells #[.slice none 0 0] 36)) (w.heap.size + 1) 36 [.slice none 0 0] := rowAt_new _ _ [.slice none 0 0] 36 (by simp)
  have ha : RowAt ((w.alloc (.cells #[.slice a C.length cap] 36)).alloc (.cells #[.slice none 0 0] 36)) w.heap.size 36 [.slice a C.length cap] := (rowAt_new w _ [.slice a C.length cap] 36 rfl).alloc _
  obtain ⟨_, hC1, hC4, hCn⟩ := ckK_ok h
  have HCn := hid hCn
  have hl0 : 1 ≤ l ∧ l ≤ 1000 := by simpa [inR] using hr0
  obtain ⟨hl1, hl2⟩ := hl0
  have hC1' : (1 : Int) ≤ C.length := by omega
  have hC4' : (C.length : Int) ≤ 4 := by omega
  have hsl' : (s : Int) < C.length := by omega
  have hs0 : (0 : Int) ≤ s := by omega
  have hs2 : l.tmod (C.length : Int) = (s : Int) := by rw [Int.tmod_eq_emod_of_nonneg (by omega)]; exact hs
  have hz1 : ¬ C.length = 0 := by omega
  have hz2 : ¬ C = [] := by intro e; rw [e] at hz1; exact hz1 rfl
  clear hCn
  go_enter Tryz.func20, Tryz.ntmps20
  go_wp2_with fail
  refine (check_any a C cap _ (hw.keep h2) hl).mono ?_
  rintro e w1 ⟨rfl, hb1⟩
  have hr1 := hr.below hb1 (Nat.le_refl _)
  have ha1 := ha.below hb1 (Nat.le_refl _)
  have hw1 := (hw.keep h2).keep hb1
  have hc1 := ha1.cell 0 _ rfl
  have h3 := btrans h2 hb1
  rw [h]
  clear h hr hw ha h1 h2 hb1
  go_wp2_with fail
  refine (within_any _ _ _ _).mono ?_
  rintro e w' ⟨rfl, rfl⟩
  rw [hr0]
  clear hr0
  go_wp2_with fail
  refine (clone_any a C cap _ hw1 hC4' hC1' HCn.out).mono ?_
  rintro e w2 ⟨g0, rfl, hg0, hO, hb2⟩
  have hr2 := hr1.below hb2 (Nat.le_refl _)
  have h4 := btrans h3 hb2
  obtain ⟨g, cap2, q1, q2, q3, q4⟩ := hO.parts hsl
  have hgw : g < w2.heap.size := (q2.lt g rfl).2
  have hg0w : g0 < w2.heap.size := by omega
  have hbox : Below w2.heap.size w2 (w2.alloc (.cells #[.slice (some ⟨g0, 0, none⟩) C.length C.length] 36)) := (Below.refl _ _).alloc (Nat.le_refl _) _
  have Q2 : Hid ((w2.alloc (.cells #[.slice (some ⟨g0, 0, none⟩) C.length C.length] 36)).drew.ownsRow (g0 + 1) 87 2 (.slice (some ⟨g, 0, none⟩) C[s].length cap2) C[s].length (flat C[s])) := ownsK_below q2 hbox.drew
  have Q4 := hid q4
  have q1' : (w2.alloc (.cells #[.slice (some ⟨g0, 0, none⟩) C.length C.length] 36)).cell? ⟨g0, s, none⟩ = some (.slice (some ⟨g, 0, none⟩) C[s].length cap2) := bkeep hbox q1 (Nat.le_refl _)
  have hgr0 : Hid (w2.grownBy (w2.alloc (.cells #[.slice (some ⟨g0, 0, none⟩) C.length C.length] 36)).drew (some g)) := (grow_below g hbox).trans (grow_drew _ _)
  have hcost : 1 ≤ (useSet C[s] l wr).2 ∧ (useSet C[s] l wr).2 ≤ 15 := by
    unfold useSet
    split
    · simp
    · have := wb_le (C[s].getLastD (0, false)).2
      simp only; omega
  obtain ⟨hco1, hco2⟩ := hcost
  have hlt1 := hr1.lt
  clear q1 q2 q4 hO hw1 hc1 ha1 hr1 h3 hb2
  go_wp2_with fail
  go_region_held3 (fun w' => w'.cell? ⟨w2.heap.size, 0, none⟩ = some (.slice (some ⟨g0, 0, none⟩) C.length C.length) ∧ w'.cell? ⟨g0, s, none⟩ = some (.slice (some ⟨g, 0, none⟩) C[s].length cap2)) (first | go_keep | exact ⟨hg5.cell (by simp) (by simp; omega), hg5.cell q1' (by simp; omega)⟩)
    (first | (go_at_call 34; refine (use_any g cap2 (g0 + 1) C[s] l wr _ Q2.out (HCn.out C[s] (List.getElem_mem hsl)).1 (HCn.out C[s] (List.getElem_mem hsl)).2).mono ?_; rintro e w5 ⟨rfl, ho5, hg5⟩))
  have HG := hid (hgr0.out.trans hg5)
  have HO5 := hid (Q4.out w5 _ (useSet_len _ _ _ (HCn.out C[s] (List.getElem_mem hsl)).1) (hgr0.out.trans hg5) ho5)
  have hr5 := hr2.grown (hgr0.out.trans hg5) (by simp; omega)
  have hA5 : w5.cell? ⟨w2.heap.size, 0, none⟩ = some (.slice (some ⟨g0, 0, none⟩) C.length C.length) := hg5.cell (by simp) (by simp; omega)
  have hc5 := hr5.cell 0 _ rfl
  have hf5 := hr5.frozen 0
  clear ho5 Q2 Q4 q1' hr2 hr5 hgr0
  go_wp2
  refine bodyPost_ret (v := .tuple #[.agg #[.slice (some ⟨g0, 0, none⟩) C.length C.length], .int .i64 (useSet C[s] l wr).2, .int .i64 0]) (by simp [results, Tryz.results20, go_sem, World.cell?_setCell_same w5 _ _ hc5]) rfl ⟨g0, rfl, HO5.out.setOther _ _ (by show w.heap.size + 1 < g0; omega), by omega, ?_⟩
  exact (h4.grown HG.out (by have := h4.size; omega) (fun k hk => by simp at hk; omega)).setCell (by show w.heap.size ≤ w.heap.size + 1; omega) _

end Go.Proofs.YtildebflnmbefaaGreat

namespace Go.Proofs.YtildebflnmbefaaGreat
open Go.RowKit

abbrev ActT := Int × Int × Int
abbrev KT := List (List (Int × Bool))
def inRng (a : ActT) : Bool := if a.1 = 1 then inR a.2.1 1 200 else if a.1 = 2 ∨ a.1 = 3 then inR a.2.1 1 1000 else if a.1 = 4 then decide (0 ≤ a.2.1) && inR a.2.2 0 255 else decide (0 ≤ a.2.1)
def onlyN (a : ActT) : Bool := if a.1 = 4 then true else if a.1 = 6 ∨ a.1 = 8 then decide (a.2.1 = 0) && decide (a.2.2 = 0) else decide (a.2.2 = 0)
def ckA (a : ActT) : Int := if inR a.1 1 8 then (if inRng a then (if onlyN a then 0 else 1) else 3) else 7
def wstA (a : ActT) : Int := if a.1 = 1 then a.2.1 else if a.1 = 2 ∨ a.1 = 3 then 15 else 3
def ckAs (L : List ActT) : Int := if 60 < L.length then 2 else fe L.length fun i => ckA (L.getD i (0, 0, 0))
/-- What an action makes of the cache, and what it costs. -/
def setAt (K : KT) (l : Int) : Nat := (l % (K.length : Int)).toNat
def spK (K : KT) (a : ActT) : KT := if a.1 = 2 ∨ a.1 = 3 then K.set (setAt K a.2.1) (useSet (K.getD (setAt K a.2.1) []) a.2.1 (decide (a.1 = 3))).1 else K
def spC (K : KT) (a : ActT) : Int := if a.1 = 2 ∨ a.1 = 3 then (useSet (K.getD (setAt K a.2.1) []) a.2.1 (decide (a.1 = 3))).2 else wstA a

abbrev av (a : ActT) : Value := .agg #[.int .i64 a.1, .int .i64 a.2.1, .int .i64 a.2.2]

set_option maxHeartbeats 1000000 in
theorem inRange_any (a : ActT) (w : World) : Calls Tryz.prog 32 #[av a] w fun e w' => e = .returned (.bool (inRng a)) ∧ Below w.heap.size w w' := by
  obtain ⟨k, n, v⟩ := a
  have HB := fun o => hid (below_new w o)
  have R1 := rowAt_new w _ [.int .i64 k, .int .i64 n, .int .i64 v] 53 rfl
  have c0 := R1.cell 0 _ rfl
  have c1 := R1.cell 1 _ rfl
  have c2 := R1.cell 2 _ rfl
  clear R1
  unfold inRng
  dsimp only
  go_enter Tryz.func32, Tryz.ntmps32
  by_cases h1 : k = 1
  · subst h1
    go_wp2_with fail
    refine (within_any n 1 200 _).mono ?_
    rintro e w1 ⟨rfl, rfl⟩
    go_wp2
    go_ret
    exact ⟨rfl, (HB _).out⟩
  · by_cases h2 : k = 2 ∨ k = 3
    · have h4 : ¬ k = 4 := by omega
      simp only [h1, h2, if_false, if_true]
      go_wp2_with fail
      all_goals
        refine (within_any n 1 1000 _).mono ?_
        rintro e w1 ⟨rfl, rfl⟩
        go_wp2
        go_ret
        exact ⟨rfl, (HB _).out⟩
    · have h21 : ¬ k = 2 := by omega
      have h22 : ¬ k = 3 := by omega
      simp only [h1, h2, if_false]
      by_cases h3 : k = 4
      · subst h3
        by_cases hn : 0 ≤ n
        · go_wp2_with fail
          refine (within_any v 0 255 _).mono ?_
          rintro e w1 ⟨rfl, rfl⟩
          go_wp2
          go_ret
          exact ⟨ret_bool (by simp), (HB _).out⟩
        · have hd : decide (0 ≤ n) = false := by simp; omega
          go_wp2
          go_ret
          exact ⟨ret_bool (by simp), (HB _).out⟩
      · simp only [h3, if_false]
        go_wp2
        all_goals go_ret
        all_goals exact ⟨ret_bool (by simp; try omega), (HB _).out⟩

set_option maxHeartbeats 1000000 in
theorem onlyNamed_any (a : ActT) (w : World) : Calls Tryz.prog 33 #[av a] w fun e w' => e = .returned (.bool (onlyN a)) ∧ Below w.heap.size w w' := by
  obtain ⟨k, n, v⟩ := a
  have HB := fun o => hid (below_new w o)
  have R1 := rowAt_new w _ [.int .i64 k, .int .i64 n, .int .i64 v] 53 rfl
  have c0 := R1.cell 0 _ rfl
  have c1 := R1.cell 1 _ rfl
  have c2 := R1.cell 2 _ rfl
  clear R1
  unfold onlyN
  dsimp only
  go_enter Tryz.func33, Tryz.ntmps33
  go_wp2
  all_goals go_ret
  all_goals exact ⟨ret_bool (by simp_all <;> rfl), (HB _).out⟩

set_option maxHeartbeats 1000000 in
theorem worst_any (a : ActT) (w : World) : Calls Tryz.prog 21 #[av a] w fun e w' => e = .returned (.int .i64 (wstA a)) ∧ Below w.heap.size w w' := by
  obtain ⟨k, n, v⟩ := a
  have HB := fun o => hid (below_new w o)
  have R1 := rowAt_new w _ [.int .i64 k, .int .i64 n, .int .i64 v] 53 rfl
  have c0 := R1.cell 0 _ rfl
  have c1 := R1.cell 1 _ rfl
  clear R1
  unfold wstA
  dsimp only
  go_enter Tryz.func21, Tryz.ntmps21
  go_wp2
  all_goals go_ret
  all_goals exact ⟨by simp_all, (HB _).out⟩

set_option maxHeartbeats 1000000 in
theorem checkAction_any (a : ActT) (w : World) : Calls Tryz.prog 19 #[av a] w fun e w' => e = .returned (.int .i64 (ckA a)) ∧ Below w.heap.size w w' := by
  obtain ⟨k, n, v⟩ := a
  have q1 := below_new w (.cells #[.int .i64 k, .int .i64 n, .int .i64 v] 53)
  have HB := hid q1
  have R1 := hid (rowAt_new w _ [.int .i64 k, .int .i64 n, .int .i64 v] 53 rfl)
  have c0 := R1.out.cell 0 _ rfl
  have c1 := R1.out.cell 1 _ rfl
  have c2 := R1.out.cell 2 _ rfl
  clear q1
  go_enter Tryz.func19, Tryz.ntmps19
  go_wp2_with fail
  refine (within_any k 1 8 _).mono ?_
  rintro e w1 ⟨rfl, rfl⟩
  generalize hp : inR k 1 8 = p at *
  have HP := hid hp
  clear hp
  cases p
  · go_wp2
    go_ret
    exact ⟨by simp [ckA, HP.out], HB.out⟩
  go_wp2_with fail
  refine (inRange_any (k, n, v) _).mono ?_
  rintro e w2 ⟨rfl, hb2⟩
  have R2 := hid (R1.out.below hb2 (Nat.le_refl _))
  have HB2 := hid (btrans HB.out hb2)
  have d0 := R2.out.cell 0 _ rfl
  have d1 := R2.out.cell 1 _ rfl
  have d2 := R2.out.cell 2 _ rfl
  clear c0 c1 c2
  generalize hp : inRng (k, n, v) = p at *
  have HP2 := hid hp
  clear hp
  cases p
  · go_wp2
    go_ret
    exact ⟨by simp [ckA, HP.out, HP2.out], HB2.out⟩
  go_wp2_with fail
  refine (onlyNamed_any (k, n, v) _).mono ?_
  rintro e w3 ⟨rfl, hb3⟩
  have HB3 := hid (btrans HB2.out hb3)
  generalize hp : onlyN (k, n, v) = p at *
  have HP3 := hid hp
  clear hp
  cases p
  · go_wp2
    go_ret
    exact ⟨by simp [ckA, HP.out, HP2.out, HP3.out], HB3.out⟩
  go_wp2
  go_ret
  exact ⟨by simp [ckA, HP.out, HP2.out, HP3.out], HB3.out⟩

end Go.Proofs.YtildebflnmbefaaGreat
