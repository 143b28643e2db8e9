/- Walks: the image of a config. -/
import Derived.Test.YtaellaconpaejaaOb
import Derived.Laws.IdiomStrings
set_option linter.unusedVariables false
namespace Go.Proofs.Ytaellaconpaejaa
open Go.RowKit

theorem BoxC.same {w w' : World} {b : Nat} {A : Mem} {C : Conf} (h : BoxC w b C A) (e : w'.heap[b]? = w.heap[b]?) : BoxC w' b C A := by
  have q : ∀ i v, w.cell? ⟨b, i, none⟩ = some v → w'.cell? ⟨b, i, none⟩ = some v := fun i v hv => by rw [World.cell?_of_block (w := w) (a := ⟨b, i, none⟩) e]; exact hv
  exact ⟨q _ _ h.h0, q _ _ h.h1, q _ _ h.h2, q _ _ h.h3, q _ _ h.h4, q _ _ h.h5, q _ _ h.h6, q _ _ h.h7, q _ _ h.h8⟩

theorem intsIn_at (w : World) (l : List Int) (t : TypeId) (n : Nat) (h : w.heap.size = n) : IntsIn (w.alloc (.cells (l.map fun n => Value.int .i64 n).toArray t)) (some ⟨n, 0, none⟩) l := by
  subst h; exact intsIn_new w l t

/-- Memory while an image is being written. -/
structure Img (w : World) (C : Conf) (A : Mem) (wr : World) (bs : List Int) : Prop where
  wri : ∃ u, WAt wr (w.heap.size + 1) u bs
  below : Below w.heap.size w wr
  box : BoxC wr w.heap.size C A

theorem Img.lt {w wr : World} {C : Conf} {A : Mem} {bs : List Int} (h : Img w C A wr bs) : w.heap.size + 1 < wr.heap.size := by
  obtain ⟨u, hu⟩ := h.wri
  exact hu.row.lt

theorem img_new (w : World) (C : Conf) (A : Mem) : Img w C A ((w.alloc (.cells (cl C A) 46)).alloc (.cells #[.slice none 0 0] 162)) [] := by
  refine ⟨⟨.slice none 0 0, rowAt_new2 _ _ [.slice none 0 0] 162 (by simp), World.ownsRow_nil _ _ _ _⟩, (below_new _ _).alloc (by simp) _, ?_⟩
  have := (boxC_new w C A).keep (below_new (w.alloc (.cells (cl C A) 46)) (.cells #[.slice none 0 0] 162))
  exact this

theorem Img.after {w wr w1 w2 : World} {C : Conf} {A : Mem} {bs bs2 : List Int} {u u2 : Value} (h : Img w C A wr bs) (hu : WAt wr (w.heap.size + 1) u bs) (hb : Below wr.heap.size wr w1) (hw : Wrote w1 w2 (w.heap.size + 1) u u2) (hu2 : WAt w2 (w.heap.size + 1) u2 bs2) :
    Img w C A w2 bs2 ∧ ∀ k, wr.heap.size ≤ k → k < w1.heap.size → w2.heap[k]? = w1.heap[k]? := by
  have hq := hw.below (hu.below hb)
  have hl := h.lt
  refine ⟨⟨⟨_, hu2⟩, (btrans h.below hb).trans (hq.mono (by omega)), (h.box.keep hb).same (hq.block _ (by omega))⟩, fun k h1 h2 => hw.block k h2 (by omega) ?_⟩
  intro e
  have := (hu.lt k e.symm).2
  omega

theorem Img.ones {w wr w1 : World} {C : Conf} {A : Mem} {bs : List Int} (h : Img w C A wr bs) (hb : Below wr.heap.size wr w1) (L : List Int) (a : Option Addr) (cap : Nat) (hL : IntsIn w1 a L) (hge : ∀ b o, a = some ⟨b, o, none⟩ → L ≠ [] → wr.heap.size ≤ b ∨ b < w.heap.size) (hlen : bs.length + L.length ≤ 1000) (hin : ∀ x ∈ L, 0 ≤ x ∧ x ≤ 255) :
    Calls Try.prog 119 #[.pointer (some ⟨w.heap.size + 1, 0, none⟩), .slice a L.length cap] w1 fun e w' => e = .returned (.tuple #[]) ∧ Img w C A w' (bs ++ L) ∧ ∀ k, wr.heap.size ≤ k → k < w1.heap.size → w'.heap[k]? = w1.heap[k]? := by
  obtain ⟨u, hu⟩ := h.wri
  have hl := h.lt
  refine (ones_any _ u bs L a cap w1 (hu.below hb) hL ?_ hlen hin).mono ?_
  · intro b o e hL0
    have := hge b o e hL0
    refine ⟨by omega, fun q => ?_⟩
    have := hu.lt b q.symm
    omega
  · rintro e w2 ⟨rfl, u2, h1, h2⟩
    exact ⟨rfl, h.after hu hb h2 h1⟩

theorem Img.twos {w wr w1 : World} {C : Conf} {A : Mem} {bs : List Int} (h : Img w C A wr bs) (hb : Below wr.heap.size wr w1) (L : List Int) (a : Option Addr) (cap : Nat) (hL : IntsIn w1 a L) (hge : ∀ b o, a = some ⟨b, o, none⟩ → L ≠ [] → wr.heap.size ≤ b ∨ b < w.heap.size) (hlen : bs.length + 2 * L.length ≤ 1000) (hin : ∀ x ∈ L, 0 ≤ x ∧ x ≤ 65535) :
    Calls Try.prog 120 #[.pointer (some ⟨w.heap.size + 1, 0, none⟩), .slice a L.length cap] w1 fun e w' => e = .returned (.tuple #[]) ∧ Img w C A w' (bs ++ L.flatMap hl) ∧ ∀ k, wr.heap.size ≤ k → k < w1.heap.size → w'.heap[k]? = w1.heap[k]? := by
  obtain ⟨u, hu⟩ := h.wri
  have hl := h.lt
  refine (twos_any _ u bs L a cap w1 (hu.below hb) hL ?_ hlen hin).mono ?_
  · intro b o e hL0
    have := hge b o e hL0
    refine ⟨by omega, fun q => ?_⟩
    have := hu.lt b q.symm
    omega
  · rintro e w2 ⟨rfl, u2, h1, h2⟩
    exact ⟨rfl, h.after hu hb h2 h1⟩

set_option maxRecDepth 100000 in
set_option maxHeartbeats 2000000 in
theorem image_any (C : Conf) (A : Mem) (w : World) (hC : ConfIn w A C) (hF : Fits C) :
    Calls Try.prog 77 #[cv C A] w fun e w' => e = .returned (.string (bstr (en C))) ∧ Below w.heap.size w w' := by
  have HF := hid hF
  have HC := hid hC
  have l5 := hF.l5.2
  have l6 := hF.l6
  have l7 := hF.l7
  have l8 := hF.l8
  have HI := hid (img_new w C A)
  clear hF hC
  obtain ⟨a5, a6, a7, a8, c5, c6, c7, c8⟩ := A
  dsimp only [cv, cl] at *
  go_enter Try.func77, Try.ntmps77
  go_wp2_with fail
  refine (HI.out.ones (below_new _ _) [67, C.s, C.w, C.d, C.p, C.q] (some ⟨w.heap.size + 1 + 1, 0, none⟩) 6 ?_ ?_ ?_ ?_).mono ?_
  · exact intsIn_at _ [67, C.s, C.w, C.d, C.p, C.q] 3 _ (by simp)
  · intro b o e _; simp at e ⊢; omega
  · simp
  · obtain ⟨s, w, d, p, q, _⟩ := HF.out
    intro x hx; simp at hx; omega
  rintro e w1 ⟨rfl, hI1, _⟩
  clear HI
  have HI1 := hid hI1
  clear hI1
  obtain ⟨g0, g1, g2, g3, g4, g5, g6, g7, g8⟩ := HI1.out.box
  dsimp only at g5 g6 g7 g8
  go_wp2_with fail
  refine (HI1.out.ones (below_new _ _) [(C.sl.length : Int)] (some ⟨w1.heap.size, 0, none⟩) 1 ?_ ?_ ?_ ?_).mono ?_
  · exact intsIn_new _ [(C.sl.length : Int)] 3
  · intro b o e _; simp at e ⊢; omega
  · simp
  · intro x hx; simp at hx; omega
  rintro e w2 ⟨rfl, hI2, _⟩
  clear HI1 g0 g1 g2 g3 g4 g5 g6 g7 g8
  have HI2 := hid hI2
  clear hI2
  obtain ⟨g0, g1, g2, g3, g4, g5, g6, g7, g8⟩ := HI2.out.box
  dsimp only at g5 g6 g7 g8
  go_wp2
  go_loopw [30] (fun i wr => ∃ k : Nat, k ≤ C.sl.length ∧ i = .int .i64 k ∧ Img w C ⟨a5, a6, a7, a8, c5, c6, c7, c8⟩ wr ([67, C.s, C.w, C.d, C.p, C.q, (C.sl.length : Int)] ++ (C.sl.take k).flatMap enS)) (fun i _ => C.sl.length - (intOf i).toNat)
  case atStart => exact ⟨0, Nat.zero_le _, rfl, by simpa using HI2.out⟩
  case round =>
    clear g0 g1 g2 g3 g4 g5 g6 g7 g8 HI2
    obtain ⟨k, hk, rfl, hI⟩ := hrel
    have HI := hid hI
    clear hI
    by_cases hlt : k < C.sl.length
    · obtain ⟨b, o, rfl, hc1, hc2⟩ := (HC.out.keep HI.out.below).sl k hlt
      have HR := hid (HF.out.sl _ (List.getElem_mem hlt))
      have hbw : Below wr.heap.size wr ((wr.alloc (.cells #[.int .i64 C.sl[k].1, .int .i64 C.sl[k].2] 114)).alloc (.cells #[.int .i64 C.sl[k].1] 3)) := (below_new _ _).alloc (by simp) _
      have Hbw := hid hbw
      clear hbw
      go_wp2_with fail
      refine (HI.out.ones Hbw.out [C.sl[k].1] (some ⟨wr.heap.size + 1, 0, none⟩) 1 ?_ ?_ ?_ ?_).mono ?_
      · exact intsIn_at _ [C.sl[k].1] 3 _ (by simp)
      · intro b o e _; simp at e ⊢; omega
      · simp only [List.length_append, enS_len, List.length_take, List.length_cons, List.length_nil]; omega
      · have := HR.out
        intro x hx; simp at hx; omega
      rintro e w3 ⟨rfl, hI3, hk3⟩
      have hx1 : w3.cell? ⟨wr.heap.size, 1, none⟩ = some (.int .i64 C.sl[k].2) := by
        rw [World.cell?_of_block (w := (wr.alloc (.cells #[.int .i64 C.sl[k].1, .int .i64 C.sl[k].2] 114)).alloc (.cells #[.int .i64 C.sl[k].1] 3)) (a := ⟨wr.heap.size, 1, none⟩) (hk3 _ (by simp) (by simp; omega))]
        simp
      have HI3 := hid hI3
      clear hI3 hk3 Hbw HI
      go_wp2_with fail
      refine (HI3.out.twos (below_new _ _) [C.sl[k].2] (some ⟨w3.heap.size, 0, none⟩) 1 ?_ ?_ ?_ ?_).mono ?_
      · exact intsIn_new _ [C.sl[k].2] 3
      · intro b o e _; simp at e ⊢; omega
      · simp only [List.length_append, enS_len, List.length_take, List.length_cons, List.length_nil]; omega
      · have := HR.out
        intro x hx; simp at hx; omega
      rintro e w4 ⟨rfl, hI4, _⟩
      have HI4 : Hid (Img w C ⟨some ⟨b, o, none⟩, a6, a7, a8, c5, c6, c7, c8⟩ w4 ([67, C.s, C.w, C.d, C.p, C.q, (C.sl.length : Int)] ++ (C.sl.take (k + 1)).flatMap enS)) := by
        refine hid ?_
        rw [List.take_succ_eq_append_getElem hlt, List.flatMap_append]
        simpa [enS] using hI4
      clear hI4 HI3 hx1
      go_wp2
      go_roundw
      case rel => exact ⟨k + 1, by omega, by go_num, HI4.out⟩
      case measure => simp [intOf]; omega
    · obtain rfl : k = C.sl.length := by omega
      obtain ⟨g0, g1, g2, g3, g4, g5, g6, g7, g8⟩ := HI.out.box
      dsimp only at g5 g6 g7 g8
      go_wp2_with fail
      refine (HI.out.ones (below_new _ _) [(C.ow.length : Int)] (some ⟨wr.heap.size, 0, none⟩) 1 ?_ ?_ ?_ ?_).mono ?_
      · exact intsIn_new _ [(C.ow.length : Int)] 3
      · intro b o e _; simp at e ⊢; omega
      · simp only [List.length_append, enS_len, List.length_take, List.length_cons, List.length_nil]; omega
      · intro x hx; simp at hx; omega
      rintro e w3 ⟨rfl, hI3, _⟩
      clear g0 g1 g2 g3 g4 g5 g6 g7 g8
      have HI3 := hid hI3
      clear hI3 HI
      obtain ⟨g0, g1, g2, g3, g4, g5, g6, g7, g8⟩ := HI3.out.box
      dsimp only at g5 g6 g7 g8
      go_wp2_with fail
      refine (HI3.out.ones (Below.refl _ _) C.ow a6 c6 (HC.out.keep HI3.out.below).ow ?_ ?_ ?_).mono ?_
      · intro b o e h0
        obtain ⟨b', o', e', hc'⟩ := HC.out.ow 0 (List.length_pos_iff.2 h0)
        rw [e] at e'
        simp only [Option.some.injEq, Addr.mk.injEq, and_true] at e'
        exact .inr (by rw [e'.1]; exact World.block_lt_of_cell? _ _ hc')
      · simp only [List.length_append, enS_len, List.length_take, List.length_cons, List.length_nil]; omega
      · intro x hx
        have := HF.out.ow x hx
        omega
      rintro e w4 ⟨rfl, hI4, _⟩
      clear g0 g1 g2 g3 g4 g5 g6 g7 g8
      have HI4 := hid hI4
      clear hI4 HI3
      obtain ⟨g0, g1, g2, g3, g4, g5, g6, g7, g8⟩ := HI4.out.box
      dsimp only at g5 g6 g7 g8
      go_wp2_with fail
      refine (HI4.out.ones (below_new _ _) [(C.ch.length : Int)] (some ⟨w4.heap.size, 0, none⟩) 1 ?_ ?_ ?_ ?_).mono ?_
      · exact intsIn_new _ [(C.ch.length : Int)] 3
      · intro b o e _; simp at e ⊢; omega
      · simp only [List.length_append, enS_len, List.length_take, List.length_cons, List.length_nil]; omega
      · intro x hx; simp at hx; omega
      rintro e w5 ⟨rfl, hI5, _⟩
      clear g0 g1 g2 g3 g4 g5 g6 g7 g8
      have HI5 := hid hI5
      clear hI5 HI4
      obtain ⟨g0, g1, g2, g3, g4, g5, g6, g7, g8⟩ := HI5.out.box
      dsimp only at g5 g6 g7 g8
      go_wp2
      go_loopw [59] (fun i wr => ∃ k : Nat, k ≤ C.ch.length ∧ i = .int .i64 k ∧ Img w C ⟨a5, a6, a7, a8, c5, c6, c7, c8⟩ wr ([67, C.s, C.w, C.d, C.p, C.q, (C.sl.length : Int)] ++ C.sl.flatMap enS ++ [(C.ow.length : Int)] ++ C.ow ++ [(C.ch.length : Int)] ++ (C.ch.take k).flatMap enC)) (fun i _ => C.ch.length - (intOf i).toNat)
      case atStart => exact ⟨0, Nat.zero_le _, rfl, by simpa [List.append_assoc] using HI5.out⟩
      case round =>
        clear g0 g1 g2 g3 g4 g5 g6 g7 g8 HI5
        obtain ⟨k, hk, rfl, hI⟩ := hrel
        have HI := hid hI
        clear hI
        by_cases hlt : k < C.ch.length
        · obtain ⟨b, o, rfl, hc1, hc2, hc3⟩ := (HC.out.keep HI.out.below).ch k hlt
          have HR := hid (HF.out.ch _ (List.getElem_mem hlt))
          have Hbw : Hid (Below wr.heap.size wr ((wr.alloc (.cells #[.int .i64 C.ch[k].1, .int .i64 C.ch[k].2.1, .int .i64 C.ch[k].2.2] 125)).alloc (.cells #[.int .i64 C.ch[k].1, .int .i64 C.ch[k].2.1, .int .i64 C.ch[k].2.2] 3))) := (below_new _ _).alloc (by simp) _
          go_wp2_with fail
          refine (HI.out.ones Hbw.out [C.ch[k].1, C.ch[k].2.1, C.ch[k].2.2] (some ⟨wr.heap.size + 1, 0, none⟩) 3 ?_ ?_ ?_ ?_).mono ?_
          · exact intsIn_at _ [C.ch[k].1, C.ch[k].2.1, C.ch[k].2.2] 3 _ (by simp)
          · intro b o e _; simp at e ⊢; omega
          · simp only [List.length_append, enS_len, enC_len, List.length_take, List.length_cons, List.length_nil]; omega
          · have := HR.out
            intro x hx; simp at hx; omega
          rintro e w3 ⟨rfl, hI3, _⟩
          have HI4 : Hid (Img w C ⟨a5, a6, some ⟨b, o, none⟩, a8, c5, c6, c7, c8⟩ w3 ([67, C.s, C.w, C.d, C.p, C.q, (C.sl.length : Int)] ++ C.sl.flatMap enS ++ [(C.ow.length : Int)] ++ C.ow ++ [(C.ch.length : Int)] ++ (C.ch.take (k + 1)).flatMap enC)) := by
            refine hid ?_
            rw [List.take_succ_eq_append_getElem hlt, List.flatMap_append]
            simpa [enC, List.append_assoc] using hI3
          clear hI3 HI Hbw
          go_wp2
          go_roundw
          case rel => exact ⟨k + 1, by omega, by go_num, HI4.out⟩
          case measure => simp [intOf]; omega
        · obtain rfl : k = C.ch.length := by omega
          obtain ⟨g0, g1, g2, g3, g4, g5, g6, g7, g8⟩ := HI.out.box
          dsimp only at g5 g6 g7 g8
          go_wp2_with fail
          refine (HI.out.ones (below_new _ _) [(C.ta.length : Int)] (some ⟨wr.heap.size, 0, none⟩) 1 ?_ ?_ ?_ ?_).mono ?_
          · exact intsIn_new _ [(C.ta.length : Int)] 3
          · intro b o e _; simp at e ⊢; omega
          · simp only [List.length_append, enS_len, enC_len, List.length_take, List.length_cons, List.length_nil]; omega
          · intro x hx; simp at hx; omega
          rintro e w6 ⟨rfl, hI6, _⟩
          clear g0 g1 g2 g3 g4 g5 g6 g7 g8
          have HI6 := hid hI6
          clear hI6 HI
          obtain ⟨g0, g1, g2, g3, g4, g5, g6, g7, g8⟩ := HI6.out.box
          dsimp only at g5 g6 g7 g8
          go_wp2
          go_loopw [80] (fun i wr => ∃ k : Nat, k ≤ C.ta.length ∧ i = .int .i64 k ∧ Img w C ⟨a5, a6, a7, a8, c5, c6, c7, c8⟩ wr ([67, C.s, C.w, C.d, C.p, C.q, (C.sl.length : Int)] ++ C.sl.flatMap enS ++ [(C.ow.length : Int)] ++ C.ow ++ [(C.ch.length : Int)] ++ C.ch.flatMap enC ++ [(C.ta.length : Int)] ++ (C.ta.take k).flatMap enT)) (fun i _ => C.ta.length - (intOf i).toNat)
          case atStart => exact ⟨0, Nat.zero_le _, rfl, by simpa [List.append_assoc] using HI6.out⟩
          case round =>
            clear g0 g1 g2 g3 g4 g5 g6 g7 g8 HI6
            obtain ⟨k, hk, rfl, hI⟩ := hrel
            have HI := hid hI
            clear hI
            by_cases hlt : k < C.ta.length
            · obtain ⟨b, o, rfl, hc1, hc2, hc3, hc4⟩ := (HC.out.keep HI.out.below).ta k hlt
              have HR := hid (HF.out.ta _ (List.getElem_mem hlt))
              have Hbw : Hid (Below wr.heap.size wr ((wr.alloc (.cells #[.int .i64 C.ta[k].1, .int .i64 C.ta[k].2.1, .int .i64 C.ta[k].2.2.1, .int .i64 C.ta[k].2.2.2] 108)).alloc (.cells #[.int .i64 C.ta[k].1] 3))) := (below_new _ _).alloc (by simp) _
              go_wp2_with fail
              refine (HI.out.ones Hbw.out [C.ta[k].1] (some ⟨wr.heap.size + 1, 0, none⟩) 1 ?_ ?_ ?_ ?_).mono ?_
              · exact intsIn_at _ [C.ta[k].1] 3 _ (by simp)
              · intro b o e _; simp at e ⊢; omega
              · simp only [List.length_append, enS_len, enC_len, enT_len, List.length_take, List.length_cons, List.length_nil]; omega
              · have := HR.out
                intro x hx; simp at hx; omega
              rintro e w3 ⟨rfl, hI3, hk3⟩
              have HX : Hid (∀ i, w3.cell? ⟨wr.heap.size, i, none⟩ = ((wr.alloc (.cells #[.int .i64 C.ta[k].1, .int .i64 C.ta[k].2.1, .int .i64 C.ta[k].2.2.1, .int .i64 C.ta[k].2.2.2] 108)).alloc (.cells #[.int .i64 C.ta[k].1] 3)).cell? ⟨wr.heap.size, i, none⟩) := fun i =>
                World.cell?_of_block (a := ⟨wr.heap.size, i, none⟩) (hk3 _ (by simp) (by simp; omega))
              have hx1 : w3.cell? ⟨wr.heap.size, 1, none⟩ = some (.int .i64 C.ta[k].2.1) := by rw [HX.out]; simp
              have hx2 : w3.cell? ⟨wr.heap.size, 2, none⟩ = some (.int .i64 C.ta[k].2.2.1) := by rw [HX.out]; simp
              have hx3 : w3.cell? ⟨wr.heap.size, 3, none⟩ = some (.int .i64 C.ta[k].2.2.2) := by rw [HX.out]; simp
              have HI3 := hid hI3
              clear hI3 hk3 Hbw HI HX
              go_wp2_with fail
              refine (HI3.out.twos (below_new _ _) [C.ta[k].2.1, C.ta[k].2.2.1, C.ta[k].2.2.2] (some ⟨w3.heap.size, 0, none⟩) 3 ?_ ?_ ?_ ?_).mono ?_
              · exact intsIn_new _ [C.ta[k].2.1, C.ta[k].2.2.1, C.ta[k].2.2.2] 3
              · intro b o e _; simp at e ⊢; omega
              · simp only [List.length_append, enS_len, enC_len, enT_len, List.length_take, List.length_cons, List.length_nil]; omega
              · have := HR.out
                intro x hx; simp at hx; omega
              rintro e w4 ⟨rfl, hI4, _⟩
              have HI4 : Hid (Img w C ⟨a5, a6, a7, some ⟨b, o, none⟩, c5, c6, c7, c8⟩ w4 ([67, C.s, C.w, C.d, C.p, C.q, (C.sl.length : Int)] ++ C.sl.flatMap enS ++ [(C.ow.length : Int)] ++ C.ow ++ [(C.ch.length : Int)] ++ C.ch.flatMap enC ++ [(C.ta.length : Int)] ++ (C.ta.take (k + 1)).flatMap enT)) := by
                refine hid ?_
                rw [List.take_succ_eq_append_getElem hlt, List.flatMap_append]
                simpa [enT, List.append_assoc] using hI4
              clear hI4 HI3 hx1 hx2 hx3
              go_wp2
              go_roundw
              case rel => exact ⟨k + 1, by omega, by go_num, HI4.out⟩
              case measure => simp [intOf]; omega
            · obtain rfl : k = C.ta.length := by omega
              have HE : Hid ([67, C.s, C.w, C.d, C.p, C.q, (C.sl.length : Int)] ++ C.sl.flatMap enS ++ [(C.ow.length : Int)] ++ C.ow ++ [(C.ch.length : Int)] ++ C.ch.flatMap enC ++ [(C.ta.length : Int)] ++ (C.ta.take C.ta.length).flatMap enT = en C) := by refine hid ?_; rw [List.take_length]; simp only [en, List.append_assoc, List.cons_append, List.nil_append]
              obtain ⟨u, hu⟩ := HI.out.wri
              rw [HE.out] at hu
              have hub := hid HI.out.below
              obtain ⟨gg, gcap, rfl, hgb, hgl⟩ := hu.own.form (by rw [en_len]; omega)
              have hc := hu.row.cell 0 _ rfl
              have hcell : ∀ j (hj : j < (u8s (en C)).length), wr.cell? ((⟨gg, 0, none⟩ : Addr).add j) = some (.int .u8 ((u8s (en C))[j].toNat : Int)) := by
                intro j hj
                have hj' : j < (en C).length := by simpa [u8s] using hj
                have hb := en_bytes HF.out _ (List.getElem_mem hj')
                refine hu.own.cells (g := gg) rfl j _ ?_
                simp only [by8, List.getElem?_map, List.getElem?_eq_getElem hj', Option.map_some, u8s, List.getElem_map]
                congr 2
                simp
                omega
              have hlen : (en C).length = (u8s (en C)).length := by simp [u8s]
              have hcv := run_convert_bytes_back (P := Try.prog) wr 160 9 5 ⟨gg, 0, none⟩ gcap (u8s (en C)) Try.underlying160 Try.underlying5 Try.underlying9 hcell
              rw [← hlen] at hcv
              clear HE hcell hlen hu HI
              go_wp2
              go_ret
              exact ⟨rfl, hub.out⟩
end Go.Proofs.Ytaellaconpaejaa
