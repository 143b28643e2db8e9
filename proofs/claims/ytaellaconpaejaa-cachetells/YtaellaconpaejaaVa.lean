/- The walk of the law that caches answer just what the document says: a cache that is not right. -/
import Derived.Test.YtaellaconpaejaaRf
import Derived.Test.YtaellaconpaejaaRa
import Derived.Test.YtaellaconpaejaaRc
import Derived.Deep.DeepCutAuto
set_option linter.unusedVariables false
namespace Go.Proofs.Ytaellaconpaejaa
open Go.RowKit

/-- The document's empty cache, at numbers that are right. -/
theorem emptyCache_int (s n : Int) (w : World) (h : (inR s 1 4 && inR n 1 3) = true) :
    Calls Try.prog 18 #[.int .i64 s, .int .i64 n] w fun e w' => ∃ a cap, e = .returned (.agg #[.slice a s.toNat cap]) ∧ CacheFrom w.heap.size w' a (emptyC s.toNat n.toNat) ∧ Below w.heap.size w w' := by
  have h2 : (1 ≤ s ∧ s ≤ 4) ∧ (1 ≤ n ∧ n ≤ 3) := by simpa [inR] using h
  have e1 : s = (s.toNat : Int) := by omega
  have e2 : n = (n.toNat : Int) := by omega
  have := emptyCache_any s.toNat n.toNat w (by omega) (by omega) (by omega) (by omega)
  rw [← e1, ← e2] at this
  exact this

/-- What holds where the law begins to compare: seven boxes, three pairs, and the cache itself. -/
structure Ready (w W : World) (a : Option Addr) (C : List (List (Int × Bool))) (l : List (Nat × Value)) : Prop where
  bel : Below w.heap.size w W
  boxes : Boxes W l
  cin : CacheIn W a C

theorem Ready.keep {w W W' : World} {a : Option Addr} {C : List (List (Int × Bool))} {l : List (Nat × Value)} (h : Ready w W a C l) (hb : Below W.heap.size W W') : Ready w W' a C l :=
  ⟨btrans h.bel hb, h.boxes.keep hb, h.cin.keep hb⟩

/-- A box takes another value. -/
theorem Boxes.put {w : World} {l : List (Nat × Value)} (h : Boxes w l) (b : Nat) (v u : Value) (hm : (b, v) ∈ l) (l' : List (Nat × Value)) (hl : ∀ p ∈ l', (p ∈ l ∧ p.1 ≠ b) ∨ p = (b, u)) : Boxes (w.setCell ⟨b, 0, none⟩ u) l' := by
  intro p hp
  rcases hl p hp with ⟨h1, h2⟩ | rfl
  · exact (h p h1).setOther _ _ h2
  · exact (h _ hm).setCell 0 u

set_option maxRecDepth 100000 in
set_option maxHeartbeats 4000000 in
theorem tells_bad (s n : Int) (a : Option Addr) (C : List (List (Int × Bool))) (cap : Nat) (l : Int) (wr : Bool) (w : World) (hw : CacheIn w a C) (hl : C.length ≤ 9223372036854775807) (h : ck C ≠ 0) :
    Calls Try.prog 3 #[.int .i64 s, .int .i64 n, .agg #[.slice a C.length cap], .int .i64 l, .bool wr] w fun e w' => e = .returned (.bool true) ∧ Below w.heap.size w w' := by
  have hB0 : Boxes (w.alloc (.cells #[.slice a C.length cap] 24)) [(w.heap.size, .slice a C.length cap)] := Boxes.box (fun p hp => absurd hp (by simp)) _
  have hb0 : Below w.heap.size w (w.alloc (.cells #[.slice a C.length cap] 24)) := (Below.refl _ _).alloc (Nat.le_refl _) _
  have hw0 := hw.keep hb0
  have Hacc := hid (fun w hw => access_bad a C cap l wr w hw hl h)
  have Hflu := hid (fun w hw => flush_bad a C cap w hw hl h)
  have Hchk := hid (fun w hw => checkCache_any a C cap w hw hl)
  have Hchk2 := hid (fun w hw => check_any a C cap w hw hl)
  have HP : ∀ w, Hid (Pair w (.slice none 0 0) (.slice none 0 0) (ck C)) := fun w => .inl ⟨h, rfl, rfl⟩
  have hq : (ck C == 0) = false := by simp [h]
  have hq2 : (ck C == ck C) = true := by simp
  clear h
  generalize ck C = q at *
  go_enter Try.func3, Try.ntmps3
  go_wp2_with fail
  refine (new_any s n _).mono ?_
  rintro e w1 ⟨hb1, xv, q1, rfl, hx⟩
  have hx2 : (∃ ax nx cx, xv = .slice ax nx cx) := by
    rcases hx with ⟨_, _, g, rfl, _⟩ | ⟨_, _, rfl⟩
    · exact ⟨_, _, _, rfl⟩
    · exact ⟨_, _, _, rfl⟩
  obtain ⟨ax, nx, cx, rfl⟩ := hx2
  have Hx := hid hx
  clear hx
  have hB1 := (hB0.keep hb1).box (.slice ax nx cx)
  have hbx1 : Below w1.heap.size w1 (w1.alloc (.cells #[.slice ax nx cx] 24)) := bbox (Below.refl _ _) _
  have hw1 := hw0.keep (bbox hb1 (.cells #[.slice ax nx cx] 24))
  have hbb1 := btrans hb0 (bbox hb1 (.cells #[.slice ax nx cx] 24))
  have hc1 := hB1.cell (b := w.heap.size) (v := .slice a C.length cap) (by simp)
  go_wp2_with fail
  refine (Hacc.out _ hw1).mono ?_
  rintro e w2 ⟨rfl, hb2⟩
  have hB2 := (hB1.keep hb2).box (.slice none 0 0)
  have hw2 := hw1.keep (bbox hb2 (.cells #[.slice none 0 0] 24))
  have hbb2 := btrans hbb1 (bbox hb2 (.cells #[.slice none 0 0] 24))
  have hbx2 := btrans hbx1 (bbox hb2 (.cells #[.slice none 0 0] 24))
  have hc2 := hB2.cell (b := w.heap.size) (v := .slice a C.length cap) (by simp)
  clear hB1 hw1 hbb1 hc1 hB0 hw0
  go_wp2_with fail
  refine (Hflu.out _ hw2).mono ?_
  rintro e w3 ⟨rfl, hb3⟩
  have hB3 := (hB2.keep hb3).box (.slice none 0 0)
  have hw3 := hw2.keep (bbox hb3 (.cells #[.slice none 0 0] 24))
  have hbb3 := btrans hbb2 (bbox hb3 (.cells #[.slice none 0 0] 24))
  have hbx3 := btrans hbx2 (bbox hb3 (.cells #[.slice none 0 0] 24))
  have hc3 := hB3.cell (b := w.heap.size) (v := .slice a C.length cap) (by simp)
  clear hB2 hw2 hbb2 hc2
  go_wp2_with fail
  refine (Hchk.out _ hw3).mono ?_
  rintro e w4 ⟨rfl, hb4⟩
  have hB4 := ((((hB3.keep hb4).box (.slice none 0 0)).box (.slice none 0 0)).box (.slice none 0 0))
  have hbN : Below w3.heap.size w3 w3 := Below.refl _ _
  have hb5 : Below (w3.alloc (.cells #[.slice none 0 0] 24)).heap.size (w3.alloc (.cells #[.slice none 0 0] 24)) (((w4.alloc (.cells #[.slice none 0 0] 24)).alloc (.cells #[.slice none 0 0] 24)).alloc (.cells #[.slice none 0 0] 24)) := bbox (bbox (bbox hb4 _) _) _
  have hw4 := hw3.keep hb5
  have hbb4 := btrans hbb3 hb5
  have hbx4 := btrans hbx3 hb4
  have hk4 := hB3.keep hb4
  have hq0 : w.heap.size < w4.heap.size := hk4.lt (v := .slice a C.length cap) (by simp)
  have hq1 : w1.heap.size < w4.heap.size := hk4.lt (v := .slice ax nx cx) (by simp)
  have hq2 : w2.heap.size < w4.heap.size := hk4.lt (v := .slice none 0 0) (by simp)
  have hq3 : w3.heap.size < w4.heap.size := hk4.lt (v := .slice none 0 0) (by simp)
  clear hk4
  have Hbx4 := hid hbx4
  have HB4 := hid hB4
  have Hw4 := hid hw4
  have Hbb4 := hid hbb4
  clear hbx1 hbx2 hbx3 hbx4 hB4 hw4 hbb4 hB3 hw3 hbb3 hc3 hb5 hbN
  go_upto_region 8 with fail
  go_cut [63] (fun t wx => t = .bool (!(inR s 1 4 && inR n 1 3)) ∧ wx = ((w4.alloc (.cells #[.slice none 0 0] 24)).alloc (.cells #[.slice none 0 0] 24)).alloc (.cells #[.slice none 0 0] 24))
  case first =>
    go_wp2
    all_goals
      go_meet
      case rel => exact ⟨congrArg Value.bool (by rw [Bool.eq_iff_iff]; simp [inR]; try omega), rfl⟩
  case rest =>
    obtain ⟨rfl, rfl⟩ := hcut
    cases hok : (inR s 1 4 && inR n 1 3) with
    | true =>
      obtain ⟨rfl, g1, e1, hxin⟩ : q1 = 0 ∧ ∃ g, Value.slice ax nx cx = .slice (some ⟨g, 0, none⟩) s.toNat s.toNat ∧ CacheIn w1 (some ⟨g, 0, none⟩) (emptyC s.toNat n.toNat) := by
        rcases Hx.out with ⟨_, h1, h2⟩ | ⟨h1, _⟩
        · exact ⟨h1, h2⟩
        · rw [hok] at h1; cases h1
      simp only [Value.slice.injEq] at e1
      obtain ⟨rfl, rfl, rfl⟩ := e1
      have hcF := HB4.out.cell (b := w4.heap.size) (v := .slice none 0 0) (by simp)
      have HB4s := HB4
      go_wp2_with fail
      refine (emptyCache_int s n _ hok).mono ?_
      rintro e w5 ⟨a5, cap5, rfl, hF5, hb5⟩
      have hB5 := HB4.out.keep hb5
      have hcF5 := hB5.cell (b := w4.heap.size) (v := .slice none 0 0) (by simp)
      have hfF5 := hB5.frozen (b := w4.heap.size) (v := .slice none 0 0) (by simp)
      have hbel : Below w.heap.size w (w5.setCell ⟨w4.heap.size, 0, none⟩ (.slice a5 s.toNat cap5)) := (btrans Hbb4.out hb5).setCell (by show w.heap.size ≤ w4.heap.size; omega) _
      have R6 : Ready w (w5.setCell ⟨w4.heap.size, 0, none⟩ (.slice a5 s.toNat cap5)) a C [(w4.heap.size + 1 + 1, .slice none 0 0), (w4.heap.size + 1, .slice none 0 0), (w4.heap.size, .slice a5 s.toNat cap5), (w3.heap.size, .slice none 0 0), (w2.heap.size, .slice none 0 0), (w1.heap.size, .slice (some ⟨g1, 0, none⟩) s.toNat s.toNat), (w.heap.size, .slice a C.length cap)] := by
        refine ⟨hbel, hB5.put w4.heap.size (.slice none 0 0) _ (by simp) _ (fun p hp => ?_), hw.keep hbel⟩
        simp only [List.mem_cons, List.not_mem_nil, or_false] at hp
        rcases hp with rfl | rfl | rfl | rfl | rfl | rfl | rfl
        · exact .inl ⟨by simp, by show w4.heap.size + 1 + 1 ≠ w4.heap.size; omega⟩
        · exact .inl ⟨by simp, by show w4.heap.size + 1 ≠ w4.heap.size; omega⟩
        · exact .inr rfl
        · exact .inl ⟨by simp, by show w3.heap.size ≠ w4.heap.size; omega⟩
        · exact .inl ⟨by simp, by show w2.heap.size ≠ w4.heap.size; omega⟩
        · exact .inl ⟨by simp, by show w1.heap.size ≠ w4.heap.size; omega⟩
        · exact .inl ⟨by simp, by show w.heap.size ≠ w4.heap.size; omega⟩
      have PX : Pair (w5.setCell ⟨w4.heap.size, 0, none⟩ (.slice a5 s.toNat cap5)) (.slice (some ⟨g1, 0, none⟩) s.toNat s.toNat) (.slice a5 s.toNat cap5) 0 := by
        have z1 : Below w1.heap.size w1 (w5.setCell ⟨w4.heap.size, 0, none⟩ (.slice a5 s.toNat cap5)) := (btrans (bbox (bbox (bbox Hbx4.out _) _) _) hb5).setCell (by show w1.heap.size ≤ w4.heap.size; omega) _
        refine .inr ⟨rfl, some ⟨g1, 0, none⟩, a5, s.toNat, cap5, emptyC s.toNat n.toNat, by rw [emptyC_len], by rw [emptyC_len], hxin.keep z1, hF5 _ (fun k h1 h2 => Below.heap_setCell _ _ _ _ (by simp at h1; show k ≠ w4.heap.size; omega)), ?_⟩
        rw [emptyC_len]
        have h2 : (1 ≤ s ∧ s ≤ 4) ∧ (1 ≤ n ∧ n ≤ 3) := by simpa [inR] using hok
        omega
      clear hcF HB4s hF5 hB5
      go_wp2_with fail
      refine (begun_any _).mono ?_
      rintro e w7 ⟨rfl, hb7⟩
      have R7 := R6.keep hb7
      have PX7 := PX.keep hb7
      have d1 := R7.boxes.cell (b := w1.heap.size) (v := .slice (some ⟨g1, 0, none⟩) s.toNat s.toNat) (by simp)
      have d2 := R7.boxes.cell (b := w4.heap.size) (v := .slice a5 s.toNat cap5) (by simp)
      clear R6 PX hb7
      go_wp2_with fail
      refine (cacheIs_pair PX7).mono ?_
      rintro e w8 ⟨rfl, hb8⟩
      have R8 := R7.keep hb8
      have d3 := R8.boxes.cell (b := w.heap.size) (v := .slice a C.length cap) (by simp)
      clear R7 PX7 hb8 d1 d2
      go_wp2_with fail
      refine (Hchk2.out _ R8.cin).mono ?_
      rintro e w9 ⟨rfl, hb9⟩
      have R9 := R8.keep hb9
      have d4 := R9.boxes.cell (b := w2.heap.size) (v := .slice none 0 0) (by simp)
      have d5 := R9.boxes.cell (b := w4.heap.size + 1) (v := .slice none 0 0) (by simp)
      clear R8 hb9 d3
      go_wp2_with fail
      refine (cacheIs_pair (HP _).out).mono ?_
      rintro e w10 ⟨rfl, hb10⟩
      have R10 := R9.keep hb10
      have d6 := R10.boxes.cell (b := w3.heap.size) (v := .slice none 0 0) (by simp)
      have d7 := R10.boxes.cell (b := w4.heap.size + 1 + 1) (v := .slice none 0 0) (by simp)
      clear R9 hb10 d4 d5
      go_wp2_with fail
      refine (cacheIs_pair (HP _).out).mono ?_
      rintro e w11 ⟨rfl, hb11⟩
      have R11 := R10.keep hb11
      clear R10 hb11 d6 d7
      go_wp2
      go_ret
      exact ⟨rfl, R11.bel⟩
    | false =>
      obtain ⟨rfl, e1⟩ : q1 = 3 ∧ Value.slice ax nx cx = .slice none 0 0 := by
        rcases Hx.out with ⟨h1, _⟩ | ⟨_, h1, h2⟩
        · rw [hok] at h1; cases h1
        · exact ⟨h1, h2⟩
      simp only [Value.slice.injEq] at e1
      obtain ⟨rfl, rfl, rfl⟩ := e1
      have R6 : Ready w (((w4.alloc (.cells #[.slice none 0 0] 24)).alloc (.cells #[.slice none 0 0] 24)).alloc (.cells #[.slice none 0 0] 24)) a C [(w4.heap.size + 1 + 1, .slice none 0 0), (w4.heap.size + 1, .slice none 0 0), (w4.heap.size, .slice none 0 0), (w3.heap.size, .slice none 0 0), (w2.heap.size, .slice none 0 0), (w1.heap.size, .slice none 0 0), (w.heap.size, .slice a C.length cap)] := by
        refine ⟨Hbb4.out, fun p hp => ?_, Hw4.out⟩
        simp only [List.mem_cons, List.not_mem_nil, or_false] at hp
        rcases hp with rfl | rfl | rfl | rfl | rfl | rfl | rfl
        all_goals exact HB4.out _ (by simp)
      have PX : Pair (((w4.alloc (.cells #[.slice none 0 0] 24)).alloc (.cells #[.slice none 0 0] 24)).alloc (.cells #[.slice none 0 0] 24)) (.slice none 0 0) (.slice none 0 0) 3 := .inl ⟨by omega, rfl, rfl⟩
      go_wp2_with fail
      refine (begun_any _).mono ?_
      rintro e w7 ⟨rfl, hb7⟩
      have R7 := R6.keep hb7
      have PX7 := PX.keep hb7
      have d1 := R7.boxes.cell (b := w1.heap.size) (v := .slice none 0 0) (by simp)
      have d2 := R7.boxes.cell (b := w4.heap.size) (v := .slice none 0 0) (by simp)
      clear R6 PX hb7
      go_wp2_with fail
      refine (cacheIs_pair PX7).mono ?_
      rintro e w8 ⟨rfl, hb8⟩
      have R8 := R7.keep hb8
      have d3 := R8.boxes.cell (b := w.heap.size) (v := .slice a C.length cap) (by simp)
      clear R7 PX7 hb8 d1 d2
      go_wp2_with fail
      refine (Hchk2.out _ R8.cin).mono ?_
      rintro e w9 ⟨rfl, hb9⟩
      have R9 := R8.keep hb9
      have d4 := R9.boxes.cell (b := w2.heap.size) (v := .slice none 0 0) (by simp)
      have d5 := R9.boxes.cell (b := w4.heap.size + 1) (v := .slice none 0 0) (by simp)
      clear R8 hb9 d3
      go_wp2_with fail
      refine (cacheIs_pair (HP _).out).mono ?_
      rintro e w10 ⟨rfl, hb10⟩
      have R10 := R9.keep hb10
      have d6 := R10.boxes.cell (b := w3.heap.size) (v := .slice none 0 0) (by simp)
      have d7 := R10.boxes.cell (b := w4.heap.size + 1 + 1) (v := .slice none 0 0) (by simp)
      clear R9 hb10 d4 d5
      go_wp2_with fail
      refine (cacheIs_pair (HP _).out).mono ?_
      rintro e w11 ⟨rfl, hb11⟩
      have R11 := R10.keep hb11
      clear R10 hb11 d6 d7
      go_wp2
      go_ret
      exact ⟨rfl, R11.bel⟩

end Go.Proofs.Ytaellaconpaejaa
