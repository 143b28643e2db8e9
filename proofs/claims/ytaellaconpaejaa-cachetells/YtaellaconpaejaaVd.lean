/- The walk of the law that caches answer just what the document says: a line that is none. -/
import Derived.Test.YtaellaconpaejaaVb
import Derived.Test.YtaellaconpaejaaRc
import Derived.Test.YtaellaconpaejaaRb
set_option linter.unusedVariables false
namespace Go.Proofs.Ytaellaconpaejaa
open Go.RowKit

set_option maxRecDepth 100000 in
set_option maxHeartbeats 8000000 in
theorem tells_lo (s n : Int) (a : Option Addr) (C : List (List (Int × Bool))) (cap : Nat) (l : Int) (wr : Bool) (w : World) (hw : CacheIn w a C) (hl : C.length ≤ 9223372036854775807) (h : ck C = 0) (hr0 : inR l 1 1000 = false) (hlr : l < 1) :
    Calls Try.prog 3 #[.int .i64 s, .int .i64 n, .agg #[.slice a C.length cap], .int .i64 l, .bool wr] w fun e w' => e = .returned (.bool true) ∧ Below w.heap.size w w' := by
  have hB0 : Boxes (w.alloc (.cells #[.slice a C.length cap] 24)) [(w.heap.size, .slice a C.length cap)] := Boxes.box (fun p hp => absurd hp (by simp)) _
  have hb0 : Below w.heap.size w (w.alloc (.cells #[.slice a C.length cap] 24)) := (Below.refl _ _).alloc (Nat.le_refl _) _
  have hw0 := hw.keep hb0
  obtain ⟨hsh, hC1, hC4, hCn⟩ := ck_ok h
  have Hacc := hid (fun w hw => access_range a C cap l wr w hw hl h hr0)
  obtain ⟨n0, hn0⟩ : ∃ n0, (C.headD []).length = n0 := ⟨_, rfl⟩
  have Hflu := hid (fun w hw => flush_ok a C cap w hw hl h n0 hn0)
  have HfluR := hid (fun w hw => flushOf_any a C cap w hw hC4 hCn)
  have Hchk := hid (fun w hw => checkCache_any a C cap w hw hl)
  have Hchk2 := hid (fun w hw => check_any a C cap w hw hl)
  rw [h] at Hchk Hchk2
  have hn0b : 1 ≤ n0 ∧ n0 ≤ 3 := by
    have h0 := hCn C[0] (List.getElem_mem (by omega))
    have e0 : (C.headD []).length = C[0].length := by
      cases C with
      | nil => simp at hC1
      | cons x r => rfl
    omega
  obtain ⟨hn0a, hn0b⟩ := hn0b
  clear h hsh hCn hr0
  go_enter Try.func3, Try.ntmps3
  go_wp2_with fail
  refine (new_any s n _).mono ?_
  rintro e w1 ⟨hb1, xv, q1, rfl, hx⟩
  have hx2 : (∃ ax nx cx, xv = .slice ax nx cx) := by
    rcases hx with ⟨_, _, g, rfl, _⟩ | ⟨_, _, rfl⟩
    · exact ⟨_, _, _, rfl⟩
    · exact ⟨_, _, _, rfl⟩
  obtain ⟨ax, nx, cx, rfl⟩ := hx2
  have Hx := hid hx
  clear hx
  have hB1 := (hB0.keep hb1).box (.slice ax nx cx)
  have hbx1 : Below w1.heap.size w1 (w1.alloc (.cells #[.slice ax nx cx] 24)) := bbox (Below.refl _ _) _
  have hw1 := hw0.keep (bbox hb1 (.cells #[.slice ax nx cx] 24))
  have hbb1 := btrans hb0 (bbox hb1 (.cells #[.slice ax nx cx] 24))
  have hc1 := hB1.cell (b := w.heap.size) (v := .slice a C.length cap) (by simp)
  go_wp2_with fail
  refine (Hacc.out _ hw1).mono ?_
  rintro e w2 ⟨rfl, hb2⟩
  have hbY2 : Below w2.heap.size w2 (w2.alloc (.cells #[.slice none 0 0] 24)) := bbox (Below.refl _ _) _
  have hB2 := (hB1.keep hb2).box (.slice none 0 0)
  have hw2 := hw1.keep (bbox hb2 (.cells #[.slice none 0 0] 24))
  have hbb2 := btrans hbb1 (bbox hb2 (.cells #[.slice none 0 0] 24))
  have hbx2 := btrans hbx1 (bbox hb2 (.cells #[.slice none 0 0] 24))
  have hc2 := hB2.cell (b := w.heap.size) (v := .slice a C.length cap) (by simp)
  clear hB1 hw1 hbb1 hc1 hB0 hw0
  go_wp2_with fail
  refine (Hflu.out _ hw2).mono ?_
  rintro e w3 ⟨g3, rfl, hO3, _, hb3⟩
  have hz3 : CacheIn w3 (some ⟨g3, 0, none⟩) (emptyC C.length n0) := cacheIn_of_own hO3 (by rw [emptyC_len]; exact Nat.le_refl _) (fun ls hls => by simp [emptyC] at hls; rw [hls.2]; simp; omega)
  have hB3 := (hB2.keep hb3).box (.slice (some ⟨g3, 0, none⟩) C.length C.length)
  have hw3 := hw2.keep (bbox hb3 (.cells #[.slice (some ⟨g3, 0, none⟩) C.length C.length] 24))
  have hbb3 := btrans hbb2 (bbox hb3 (.cells #[.slice (some ⟨g3, 0, none⟩) C.length C.length] 24))
  have hbx3 := btrans hbx2 (bbox hb3 (.cells #[.slice (some ⟨g3, 0, none⟩) C.length C.length] 24))
  have hbY3 := btrans hbY2 (bbox hb3 (.cells #[.slice (some ⟨g3, 0, none⟩) C.length C.length] 24))
  have hbZ3 : Below w3.heap.size w3 (w3.alloc (.cells #[.slice (some ⟨g3, 0, none⟩) C.length C.length] 24)) := bbox (Below.refl _ _) _
  have hc3 := hB3.cell (b := w.heap.size) (v := .slice a C.length cap) (by simp)
  clear hB2 hw2 hbb2 hc2 hO3
  go_wp2_with fail
  refine (Hchk.out _ hw3).mono ?_
  rintro e w4 ⟨rfl, hb4⟩
  have hB4 := ((((hB3.keep hb4).box (.slice none 0 0)).box (.slice none 0 0)).box (.slice none 0 0))
  have hbb4 := btrans hbb3 hb4
  have hbx4 := btrans hbx3 hb4
  have hbY4 := btrans hbY3 hb4
  have hbZ4 := btrans hbZ3 hb4
  have hk4 := hB3.keep hb4
  have hq0 : w.heap.size < w4.heap.size := hk4.lt (v := .slice a C.length cap) (by simp)
  have hq1 : w1.heap.size < w4.heap.size := hk4.lt (v := .slice ax nx cx) (by simp)
  have hq2 : w2.heap.size < w4.heap.size := hk4.lt (v := .slice none 0 0) (by simp)
  have hq3 : w3.heap.size < w4.heap.size := hk4.lt (v := .slice (some ⟨g3, 0, none⟩) C.length C.length) (by simp)
  have HB4 := hid hB4
  have Hbb4 := hid hbb4
  have Hx4 : Hid (((inR s 1 4 && inR n 1 3) = true ∧ q1 = 0 ∧ ∃ g, Value.slice ax nx cx = .slice (some ⟨g, 0, none⟩) s.toNat s.toNat ∧ CacheIn w4 (some ⟨g, 0, none⟩) (emptyC s.toNat n.toNat)) ∨ ((inR s 1 4 && inR n 1 3) = false ∧ q1 = 3 ∧ Value.slice ax nx cx = .slice none 0 0)) := by
    rcases Hx.out with ⟨z1, z2, g, z3, z4⟩ | z
    · exact .inl ⟨z1, z2, g, z3, z4.keep hbx4⟩
    · exact .inr z
  have Hz4 := hid (hz3.keep hbZ4)
  clear hk4 hbx1 hbx2 hbx3 hbx4 hbY2 hbY3 hbY4 hbZ3 hbZ4 hB4 hbb4 hB3 hw3 hbb3 hc3 hz3 Hx hb0 hb1 hb2 hb3 hb4
  go_upto_region 8 with fail
  go_cut [63] (fun t wx => t = .bool (!(inR s 1 4 && inR n 1 3)) ∧ wx = ((w4.alloc (.cells #[.slice none 0 0] 24)).alloc (.cells #[.slice none 0 0] 24)).alloc (.cells #[.slice none 0 0] 24))
  case first =>
    go_wp2
    all_goals
      go_meet
      case rel => exact ⟨congrArg Value.bool (by rw [Bool.eq_iff_iff]; simp [inR]; try omega), rfl⟩
  case rest =>
    obtain ⟨rfl, rfl⟩ := hcut
    go_upto_if 63 with fail
    have HS4 : Hid (St w4 (((w4.alloc (.cells #[.slice none 0 0] 24)).alloc (.cells #[.slice none 0 0] 24)).alloc (.cells #[.slice none 0 0] 24)) [(w4.heap.size + 1 + 1, .slice none 0 0), (w4.heap.size + 1, .slice none 0 0), (w4.heap.size, .slice none 0 0), (w3.heap.size, .slice (some ⟨g3, 0, none⟩) C.length C.length), (w2.heap.size, .slice none 0 0), (w1.heap.size, .slice ax nx cx), (w.heap.size, .slice a C.length cap)] []) := by
      refine ⟨bbox (bbox (bbox (Below.refl _ _) _) _) _, by simp, fun p hp => ?_, fun p hp => absurd hp (by simp)⟩
      simp only [List.mem_cons, List.not_mem_nil, or_false] at hp
      rcases hp with rfl | rfl | rfl | rfl | rfl | rfl | rfl
      all_goals exact HB4.out _ (by simp)
    go_cut [19] (fun u wx => ∃ fv : Value, u = .int .i64 q1 ∧ St w4 wx [(w4.heap.size + 1 + 1, .slice none 0 0), (w4.heap.size + 1, .slice none 0 0), (w4.heap.size, fv), (w3.heap.size, .slice (some ⟨g3, 0, none⟩) C.length C.length), (w2.heap.size, .slice none 0 0), (w1.heap.size, .slice ax nx cx), (w.heap.size, .slice a C.length cap)] [(.slice ax nx cx, fv, q1)])
    case first =>
      cases hok : (inR s 1 4 && inR n 1 3) with
      | true =>
        obtain ⟨rfl, g1, e1, hxin⟩ : q1 = 0 ∧ ∃ g, Value.slice ax nx cx = .slice (some ⟨g, 0, none⟩) s.toNat s.toNat ∧ CacheIn w4 (some ⟨g, 0, none⟩) (emptyC s.toNat n.toNat) := by
          rcases Hx4.out with ⟨_, h1, h2⟩ | ⟨h1, _⟩
          · exact ⟨h1, h2⟩
          · rw [hok] at h1; cases h1
        simp only [Value.slice.injEq] at e1
        obtain ⟨rfl, rfl, rfl⟩ := e1
        go_wp2_with fail
        refine (emptyCache_int s n _ hok).mono ?_
        rintro e w5 ⟨a5, cap5, rfl, hF5, hb5⟩
        have hS5 := HS4.out.keep hb5
        have hcF5 := hS5.boxes.cell (b := w4.heap.size) (v := .slice none 0 0) (by simp)
        have hfF5 := hS5.boxes.frozen (b := w4.heap.size) (v := .slice none 0 0) (by simp)
        have hS6 : St w4 (w5.setCell ⟨w4.heap.size, 0, none⟩ (.slice a5 s.toNat cap5)) [(w4.heap.size + 1 + 1, .slice none 0 0), (w4.heap.size + 1, .slice none 0 0), (w4.heap.size, .slice a5 s.toNat cap5), (w3.heap.size, .slice (some ⟨g3, 0, none⟩) C.length C.length), (w2.heap.size, .slice none 0 0), (w1.heap.size, .slice (some ⟨g1, 0, none⟩) s.toNat s.toNat), (w.heap.size, .slice a C.length cap)] [(.slice (some ⟨g1, 0, none⟩) s.toNat s.toNat, .slice a5 s.toNat cap5, 0)] := by
          have z := hS5.put w4.heap.size (.slice none 0 0) (.slice a5 s.toNat cap5) (by simp) (Nat.le_refl _) (by omega) [(w4.heap.size + 1 + 1, .slice none 0 0), (w4.heap.size + 1, .slice none 0 0), (w4.heap.size, .slice a5 s.toNat cap5), (w3.heap.size, .slice (some ⟨g3, 0, none⟩) C.length C.length), (w2.heap.size, .slice none 0 0), (w1.heap.size, .slice (some ⟨g1, 0, none⟩) s.toNat s.toNat), (w.heap.size, .slice a C.length cap)] (fun p hp => by
            simp only [List.mem_cons, List.not_mem_nil, or_false] at hp
            rcases hp with rfl | rfl | rfl | rfl | rfl | rfl | rfl
            · exact .inl ⟨by simp, by show w4.heap.size + 1 + 1 ≠ w4.heap.size; omega⟩
            · exact .inl ⟨by simp, by show w4.heap.size + 1 ≠ w4.heap.size; omega⟩
            · exact .inr rfl
            · exact .inl ⟨by simp, by show w3.heap.size ≠ w4.heap.size; omega⟩
            · exact .inl ⟨by simp, by show w2.heap.size ≠ w4.heap.size; omega⟩
            · exact .inl ⟨by simp, by show w1.heap.size ≠ w4.heap.size; omega⟩
            · exact .inl ⟨by simp, by show w.heap.size ≠ w4.heap.size; omega⟩
            )
          refine z.add (W0 := ((w4.alloc (.cells #[.slice none 0 0] 24)).alloc (.cells #[.slice none 0 0] 24)).alloc (.cells #[.slice none 0 0] 24)) (W1 := w5) hxin hF5 (emptyC_len _ _) ?_ (by simp) (agree_put _ _ _ _ (by omega)) (by simp [World.setCell])
          have h2 : (1 ≤ s ∧ s ≤ 4) ∧ (1 ≤ n ∧ n ≤ 3) := by simpa [inR] using hok
          omega
        have HS6 := hid hS6
        clear hS6 hS5 hF5
        go_wp2
        go_meet
        case rel => exact ⟨_, rfl, HS6.out⟩
      | false =>
        obtain ⟨rfl, e1⟩ : q1 = 3 ∧ Value.slice ax nx cx = .slice none 0 0 := by
          rcases Hx4.out with ⟨h1, _⟩ | ⟨_, h1, h2⟩
          · rw [hok] at h1; cases h1
          · exact ⟨h1, h2⟩
        simp only [Value.slice.injEq] at e1
        obtain ⟨rfl, rfl, rfl⟩ := e1
        go_wp2
        go_meet
        case rel => exact ⟨_, rfl, HS4.out.addErr (by omega)⟩
    case rest =>
      obtain ⟨fv, rfl, hS⟩ := hcut
      clear HS4 HB4 Hx4
      have HS := hid hS
      have hcc := hS.boxes.cell (b := w.heap.size) (v := .slice a C.length cap) (by simp)
      have hcin := hw.keep (btrans Hbb4.out hS.bel)
      clear hS
      have HS14 := hid (HS.out.addErr (e := 3) (by omega))
      have hcc14 := hcc
      have hcin14 := hcin
      have Hcin14 := hid hcin14
      clear HS hcc hcin
      obtain ⟨b0, o0, a0, cap0, rfl, hd0, _, _, _⟩ := hcin14 0 (by omega)
      have hn0e : C[0].length = n0 := by
        rw [← hn0]
        cases C with
        | nil => simp at hC1
        | cons x r => rfl
      simp only [Nat.add_zero] at hd0
      rw [hn0e] at hd0
      go_wp2_with fail
      generalize wc = W14 at *
      have hC1' : (1 : Int) ≤ C.length := by omega
      have hC4' : (C.length : Int) ≤ 4 := by omega
      have hzz1 : ¬ C.length = 0 := by omega
      have hzz2 : ¬ C = [] := by intro e; rw [e] at hzz1; exact hzz1 rfl
      have hzz3 : 0 < C.length := by omega
      have hzz4 : (0 : Int) < C.length := by omega
      have hbN : b0 < w.heap.size := by
        obtain ⟨b1, o1, _, _, e1, c1, _⟩ := hw 0 (by omega)
        simp only [Option.some.injEq, Addr.mk.injEq, and_true] at e1
        have := World.block_lt_of_cell? _ _ c1
        simp only at this
        omega
      clear hn0e
      have hneA : ¬ w4.heap.size + 1 + 1 = b0 := by omega
      have hneB : ¬ w4.heap.size + 1 + 1 = w.heap.size := by omega
      go_region_held3 (fun w' => w'.cell? ⟨w.heap.size, 0, none⟩ = some (.slice (some ⟨b0, o0, none⟩) C.length cap) ∧ w'.cell? ⟨b0, o0, none⟩ = some (.slice a0 n0 cap0)) (go_keep)
        (first
          | (go_at_call 18; refine (emptyCache_any C.length n0 _ hC4' hC1' hn0a hn0b).mono ?_; rintro e w15 ⟨a15, c15, rfl, hF15, hb15⟩; have k1 := bkeep hb15 (show (World.drew _).cell? _ = _ from hcc14) (Nat.le_refl _); have k2 := bkeep hb15 (show (World.drew _).cell? _ = _ from hd0) (Nat.le_refl _))
          | (go_at_call 20; refine (HfluR.out _ (CacheIn.keep (show CacheIn (World.drew _) _ _ from Hcin14.out) hb15)).mono ?_; rintro e w16 ⟨rfl, hb16⟩; have k3 := bkeep hb16 k1 (Nat.le_refl _); have k4 := bkeep hb16 k2 (Nat.le_refl _); have hS16 := (HS14.out.keep ((Below.refl _ _).drew)).keep (btrans hb15 hb16); have hcE := hS16.boxes.cell (b := w4.heap.size + 1 + 1) (v := .slice none 0 0) (by simp); have hfE := hS16.boxes.frozen (b := w4.heap.size + 1 + 1) (v := .slice none 0 0) (by simp); have hneE1 := hneA; have hneE2 := hneB))
      have hS18 : St w4 (w16.setCell ⟨w4.heap.size + 1 + 1, 0, none⟩ (.slice a15 C.length c15)) [(w4.heap.size + 1 + 1, .slice a15 C.length c15), (w4.heap.size + 1, .slice none 0 0), (w4.heap.size, fv), (w3.heap.size, .slice (some ⟨g3, 0, none⟩) C.length C.length), (w2.heap.size, .slice none 0 0), (w1.heap.size, .slice ax nx cx), (w.heap.size, .slice (some ⟨b0, o0, none⟩) C.length cap)] [(.slice (some ⟨g3, 0, none⟩) C.length C.length, .slice a15 C.length c15, 0), (.slice none 0 0, .slice none 0 0, 3), (.slice ax nx cx, fv, q1)] := by
        have z := hS16.put (w4.heap.size + 1 + 1) (.slice none 0 0) (.slice a15 C.length c15) (by simp) (by omega) (by omega) [(w4.heap.size + 1 + 1, .slice a15 C.length c15), (w4.heap.size + 1, .slice none 0 0), (w4.heap.size, fv), (w3.heap.size, .slice (some ⟨g3, 0, none⟩) C.length C.length), (w2.heap.size, .slice none 0 0), (w1.heap.size, .slice ax nx cx), (w.heap.size, .slice (some ⟨b0, o0, none⟩) C.length cap)] (fun p hp => by
          simp only [List.mem_cons, List.not_mem_nil, or_false] at hp
          rcases hp with rfl | rfl | rfl | rfl | rfl | rfl | rfl
          · exact .inr rfl
          · exact .inl ⟨by simp, by show w4.heap.size + 1 ≠ w4.heap.size + 1 + 1; omega⟩
          · exact .inl ⟨by simp, by show w4.heap.size ≠ w4.heap.size + 1 + 1; omega⟩
          · exact .inl ⟨by simp, by show w3.heap.size ≠ w4.heap.size + 1 + 1; omega⟩
          · exact .inl ⟨by simp, by show w2.heap.size ≠ w4.heap.size + 1 + 1; omega⟩
          · exact .inl ⟨by simp, by show w1.heap.size ≠ w4.heap.size + 1 + 1; omega⟩
          · exact .inl ⟨by simp, by show w.heap.size ≠ w4.heap.size + 1 + 1; omega⟩
          )
        refine z.add (W0 := W14) (W1 := w15) Hz4.out hF15 (emptyC_len _ _) (by omega) HS14.out.size (fun k q1 q2 => ?_) (by have := hb16.size; simpa [World.setCell] using this)
        exact (Below.heap_setCell _ _ _ _ (by show k ≠ w4.heap.size + 1 + 1; omega)).trans (hb16.block k q2)
      have HS18 := hid hS18
      clear hS18 hS16 hcE hfE k1 k2 k3 k4 hF15 hb15 hb16 HS14 Hcin14 hcin14 hcc14 hd0 hneE1 hneE2 hneA hneB
      go_wp2_with fail
      refine (begun_any _).mono ?_
      rintro e w17 ⟨rfl, hb17⟩
      have S17 := HS18.out.keep hb17
      have d1 := S17.boxes.cell (b := w1.heap.size) (v := .slice ax nx cx) (by simp)
      have d2 := S17.boxes.cell (b := w4.heap.size) (v := fv) (by simp)
      have P17 := S17.pair (xv := .slice ax nx cx) (fv := fv) (e := q1) (by simp)
      clear HS18 hb17
      go_wp2_with fail
      refine (cacheIs_pair P17).mono ?_
      rintro e w18 ⟨rfl, hb18⟩
      have S18 := S17.keep hb18
      have d3 := S18.boxes.cell (b := w.heap.size) (v := .slice (some ⟨b0, o0, none⟩) C.length cap) (by simp)
      have c18 := hw.keep (btrans Hbb4.out S18.bel)
      clear S17 P17 hb18 d1 d2
      go_wp2_with fail
      refine (Hchk2.out _ c18).mono ?_
      rintro e w19 ⟨rfl, hb19⟩
      have S19 := S18.keep hb19
      have d4 := S19.boxes.cell (b := w2.heap.size) (v := .slice none 0 0) (by simp)
      have d5 := S19.boxes.cell (b := w4.heap.size + 1) (v := .slice none 0 0) (by simp)
      have P19 := S19.pair (xv := .slice none 0 0) (fv := .slice none 0 0) (e := 3) (by simp)
      clear S18 hb19 d3 c18
      go_wp2_with fail
      refine (cacheIs_pair P19).mono ?_
      rintro e w20 ⟨rfl, hb20⟩
      have S20 := S19.keep hb20
      have d6 := S20.boxes.cell (b := w3.heap.size) (v := .slice (some ⟨g3, 0, none⟩) C.length C.length) (by simp)
      have d7 := S20.boxes.cell (b := w4.heap.size + 1 + 1) (v := .slice a15 C.length c15) (by simp)
      have P20 := S20.pair (xv := .slice (some ⟨g3, 0, none⟩) C.length C.length) (fv := .slice a15 C.length c15) (e := 0) (by simp)
      clear S19 P19 hb20 d4 d5
      go_wp2_with fail
      refine (cacheIs_pair P20).mono ?_
      rintro e w21 ⟨rfl, hb21⟩
      have S21 := S20.keep hb21
      clear S20 P20 hb21 d6 d7
      go_wp2
      go_ret
      exact ⟨rfl, btrans Hbb4.out S21.bel⟩

set_option maxRecDepth 100000 in
set_option maxHeartbeats 8000000 in
theorem tells_hi (s n : Int) (a : Option Addr) (C : List (List (Int × Bool))) (cap : Nat) (l : Int) (wr : Bool) (w : World) (hw : CacheIn w a C) (hl : C.length ≤ 9223372036854775807) (h : ck C = 0) (hr0 : inR l 1 1000 = false) (hlr : 1000 < l) :
    Calls Try.prog 3 #[.int .i64 s, .int .i64 n, .agg #[.slice a C.length cap], .int .i64 l, .bool wr] w fun e w' => e = .returned (.bool true) ∧ Below w.heap.size w w' := by
  have hB0 : Boxes (w.alloc (.cells #[.slice a C.length cap] 24)) [(w.heap.size, .slice a C.length cap)] := Boxes.box (fun p hp => absurd hp (by simp)) _
  have hb0 : Below w.heap.size w (w.alloc (.cells #[.slice a C.length cap] 24)) := (Below.refl _ _).alloc (Nat.le_refl _) _
  have hw0 := hw.keep hb0
  obtain ⟨hsh, hC1, hC4, hCn⟩ := ck_ok h
  have hl1 : 1 ≤ l := by omega
  have Hacc := hid (fun w hw => access_range a C cap l wr w hw hl h hr0)
  obtain ⟨n0, hn0⟩ : ∃ n0, (C.headD []).length = n0 := ⟨_, rfl⟩
  have Hflu := hid (fun w hw => flush_ok a C cap w hw hl h n0 hn0)
  have HfluR := hid (fun w hw => flushOf_any a C cap w hw hC4 hCn)
  have Hchk := hid (fun w hw => checkCache_any a C cap w hw hl)
  have Hchk2 := hid (fun w hw => check_any a C cap w hw hl)
  rw [h] at Hchk Hchk2
  have hn0b : 1 ≤ n0 ∧ n0 ≤ 3 := by
    have h0 := hCn C[0] (List.getElem_mem (by omega))
    have e0 : (C.headD []).length = C[0].length := by
      cases C with
      | nil => simp at hC1
      | cons x r => rfl
    omega
  obtain ⟨hn0a, hn0b⟩ := hn0b
  clear h hsh hCn hr0
  go_enter Try.func3, Try.ntmps3
  go_wp2_with fail
  refine (new_any s n _).mono ?_
  rintro e w1 ⟨hb1, xv, q1, rfl, hx⟩
  have hx2 : (∃ ax nx cx, xv = .slice ax nx cx) := by
    rcases hx with ⟨_, _, g, rfl, _⟩ | ⟨_, _, rfl⟩
    · exact ⟨_, _, _, rfl⟩
    · exact ⟨_, _, _, rfl⟩
  obtain ⟨ax, nx, cx, rfl⟩ := hx2
  have Hx := hid hx
  clear hx
  have hB1 := (hB0.keep hb1).box (.slice ax nx cx)
  have hbx1 : Below w1.heap.size w1 (w1.alloc (.cells #[.slice ax nx cx] 24)) := bbox (Below.refl _ _) _
  have hw1 := hw0.keep (bbox hb1 (.cells #[.slice ax nx cx] 24))
  have hbb1 := btrans hb0 (bbox hb1 (.cells #[.slice ax nx cx] 24))
  have hc1 := hB1.cell (b := w.heap.size) (v := .slice a C.length cap) (by simp)
  go_wp2_with fail
  refine (Hacc.out _ hw1).mono ?_
  rintro e w2 ⟨rfl, hb2⟩
  have hbY2 : Below w2.heap.size w2 (w2.alloc (.cells #[.slice none 0 0] 24)) := bbox (Below.refl _ _) _
  have hB2 := (hB1.keep hb2).box (.slice none 0 0)
  have hw2 := hw1.keep (bbox hb2 (.cells #[.slice none 0 0] 24))
  have hbb2 := btrans hbb1 (bbox hb2 (.cells #[.slice none 0 0] 24))
  have hbx2 := btrans hbx1 (bbox hb2 (.cells #[.slice none 0 0] 24))
  have hc2 := hB2.cell (b := w.heap.size) (v := .slice a C.length cap) (by simp)
  clear hB1 hw1 hbb1 hc1 hB0 hw0
  go_wp2_with fail
  refine (Hflu.out _ hw2).mono ?_
  rintro e w3 ⟨g3, rfl, hO3, _, hb3⟩
  have hz3 : CacheIn w3 (some ⟨g3, 0, none⟩) (emptyC C.length n0) := cacheIn_of_own hO3 (by rw [emptyC_len]; exact Nat.le_refl _) (fun ls hls => by simp [emptyC] at hls; rw [hls.2]; simp; omega)
  have hB3 := (hB2.keep hb3).box (.slice (some ⟨g3, 0, none⟩) C.length C.length)
  have hw3 := hw2.keep (bbox hb3 (.cells #[.slice (some ⟨g3, 0, none⟩) C.length C.length] 24))
  have hbb3 := btrans hbb2 (bbox hb3 (.cells #[.slice (some ⟨g3, 0, none⟩) C.length C.length] 24))
  have hbx3 := btrans hbx2 (bbox hb3 (.cells #[.slice (some ⟨g3, 0, none⟩) C.length C.length] 24))
  have hbY3 := btrans hbY2 (bbox hb3 (.cells #[.slice (some ⟨g3, 0, none⟩) C.length C.length] 24))
  have hbZ3 : Below w3.heap.size w3 (w3.alloc (.cells #[.slice (some ⟨g3, 0, none⟩) C.length C.length] 24)) := bbox (Below.refl _ _) _
  have hc3 := hB3.cell (b := w.heap.size) (v := .slice a C.length cap) (by simp)
  clear hB2 hw2 hbb2 hc2 hO3
  go_wp2_with fail
  refine (Hchk.out _ hw3).mono ?_
  rintro e w4 ⟨rfl, hb4⟩
  have hB4 := ((((hB3.keep hb4).box (.slice none 0 0)).box (.slice none 0 0)).box (.slice none 0 0))
  have hbb4 := btrans hbb3 hb4
  have hbx4 := btrans hbx3 hb4
  have hbY4 := btrans hbY3 hb4
  have hbZ4 := btrans hbZ3 hb4
  have hk4 := hB3.keep hb4
  have hq0 : w.heap.size < w4.heap.size := hk4.lt (v := .slice a C.length cap) (by simp)
  have hq1 : w1.heap.size < w4.heap.size := hk4.lt (v := .slice ax nx cx) (by simp)
  have hq2 : w2.heap.size < w4.heap.size := hk4.lt (v := .slice none 0 0) (by simp)
  have hq3 : w3.heap.size < w4.heap.size := hk4.lt (v := .slice (some ⟨g3, 0, none⟩) C.length C.length) (by simp)
  have HB4 := hid hB4
  have Hbb4 := hid hbb4
  have Hx4 : Hid (((inR s 1 4 && inR n 1 3) = true ∧ q1 = 0 ∧ ∃ g, Value.slice ax nx cx = .slice (some ⟨g, 0, none⟩) s.toNat s.toNat ∧ CacheIn w4 (some ⟨g, 0, none⟩) (emptyC s.toNat n.toNat)) ∨ ((inR s 1 4 && inR n 1 3) = false ∧ q1 = 3 ∧ Value.slice ax nx cx = .slice none 0 0)) := by
    rcases Hx.out with ⟨z1, z2, g, z3, z4⟩ | z
    · exact .inl ⟨z1, z2, g, z3, z4.keep hbx4⟩
    · exact .inr z
  have Hz4 := hid (hz3.keep hbZ4)
  clear hk4 hbx1 hbx2 hbx3 hbx4 hbY2 hbY3 hbY4 hbZ3 hbZ4 hB4 hbb4 hB3 hw3 hbb3 hc3 hz3 Hx hb0 hb1 hb2 hb3 hb4
  go_upto_region 8 with fail
  go_cut [63] (fun t wx => t = .bool (!(inR s 1 4 && inR n 1 3)) ∧ wx = ((w4.alloc (.cells #[.slice none 0 0] 24)).alloc (.cells #[.slice none 0 0] 24)).alloc (.cells #[.slice none 0 0] 24))
  case first =>
    go_wp2
    all_goals
      go_meet
      case rel => exact ⟨congrArg Value.bool (by rw [Bool.eq_iff_iff]; simp [inR]; try omega), rfl⟩
  case rest =>
    obtain ⟨rfl, rfl⟩ := hcut
    go_upto_if 63 with fail
    have HS4 : Hid (St w4 (((w4.alloc (.cells #[.slice none 0 0] 24)).alloc (.cells #[.slice none 0 0] 24)).alloc (.cells #[.slice none 0 0] 24)) [(w4.heap.size + 1 + 1, .slice none 0 0), (w4.heap.size + 1, .slice none 0 0), (w4.heap.size, .slice none 0 0), (w3.heap.size, .slice (some ⟨g3, 0, none⟩) C.length C.length), (w2.heap.size, .slice none 0 0), (w1.heap.size, .slice ax nx cx), (w.heap.size, .slice a C.length cap)] []) := by
      refine ⟨bbox (bbox (bbox (Below.refl _ _) _) _) _, by simp, fun p hp => ?_, fun p hp => absurd hp (by simp)⟩
      simp only [List.mem_cons, List.not_mem_nil, or_false] at hp
      rcases hp with rfl | rfl | rfl | rfl | rfl | rfl | rfl
      all_goals exact HB4.out _ (by simp)
    go_cut [19] (fun u wx => ∃ fv : Value, u = .int .i64 q1 ∧ St w4 wx [(w4.heap.size + 1 + 1, .slice none 0 0), (w4.heap.size + 1, .slice none 0 0), (w4.heap.size, fv), (w3.heap.size, .slice (some ⟨g3, 0, none⟩) C.length C.length), (w2.heap.size, .slice none 0 0), (w1.heap.size, .slice ax nx cx), (w.heap.size, .slice a C.length cap)] [(.slice ax nx cx, fv, q1)])
    case first =>
      cases hok : (inR s 1 4 && inR n 1 3) with
      | true =>
        obtain ⟨rfl, g1, e1, hxin⟩ : q1 = 0 ∧ ∃ g, Value.slice ax nx cx = .slice (some ⟨g, 0, none⟩) s.toNat s.toNat ∧ CacheIn w4 (some ⟨g, 0, none⟩) (emptyC s.toNat n.toNat) := by
          rcases Hx4.out with ⟨_, h1, h2⟩ | ⟨h1, _⟩
          · exact ⟨h1, h2⟩
          · rw [hok] at h1; cases h1
        simp only [Value.slice.injEq] at e1
        obtain ⟨rfl, rfl, rfl⟩ := e1
        go_wp2_with fail
        refine (emptyCache_int s n _ hok).mono ?_
        rintro e w5 ⟨a5, cap5, rfl, hF5, hb5⟩
        have hS5 := HS4.out.keep hb5
        have hcF5 := hS5.boxes.cell (b := w4.heap.size) (v := .slice none 0 0) (by simp)
        have hfF5 := hS5.boxes.frozen (b := w4.heap.size) (v := .slice none 0 0) (by simp)
        have hS6 : St w4 (w5.setCell ⟨w4.heap.size, 0, none⟩ (.slice a5 s.toNat cap5)) [(w4.heap.size + 1 + 1, .slice none 0 0), (w4.heap.size + 1, .slice none 0 0), (w4.heap.size, .slice a5 s.toNat cap5), (w3.heap.size, .slice (some ⟨g3, 0, none⟩) C.length C.length), (w2.heap.size, .slice none 0 0), (w1.heap.size, .slice (some ⟨g1, 0, none⟩) s.toNat s.toNat), (w.heap.size, .slice a C.length cap)] [(.slice (some ⟨g1, 0, none⟩) s.toNat s.toNat, .slice a5 s.toNat cap5, 0)] := by
          have z := hS5.put w4.heap.size (.slice none 0 0) (.slice a5 s.toNat cap5) (by simp) (Nat.le_refl _) (by omega) [(w4.heap.size + 1 + 1, .slice none 0 0), (w4.heap.size + 1, .slice none 0 0), (w4.heap.size, .slice a5 s.toNat cap5), (w3.heap.size, .slice (some ⟨g3, 0, none⟩) C.length C.length), (w2.heap.size, .slice none 0 0), (w1.heap.size, .slice (some ⟨g1, 0, none⟩) s.toNat s.toNat), (w.heap.size, .slice a C.length cap)] (fun p hp => by
            simp only [List.mem_cons, List.not_mem_nil, or_false] at hp
            rcases hp with rfl | rfl | rfl | rfl | rfl | rfl | rfl
            · exact .inl ⟨by simp, by show w4.heap.size + 1 + 1 ≠ w4.heap.size; omega⟩
            · exact .inl ⟨by simp, by show w4.heap.size + 1 ≠ w4.heap.size; omega⟩
            · exact .inr rfl
            · exact .inl ⟨by simp, by show w3.heap.size ≠ w4.heap.size; omega⟩
            · exact .inl ⟨by simp, by show w2.heap.size ≠ w4.heap.size; omega⟩
            · exact .inl ⟨by simp, by show w1.heap.size ≠ w4.heap.size; omega⟩
            · exact .inl ⟨by simp, by show w.heap.size ≠ w4.heap.size; omega⟩
            )
          refine z.add (W0 := ((w4.alloc (.cells #[.slice none 0 0] 24)).alloc (.cells #[.slice none 0 0] 24)).alloc (.cells #[.slice none 0 0] 24)) (W1 := w5) hxin hF5 (emptyC_len _ _) ?_ (by simp) (agree_put _ _ _ _ (by omega)) (by simp [World.setCell])
          have h2 : (1 ≤ s ∧ s ≤ 4) ∧ (1 ≤ n ∧ n ≤ 3) := by simpa [inR] using hok
          omega
        have HS6 := hid hS6
        clear hS6 hS5 hF5
        go_wp2
        go_meet
        case rel => exact ⟨_, rfl, HS6.out⟩
      | false =>
        obtain ⟨rfl, e1⟩ : q1 = 3 ∧ Value.slice ax nx cx = .slice none 0 0 := by
          rcases Hx4.out with ⟨h1, _⟩ | ⟨_, h1, h2⟩
          · rw [hok] at h1; cases h1
          · exact ⟨h1, h2⟩
        simp only [Value.slice.injEq] at e1
        obtain ⟨rfl, rfl, rfl⟩ := e1
        go_wp2
        go_meet
        case rel => exact ⟨_, rfl, HS4.out.addErr (by omega)⟩
    case rest =>
      obtain ⟨fv, rfl, hS⟩ := hcut
      clear HS4 HB4 Hx4
      have HS := hid hS
      have hcc := hS.boxes.cell (b := w.heap.size) (v := .slice a C.length cap) (by simp)
      have hcin := hw.keep (btrans Hbb4.out hS.bel)
      clear hS
      have HS14 := hid (HS.out.addErr (e := 3) (by omega))
      have hcc14 := hcc
      have hcin14 := hcin
      have Hcin14 := hid hcin14
      clear HS hcc hcin
      obtain ⟨b0, o0, a0, cap0, rfl, hd0, _, _, _⟩ := hcin14 0 (by omega)
      have hn0e : C[0].length = n0 := by
        rw [← hn0]
        cases C with
        | nil => simp at hC1
        | cons x r => rfl
      simp only [Nat.add_zero] at hd0
      rw [hn0e] at hd0
      go_wp2_with fail
      generalize wc = W14 at *
      have hC1' : (1 : Int) ≤ C.length := by omega
      have hC4' : (C.length : Int) ≤ 4 := by omega
      have hzz1 : ¬ C.length = 0 := by omega
      have hzz2 : ¬ C = [] := by intro e; rw [e] at hzz1; exact hzz1 rfl
      have hzz3 : 0 < C.length := by omega
      have hzz4 : (0 : Int) < C.length := by omega
      have hbN : b0 < w.heap.size := by
        obtain ⟨b1, o1, _, _, e1, c1, _⟩ := hw 0 (by omega)
        simp only [Option.some.injEq, Addr.mk.injEq, and_true] at e1
        have := World.block_lt_of_cell? _ _ c1
        simp only at this
        omega
      clear hn0e
      have hneA : ¬ w4.heap.size + 1 + 1 = b0 := by omega
      have hneB : ¬ w4.heap.size + 1 + 1 = w.heap.size := by omega
      go_region_held3 (fun w' => w'.cell? ⟨w.heap.size, 0, none⟩ = some (.slice (some ⟨b0, o0, none⟩) C.length cap) ∧ w'.cell? ⟨b0, o0, none⟩ = some (.slice a0 n0 cap0)) (go_keep)
        (first
          | (go_at_call 18; refine (emptyCache_any C.length n0 _ hC4' hC1' hn0a hn0b).mono ?_; rintro e w15 ⟨a15, c15, rfl, hF15, hb15⟩; have k1 := bkeep hb15 (show (World.drew _).cell? _ = _ from hcc14) (Nat.le_refl _); have k2 := bkeep hb15 (show (World.drew _).cell? _ = _ from hd0) (Nat.le_refl _))
          | (go_at_call 20; refine (HfluR.out _ (CacheIn.keep (show CacheIn (World.drew _) _ _ from Hcin14.out) hb15)).mono ?_; rintro e w16 ⟨rfl, hb16⟩; have k3 := bkeep hb16 k1 (Nat.le_refl _); have k4 := bkeep hb16 k2 (Nat.le_refl _); have hS16 := (HS14.out.keep ((Below.refl _ _).drew)).keep (btrans hb15 hb16); have hcE := hS16.boxes.cell (b := w4.heap.size + 1 + 1) (v := .slice none 0 0) (by simp); have hfE := hS16.boxes.frozen (b := w4.heap.size + 1 + 1) (v := .slice none 0 0) (by simp); have hneE1 := hneA; have hneE2 := hneB))
      have hS18 : St w4 (w16.setCell ⟨w4.heap.size + 1 + 1, 0, none⟩ (.slice a15 C.length c15)) [(w4.heap.size + 1 + 1, .slice a15 C.length c15), (w4.heap.size + 1, .slice none 0 0), (w4.heap.size, fv), (w3.heap.size, .slice (some ⟨g3, 0, none⟩) C.length C.length), (w2.heap.size, .slice none 0 0), (w1.heap.size, .slice ax nx cx), (w.heap.size, .slice (some ⟨b0, o0, none⟩) C.length cap)] [(.slice (some ⟨g3, 0, none⟩) C.length C.length, .slice a15 C.length c15, 0), (.slice none 0 0, .slice none 0 0, 3), (.slice ax nx cx, fv, q1)] := by
        have z := hS16.put (w4.heap.size + 1 + 1) (.slice none 0 0) (.slice a15 C.length c15) (by simp) (by omega) (by omega) [(w4.heap.size + 1 + 1, .slice a15 C.length c15), (w4.heap.size + 1, .slice none 0 0), (w4.heap.size, fv), (w3.heap.size, .slice (some ⟨g3, 0, none⟩) C.length C.length), (w2.heap.size, .slice none 0 0), (w1.heap.size, .slice ax nx cx), (w.heap.size, .slice (some ⟨b0, o0, none⟩) C.length cap)] (fun p hp => by
          simp only [List.mem_cons, List.not_mem_nil, or_false] at hp
          rcases hp with rfl | rfl | rfl | rfl | rfl | rfl | rfl
          · exact .inr rfl
          · exact .inl ⟨by simp, by show w4.heap.size + 1 ≠ w4.heap.size + 1 + 1; omega⟩
          · exact .inl ⟨by simp, by show w4.heap.size ≠ w4.heap.size + 1 + 1; omega⟩
          · exact .inl ⟨by simp, by show w3.heap.size ≠ w4.heap.size + 1 + 1; omega⟩
          · exact .inl ⟨by simp, by show w2.heap.size ≠ w4.heap.size + 1 + 1; omega⟩
          · exact .inl ⟨by simp, by show w1.heap.size ≠ w4.heap.size + 1 + 1; omega⟩
          · exact .inl ⟨by simp, by show w.heap.size ≠ w4.heap.size + 1 + 1; omega⟩
          )
        refine z.add (W0 := W14) (W1 := w15) Hz4.out hF15 (emptyC_len _ _) (by omega) HS14.out.size (fun k q1 q2 => ?_) (by have := hb16.size; simpa [World.setCell] using this)
        exact (Below.heap_setCell _ _ _ _ (by show k ≠ w4.heap.size + 1 + 1; omega)).trans (hb16.block k q2)
      have HS18 := hid hS18
      clear hS18 hS16 hcE hfE k1 k2 k3 k4 hF15 hb15 hb16 HS14 Hcin14 hcin14 hcc14 hd0 hneE1 hneE2 hneA hneB
      go_wp2_with fail
      refine (begun_any _).mono ?_
      rintro e w17 ⟨rfl, hb17⟩
      have S17 := HS18.out.keep hb17
      have d1 := S17.boxes.cell (b := w1.heap.size) (v := .slice ax nx cx) (by simp)
      have d2 := S17.boxes.cell (b := w4.heap.size) (v := fv) (by simp)
      have P17 := S17.pair (xv := .slice ax nx cx) (fv := fv) (e := q1) (by simp)
      clear HS18 hb17
      go_wp2_with fail
      refine (cacheIs_pair P17).mono ?_
      rintro e w18 ⟨rfl, hb18⟩
      have S18 := S17.keep hb18
      have d3 := S18.boxes.cell (b := w.heap.size) (v := .slice (some ⟨b0, o0, none⟩) C.length cap) (by simp)
      have c18 := hw.keep (btrans Hbb4.out S18.bel)
      clear S17 P17 hb18 d1 d2
      go_wp2_with fail
      refine (Hchk2.out _ c18).mono ?_
      rintro e w19 ⟨rfl, hb19⟩
      have S19 := S18.keep hb19
      have d4 := S19.boxes.cell (b := w2.heap.size) (v := .slice none 0 0) (by simp)
      have d5 := S19.boxes.cell (b := w4.heap.size + 1) (v := .slice none 0 0) (by simp)
      have P19 := S19.pair (xv := .slice none 0 0) (fv := .slice none 0 0) (e := 3) (by simp)
      clear S18 hb19 d3 c18
      go_wp2_with fail
      refine (cacheIs_pair P19).mono ?_
      rintro e w20 ⟨rfl, hb20⟩
      have S20 := S19.keep hb20
      have d6 := S20.boxes.cell (b := w3.heap.size) (v := .slice (some ⟨g3, 0, none⟩) C.length C.length) (by simp)
      have d7 := S20.boxes.cell (b := w4.heap.size + 1 + 1) (v := .slice a15 C.length c15) (by simp)
      have P20 := S20.pair (xv := .slice (some ⟨g3, 0, none⟩) C.length C.length) (fv := .slice a15 C.length c15) (e := 0) (by simp)
      clear S19 P19 hb20 d4 d5
      go_wp2_with fail
      refine (cacheIs_pair P20).mono ?_
      rintro e w21 ⟨rfl, hb21⟩
      have S21 := S20.keep hb21
      clear S20 P20 hb21 d6 d7
      go_wp2
      go_ret
      exact ⟨rfl, btrans Hbb4.out S21.bel⟩

end Go.Proofs.Ytaellaconpaejaa
