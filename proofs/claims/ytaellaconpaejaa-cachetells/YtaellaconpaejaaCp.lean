/- The walk of the law on a cache's costs. -/
import Derived.Test.YtaellaconpaejaaCo
import Derived.Test.YtaellaconpaejaaMb
set_option linter.unusedVariables false
namespace Go.Proofs.Ytaellaconpaejaa
open Go.RowKit

theorem csum_bound (C : List (List (Int × Bool))) (n : Nat) (h : ∀ l ∈ C, l.length = n) : 0 ≤ csum C ∧ csum C ≤ 5 * C.length * n := by
  have := csum_le C n (fun l hl => by rw [h l hl]; exact Nat.le_refl _)
  refine ⟨this.1, Int.le_trans this.2 ?_⟩
  have e : (5 * n * C.length : Nat) = 5 * C.length * n := by rw [Nat.mul_assoc, Nat.mul_comm n, ← Nat.mul_assoc]
  rw [e]
  simp

set_option maxRecDepth 100000 in
set_option maxHeartbeats 1000000 in
theorem costs_bad (a : Option Addr) (C : List (List (Int × Bool))) (cap : Nat) (l : Int) (wr ag : Bool) (w : World) (hw : CacheIn w a C) (hl : C.length ≤ 9223372036854775807) (h : ck C ≠ 0 ∨ inR l 1 1000 = false) :
    Calls Try.prog 4 #[.agg #[.slice a C.length cap], .int .i64 l, .bool wr, .bool ag] w fun e w' => e = .returned (.bool true) ∧ Below w.heap.size w w' := by
  have h1 : Below w.heap.size w (w.alloc (.cells #[.slice a C.length cap] 24)) := (Below.refl _ _).alloc (Nat.le_refl _) _
  have hr : RowAt (w.alloc (.cells #[.slice a C.length cap] 24)) w.heap.size 24 [.slice a C.length cap] := rowAt_new w _ [.slice a C.length cap] 24 rfl
  have hacc : ∀ w, CacheIn w a C → Calls Try.prog 15 #[.agg #[.slice a C.length cap], .int .i64 l, .bool wr] w fun e w' => ∃ q : Int, q ≠ 0 ∧ e = .returned (.tuple #[.agg #[.slice none 0 0], .int .i64 0, .int .i64 q]) ∧ Below w.heap.size w w' := by
    intro w hw
    by_cases hc : ck C = 0
    · refine (access_range a C cap l wr w hw hl hc (by rcases h with h | h; exact absurd hc h; exact h)).mono ?_
      rintro e w' ⟨h1, h2⟩
      exact ⟨3, by omega, h1, h2⟩
    · refine (access_bad a C cap l wr w hw hl hc).mono ?_
      rintro e w' ⟨h1, h2⟩
      exact ⟨_, hc, h1, h2⟩
  have Hacc := hid hacc
  clear hacc h
  go_enter Try.func4, Try.ntmps4
  go_wp2_with fail
  refine (begun_any _).mono ?_
  rintro e w1 ⟨rfl, hb1⟩
  have hr1 := hr.below hb1 (Nat.le_refl _)
  have hc1 := hr1.cell 0 _ rfl
  have hw1 := (hw.keep h1).keep hb1
  go_wp2_with fail
  refine (Hacc.out _ hw1).mono ?_
  rintro e w2 ⟨q, hq, rfl, hb2⟩
  have hq' : (q != 0) = true := by simp [hq]
  clear hq
  go_wp2
  go_ret
  exact ⟨rfl, btrans h1 (btrans hb1 (hb2.alloc hb2.size _))⟩

set_option maxRecDepth 100000 in
set_option maxHeartbeats 2000000 in
theorem costs_ok (a : Option Addr) (C : List (List (Int × Bool))) (cap : Nat) (l : Int) (wr ag : Bool) (w : World) (hw : CacheIn w a C) (hl : C.length ≤ 9223372036854775807) (h : ck C = 0) (hr0 : inR l 1 1000 = true) :
    Calls Try.prog 4 #[.agg #[.slice a C.length cap], .int .i64 l, .bool wr, .bool ag] w fun e w' => e = .returned (.bool true) ∧ Below w.heap.size w w' := by
  have h1 : Below w.heap.size w (w.alloc (.cells #[.slice a C.length cap] 24)) := (Below.refl _ _).alloc (Nat.le_refl _) _
  have hr : RowAt (w.alloc (.cells #[.slice a C.length cap] 24)) w.heap.size 24 [.slice a C.length cap] := rowAt_new w _ [.slice a C.length cap] 24 rfl
  obtain ⟨hsh, hC1, hC4, hCn⟩ := ck_ok h
  have hl0 : 1 ≤ l ∧ l ≤ 1000 := by simpa [inR] using hr0
  obtain ⟨s, hs⟩ : ∃ s : Nat, l % (C.length : Int) = s := ⟨(l % (C.length : Int)).toNat, by have := Int.emod_nonneg l (b := (C.length : Int)) (by omega); omega⟩
  have hsl : s < C.length := by have := Int.emod_lt_of_pos l (b := (C.length : Int)) (by omega); omega
  obtain ⟨hg1, hh1⟩ := access_good C l wr s hsl h hl0.1 hl0.2 hs
  obtain ⟨C1, hC1e⟩ : ∃ C1, C1 = C.set s (useSet C[s] l wr).1 := ⟨_, rfl⟩
  have hlen1 : C1.length = C.length := by rw [hC1e]; simp
  have hsl1 : s < C1.length := by omega
  have hset1 : C1[s] = (useSet C[s] l wr).1 := by subst hC1e; simp
  have hpos : 0 < C[s].length := (hCn _ (List.getElem_mem hsl)).1
  have hs1 : l % (C1.length : Int) = s := by rw [hlen1]; exact hs
  rw [← hC1e] at hg1 hh1
  obtain ⟨hg2, hh2⟩ := access_good C1 l ag s hsl1 hg1 hl0.1 hl0.2 hs1
  have hcost2 : (useSet C1[s] l ag).2 = 1 := by rw [hset1, useSet_hit (k := 0) (useSet_first _ l wr hpos)]
  obtain ⟨C2, hC2e⟩ : ∃ C2, C2 = C1.set s (useSet C1[s] l ag).1 := ⟨_, rfl⟩
  have hlen2 : C2.length = C.length := by rw [hC2e]; simp [hlen1]
  rw [← hC2e] at hg2 hh2
  have hn1 : ∀ ls ∈ C1, ls.length ≤ 3 := fun ls hls => ((ck_ok hg1).2.2.2 ls hls).2
  have hn2 : ∀ ls ∈ C2, ls.length ≤ 3 := fun ls hls => ((ck_ok hg2).2.2.2 ls hls).2
  obtain ⟨hcost1a, hcost1b⟩ := useSet_cost C[s] l wr
  obtain ⟨n, hn⟩ : ∃ n, (C2.headD []).length = n := ⟨_, rfl⟩
  have hcs := csum_bound C2 n (by rw [← hn]; exact ((ckShape_zero_iff C2).1 ((ck_ok hg2).1)).2.2)
  rw [hlen2] at hcs
  have hacc1 := fun w hw => access_ok a C cap l wr s w hw hl h hr0 hs hsl
  have hacc2 := fun (g : Nat) (w : World) (hO : OwnC w g C1 C1.length) => access_ok (some ⟨g, 0, none⟩) C1 C1.length l ag s w (cacheIn_of_own hO (Nat.le_refl _) hn1) (by omega) hg1 hr0 hs1 hsl1
  have hacc3 := fun (g : Nat) (w : World) (hO : OwnC w g C2 C2.length) => flush_ok (some ⟨g, 0, none⟩) C2 C2.length w (cacheIn_of_own hO (Nat.le_refl _) hn2) (by omega) hg2 n hn
  have hacc4 := fun (g : Nat) (w : World) (hO : OwnC w g C2 C2.length) => check_any (some ⟨g, 0, none⟩) C2 C2.length w (cacheIn_of_own hO (Nat.le_refl _) hn2) (by omega)
  rw [← hC1e] at hacc1
  rw [← hC2e, hcost2] at hacc2
  rw [hg2] at hacc4
  rw [hlen1] at hacc2
  rw [hlen2] at hacc3 hacc4
  have hlenN : ∀ ls ∈ C, ls.length = n := by
    have := ((ckShape_zero_iff C).1 hsh).2.2
    intro ls hls
    rw [this ls hls, ← hn, hh2, hh1]
  generalize (useSet C[s] l wr).2 = c1 at *
  generalize csum C2 = c2 at *
  have HA1 := hid hacc1
  have HA2 := hid hacc2
  have HA3 := hid hacc3
  have HA4 := hid hacc4
  have HCn := hid hCn
  have HlenN := hid hlenN
  clear hacc1 hacc2 hacc3 hacc4 hsh hCn hlenN hset1 hcost2 hC1e hC2e hg1 hg2 hh1 hh2 hn1 hn2 hs1 hs hr0 hl0
  obtain ⟨hcs1, hcs2⟩ := hcs
  go_enter Try.func4, Try.ntmps4
  go_wp2_with fail
  refine (begun_any _).mono ?_
  rintro e w1 ⟨rfl, hb1⟩
  have hr1 := hr.below hb1 (Nat.le_refl _)
  have hc1 := hr1.cell 0 _ rfl
  have hw1 := (hw.keep h1).keep hb1
  have hb1' := btrans h1 hb1
  clear hr h1 hw hb1
  go_wp2_with fail
  refine (HA1.out _ hw1).mono ?_
  rintro e w2 ⟨g2, rfl, hO2, _, hb2⟩
  have hO2' := hO2.below ((Below.refl _ _).alloc (Nat.le_refl _) (.cells #[.slice (some ⟨g2, 0, none⟩) C.length C.length] 24))
  have hb2' : Below w1.heap.size w1 (w2.alloc (.cells #[.slice (some ⟨g2, 0, none⟩) C.length C.length] 24)) := hb2.alloc hb2.size _
  have hr2 := hr1.below hb2' (Nat.le_refl _)
  have hw2 := hw1.keep hb2'
  have hb3 := btrans hb1' hb2'
  clear hr1 hc1 hw1 hb1' hb2 hb2' hO2
  go_wp2_with fail
  refine (HA2.out g2 _ hO2').mono ?_
  rintro e w4 ⟨g4, rfl, hO4, _, hb4⟩
  have hb4' : Below (w2.alloc (.cells #[.slice (some ⟨g2, 0, none⟩) C.length C.length] 24)).heap.size (w2.alloc (.cells #[.slice (some ⟨g2, 0, none⟩) C.length C.length] 24)) (w4.alloc (.cells #[.slice (some ⟨g4, 0, none⟩) C.length C.length] 24)) := hb4.alloc hb4.size _
  have hO4' := hO4.below ((Below.refl _ _).alloc (Nat.le_refl _) (.cells #[.slice (some ⟨g4, 0, none⟩) C.length C.length] 24))
  have hy4 : RowAt (w4.alloc (.cells #[.slice (some ⟨g4, 0, none⟩) C.length C.length] 24)) w4.heap.size 24 [.slice (some ⟨g4, 0, none⟩) C.length C.length] := rowAt_new w4 _ [.slice (some ⟨g4, 0, none⟩) C.length C.length] 24 rfl
  have hr4 := hr2.below hb4' (Nat.le_refl _)
  have hw4 := hw2.keep hb4'
  have hb5 := btrans hb3 hb4'
  clear hr2 hw2 hb3 hb4 hb4' hO4 hO2'
  go_wp2_with fail
  refine (HA3.out g4 _ hO4').mono ?_
  rintro e w6 ⟨g6, rfl, _, _, hb6⟩
  have hb6' : Below (w4.alloc (.cells #[.slice (some ⟨g4, 0, none⟩) C.length C.length] 24)).heap.size (w4.alloc (.cells #[.slice (some ⟨g4, 0, none⟩) C.length C.length] 24)) (w6.alloc (.cells #[.slice (some ⟨g6, 0, none⟩) C.length C.length] 24)) := hb6.alloc hb6.size _
  have hO6 := hO4'.below hb6'
  have hy6 := hy4.below hb6' (Nat.le_refl _)
  have hr6 := hr4.below hb6' (Nat.le_refl _)
  have hw6 := hw4.keep hb6'
  have hb7 := btrans hb5 hb6'
  obtain ⟨b, o, a2, cap2, rfl, hd1, _, _, _⟩ := hw6 0 (by omega)
  rw [Nat.add_zero, HlenN.out C[0] (List.getElem_mem (by omega))] at hd1
  have hcy := hy6.cell 0 _ rfl
  have hcc := hr6.cell 0 _ rfl
  have hn13 := HCn.out C[0] (List.getElem_mem (by omega))
  rw [HlenN.out C[0] (List.getElem_mem (by omega))] at hn13
  obtain ⟨hn1, hn3⟩ := hn13
  have HO6 := hid hO6
  have hz1 : ¬ C.length = 0 := by omega
  have hz2 : ¬ C = [] := by intro e; rw [e] at hz1; exact hz1 rfl
  have hz3 : 0 < C.length := by omega
  have hz4 : (0 : Int) < C.length := by omega
  clear hy4 hr4 hw4 hb5 hb6 hb6' hO4' hO6 hy6 hr6 hw6
  have hprod : (C.length : Int) * n ≤ 12 ∧ 0 ≤ (C.length : Int) * n := by
    match hCl : C.length, hC1, hC4 with
    | 1, _, _ => omega
    | 2, _, _ => omega
    | 3, _, _ => omega
    | 4, _, _ => omega
  have e5 : 5 * (C.length : Int) * n = 5 * ((C.length : Int) * n) := Int.mul_assoc _ _ _
  have hm1 : IntKind.i64.wrap (5 * (C.length : Int)) = 5 * C.length := wrap_small _ (by omega) (by omega)
  have hm2 : IntKind.i64.wrap (5 * (C.length : Int) * n) = 5 * C.length * n := wrap_small _ (by omega) (by omega)
  have hm3 : IntKind.i64.wrap (2 + 5 * (C.length : Int) * n) = 2 + 5 * C.length * n := wrap_small _ (by omega) (by omega)
  have hfin : 2 + c2 ≤ 2 + 5 * (C.length : Int) * n := by omega
  have hfin2 : 2 ≤ 2 + c2 := by omega
  clear e5 hprod
  go_wp2_with fail
  go_region_held3 (fun w' => w'.cell? ⟨w4.heap.size, 0, none⟩ = some (.slice (some ⟨g4, 0, none⟩) C.length C.length) ∧ w'.cell? ⟨w.heap.size, 0, none⟩ = some (.slice (some ⟨b, o, none⟩) C.length cap) ∧ w'.cell? ⟨b, o, none⟩ = some (.slice a2 n cap2)) (go_keep)
    (first | (go_at_call 23; refine (HA4.out g4 _ HO6.out.drew).mono ?_; rintro e w8 ⟨rfl, hb8⟩; have k1 := bkeep hb8 (show (World.drew _).cell? _ = _ from hcy) (Nat.le_refl _); have k2 := bkeep hb8 (show (World.drew _).cell? _ = _ from hcc) (Nat.le_refl _); have k3 := bkeep hb8 (show (World.drew _).cell? _ = _ from hd1) (Nat.le_refl _)))
  have hb9 := btrans hb7.drew hb8
  clear hb8 k1 k2 k3 hcy hcc hd1
  go_wp2
  go_ret
  exact ⟨rfl, hb9⟩

end Go.Proofs.Ytaellaconpaejaa
