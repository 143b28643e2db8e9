/- Walks: an action is done. -/
import Derived.Test.YtildebflnmbefaaGreatKv
import Derived.Test.YtildebflnmbefaaGreatKq
import Derived.Test.YtildebflnmbefaaGreatKw
set_option linter.unusedVariables false
namespace Go.Proofs.YtildebflnmbefaaGreat
open Go.RowKit

set_option maxRecDepth 100000 in
set_option maxHeartbeats 2000000 in
theorem act_no (X : RC) (M : RM) (D : Dom) (K : KT) (now : Int) (k : Int) (m : Nat) (v cost : Int) (w : World) (h : RO X w M D K now) (hl : D.evs.length ≤ 1000000000000) (hm : mayA X.C X.dn (k, (m : Int), v) = false) :
    Calls Tryz.prog 46 #[.pointer (some ⟨X.rb, 0, none⟩), .agg #[.int .i64 k, .int .i64 (m : Int), .int .i64 v], .int .i64 cost] w fun e w' => e = .returned (.tuple #[]) ∧ ∃ M', RO X w' M' (tellE D (now, 12, D.nxt, 0)) K now := by
  have h1 := h.push (.cells #[.int .i64 k, .int .i64 (m : Int), .int .i64 v] 53)
  have hrb : X.rb < w.heap.size := h.row.lt
  have R1 := h1.topRow
  have HS : Hid (∀ w', Below (w.alloc (.cells #[.int .i64 k, .int .i64 (m : Int), .int .i64 v] 53)).heap.size (w.alloc (.cells #[.int .i64 k, .int .i64 (m : Int), .int .i64 v] 53)) w' → w'.cell? ⟨w.heap.size, 0, none⟩ = some (.int .i64 k) ∧ w'.cell? ⟨w.heap.size, 1, none⟩ = some (.int .i64 (m : Int)) ∧ w'.cell? ⟨w.heap.size, 2, none⟩ = some (.int .i64 v)) := hid fun w' hb => ⟨bkeep hb (R1.cell 0 _ rfl) (Nat.le_refl _), bkeep hb (R1.cell 1 _ rfl) (Nat.le_refl _), bkeep hb (R1.cell 2 _ rfl) (Nat.le_refl _)⟩
  have CM : Hid (∀ wx, Below (w.alloc (.cells #[.int .i64 k, .int .i64 (m : Int), .int .i64 v] 53)).heap.size (w.alloc (.cells #[.int .i64 k, .int .i64 (m : Int), .int .i64 v] 53)) wx → Calls Tryz.prog 73 #[.pointer (some ⟨X.rb, 0, none⟩), .agg #[.int .i64 k, .int .i64 (m : Int), .int .i64 v]] wx fun e w' => e = .returned (.bool false) ∧ Below wx.heap.size wx w') := hid fun wx hb => by
    have := mayW_ok _ M D K now (k, (m : Int), v) wx (h1.below hb) (by simp)
    rw [hm] at this
    exact this
  have CT : Hid (∀ kd p q M' D' wx, RO (X.more w.heap.size (.cells #[.int .i64 k, .int .i64 (m : Int), .int .i64 v] 53)) wx M' D' K now → D'.evs.length ≤ 1000000000000 → Calls Tryz.prog 72 #[.pointer (some ⟨X.rb, 0, none⟩), .int .i64 kd, .int .i64 p, .int .i64 q] wx fun e w' => e = .returned (.tuple #[]) ∧ ∃ a' c', RO (X.more w.heap.size (.cells #[.int .i64 k, .int .i64 (m : Int), .int .i64 v] 53)) w' (evM M' a' c') (tellE D' (now, kd, p, q)) K now) := hid fun kd p q M' D' wx hx hl' => tellW_ok _ M' D' K now kd p q wx hx hl'
  have HH := hid h1
  have c2 : Hid (∀ w', Below (w.alloc (.cells #[.int .i64 k, .int .i64 (m : Int), .int .i64 v] 53)).heap.size (w.alloc (.cells #[.int .i64 k, .int .i64 (m : Int), .int .i64 v] 53)) w' → w'.cell? ⟨X.rb, 2, none⟩ = some (.int .i64 D.nxt)) := hid fun w' hb => bkeep hb (h1.row.cell 2 _ rfl) (Nat.le_refl _)
  clear h h1 R1 hm
  go_enter Tryz.func46, Tryz.ntmps46
  go_wp2_with fail
  generalize hW : World.alloc w _ = W at *
  clear hW
  have hB : Below W.heap.size W W.drew := (Below.refl _ _).drew
  go_region_held3 (fun w' => w'.cell? ⟨w.heap.size, 0, none⟩ = some (.int .i64 k) ∧ w'.cell? ⟨w.heap.size, 1, none⟩ = some (.int .i64 (m : Int)) ∧ w'.cell? ⟨w.heap.size, 2, none⟩ = some (.int .i64 v))
    (first | with_reducible exact HS.out _ hB | with_reducible exact HS.out _ hB2 | go_keep)
    (first
      | (go_at_call 73; with_reducible refine Calls.mono (CM.out _ hB) ?_; rintro e w2 ⟨rfl, hb2⟩; have hB2 := btrans hB hb2; clear hb2))
  all_goals
    have HB2 := hid hB2
    have H2 := hid (HH.out.below HB2.out)
    have s0 := (HS.out _ HB2.out).1
    have s1 := (HS.out _ HB2.out).2.1
    have s2 := (HS.out _ HB2.out).2.2
    clear hB hB2 CM
    have x2 := c2.out _ HB2.out
    go_wp2_with fail
    refine Calls.mono (CT.out 12 D.nxt 0 _ _ _ H2.out hl) ?_
    rintro e w3 ⟨rfl, a', c', h3⟩
    have H3 := hid h3.pop
    clear h3 CT
    go_wp2
    first
      | (go_end0; exact ⟨rfl, _, H3.out⟩)
      | exact bodyPost_ret (v := .tuple #[]) (by simp [results, Tryz.results46, go_sem]) rfl ⟨rfl, _, H3.out⟩

set_option maxRecDepth 100000 in
set_option maxHeartbeats 2000000 in
theorem act_1 (X : RC) (M : RM) (D : Dom) (K : KT) (now : Int) (m : Nat) (v cost : Int) (w : World) (h : RO X w M D K now) (hl : D.evs.length ≤ 1000000000000) (hm : mayA X.C X.dn (1, (m : Int), v) = true) :
    Calls Tryz.prog 46 #[.pointer (some ⟨X.rb, 0, none⟩), .agg #[.int .i64 1, .int .i64 (m : Int), .int .i64 v], .int .i64 cost] w fun e w' => e = .returned (.tuple #[]) ∧ ∃ M', RO X w' M' (tellE D (now, 11, cost, 0)) K now := by
  have h1 := h.push (.cells #[.int .i64 1, .int .i64 (m : Int), .int .i64 v] 53)
  have hrb : X.rb < w.heap.size := h.row.lt
  have R1 := h1.topRow
  have HS : Hid (∀ w', Below (w.alloc (.cells #[.int .i64 1, .int .i64 (m : Int), .int .i64 v] 53)).heap.size (w.alloc (.cells #[.int .i64 1, .int .i64 (m : Int), .int .i64 v] 53)) w' → w'.cell? ⟨w.heap.size, 0, none⟩ = some (.int .i64 1) ∧ w'.cell? ⟨w.heap.size, 1, none⟩ = some (.int .i64 (m : Int)) ∧ w'.cell? ⟨w.heap.size, 2, none⟩ = some (.int .i64 v)) := hid fun w' hb => ⟨bkeep hb (R1.cell 0 _ rfl) (Nat.le_refl _), bkeep hb (R1.cell 1 _ rfl) (Nat.le_refl _), bkeep hb (R1.cell 2 _ rfl) (Nat.le_refl _)⟩
  have CM : Hid (∀ wx, Below (w.alloc (.cells #[.int .i64 1, .int .i64 (m : Int), .int .i64 v] 53)).heap.size (w.alloc (.cells #[.int .i64 1, .int .i64 (m : Int), .int .i64 v] 53)) wx → Calls Tryz.prog 73 #[.pointer (some ⟨X.rb, 0, none⟩), .agg #[.int .i64 1, .int .i64 (m : Int), .int .i64 v]] wx fun e w' => e = .returned (.bool true) ∧ Below wx.heap.size wx w') := hid fun wx hb => by
    have := mayW_ok _ M D K now (1, (m : Int), v) wx (h1.below hb) (by simp)
    rw [hm] at this
    exact this
  have CT : Hid (∀ kd p q M' D' wx, RO (X.more w.heap.size (.cells #[.int .i64 1, .int .i64 (m : Int), .int .i64 v] 53)) wx M' D' K now → D'.evs.length ≤ 1000000000000 → Calls Tryz.prog 72 #[.pointer (some ⟨X.rb, 0, none⟩), .int .i64 kd, .int .i64 p, .int .i64 q] wx fun e w' => e = .returned (.tuple #[]) ∧ ∃ a' c', RO (X.more w.heap.size (.cells #[.int .i64 1, .int .i64 (m : Int), .int .i64 v] 53)) w' (evM M' a' c') (tellE D' (now, kd, p, q)) K now) := hid fun kd p q M' D' wx hx hl' => tellW_ok _ M' D' K now kd p q wx hx hl'
  have HH := hid h1
  clear h h1 R1 hm
  go_enter Tryz.func46, Tryz.ntmps46
  go_wp2_with fail
  generalize hW : World.alloc w _ = W at *
  clear hW
  have hB : Below W.heap.size W W.drew := (Below.refl _ _).drew
  go_region_held3 (fun w' => w'.cell? ⟨w.heap.size, 0, none⟩ = some (.int .i64 1) ∧ w'.cell? ⟨w.heap.size, 1, none⟩ = some (.int .i64 (m : Int)) ∧ w'.cell? ⟨w.heap.size, 2, none⟩ = some (.int .i64 v))
    (first | with_reducible exact HS.out _ hB | with_reducible exact HS.out _ hB2 | go_keep)
    (first
      | (go_at_call 73; with_reducible refine Calls.mono (CM.out _ hB) ?_; rintro e w2 ⟨rfl, hb2⟩; have hB2 := btrans hB hb2; clear hb2))
  all_goals
    have HB2 := hid hB2
    have H2 := hid (HH.out.below HB2.out)
    have s0 := (HS.out _ HB2.out).1
    have s1 := (HS.out _ HB2.out).2.1
    have s2 := (HS.out _ HB2.out).2.2
    clear hB hB2 CM
    go_wp2_with fail
    refine Calls.mono (CT.out 11 cost 0 _ _ _ H2.out hl) ?_
    rintro e w3 ⟨rfl, a', c', h3⟩
    have H3 := hid h3.pop
    clear h3 CT
    go_wp2
    first
      | (go_end0; exact ⟨rfl, _, H3.out⟩)
      | exact bodyPost_ret (v := .tuple #[]) (by simp [results, Tryz.results46, go_sem]) rfl ⟨rfl, _, H3.out⟩

set_option maxRecDepth 100000 in
set_option maxHeartbeats 2000000 in
theorem act_2 (X : RC) (M : RM) (D : Dom) (K : KT) (now : Int) (m : Nat) (v cost : Int) (w : World) (h : RO X w M D K now) (hl : D.evs.length ≤ 1000000000000) (hm : mayA X.C X.dn (2, (m : Int), v) = true) :
    Calls Tryz.prog 46 #[.pointer (some ⟨X.rb, 0, none⟩), .agg #[.int .i64 2, .int .i64 (m : Int), .int .i64 v], .int .i64 cost] w fun e w' => e = .returned (.tuple #[]) ∧ ∃ M', RO X w' M' (tellE D (now, 11, cost, 0)) K now := by
  have h1 := h.push (.cells #[.int .i64 2, .int .i64 (m : Int), .int .i64 v] 53)
  have hrb : X.rb < w.heap.size := h.row.lt
  have R1 := h1.topRow
  have HS : Hid (∀ w', Below (w.alloc (.cells #[.int .i64 2, .int .i64 (m : Int), .int .i64 v] 53)).heap.size (w.alloc (.cells #[.int .i64 2, .int .i64 (m : Int), .int .i64 v] 53)) w' → w'.cell? ⟨w.heap.size, 0, none⟩ = some (.int .i64 2) ∧ w'.cell? ⟨w.heap.size, 1, none⟩ = some (.int .i64 (m : Int)) ∧ w'.cell? ⟨w.heap.size, 2, none⟩ = some (.int .i64 v)) := hid fun w' hb => ⟨bkeep hb (R1.cell 0 _ rfl) (Nat.le_refl _), bkeep hb (R1.cell 1 _ rfl) (Nat.le_refl _), bkeep hb (R1.cell 2 _ rfl) (Nat.le_refl _)⟩
  have CM : Hid (∀ wx, Below (w.alloc (.cells #[.int .i64 2, .int .i64 (m : Int), .int .i64 v] 53)).heap.size (w.alloc (.cells #[.int .i64 2, .int .i64 (m : Int), .int .i64 v] 53)) wx → Calls Tryz.prog 73 #[.pointer (some ⟨X.rb, 0, none⟩), .agg #[.int .i64 2, .int .i64 (m : Int), .int .i64 v]] wx fun e w' => e = .returned (.bool true) ∧ Below wx.heap.size wx w') := hid fun wx hb => by
    have := mayW_ok _ M D K now (2, (m : Int), v) wx (h1.below hb) (by simp)
    rw [hm] at this
    exact this
  have CT : Hid (∀ kd p q M' D' wx, RO (X.more w.heap.size (.cells #[.int .i64 2, .int .i64 (m : Int), .int .i64 v] 53)) wx M' D' K now → D'.evs.length ≤ 1000000000000 → Calls Tryz.prog 72 #[.pointer (some ⟨X.rb, 0, none⟩), .int .i64 kd, .int .i64 p, .int .i64 q] wx fun e w' => e = .returned (.tuple #[]) ∧ ∃ a' c', RO (X.more w.heap.size (.cells #[.int .i64 2, .int .i64 (m : Int), .int .i64 v] 53)) w' (evM M' a' c') (tellE D' (now, kd, p, q)) K now) := hid fun kd p q M' D' wx hx hl' => tellW_ok _ M' D' K now kd p q wx hx hl'
  have HH := hid h1
  clear h h1 R1 hm
  go_enter Tryz.func46, Tryz.ntmps46
  go_wp2_with fail
  generalize hW : World.alloc w _ = W at *
  clear hW
  have hB : Below W.heap.size W W.drew := (Below.refl _ _).drew
  go_region_held3 (fun w' => w'.cell? ⟨w.heap.size, 0, none⟩ = some (.int .i64 2) ∧ w'.cell? ⟨w.heap.size, 1, none⟩ = some (.int .i64 (m : Int)) ∧ w'.cell? ⟨w.heap.size, 2, none⟩ = some (.int .i64 v))
    (first | with_reducible exact HS.out _ hB | with_reducible exact HS.out _ hB2 | go_keep)
    (first
      | (go_at_call 73; with_reducible refine Calls.mono (CM.out _ hB) ?_; rintro e w2 ⟨rfl, hb2⟩; have hB2 := btrans hB hb2; clear hb2))
  all_goals
    have HB2 := hid hB2
    have H2 := hid (HH.out.below HB2.out)
    have s0 := (HS.out _ HB2.out).1
    have s1 := (HS.out _ HB2.out).2.1
    have s2 := (HS.out _ HB2.out).2.2
    clear hB hB2 CM
    go_wp2_with fail
    refine Calls.mono (CT.out 11 cost 0 _ _ _ H2.out hl) ?_
    rintro e w3 ⟨rfl, a', c', h3⟩
    have H3 := hid h3.pop
    clear h3 CT
    go_wp2
    first
      | (go_end0; exact ⟨rfl, _, H3.out⟩)
      | exact bodyPost_ret (v := .tuple #[]) (by simp [results, Tryz.results46, go_sem]) rfl ⟨rfl, _, H3.out⟩

set_option maxRecDepth 100000 in
set_option maxHeartbeats 2000000 in
theorem act_3 (X : RC) (M : RM) (D : Dom) (K : KT) (now : Int) (m : Nat) (v cost : Int) (w : World) (h : RO X w M D K now) (hl : D.evs.length ≤ 1000000000000) (hm : mayA X.C X.dn (3, (m : Int), v) = true) :
    Calls Tryz.prog 46 #[.pointer (some ⟨X.rb, 0, none⟩), .agg #[.int .i64 3, .int .i64 (m : Int), .int .i64 v], .int .i64 cost] w fun e w' => e = .returned (.tuple #[]) ∧ ∃ M', RO X w' M' (tellE D (now, 11, cost, 0)) K now := by
  have h1 := h.push (.cells #[.int .i64 3, .int .i64 (m : Int), .int .i64 v] 53)
  have hrb : X.rb < w.heap.size := h.row.lt
  have R1 := h1.topRow
  have HS : Hid (∀ w', Below (w.alloc (.cells #[.int .i64 3, .int .i64 (m : Int), .int .i64 v] 53)).heap.size (w.alloc (.cells #[.int .i64 3, .int .i64 (m : Int), .int .i64 v] 53)) w' → w'.cell? ⟨w.heap.size, 0, none⟩ = some (.int .i64 3) ∧ w'.cell? ⟨w.heap.size, 1, none⟩ = some (.int .i64 (m : Int)) ∧ w'.cell? ⟨w.heap.size, 2, none⟩ = some (.int .i64 v)) := hid fun w' hb => ⟨bkeep hb (R1.cell 0 _ rfl) (Nat.le_refl _), bkeep hb (R1.cell 1 _ rfl) (Nat.le_refl _), bkeep hb (R1.cell 2 _ rfl) (Nat.le_refl _)⟩
  have CM : Hid (∀ wx, Below (w.alloc (.cells #[.int .i64 3, .int .i64 (m : Int), .int .i64 v] 53)).heap.size (w.alloc (.cells #[.int .i64 3, .int .i64 (m : Int), .int .i64 v] 53)) wx → Calls Tryz.prog 73 #[.pointer (some ⟨X.rb, 0, none⟩), .agg #[.int .i64 3, .int .i64 (m : Int), .int .i64 v]] wx fun e w' => e = .returned (.bool true) ∧ Below wx.heap.size wx w') := hid fun wx hb => by
    have := mayW_ok _ M D K now (3, (m : Int), v) wx (h1.below hb) (by simp)
    rw [hm] at this
    exact this
  have CT : Hid (∀ kd p q M' D' wx, RO (X.more w.heap.size (.cells #[.int .i64 3, .int .i64 (m : Int), .int .i64 v] 53)) wx M' D' K now → D'.evs.length ≤ 1000000000000 → Calls Tryz.prog 72 #[.pointer (some ⟨X.rb, 0, none⟩), .int .i64 kd, .int .i64 p, .int .i64 q] wx fun e w' => e = .returned (.tuple #[]) ∧ ∃ a' c', RO (X.more w.heap.size (.cells #[.int .i64 3, .int .i64 (m : Int), .int .i64 v] 53)) w' (evM M' a' c') (tellE D' (now, kd, p, q)) K now) := hid fun kd p q M' D' wx hx hl' => tellW_ok _ M' D' K now kd p q wx hx hl'
  have HH := hid h1
  clear h h1 R1 hm
  go_enter Tryz.func46, Tryz.ntmps46
  go_wp2_with fail
  generalize hW : World.alloc w _ = W at *
  clear hW
  have hB : Below W.heap.size W W.drew := (Below.refl _ _).drew
  go_region_held3 (fun w' => w'.cell? ⟨w.heap.size, 0, none⟩ = some (.int .i64 3) ∧ w'.cell? ⟨w.heap.size, 1, none⟩ = some (.int .i64 (m : Int)) ∧ w'.cell? ⟨w.heap.size, 2, none⟩ = some (.int .i64 v))
    (first | with_reducible exact HS.out _ hB | with_reducible exact HS.out _ hB2 | go_keep)
    (first
      | (go_at_call 73; with_reducible refine Calls.mono (CM.out _ hB) ?_; rintro e w2 ⟨rfl, hb2⟩; have hB2 := btrans hB hb2; clear hb2))
  all_goals
    have HB2 := hid hB2
    have H2 := hid (HH.out.below HB2.out)
    have s0 := (HS.out _ HB2.out).1
    have s1 := (HS.out _ HB2.out).2.1
    have s2 := (HS.out _ HB2.out).2.2
    clear hB hB2 CM
    go_wp2_with fail
    refine Calls.mono (CT.out 11 cost 0 _ _ _ H2.out hl) ?_
    rintro e w3 ⟨rfl, a', c', h3⟩
    have H3 := hid h3.pop
    clear h3 CT
    go_wp2
    first
      | (go_end0; exact ⟨rfl, _, H3.out⟩)
      | exact bodyPost_ret (v := .tuple #[]) (by simp [results, Tryz.results46, go_sem]) rfl ⟨rfl, _, H3.out⟩

set_option maxRecDepth 100000 in
set_option maxHeartbeats 2000000 in
theorem act_8 (X : RC) (M : RM) (D : Dom) (K : KT) (now : Int) (m : Nat) (v cost : Int) (w : World) (h : RO X w M D K now) (hl : D.evs.length ≤ 1000000000000) (hm : mayA X.C X.dn (8, (m : Int), v) = true) :
    Calls Tryz.prog 46 #[.pointer (some ⟨X.rb, 0, none⟩), .agg #[.int .i64 8, .int .i64 (m : Int), .int .i64 v], .int .i64 cost] w fun e w' => e = .returned (.tuple #[]) ∧ ∃ M', RO X w' M' (D) K now := by
  have h1 := h.push (.cells #[.int .i64 8, .int .i64 (m : Int), .int .i64 v] 53)
  have hrb : X.rb < w.heap.size := h.row.lt
  have R1 := h1.topRow
  have HS : Hid (∀ w', Below (w.alloc (.cells #[.int .i64 8, .int .i64 (m : Int), .int .i64 v] 53)).heap.size (w.alloc (.cells #[.int .i64 8, .int .i64 (m : Int), .int .i64 v] 53)) w' → w'.cell? ⟨w.heap.size, 0, none⟩ = some (.int .i64 8) ∧ w'.cell? ⟨w.heap.size, 1, none⟩ = some (.int .i64 (m : Int)) ∧ w'.cell? ⟨w.heap.size, 2, none⟩ = some (.int .i64 v)) := hid fun w' hb => ⟨bkeep hb (R1.cell 0 _ rfl) (Nat.le_refl _), bkeep hb (R1.cell 1 _ rfl) (Nat.le_refl _), bkeep hb (R1.cell 2 _ rfl) (Nat.le_refl _)⟩
  have CM : Hid (∀ wx, Below (w.alloc (.cells #[.int .i64 8, .int .i64 (m : Int), .int .i64 v] 53)).heap.size (w.alloc (.cells #[.int .i64 8, .int .i64 (m : Int), .int .i64 v] 53)) wx → Calls Tryz.prog 73 #[.pointer (some ⟨X.rb, 0, none⟩), .agg #[.int .i64 8, .int .i64 (m : Int), .int .i64 v]] wx fun e w' => e = .returned (.bool true) ∧ Below wx.heap.size wx w') := hid fun wx hb => by
    have := mayW_ok _ M D K now (8, (m : Int), v) wx (h1.below hb) (by simp)
    rw [hm] at this
    exact this
  have CT : Hid (∀ kd p q M' D' wx, RO (X.more w.heap.size (.cells #[.int .i64 8, .int .i64 (m : Int), .int .i64 v] 53)) wx M' D' K now → D'.evs.length ≤ 1000000000000 → Calls Tryz.prog 72 #[.pointer (some ⟨X.rb, 0, none⟩), .int .i64 kd, .int .i64 p, .int .i64 q] wx fun e w' => e = .returned (.tuple #[]) ∧ ∃ a' c', RO (X.more w.heap.size (.cells #[.int .i64 8, .int .i64 (m : Int), .int .i64 v] 53)) w' (evM M' a' c') (tellE D' (now, kd, p, q)) K now) := hid fun kd p q M' D' wx hx hl' => tellW_ok _ M' D' K now kd p q wx hx hl'
  have HH := hid h1
  clear h h1 R1 hm
  go_enter Tryz.func46, Tryz.ntmps46
  go_wp2_with fail
  generalize hW : World.alloc w _ = W at *
  clear hW
  have hB : Below W.heap.size W W.drew := (Below.refl _ _).drew
  go_region_held3 (fun w' => w'.cell? ⟨w.heap.size, 0, none⟩ = some (.int .i64 8) ∧ w'.cell? ⟨w.heap.size, 1, none⟩ = some (.int .i64 (m : Int)) ∧ w'.cell? ⟨w.heap.size, 2, none⟩ = some (.int .i64 v))
    (first | with_reducible exact HS.out _ hB | with_reducible exact HS.out _ hB2 | go_keep)
    (first
      | (go_at_call 73; with_reducible refine Calls.mono (CM.out _ hB) ?_; rintro e w2 ⟨rfl, hb2⟩; have hB2 := btrans hB hb2; clear hb2))
  all_goals
    have HB2 := hid hB2
    have H2 := hid (HH.out.below HB2.out)
    have s0 := (HS.out _ HB2.out).1
    have s1 := (HS.out _ HB2.out).2.1
    have s2 := (HS.out _ HB2.out).2.2
    clear hB hB2 CM
    go_wp2
    go_end0
    exact ⟨rfl, _, H2.out.pop⟩

end Go.Proofs.YtildebflnmbefaaGreat
