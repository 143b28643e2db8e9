/- Walks: an action is done. -/
import Derived.Test.YtildebflnmbefaaGreatKv
import Derived.Test.YtildebflnmbefaaGreatKq
import Derived.Test.YtildebflnmbefaaGreatKw
set_option linter.unusedVariables false
namespace Go.Proofs.YtildebflnmbefaaGreat
open Go.RowKit

set_option maxRecDepth 100000 in
set_option maxHeartbeats 2000000 in
theorem act_4 (X : RC) (M : RM) (D : Dom) (K : KT) (now : Int) (m : Nat) (v cost : Int) (w : World) (h : RO X w M D K now) (hl : D.evs.length ≤ 1000000000000) (hm : mayA X.C X.dn (4, (m : Int), v) = true) (hO : D.out.length = X.C.ch.length) (hout : ∀ l ∈ D.out, l.length ≤ 1000000000) :
    Calls Tryz.prog 46 #[.pointer (some ⟨X.rb, 0, none⟩), .agg #[.int .i64 4, .int .i64 (m : Int), .int .i64 v], .int .i64 cost] w fun e w' => e = .returned (.tuple #[]) ∧ ∃ M', RO X w' M' (tellE (sendD D m v) (now, 9, (m : Int), 0)) K now := by
  have h1 := h.push (.cells #[.int .i64 4, .int .i64 (m : Int), .int .i64 v] 53)
  have hrb : X.rb < w.heap.size := h.row.lt
  have R1 := h1.topRow
  have HS : Hid (∀ w', Below (w.alloc (.cells #[.int .i64 4, .int .i64 (m : Int), .int .i64 v] 53)).heap.size (w.alloc (.cells #[.int .i64 4, .int .i64 (m : Int), .int .i64 v] 53)) w' → w'.cell? ⟨w.heap.size, 0, none⟩ = some (.int .i64 4) ∧ w'.cell? ⟨w.heap.size, 1, none⟩ = some (.int .i64 (m : Int)) ∧ w'.cell? ⟨w.heap.size, 2, none⟩ = some (.int .i64 v)) := hid fun w' hb => ⟨bkeep hb (R1.cell 0 _ rfl) (Nat.le_refl _), bkeep hb (R1.cell 1 _ rfl) (Nat.le_refl _), bkeep hb (R1.cell 2 _ rfl) (Nat.le_refl _)⟩
  have CM : Hid (∀ wx, Below (w.alloc (.cells #[.int .i64 4, .int .i64 (m : Int), .int .i64 v] 53)).heap.size (w.alloc (.cells #[.int .i64 4, .int .i64 (m : Int), .int .i64 v] 53)) wx → Calls Tryz.prog 73 #[.pointer (some ⟨X.rb, 0, none⟩), .agg #[.int .i64 4, .int .i64 (m : Int), .int .i64 v]] wx fun e w' => e = .returned (.bool true) ∧ Below wx.heap.size wx w') := hid fun wx hb => by
    have := mayW_ok _ M D K now (4, (m : Int), v) wx (h1.below hb) (by simp)
    rw [hm] at this
    exact this
  have CT : Hid (∀ kd p q M' D' wx, RO (X.more w.heap.size (.cells #[.int .i64 4, .int .i64 (m : Int), .int .i64 v] 53)) wx M' D' K now → D'.evs.length ≤ 1000000000000 → Calls Tryz.prog 72 #[.pointer (some ⟨X.rb, 0, none⟩), .int .i64 kd, .int .i64 p, .int .i64 q] wx fun e w' => e = .returned (.tuple #[]) ∧ ∃ a' c', RO (X.more w.heap.size (.cells #[.int .i64 4, .int .i64 (m : Int), .int .i64 v] 53)) w' (evM M' a' c') (tellE D' (now, kd, p, q)) K now) := hid fun kd p q M' D' wx hx hl' => tellW_ok _ M' D' K now kd p q wx hx hl'
  have HH := hid h1
  have hlt : m < D.out.length := by
    rw [hO]
    simp [mayA] at hm
    omega
  have hol := hout _ (List.getElem_mem hlt)
  have CS : Hid (∀ wx, RO (X.more w.heap.size (.cells #[.int .i64 4, .int .i64 (m : Int), .int .i64 v] 53)) wx M D K now → Calls Tryz.prog 74 #[.pointer (some ⟨X.rb, 0, none⟩), .int .i64 (m : Int), .int .i64 v] wx fun e w' => e = .returned (.tuple #[]) ∧ ∃ M', RO (X.more w.heap.size (.cells #[.int .i64 4, .int .i64 (m : Int), .int .i64 v] 53)) w' M' (sendD D m v) K now) := hid fun wx hx => (sendW_ok _ M D K now v m wx hx hlt hol).mono fun e w' ⟨h1, M', _, h2⟩ => ⟨h1, M', h2⟩
  clear h h1 R1 hm
  go_enter Tryz.func46, Tryz.ntmps46
  go_wp2_with fail
  generalize hW : World.alloc w _ = W at *
  clear hW
  have hB : Below W.heap.size W W.drew := (Below.refl _ _).drew
  go_region_held3 (fun w' => w'.cell? ⟨w.heap.size, 0, none⟩ = some (.int .i64 4) ∧ w'.cell? ⟨w.heap.size, 1, none⟩ = some (.int .i64 (m : Int)) ∧ w'.cell? ⟨w.heap.size, 2, none⟩ = some (.int .i64 v))
    (first | with_reducible exact HS.out _ hB | with_reducible exact HS.out _ hB2 | go_keep)
    (first
      | (go_at_call 73; with_reducible refine Calls.mono (CM.out _ hB) ?_; rintro e w2 ⟨rfl, hb2⟩; have hB2 := btrans hB hb2; clear hb2))
  all_goals
    have HB2 := hid hB2
    have H2 := hid (HH.out.below HB2.out)
    have s0 := (HS.out _ HB2.out).1
    have s1 := (HS.out _ HB2.out).2.1
    have s2 := (HS.out _ HB2.out).2.2
    clear hB hB2 CM
    have hR2 : RO _ w2.drew M D K now := H2.out.below (Below.refl _ _).drew
    have HR2 := hid hR2
    clear hR2
    go_wp2_with fail
    go_region_held3 (fun w' => w'.cell? ⟨w.heap.size, 0, none⟩ = some (.int .i64 4) ∧ w'.cell? ⟨w.heap.size, 1, none⟩ = some (.int .i64 (m : Int)) ∧ w'.cell? ⟨w.heap.size, 2, none⟩ = some (.int .i64 v))
      (first | exact ⟨s0, s1, s2⟩ | exact ⟨r0, r1, r2⟩ | go_keep)
      (first
        | (go_at_call 74; with_reducible refine Calls.mono (CS.out _ HR2.out) ?_; rintro e w3 ⟨rfl, M3, h3⟩; have R3 := h3.topRow; have r0 := R3.cell 0 _ rfl; have r1 := R3.cell 1 _ rfl; have r2 := R3.cell 2 _ rfl; have H3 := hid h3; clear h3 R3))
    all_goals
      clear s0 s1 s2
      go_wp2_with fail
      refine Calls.mono (CT.out 9 (m : Int) 0 _ _ _ H3.out hl) ?_
      rintro e w4 ⟨rfl, a', c', h4⟩
      have H4 := hid h4.pop
      clear h4 CT
      go_wp2
      first
        | (go_end0; exact ⟨rfl, _, H4.out⟩)
        | exact bodyPost_ret (v := .tuple #[]) (by simp [results, Tryz.results46, go_sem]) rfl ⟨rfl, _, H4.out⟩

set_option maxRecDepth 100000 in
set_option maxHeartbeats 2000000 in
theorem act_5 (X : RC) (M : RM) (D : Dom) (K : KT) (now : Int) (m : Nat) (v cost : Int) (w : World) (h : RO X w M D K now) (hl : D.evs.length ≤ 1000000000000) (hm : mayA X.C X.dn (5, (m : Int), v) = true) (hI : D.ins.length = X.C.ch.length) :
    Calls Tryz.prog 46 #[.pointer (some ⟨X.rb, 0, none⟩), .agg #[.int .i64 5, .int .i64 (m : Int), .int .i64 v], .int .i64 cost] w fun e w' => e = .returned (.tuple #[]) ∧ ∃ M', RO X w' M' (tellE (recvD X.C D m) (now, 8, (m : Int), recvZ X.C D m)) K now := by
  have h1 := h.push (.cells #[.int .i64 5, .int .i64 (m : Int), .int .i64 v] 53)
  have hrb : X.rb < w.heap.size := h.row.lt
  have R1 := h1.topRow
  have HS : Hid (∀ w', Below (w.alloc (.cells #[.int .i64 5, .int .i64 (m : Int), .int .i64 v] 53)).heap.size (w.alloc (.cells #[.int .i64 5, .int .i64 (m : Int), .int .i64 v] 53)) w' → w'.cell? ⟨w.heap.size, 0, none⟩ = some (.int .i64 5) ∧ w'.cell? ⟨w.heap.size, 1, none⟩ = some (.int .i64 (m : Int)) ∧ w'.cell? ⟨w.heap.size, 2, none⟩ = some (.int .i64 v)) := hid fun w' hb => ⟨bkeep hb (R1.cell 0 _ rfl) (Nat.le_refl _), bkeep hb (R1.cell 1 _ rfl) (Nat.le_refl _), bkeep hb (R1.cell 2 _ rfl) (Nat.le_refl _)⟩
  have CM : Hid (∀ wx, Below (w.alloc (.cells #[.int .i64 5, .int .i64 (m : Int), .int .i64 v] 53)).heap.size (w.alloc (.cells #[.int .i64 5, .int .i64 (m : Int), .int .i64 v] 53)) wx → Calls Tryz.prog 73 #[.pointer (some ⟨X.rb, 0, none⟩), .agg #[.int .i64 5, .int .i64 (m : Int), .int .i64 v]] wx fun e w' => e = .returned (.bool true) ∧ Below wx.heap.size wx w') := hid fun wx hb => by
    have := mayW_ok _ M D K now (5, (m : Int), v) wx (h1.below hb) (by simp)
    rw [hm] at this
    exact this
  have CT : Hid (∀ kd p q M' D' wx, RO (X.more w.heap.size (.cells #[.int .i64 5, .int .i64 (m : Int), .int .i64 v] 53)) wx M' D' K now → D'.evs.length ≤ 1000000000000 → Calls Tryz.prog 72 #[.pointer (some ⟨X.rb, 0, none⟩), .int .i64 kd, .int .i64 p, .int .i64 q] wx fun e w' => e = .returned (.tuple #[]) ∧ ∃ a' c', RO (X.more w.heap.size (.cells #[.int .i64 5, .int .i64 (m : Int), .int .i64 v] 53)) w' (evM M' a' c') (tellE D' (now, kd, p, q)) K now) := hid fun kd p q M' D' wx hx hl' => tellW_ok _ M' D' K now kd p q wx hx hl'
  have HH := hid h1
  have hlc : m < X.C.ch.length := by
    simp [mayA] at hm
    omega
  have hlt : m < D.ins.length := by omega
  have CS : Hid (∀ wx, RO (X.more w.heap.size (.cells #[.int .i64 5, .int .i64 (m : Int), .int .i64 v] 53)) wx M D K now → Calls Tryz.prog 75 #[.pointer (some ⟨X.rb, 0, none⟩), .int .i64 (m : Int)] wx fun e w' => e = .returned (.int .i64 (recvZ X.C D m)) ∧ ∃ M', RO (X.more w.heap.size (.cells #[.int .i64 5, .int .i64 (m : Int), .int .i64 v] 53)) w' M' (recvD X.C D m) K now) := hid fun wx hx => (receiveW_ok _ M D K now m wx hx hlt hlc).mono fun e w' ⟨h1, M', _, h2⟩ => ⟨h1, M', h2⟩
  clear h h1 R1 hm
  go_enter Tryz.func46, Tryz.ntmps46
  go_wp2_with fail
  generalize hW : World.alloc w _ = W at *
  clear hW
  have hB : Below W.heap.size W W.drew := (Below.refl _ _).drew
  go_region_held3 (fun w' => w'.cell? ⟨w.heap.size, 0, none⟩ = some (.int .i64 5) ∧ w'.cell? ⟨w.heap.size, 1, none⟩ = some (.int .i64 (m : Int)) ∧ w'.cell? ⟨w.heap.size, 2, none⟩ = some (.int .i64 v))
    (first | with_reducible exact HS.out _ hB | with_reducible exact HS.out _ hB2 | go_keep)
    (first
      | (go_at_call 73; with_reducible refine Calls.mono (CM.out _ hB) ?_; rintro e w2 ⟨rfl, hb2⟩; have hB2 := btrans hB hb2; clear hb2))
  all_goals
    have HB2 := hid hB2
    have H2 := hid (HH.out.below HB2.out)
    have s0 := (HS.out _ HB2.out).1
    have s1 := (HS.out _ HB2.out).2.1
    have s2 := (HS.out _ HB2.out).2.2
    clear hB hB2 CM
    have hR2 : RO _ w2.drew M D K now := H2.out.below (Below.refl _ _).drew
    have HR2 := hid hR2
    clear hR2
    generalize hrz : recvZ X.C D m = rz at *
    have HZ := hid hrz
    clear hrz
    have hl2 : (recvD X.C D m).evs.length ≤ 1000000000000 := hl
    go_wp2_with fail
    go_region_held3 (fun w' => w'.cell? ⟨w.heap.size, 0, none⟩ = some (.int .i64 5) ∧ w'.cell? ⟨w.heap.size, 1, none⟩ = some (.int .i64 (m : Int)) ∧ w'.cell? ⟨w.heap.size, 2, none⟩ = some (.int .i64 v))
      (first | exact ⟨s0, s1, s2⟩ | exact ⟨r0, r1, r2⟩ | exact ⟨q0, q1, q2⟩ | go_keep)
      (first
        | (go_at_call 75; with_reducible refine Calls.mono (CS.out _ HR2.out) ?_; rintro e w3 ⟨rfl, M3, h3⟩; have R3 := h3.topRow; have r0 := R3.cell 0 _ rfl; have r1 := R3.cell 1 _ rfl; have r2 := R3.cell 2 _ rfl; have H3 := hid h3; clear h3 R3)
        | (go_at_call 72; with_reducible refine Calls.mono (CT.out 8 (m : Int) rz _ _ _ H3.out hl2) ?_; rintro e w4 ⟨rfl, a', c', h4⟩; have R4 := h4.topRow; have q0 := R4.cell 0 _ rfl; have q1 := R4.cell 1 _ rfl; have q2 := R4.cell 2 _ rfl; have H4 := hid h4.pop; clear h4 R4))
    all_goals
      clear s0 s1 s2 r0 r1 r2 CT
      go_wp2
      go_end0
      exact ⟨rfl, _, by rw [HZ.out]; exact H4.out⟩

end Go.Proofs.YtildebflnmbefaaGreat
