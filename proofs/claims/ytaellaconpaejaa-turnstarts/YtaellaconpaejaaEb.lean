/- Walks: what arrived, where nothing did. -/
import Derived.Test.YtaellaconpaejaaEa
import Derived.Test.YtaellaconpaejaaZd
import Derived.Test.YtaellaconpaejaaYi
set_option linter.unusedVariables false
namespace Go.Proofs.Ytaellaconpaejaa
open Go.RowKit

set_option maxHeartbeats 400000 in
theorem index164_nil (f : Value) (w : World) : Calls Try.prog 164 #[.slice none 0 0, f] w fun e w' => e = .returned (.int .i64 (-1)) ∧ Below w.heap.size w w' := by
  go_enter Try.func164, Try.ntmps164
  go_wp2
  go_loopw [8] (fun i wr => i = .int .i64 0 ∧ Below w.heap.size w wr) (fun _ _ => 0)
  case atStart => exact ⟨rfl, Below.refl _ _⟩
  case round =>
    obtain ⟨rfl, hbl⟩ := hrel
    go_wp2
    go_ret
    exact ⟨rfl, hbl⟩
set_option maxHeartbeats 400000 in
theorem contains130_nil (f : Value) (w : World) : Calls Try.prog 130 #[.slice none 0 0, f] w fun e w' => e = .returned (.bool false) ∧ Below w.heap.size w w' := by
  go_enter Try.func130, Try.ntmps130
  go_wp2_with fail
  refine (index164_nil f _).mono ?_
  rintro e w' ⟨rfl, hb⟩
  go_wp2
  go_ret
  exact ⟨rfl, hb⟩

set_option maxRecDepth 100000 in
set_option maxHeartbeats 1000000 in
theorem checkArr_nil (C : Conf) (B : Mem) (dn fr to : Int) (w : World) (hC : ConfIn w B C) (h0 : ckC C = 0) (hd : inR dn 0 (C.d - 1) = true) (hf : inR fr 0 100000 = true) (ht : inR to 0 100000 = true) :
    Calls Try.prog 95 #[cv C B, .slice none 0 0, .int .i64 dn, .int .i64 fr, .int .i64 to] w fun e w' => e = .returned (.int .i64 0) ∧ Below w.heap.size w w' := by
  have q1 := below_new w (.cells (cl C B) 46)
  have HC := hid (hC.keep q1)
  have HX := hid (boxC_new w C B)
  have HB := hid q1
  have hd4 := ckC_d h0
  have H0 := hid h0
  have hmf : ∀ (fn : Fn) (first cap : Array Value) (w : World), (Instr.makeFunc fn first cap).run Try.prog w = .ok (.func fn first cap) w := fun _ _ _ _ => rfl
  have HDN := hid hd
  have HF := hid hf
  have HT := hid ht
  clear q1 hC h0 hd hf ht
  obtain ⟨a5, a6, a7, a8, c5, c6, c7, c8⟩ := B
  dsimp only [cv, cl] at *
  go_enter Try.func95, Try.ntmps95
  go_wp2_with fail
  refine (checkC_any C ⟨a5, a6, a7, a8, c5, c6, c7, c8⟩ _ HC.out).mono ?_
  rintro e w1 ⟨rfl, hb1⟩
  rw [H0.out]
  have g2 := (HX.out.keep hb1).h2
  have HB1 := hid (btrans HB.out hb1)
  clear hb1 HB HC
  have hw1 : wrap64 (C.d - 1) = C.d - 1 := by unfold wrap64; omega
  go_wp2_with fail
  refine (within_any _ _ _ _).mono ?_
  rintro e w' ⟨rfl, rfl⟩
  rw [HDN.out]
  go_wp2_with fail
  refine (contains130_nil _ _).mono ?_
  rintro e w2 ⟨rfl, hb2⟩
  go_wp2_with fail
  refine (contains130_nil _ _).mono ?_
  rintro e w3 ⟨rfl, hb3⟩
  have HB3 := hid (btrans HB1.out (btrans hb2 hb3))
  clear hb2 hb3 g2 HX
  go_wp2_with fail
  refine (within_any _ _ _ _).mono ?_
  rintro e w' ⟨rfl, rfl⟩
  rw [HF.out]
  go_wp2_with fail
  refine (within_any _ _ _ _).mono ?_
  rintro e w' ⟨rfl, rfl⟩
  rw [HT.out]
  go_wp2
  go_ret
  exact ⟨rfl, HB3.out⟩

theorem make42_any (n : Nat) (h : n ≤ 1000000000000) (w : World) : (Instr.makeSlice 42 (.int .i64 (n : Int)) (.int .i64 (n : Int))).run Try.prog w = .ok (.slice (some ⟨w.heap.size, 0, none⟩) n n) (w.alloc (.cells (madeCells #[.int .i64 0] n) 3)) :=
  run_make_row' (P := Try.prog) 42 3 (.int .i64 0) 8 Try.underlying42 Try.info3x rfl .i64 .i64 n (by omega) (by omega) w

theorem made_ints {w : World} {g n : Nat} (h : w.heap[g]? = some (.cells (madeCells #[.int .i64 0] n) 3 (0, 0))) : IntsIn w (some ⟨g, 0, none⟩) (List.replicate n 0) := by
  intro i hi
  refine ⟨g, 0, rfl, ?_⟩
  have hi' : i < n := by simpa using hi
  simp [World.cell?, h, madeCells, hi', Nat.mod_one]

set_option maxRecDepth 100000 in
set_option maxHeartbeats 1000000 in
theorem arrived_nil (C : Conf) (B : Mem) (dn fr to : Int) (w : World) (hC : ConfIn w B C) (h0 : ckC C = 0) (hd : inR dn 0 (C.d - 1) = true) (hf : inR fr 0 100000 = true) (ht : inR to 0 100000 = true) :
    Calls Try.prog 43 #[cv C B, .slice none 0 0, .int .i64 dn, .int .i64 fr, .int .i64 to] w fun e w' => ∃ g, e = .returned (.tuple #[.slice (some ⟨g, 0, none⟩) C.ow.length C.ow.length, .int .i64 0]) ∧ IntsIn w' (some ⟨g, 0, none⟩) (List.replicate C.ow.length 0) ∧ Below w.heap.size w w' := by
  have q1 := below_new w (.cells (cl C B) 46)
  have HC := hid (hC.keep q1)
  have HX := hid (boxC_new w C B)
  have HB := hid q1
  have hmk := make42_any C.ow.length (by have := (ck_ok h0).2.2.1; unfold ckCnt at this; split at this <;> rename_i hx <;> simp [inR] at hx <;> omega)
  clear q1 hC
  obtain ⟨a5, a6, a7, a8, c5, c6, c7, c8⟩ := B
  dsimp only [cv, cl] at *
  go_enter Try.func43, Try.ntmps43
  go_wp2_with fail
  refine (checkArr_nil C ⟨a5, a6, a7, a8, c5, c6, c7, c8⟩ dn fr to _ HC.out h0 hd hf ht).mono ?_
  rintro e w1 ⟨rfl, hb1⟩
  have g6 := (HX.out.keep hb1).h6
  have HB1 := hid (btrans HB.out (btrans hb1 (below_new w1 (.cells (madeCells #[.int .i64 0] C.ow.length) 3))))
  have HM := hid (made_ints (n := C.ow.length) (heap_alloc_new w1 (.cells (madeCells #[.int .i64 0] C.ow.length) 3)))
  clear hb1 HB HC h0 hd hf ht
  go_wp2
  clear hmk
  go_loopw [31] (fun i wr => i = .int .i64 0 ∧ wr = w1.alloc (.cells (madeCells #[.int .i64 0] C.ow.length) 3)) (fun _ _ => 0)
  case atStart => exact ⟨rfl, rfl⟩
  case round =>
    obtain ⟨rfl, rfl⟩ := hrel
    go_wp2
    go_ret2
    exact ⟨w1.heap.size, rfl, HM.out, HB1.out⟩

end Go.Proofs.Ytaellaconpaejaa
