/- Walks: what a reader that gave up comes to: parse. -/
import Derived.Test.YtaellaconpaejaaQe
import Derived.Defers
import Derived.Recover
set_option linter.unusedVariables false
namespace Go.Proofs.Ytaellaconpaejaa
open Go.RowKit

theorem assert97 (w : World) (v : Value) : (Instr.typeAssert (.iface 169 v) 20 169 true).run Try.prog w = .ok (.tuple #[v, .bool true]) w := by kernel_rfl
theorem assert97n (w : World) : (Instr.typeAssert .nilIface 20 169 true).run Try.prog w = .ok (.tuple #[.agg #[.int .i64 0], .bool false]) w := by kernel_rfl

theorem rep10 : Array.replicate 10 undef = #[undef, undef, undef, undef, undef, undef, undef, undef, undef, undef] := rfl

set_option maxRecDepth 100000 in
set_option maxHeartbeats 200000 in
theorem catch_bad (b3 b4 : Nat) (n : Nat) (x y : Int) (w : World) (h3 : w.cell? ⟨b3, 0, none⟩ = some (.int .i64 x)) (f3 : w.frozen? ⟨b3, 0, none⟩ = false) (h4 : w.cell? ⟨b4, 0, none⟩ = some (.int .i64 y)) (f4 : w.frozen? ⟨b4, 0, none⟩ = false) (hne : b3 ≠ b4) (l3 : b3 < w.heap.size) (l4 : b4 < w.heap.size) :
    CallsD Try.prog 126 #[.pointer (some ⟨b3, 0, none⟩), .pointer (some ⟨b4, 0, none⟩)] (.panicking [{ v := .iface 169 (.agg #[.int .i64 n]), recovered := false }]) w fun e u' w' =>
      e = .returned (.tuple #[]) ∧ u' = .panicking [{ v := .iface 169 (.agg #[.int .i64 n]), recovered := true }] ∧ w' = ((w.setCell ⟨b3, 0, none⟩ (.int .i64 n)).setCell ⟨b4, 0, none⟩ (.int .i64 1)).alloc (.cells #[.int .i64 n] 169) := by
  refine callsD_of_wpS Try.func126 rfl fun c₀ cs hu => ?_
  apply wpS_seq
  apply wpS_region
  simp [wpOpsS, go_sem, recoverD, hu, Try.ntmps126, Exit.thenS, assert97, rep10]
  refine wpS_of_wp ?_
  go_wp2
  simp [bodyPostS, results, Try.results126]

set_option maxRecDepth 100000 in
set_option maxHeartbeats 200000 in
theorem catch_idle (b3 b4 : Nat) (w : World) :
    CallsD Try.prog 126 #[.pointer (some ⟨b3, 0, none⟩), .pointer (some ⟨b4, 0, none⟩)] .returning w fun e u' w' =>
      e = .returned (.tuple #[]) ∧ u' = .returning ∧ w' = w.alloc (.cells #[.int .i64 0] 169) := by
  refine callsD_of_wpS Try.func126 rfl fun c₀ cs hu => ?_
  apply wpS_seq
  apply wpS_region
  simp [wpOpsS, go_sem, recoverD, hu, Try.ntmps126, Exit.thenS, assert97n, rep10]
  refine wpS_of_wp ?_
  go_wp2
  cases c₀
  simp_all [bodyPostS, results, Try.results126]

/-- No config. -/
abbrev zeroV : Value := .agg #[.int .i64 0, .int .i64 0, .int .i64 0, .int .i64 0, .int .i64 0, .slice none 0 0, .slice none 0 0, .slice none 0 0, .slice none 0 0]

/-- What parse comes to. -/
def parsed (w : World) (s : ByteArray) (e : Ending) (w' : World) : Prop :=
  Below w.heap.size w w' ∧ ((∃ C k v, pConf (nums s) = .ok (C, k) ∧ e = .returned (.tuple #[v, .int .i64 0, .int .i64 0]) ∧ isConf w.heap.size C v w') ∨ ∃ n, pConf (nums s) = .error n ∧ e = .returned (.tuple #[zeroV, .int .i64 n, .int .i64 1]))

set_option maxRecDepth 100000 in
set_option maxHeartbeats 1000000 in
theorem parse_any (s : ByteArray) (w : World) (hs : s.size ≤ 200) : Calls Try.prog 88 #[.string s] w (parsed w s) := by
  have hmf : ∀ (fn : Fn) (first cap : Array Value) (w : World), (Instr.makeFunc fn first cap).run Try.prog w = .ok (.func fn first cap) w := fun _ _ _ _ => rfl
  go_enter_defers Try.func88, Try.ntmps88
  go_wp2_with fail
  generalize hW : ((((w.alloc (.cells #[.int .i64 0, .int .i64 0, .int .i64 0, .int .i64 0, .int .i64 0, .slice none 0 0, .slice none 0 0, .slice none 0 0, .slice none 0 0] 46)).alloc (.cells #[.int .i64 0] 3)).alloc (.cells #[.int .i64 0] 25)).alloc (.cells #[.string s, .int .i64 0] 172)) = W at *
  have hWs : W.heap.size = w.heap.size + 4 := by rw [← hW]; simp
  have B2 : RowAt W w.heap.size 46 zero9 := by rw [← hW]; exact (((rowAt_new2 w _ zero9 46 rfl).alloc _).alloc _).alloc _
  have B3 : RowAt W (w.heap.size + 1) 3 [.int .i64 0] := by rw [← hW]; exact ((rowAt_new2 _ _ [.int .i64 0] 3 (by simp)).alloc _).alloc _
  have B4 : RowAt W (w.heap.size + 1 + 1) 25 [.int .i64 0] := by rw [← hW]; exact (rowAt_new2 _ _ [.int .i64 0] 25 (by simp)).alloc _
  have BR : Rd W (w.heap.size + 1 + 1 + 1) s 0 := by rw [← hW]; exact rowAt_new2 _ _ [.string s, .int .i64 0] 172 (by simp)
  have HB0 : Below w.heap.size w W := by rw [← hW]; exact ((((Below.refl _ _).alloc (Nat.le_refl _) _).alloc (by simp) _).alloc (by simp; omega) _).alloc (by simp; omega) _
  clear hW
  refine (config_any _ s W BR hs).mono ?_
  rintro e w1 ⟨hg, ⟨C, k, v, hp, hk, rfl, ⟨v5, v6, v7, v8, rfl, hO⟩, hR1⟩ | ⟨n, hp, rfl⟩⟩
  · obtain ⟨A, rfl, rfl, rfl, rfl, _⟩ := hO.conf
    have hsz := hg.size
    replace B2 := B2.grown' hg (by simp; omega)
    replace B3 := B3.grown' hg (by simp)
    replace B4 := B4.grown' hg (by simp)
    have HBl := hid (HB0.grown hg (by omega) (fun j hj => by simp at hj; omega))
    have HO := hid (((((((((((((hO.set 0 (.int .i64 C.s) (b := w.heap.size) (by omega)).set 1 (.int .i64 C.w) (b := w.heap.size) (by omega)).set 2 (.int .i64 C.d) (b := w.heap.size) (by omega)).set 3 (.int .i64 C.p) (b := w.heap.size) (by omega)).set 4 (.int .i64 C.q) (b := w.heap.size) (by omega)).set 5 (.slice A.a5 C.sl.length A.c5) (b := w.heap.size) (by omega)).set 6 (.slice A.a6 C.ow.length A.c6) (b := w.heap.size) (by omega)).set 7 (.slice A.a7 C.ch.length A.c7) (b := w.heap.size) (by omega)).set 8 (.slice A.a8 C.ta.length A.c8) (b := w.heap.size) (by omega)).set 0 (.int .i64 0) (b := w.heap.size + 1) (by omega)).set 0 (.int .i64 0) (b := w.heap.size + 1 + 1) (by omega)).below (below_new _ (.cells #[.int .i64 0] 169))).mono (base' := w.heap.size) (by omega))
    have R2 := hid ((((((((((((B2.setCell 0 (.int .i64 C.s)).setCell 1 (.int .i64 C.w)).setCell 2 (.int .i64 C.d)).setCell 3 (.int .i64 C.p)).setCell 4 (.int .i64 C.q)).setCell 5 (.slice A.a5 C.sl.length A.c5)).setCell 6 (.slice A.a6 C.ow.length A.c6)).setCell 7 (.slice A.a7 C.ch.length A.c7)).setCell 8 (.slice A.a8 C.ta.length A.c8)).setOther ⟨w.heap.size + 1, 0, none⟩ (.int .i64 0) (by show w.heap.size ≠ w.heap.size + 1; omega)).setOther ⟨w.heap.size + 1 + 1, 0, none⟩ (.int .i64 0) (by show w.heap.size ≠ w.heap.size + 1 + 1; omega)).alloc (.cells #[.int .i64 0] 169))
    have R3 := hid ((((((((((((B3.setOther ⟨w.heap.size, 0, none⟩ (.int .i64 C.s) (by show w.heap.size + 1 ≠ w.heap.size; omega)).setOther ⟨w.heap.size, 1, none⟩ (.int .i64 C.w) (by show w.heap.size + 1 ≠ w.heap.size; omega)).setOther ⟨w.heap.size, 2, none⟩ (.int .i64 C.d) (by show w.heap.size + 1 ≠ w.heap.size; omega)).setOther ⟨w.heap.size, 3, none⟩ (.int .i64 C.p) (by show w.heap.size + 1 ≠ w.heap.size; omega)).setOther ⟨w.heap.size, 4, none⟩ (.int .i64 C.q) (by show w.heap.size + 1 ≠ w.heap.size; omega)).setOther ⟨w.heap.size, 5, none⟩ (.slice A.a5 C.sl.length A.c5) (by show w.heap.size + 1 ≠ w.heap.size; omega)).setOther ⟨w.heap.size, 6, none⟩ (.slice A.a6 C.ow.length A.c6) (by show w.heap.size + 1 ≠ w.heap.size; omega)).setOther ⟨w.heap.size, 7, none⟩ (.slice A.a7 C.ch.length A.c7) (by show w.heap.size + 1 ≠ w.heap.size; omega)).setOther ⟨w.heap.size, 8, none⟩ (.slice A.a8 C.ta.length A.c8) (by show w.heap.size + 1 ≠ w.heap.size; omega)).setCell 0 (.int .i64 0)).setOther ⟨w.heap.size + 1 + 1, 0, none⟩ (.int .i64 0) (by show w.heap.size + 1 ≠ w.heap.size + 1 + 1; omega)).alloc (.cells #[.int .i64 0] 169))
    have R4 := hid ((((((((((((B4.setOther ⟨w.heap.size, 0, none⟩ (.int .i64 C.s) (by show w.heap.size + 1 + 1 ≠ w.heap.size; omega)).setOther ⟨w.heap.size, 1, none⟩ (.int .i64 C.w) (by show w.heap.size + 1 + 1 ≠ w.heap.size; omega)).setOther ⟨w.heap.size, 2, none⟩ (.int .i64 C.d) (by show w.heap.size + 1 + 1 ≠ w.heap.size; omega)).setOther ⟨w.heap.size, 3, none⟩ (.int .i64 C.p) (by show w.heap.size + 1 + 1 ≠ w.heap.size; omega)).setOther ⟨w.heap.size, 4, none⟩ (.int .i64 C.q) (by show w.heap.size + 1 + 1 ≠ w.heap.size; omega)).setOther ⟨w.heap.size, 5, none⟩ (.slice A.a5 C.sl.length A.c5) (by show w.heap.size + 1 + 1 ≠ w.heap.size; omega)).setOther ⟨w.heap.size, 6, none⟩ (.slice A.a6 C.ow.length A.c6) (by show w.heap.size + 1 + 1 ≠ w.heap.size; omega)).setOther ⟨w.heap.size, 7, none⟩ (.slice A.a7 C.ch.length A.c7) (by show w.heap.size + 1 + 1 ≠ w.heap.size; omega)).setOther ⟨w.heap.size, 8, none⟩ (.slice A.a8 C.ta.length A.c8) (by show w.heap.size + 1 + 1 ≠ w.heap.size; omega)).setOther ⟨w.heap.size + 1, 0, none⟩ (.int .i64 0) (by show w.heap.size + 1 + 1 ≠ w.heap.size + 1; omega)).setCell 0 (.int .i64 0)).alloc (.cells #[.int .i64 0] 169))
    have HB2 := hid ((((((((((((HBl.out.setCell (p := ⟨w.heap.size, 0, none⟩) (Nat.le_refl _) (.int .i64 C.s)).setCell (p := ⟨w.heap.size, 1, none⟩) (Nat.le_refl _) (.int .i64 C.w)).setCell (p := ⟨w.heap.size, 2, none⟩) (Nat.le_refl _) (.int .i64 C.d)).setCell (p := ⟨w.heap.size, 3, none⟩) (Nat.le_refl _) (.int .i64 C.p)).setCell (p := ⟨w.heap.size, 4, none⟩) (Nat.le_refl _) (.int .i64 C.q)).setCell (p := ⟨w.heap.size, 5, none⟩) (Nat.le_refl _) (.slice A.a5 C.sl.length A.c5)).setCell (p := ⟨w.heap.size, 6, none⟩) (Nat.le_refl _) (.slice A.a6 C.ow.length A.c6)).setCell (p := ⟨w.heap.size, 7, none⟩) (Nat.le_refl _) (.slice A.a7 C.ch.length A.c7)).setCell (p := ⟨w.heap.size, 8, none⟩) (Nat.le_refl _) (.slice A.a8 C.ta.length A.c8)).setCell (p := ⟨w.heap.size + 1, 0, none⟩) (by show w.heap.size ≤ w.heap.size + 1; omega) (.int .i64 0)).setCell (p := ⟨w.heap.size + 1 + 1, 0, none⟩) (by show w.heap.size ≤ w.heap.size + 1 + 1; omega) (.int .i64 0)).alloc (by simp [World.setCell]; omega) (.cells #[.int .i64 0] 169))
    have HP := hid hp
    have hb2s : w.heap.size < w1.heap.size := by omega
    have hb3s : w.heap.size + 1 < w1.heap.size := by omega
    have hb4s : w.heap.size + 1 + 1 < w1.heap.size := by omega
    have x0 := B2.cell 0 _ rfl
    have x1 := B2.cell 1 _ rfl
    have x2 := B2.cell 2 _ rfl
    have x3 := B2.cell 3 _ rfl
    have x4 := B2.cell 4 _ rfl
    have x5 := B2.cell 5 _ rfl
    have x6 := B2.cell 6 _ rfl
    have x7 := B2.cell 7 _ rfl
    have x8 := B2.cell 8 _ rfl
    have y0 := B2.frozen 0
    have y1 := B2.frozen 1
    have y2 := B2.frozen 2
    have y3 := B2.frozen 3
    have y4 := B2.frozen 4
    have y5 := B2.frozen 5
    have y6 := B2.frozen 6
    have y7 := B2.frozen 7
    have y8 := B2.frozen 8
    have t0 := B3.cell 0 _ rfl
    have t1 := B3.frozen 0
    have r0 := B4.cell 0 _ rfl
    have r1 := B4.frozen 0
    clear hg hp hO hR1 HB0 HBl B2 B3 B4 BR
    go_wp2
    refine leaves_cons (f := 126) (args := #[.pointer (some ⟨w.heap.size + 1, 0, none⟩), .pointer (some ⟨w.heap.size + 1 + 1, 0, none⟩)]) (by simp) (by simp [go_sem]) ?_
    refine (catch_idle (w.heap.size + 1) (w.heap.size + 1 + 1) _).mono ?_
    rintro e u' w'' ⟨rfl, rfl, rfl⟩
    generalize World.alloc _ _ = W2 at *
    have d0 := R2.out.cell 0 _ rfl
    have d1 := R2.out.cell 1 _ rfl
    have d2 := R2.out.cell 2 _ rfl
    have d3 := R2.out.cell 3 _ rfl
    have d4 := R2.out.cell 4 _ rfl
    have d5 := R2.out.cell 5 _ rfl
    have d6 := R2.out.cell 6 _ rfl
    have d7 := R2.out.cell 7 _ rfl
    have d8 := R2.out.cell 8 _ rfl
    have d9 := R3.out.cell 0 _ rfl
    have da := R4.out.cell 0 _ rfl
    refine ⟨.tuple #[cv C A, .int .i64 0, .int .i64 0], by simp [results, Try.results88, go_sem, d0, d1, d2, d3, d4, d5, d6, d7, d8, d9, da], HB2.out, .inl ⟨C, k, _, HP.out, rfl, _, _, _, _, rfl, HO.out⟩⟩
  · have hsz := hg.size
    replace B2 := B2.grown' hg (by simp; omega)
    replace B3 := B3.grown' hg (by simp)
    replace B4 := B4.grown' hg (by simp)
    have HBl := hid (HB0.grown hg (by omega) (fun j hj => by simp at hj; omega))
    have HP := hid hp
    clear hg hp HB0 BR
    refine leaves_cons (f := 126) (args := #[.pointer (some ⟨w.heap.size + 1, 0, none⟩), .pointer (some ⟨w.heap.size + 1 + 1, 0, none⟩)]) (by simp) (by simp [go_sem]) ?_
    refine (catch_bad (w.heap.size + 1) (w.heap.size + 1 + 1) n 0 0 _ (B3.cell 0 _ rfl) (B3.frozen 0) (B4.cell 0 _ rfl) (B4.frozen 0) (by omega) (by omega) (by omega)).mono ?_
    rintro e u' w'' ⟨rfl, rfl, rfl⟩
    have R2 := (((B2.setOther ⟨w.heap.size + 1, 0, none⟩ (.int .i64 n) (by show w.heap.size ≠ w.heap.size + 1; omega)).setOther ⟨w.heap.size + 1 + 1, 0, none⟩ (.int .i64 1) (by show w.heap.size ≠ w.heap.size + 1 + 1; omega)).alloc (.cells #[.int .i64 n] 169))
    have R3 := (((B3.setCell 0 (.int .i64 n)).setOther ⟨w.heap.size + 1 + 1, 0, none⟩ (.int .i64 1) (by show w.heap.size + 1 ≠ w.heap.size + 1 + 1; omega)).alloc (.cells #[.int .i64 n] 169))
    have R4 := (((B4.setOther ⟨w.heap.size + 1, 0, none⟩ (.int .i64 n) (by show w.heap.size + 1 + 1 ≠ w.heap.size + 1; omega)).setCell 0 (.int .i64 1)).alloc (.cells #[.int .i64 n] 169))
    have HB2 := (((HBl.out.setCell (p := ⟨w.heap.size + 1, 0, none⟩) (by show w.heap.size ≤ w.heap.size + 1; omega) (.int .i64 n)).setCell (p := ⟨w.heap.size + 1 + 1, 0, none⟩) (by show w.heap.size ≤ w.heap.size + 1 + 1; omega) (.int .i64 1)).alloc (by simp [World.setCell]; omega) (.cells #[.int .i64 n] 169))
    generalize World.alloc _ _ = W2 at *
    have d0 := R2.cell 0 _ rfl
    have d1 := R2.cell 1 _ rfl
    have d2 := R2.cell 2 _ rfl
    have d3 := R2.cell 3 _ rfl
    have d4 := R2.cell 4 _ rfl
    have d5 := R2.cell 5 _ rfl
    have d6 := R2.cell 6 _ rfl
    have d7 := R2.cell 7 _ rfl
    have d8 := R2.cell 8 _ rfl
    have d9 := R3.cell 0 _ rfl
    have da := R4.cell 0 _ rfl
    refine ⟨.tuple #[zeroV, .int .i64 n, .int .i64 1], by simp [results, Try.results88, go_sem, d0, d1, d2, d3, d4, d5, d6, d7, d8, d9, da], HB2, .inr ⟨n, HP.out, rfl⟩⟩
end Go.Proofs.Ytaellaconpaejaa
