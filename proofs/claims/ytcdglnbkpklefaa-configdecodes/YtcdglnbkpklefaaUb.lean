/- Walks of the document's answer: an image decoded, by positions. -/
import Derived.Test.YtcdglnbkpklefaaUa
import Derived.Test.YtcdglnbkpklefaaTa
set_option linter.unusedVariables false
namespace Go.Proofs.Ytcdglnbkpklefaa
open Go.RowKit

theorem Try.info3d : (Try.prog.info? 3).map (fun i => (i.zero, i.size, i.bytes)) = some (some (.int .i64 0), 1, 8) := by kernel_rfl

/-- Where the counts stand, as they lie in memory. -/
def pl (B : List Int) (k : Nat) : List Value := (List.range k).map fun j => .int .i64 (ps B j : Int)
theorem pl_snoc (B : List Int) (k : Nat) : pl B (k + 1) = pl B k ++ [.int .i64 (ps B k : Int)] := by simp [pl, List.range_succ]
theorem pl_len (B : List Int) (k : Nat) : (pl B k).length = k := by simp [pl]

/-- Memory while an image is decoded. -/
structure Dm (w wr : World) (s : ByteArray) : Prop where
  below : Below w.heap.size w wr
  r1 : RowAt wr w.heap.size 9 [.string s]
  r2 : RowAt wr (w.heap.size + 1) 46 zero9
  r3 : RowAt wr (w.heap.size + 1 + 1) 3 [.int .i64 3, .int .i64 1, .int .i64 3, .int .i64 7]
  r4 : RowAt wr (w.heap.size + 1 + 1 + 1) 3 [.int .i64 6, .int .i64 4, .int .i64 4, .int .i64 6]

theorem Dm.bel {w wr w' : World} {s : ByteArray} (h : Dm w wr s) (hb : Below wr.heap.size wr w') : Dm w w' s :=
  ⟨btrans h.below hb, h.r1.below hb (Nat.le_refl _), h.r2.below hb (Nat.le_refl _), h.r3.below hb (Nat.le_refl _), h.r4.below hb (Nat.le_refl _)⟩
theorem Dm.lt {w wr : World} {s : ByteArray} (h : Dm w wr s) : w.heap.size + 1 + 1 + 1 < wr.heap.size := h.r4.lt
theorem Dm.grow {w wr wm w1 : World} {s : ByteArray} {row : Option Nat} (h : Dm w wr s) (hb : Below wr.heap.size wr wm) (hg : wm.grownBy w1 row) (hr : ∀ k, row = some k → w.heap.size + 1 + 1 + 1 + 1 ≤ k) : Dm w w1 s := by
  have q := h.bel hb
  have hl := h.lt
  have hs := hb.size
  refine ⟨q.below.grown hg (by omega) (fun k hk => by have := hr k hk; omega), q.r1.grown' hg ?_, q.r2.grown' hg ?_, q.r3.grown' hg ?_, q.r4.grown' hg ?_⟩ <;>
    (intro e; have := hr _ e.symm; omega)

/-- Memory while the config itself is made. -/
structure Dn (w wr : World) (s : ByteArray) (v8 : Value) (cb : Nat) (V : List Value) : Prop where
  below : Below w.heap.size w wr
  r1 : RowAt wr w.heap.size 9 [.string s]
  r2 : RowAt wr (w.heap.size + 1) 46 zero9
  cn : wr.ownsRow (w.heap.size + 1 + 1 + 1 + 1) 3 1 v8 4 (pl (nums s) 4)
  lc : w.heap.size + 1 + 1 + 1 + 1 ≤ cb
  nc : ∀ k, v8.ownBlock = some k → k < cb
  bx : RowAt wr cb 46 V

theorem Dn.bel {w wr w' : World} {s : ByteArray} {v8 : Value} {cb : Nat} {V : List Value} (h : Dn w wr s v8 cb V) (hb : Below wr.heap.size wr w') : Dn w w' s v8 cb V :=
  ⟨btrans h.below hb, h.r1.below hb (Nat.le_refl _), h.r2.below hb (Nat.le_refl _), owns_below' h.cn hb, h.lc, h.nc, h.bx.below hb (Nat.le_refl _)⟩
theorem Dn.grow {w wr w1 : World} {s : ByteArray} {v8 : Value} {cb : Nat} {V : List Value} {row : Option Nat} (h : Dn w wr s v8 cb V) (hg : wr.grownBy w1 row) (hr : ∀ k, row = some k → cb < k) : Dn w w1 s v8 cb V := by
  have hl := h.lc
  have hb := h.bx.lt
  refine ⟨h.below.grown hg (by omega) (fun k hk => by have := hr k hk; omega), h.r1.grown' hg ?_, h.r2.grown' hg ?_, h.cn.kept hg ?_, h.lc, h.nc, h.bx.grown' hg ?_⟩
  · intro e; have := hr _ e.symm; omega
  · intro e; have := hr _ e.symm; omega
  · cases hv : v8.ownBlock with
    | none => exact .inl rfl
    | some k => right; intro e; have := hr _ e.symm; have := h.nc k hv; omega
  · intro e; have := hr _ e.symm; omega
theorem Dn.set {w wr : World} {s : ByteArray} {v8 : Value} {cb : Nat} {V : List Value} (h : Dn w wr s v8 cb V) (i : Nat) (u : Value) : Dn w (wr.setCell ⟨cb, i, none⟩ u) s v8 cb (V.set i u) := by
  have hl := h.lc
  refine ⟨h.below.setCell (by show w.heap.size ≤ cb; omega) u, h.r1.setOther _ _ (by show w.heap.size ≠ cb; omega), h.r2.setOther _ _ (by show w.heap.size + 1 ≠ cb; omega), h.cn.kept (grow_setCell _ _ _ _) ?_, h.lc, h.nc, h.bx.setCell i u⟩
  cases hv : v8.ownBlock with
  | none => exact .inl rfl
  | some k => right; have := h.nc k hv; simp; omega

theorem Dn.over {w W wr : World} {s : ByteArray} {v8 : Value} {cb : Nat} {V V' : List Value} (h : Dn w W s v8 cb V) (hg : W.grownBy wr (some cb)) (hb : RowAt wr cb 46 V') : Dn w wr s v8 cb V' := by
  have hl := h.lc
  have hbl := h.bx.lt
  refine ⟨h.below.grown hg (by omega) (fun k hk => by simp at hk; omega), h.r1.grown' hg (by simp; omega), h.r2.grown' hg (by simp; omega), h.cn.kept hg ?_, h.lc, h.nc, hb⟩
  cases hv : v8.ownBlock with
  | none => exact .inl rfl
  | some k => right; have := h.nc k hv; simp; omega

/-- One more item of a list that lies behind a field. -/
theorem grow_more {W wr wm w1 : World} {cb i : Nat} {row : Option Nat} {u : Value} (h : W.grownBy wr (some cb)) (hb : Below wr.heap.size wr wm) (hg : wm.grownBy w1 row) (hr : ∀ k, row = some k → W.heap.size ≤ k) : W.grownBy (w1.setCell ⟨cb, i, none⟩ u) (some cb) := by
  have h1 := h.size
  have h2 := hb.size
  have h3 := hg.size
  refine ⟨(hg.os.trans hb.os).trans h.os, (hg.tape.trans hb.tape).trans h.tape, (hg.output.trans hb.output).trans h.output, by simp [World.setCell]; omega, fun k hk hne => ?_⟩
  rw [Below.heap_setCell _ _ _ _ (by intro e; exact hne (by rw [e])), hg.block k (by omega) (fun e => by have := hr k e.symm; omega), hb.block k (by omega), h.block k hk hne]

theorem step_is_append {P : Program} {ops : Array Oper} {o : Oper} {a : Act} {w : World} {K : Act → World → Prop} {Q : Exit → Act → World → Prop} {E : Prop} (s x : Operand) (t : TypeId)
    (ho : o.op = .call { callee := .builtin .append, args := #[s, x], argTypes := #[t, t] }) (h : if Region.wanted o (yielded ops a.tmps) = true then Oper.wp P o a w K Q else E) : if Region.wanted o (yielded ops a.tmps) = true then Oper.wp P o a w K Q else E := h

theorem owns_row_set {w : World} {base e size n cb i : Nat} {v u : Value} {xs : List Value} (h : w.ownsRow base e size v n xs) (hb : cb < base) : (w.setCell ⟨cb, i, none⟩ u).ownsRow base e size v n xs := owns_kept h (grow_setCell _ _ _ _) hb

theorem pl_cell {w : World} {base g cap : Nat} {B : List Int} (h : w.ownsRow base 3 1 (.slice (some ⟨g, 0, none⟩) 4 cap) 4 (pl B 4)) (j : Nat) (hj : j < 4) : w.cell? ⟨g, j, none⟩ = some (.int .i64 (ps B j : Int)) := by
  have := h.cells (g := g) rfl j (.int .i64 (ps B j : Int)) (by simp [pl, hj])
  rwa [addZ] at this

theorem ps_le (B : List Int) : ps B 1 ≤ ps B 4 ∧ ps B 2 ≤ ps B 4 ∧ ps B 3 ≤ ps B 4 := by
  have e2 : ps B 2 = ps B 1 + 1 + 1 * cnt B (ps B 1) := rfl
  have e3 : ps B 3 = ps B 2 + 1 + 3 * cnt B (ps B 2) := rfl
  have e4 : ps B 4 = ps B 3 + 1 + 7 * cnt B (ps B 3) := rfl
  omega

/-- Nothing is written over nothing. -/
def zw (w : World) (b : Nat) : World := (((((((((w.setCell ⟨b, 0, none⟩ (.int .i64 0)).setCell ⟨b, 1, none⟩ (.int .i64 0)).setCell ⟨b, 2, none⟩ (.int .i64 0)).setCell ⟨b, 3, none⟩ (.int .i64 0)).setCell ⟨b, 4, none⟩ (.int .i64 0)).setCell ⟨b, 5, none⟩ (.slice none 0 0)).setCell ⟨b, 6, none⟩ (.slice none 0 0)).setCell ⟨b, 7, none⟩ (.slice none 0 0)).setCell ⟨b, 8, none⟩ (.slice none 0 0))
theorem zw_row {w : World} {b : Nat} (h : RowAt w b 46 zero9) : RowAt (zw w b) b 46 zero9 := by
  unfold zw
  exact (((((((((h.setCell 0 (.int .i64 0)).setCell 1 (.int .i64 0)).setCell 2 (.int .i64 0)).setCell 3 (.int .i64 0)).setCell 4 (.int .i64 0)).setCell 5 (.slice none 0 0)).setCell 6 (.slice none 0 0)).setCell 7 (.slice none 0 0)).setCell 8 (.slice none 0 0))
theorem zw_below {w w' : World} {b : Nat} (h : Below w.heap.size w w') (hb : w.heap.size ≤ b) : Below w.heap.size w (zw w' b) := by
  unfold zw
  exact (((((((((h.setCell (p := ⟨b, 0, none⟩) hb (.int .i64 0)).setCell (p := ⟨b, 1, none⟩) hb (.int .i64 0)).setCell (p := ⟨b, 2, none⟩) hb (.int .i64 0)).setCell (p := ⟨b, 3, none⟩) hb (.int .i64 0)).setCell (p := ⟨b, 4, none⟩) hb (.int .i64 0)).setCell (p := ⟨b, 5, none⟩) hb (.slice none 0 0)).setCell (p := ⟨b, 6, none⟩) hb (.slice none 0 0)).setCell (p := ⟨b, 7, none⟩) hb (.slice none 0 0)).setCell (p := ⟨b, 8, none⟩) hb (.slice none 0 0))

theorem zero_read {w : World} {b : Nat} {t3 t4 : Value} {tmps : Array Value} (h : RowAt w b 46 zero9) (h2 : tmps[2]? = some (.pointer (some ⟨b, 0, none⟩))) (h3 : tmps[3]? = some t3) (h4 : tmps[4]? = some t4) : (results Try.f31 tmps).run Try.prog w = .ok (.tuple #[zeroV, t3, t4]) w := by
  have d0 := h.cell 0 _ rfl
  have d1 := h.cell 1 _ rfl
  have d2 := h.cell 2 _ rfl
  have d3 := h.cell 3 _ rfl
  have d4 := h.cell 4 _ rfl
  have d5 := h.cell 5 _ rfl
  have d6 := h.cell 6 _ rfl
  have d7 := h.cell 7 _ rfl
  have d8 := h.cell 8 _ rfl
  simp [results, Try.results31, go_sem, h2, h3, h4, d0, d1, d2, d3, d4, d5, d6, d7, d8]

set_option maxRecDepth 100000 in
set_option maxHeartbeats 8000000 in
theorem decodeOf_any (s : ByteArray) (w : World) (hm : s.size ≤ 9223372036854775807) : Calls Try.prog 31 #[.string s] w (decoded w s) := by
  obtain ⟨i3, hi, hz, hsz, hby⟩ := infoOf Try.info3d
  have hmf : ∀ (fn : Fn) (first cap : Array Value) (w : World), (Instr.makeFunc fn first cap).run Try.prog w = .ok (.func fn first cap) w := fun _ _ _ _ => rfl
  have hln : (nums s).length = s.size := nums_len s
  have HLN := hid hln
  clear hln
  by_cases hbig : 200 < s.size
  · have HD : Hid (dec (nums s) = (zeroC, 0, 2)) := hid (by rw [dec, if_pos (by rw [HLN.out]; exact hbig)])
    have R0 : Hid (RowAt ((w.alloc (.cells #[.string s] 9)).alloc (.cells #[.int .i64 0, .int .i64 0, .int .i64 0, .int .i64 0, .int .i64 0, .slice none 0 0, .slice none 0 0, .slice none 0 0, .slice none 0 0] 46)) (w.heap.size + 1) 46 zero9) := hid (rowAt_new2 _ _ zero9 46 (by simp))
    have B0 : Hid (Below w.heap.size w ((w.alloc (.cells #[.string s] 9)).alloc (.cells #[.int .i64 0, .int .i64 0, .int .i64 0, .int .i64 0, .int .i64 0, .slice none 0 0, .slice none 0 0, .slice none 0 0, .slice none 0 0] 46))) := hid ((below_new _ _).alloc (by simp) _)
    go_enter Try.func31, Try.ntmps31
    go_wp2
    exact bodyPost_ret (v := .tuple #[zeroV, .int .i64 0, .int .i64 2]) (zero_read R0.out rfl rfl rfl) rfl ⟨B0.out, zeroV, by rw [HD.out]; rfl, by rw [HD.out]; exact isConf_zero _ _⟩
  · have hs : s.size ≤ 200 := by omega
    have HBG : Hid (¬ 200 < (nums s).length) := hid (by rw [HLN.out]; exact hbig)
    have W0 : Hid (Below w.heap.size w ((w.alloc (.cells #[.string s] 9)).alloc (.cells #[.int .i64 0, .int .i64 0, .int .i64 0, .int .i64 0, .int .i64 0, .slice none 0 0, .slice none 0 0, .slice none 0 0, .slice none 0 0] 46))) := hid ((below_new _ _).alloc (by simp) _)
    have R1 : Hid (RowAt ((w.alloc (.cells #[.string s] 9)).alloc (.cells #[.int .i64 0, .int .i64 0, .int .i64 0, .int .i64 0, .int .i64 0, .slice none 0 0, .slice none 0 0, .slice none 0 0, .slice none 0 0] 46)) w.heap.size 9 [.string s]) := hid ((rowAt_new2 _ _ [.string s] 9 rfl).alloc _)
    have R2 : Hid (RowAt ((w.alloc (.cells #[.string s] 9)).alloc (.cells #[.int .i64 0, .int .i64 0, .int .i64 0, .int .i64 0, .int .i64 0, .slice none 0 0, .slice none 0 0, .slice none 0 0, .slice none 0 0] 46)) (w.heap.size + 1) 46 zero9) := hid (rowAt_new2 _ _ zero9 46 (by simp))
    clear hbig hm
    by_cases hwr : 0 < s.size ∧ gb (nums s) 0 ≠ 67
    · obtain ⟨hp, hne⟩ := hwr
      have HD := hid (dec_wrong HBG.out (by rw [HLN.out]; exact hp) hne)
      have hp1 : (0 : Int) < s.size := by omega
      have e67 : ((s[0]'hp).toNat : Int) ≠ 67 := by rw [← gb_at s 0 hp]; exact hne
      have e68 : (((s[0]'hp).toNat : Int) != 67) = true := by simp [e67]
      clear hne e67
      go_enter Try.func31, Try.ntmps31
      go_wp2
      exact bodyPost_ret (v := .tuple #[zeroV, .int .i64 0, .int .i64 1]) (zero_read R2.out rfl rfl rfl) rfl ⟨W0.out, zeroV, by rw [HD.out]; rfl, by rw [HD.out]; exact isConf_zero _ _⟩
    · have H67 : Hid (0 < (nums s).length → gb (nums s) 0 = 67) := hid (by
        intro h
        rw [HLN.out] at h
        apply Classical.byContradiction
        intro hn
        exact hwr ⟨h, hn⟩)
      have D0 : Hid (Dm w ((((w.alloc (.cells #[.string s] 9)).alloc (.cells #[.int .i64 0, .int .i64 0, .int .i64 0, .int .i64 0, .int .i64 0, .slice none 0 0, .slice none 0 0, .slice none 0 0, .slice none 0 0] 46)).alloc (.cells #[.int .i64 3, .int .i64 1, .int .i64 3, .int .i64 7] 3)).alloc (.cells #[.int .i64 6, .int .i64 4, .int .i64 4, .int .i64 6] 3)) s) := by
        refine hid ⟨(W0.out.alloc (by simp; omega) _).alloc (by simp; omega) _, (R1.out.alloc _).alloc _, (R2.out.alloc _).alloc _, (rowAt_new2 _ _ [.int .i64 3, .int .i64 1, .int .i64 3, .int .i64 7] 3 (by simp)).alloc _, rowAt_new2 _ _ [.int .i64 6, .int .i64 4, .int .i64 4, .int .i64 6] 3 (by simp)⟩
      have hhd : (0 < s.size → ∀ h : 0 < s.size, ((s[0]'h).toNat : Int) = 67) := fun h _ => by rw [← gb_at s 0 h]; exact H67.out (by rw [HLN.out]; exact h)
      clear hwr W0 R1 R2
      rcases Nat.eq_zero_or_pos s.size with hz0 | hp0
      · have HD : Hid (dec (nums s) = (zeroC, 0, 1)) := hid (by
          have := dec_out HBG.out H67.out 0 (by omega) (fun j hj => by omega) (by rw [HLN.out, hz0]; exact Nat.zero_le _)
          rw [this, HLN.out, hz0])
        go_enter Try.func31, Try.ntmps31
        go_wp2
        go_loopw [7, 8, 9] (fun a v i wr => a = .int .i64 6 ∧ v = .slice none 0 0 ∧ i = .int .i64 0 ∧ Dm w wr s) (fun _ _ _ _ => 0)
        case atStart => exact ⟨rfl, rfl, rfl, D0.out⟩
        case round =>
          clear D0
          obtain ⟨rfl, rfl, rfl, hM⟩ := hrel
          have HM := hid hM
          clear hM hhd
          have c1 := HM.out.r1.cell 0 _ rfl
          have lt1 := HM.out.lt
          have x0 := HM.out.r2.cell 0 _ rfl
          have y0 := HM.out.r2.frozen 0
          have x1 := HM.out.r2.cell 1 _ rfl
          have y1 := HM.out.r2.frozen 1
          have x2 := HM.out.r2.cell 2 _ rfl
          have y2 := HM.out.r2.frozen 2
          have x3 := HM.out.r2.cell 3 _ rfl
          have y3 := HM.out.r2.frozen 3
          have x4 := HM.out.r2.cell 4 _ rfl
          have y4 := HM.out.r2.frozen 4
          have x5 := HM.out.r2.cell 5 _ rfl
          have y5 := HM.out.r2.frozen 5
          have x6 := HM.out.r2.cell 6 _ rfl
          have y6 := HM.out.r2.frozen 6
          have x7 := HM.out.r2.cell 7 _ rfl
          have y7 := HM.out.r2.frozen 7
          have x8 := HM.out.r2.cell 8 _ rfl
          have y8 := HM.out.r2.frozen 8
          go_wp2_with fail
          go_region_held3 (fun w' => w'.cell? ⟨w.heap.size, 0, none⟩ = some (.string s)) (first | go_keep) (fail)
          have R9 : Hid (RowAt (((((((((wr.setCell ⟨w.heap.size + 1, 0, none⟩ (.int .i64 0)).setCell ⟨w.heap.size + 1, 1, none⟩ (.int .i64 0)).setCell ⟨w.heap.size + 1, 2, none⟩ (.int .i64 0)).setCell ⟨w.heap.size + 1, 3, none⟩ (.int .i64 0)).setCell ⟨w.heap.size + 1, 4, none⟩ (.int .i64 0)).setCell ⟨w.heap.size + 1, 5, none⟩ (.slice none 0 0)).setCell ⟨w.heap.size + 1, 6, none⟩ (.slice none 0 0)).setCell ⟨w.heap.size + 1, 7, none⟩ (.slice none 0 0)).setCell ⟨w.heap.size + 1, 8, none⟩ (.slice none 0 0)).drew (w.heap.size + 1) 46 zero9) := hid (RowAt.drew' (((((((((HM.out.r2.setCell 0 (.int .i64 0)).setCell 1 (.int .i64 0)).setCell 2 (.int .i64 0)).setCell 3 (.int .i64 0)).setCell 4 (.int .i64 0)).setCell 5 (.slice none 0 0)).setCell 6 (.slice none 0 0)).setCell 7 (.slice none 0 0)).setCell 8 (.slice none 0 0)))
          have B9 : Hid (Below w.heap.size w (((((((((wr.setCell ⟨w.heap.size + 1, 0, none⟩ (.int .i64 0)).setCell ⟨w.heap.size + 1, 1, none⟩ (.int .i64 0)).setCell ⟨w.heap.size + 1, 2, none⟩ (.int .i64 0)).setCell ⟨w.heap.size + 1, 3, none⟩ (.int .i64 0)).setCell ⟨w.heap.size + 1, 4, none⟩ (.int .i64 0)).setCell ⟨w.heap.size + 1, 5, none⟩ (.slice none 0 0)).setCell ⟨w.heap.size + 1, 6, none⟩ (.slice none 0 0)).setCell ⟨w.heap.size + 1, 7, none⟩ (.slice none 0 0)).setCell ⟨w.heap.size + 1, 8, none⟩ (.slice none 0 0)).drew) := hid (((((((((HM.out.below.setCell (p := ⟨w.heap.size + 1, 0, none⟩) (by show w.heap.size ≤ w.heap.size + 1; omega) (.int .i64 0)).setCell (p := ⟨w.heap.size + 1, 1, none⟩) (by show w.heap.size ≤ w.heap.size + 1; omega) (.int .i64 0)).setCell (p := ⟨w.heap.size + 1, 2, none⟩) (by show w.heap.size ≤ w.heap.size + 1; omega) (.int .i64 0)).setCell (p := ⟨w.heap.size + 1, 3, none⟩) (by show w.heap.size ≤ w.heap.size + 1; omega) (.int .i64 0)).setCell (p := ⟨w.heap.size + 1, 4, none⟩) (by show w.heap.size ≤ w.heap.size + 1; omega) (.int .i64 0)).setCell (p := ⟨w.heap.size + 1, 5, none⟩) (by show w.heap.size ≤ w.heap.size + 1; omega) (.slice none 0 0)).setCell (p := ⟨w.heap.size + 1, 6, none⟩) (by show w.heap.size ≤ w.heap.size + 1; omega) (.slice none 0 0)).setCell (p := ⟨w.heap.size + 1, 7, none⟩) (by show w.heap.size ≤ w.heap.size + 1; omega) (.slice none 0 0)).setCell (p := ⟨w.heap.size + 1, 8, none⟩) (by show w.heap.size ≤ w.heap.size + 1; omega) (.slice none 0 0)).drew
          clear HM
          go_wp2
          generalize World.drew _ = W9 at *
          refine bodyPost_ret (zero_read R9.out rfl rfl rfl) rfl ?_
          exact ⟨B9.out, zeroV, by simp [HD.out], by rw [HD.out]; exact isConf_zero _ _⟩
      · have h67 := hhd hp0 hp0
        have hp1 : (0 : Int) < s.size := by omega
        clear hhd
        go_enter Try.func31, Try.ntmps31
        go_wp2
        clear h67 hp1
        go_loopw [7, 8, 9] (fun a v i wr => ∃ k : Nat, k ≤ 4 ∧ i = .int .i64 k ∧ a = .int .i64 (ps (nums s) k : Int) ∧ (∀ j, j < k → okc (nums s) j) ∧ wr.ownsRow (w.heap.size + 1 + 1 + 1 + 1) 3 1 v k (pl (nums s) k) ∧ Dm w wr s) (fun a v i _ => 4 - (intOf i).toNat)
        case atStart => exact ⟨0, by omega, rfl, rfl, by omega, World.ownsRow_nil _ _ _ _, D0.out⟩
        case round =>
          clear D0
          obtain ⟨k, hk, rfl, rfl, hok, hown, hM⟩ := hrel
          have HM := hid hM
          have HO := hid hown
          have HOK := hid hok
          have hvb := hown.lt
          have ltM := hM.lt
          clear hM hown hok
          rcases (by omega : k = 0 ∨ k = 1 ∨ k = 2 ∨ k = 3 ∨ k = 4) with rfl | rfl | rfl | rfl | rfl
          · have HA := hid (rfl : ps (nums s) 0 = ps (nums s) 0)
            have HN : Hid (ps (nums s) (0 + 1) = ps (nums s) 0 + 1 + 3 * cnt (nums s) (ps (nums s) 0)) := hid rfl
            have HDO := hid (dec_out HBG.out H67.out 0 (by omega) HOK.out)
            have HDM := hid (dec_most HBG.out H67.out 0 (by omega) HOK.out)
            have HOC : Hid (ps (nums s) 0 < (nums s).length → gb (nums s) (ps (nums s) 0) ≤ 6 → okc (nums s) 0) := hid fun h1 h2 => ⟨h1, h2⟩
            have HPL := hid (pl_snoc (nums s) 0)
            rw [HLN.out] at HDO HDM HOC
            generalize ps (nums s) 0 = a at *
            clear HA
            by_cases hge : s.size ≤ a
            · have HD := hid (HDO.out hge)
              have hgi : ((s.size : Nat) : Int) ≤ (a : Int) := by omega
              clear HDO HDM HOC HPL HN HO
              have c1 := HM.out.r1.cell 0 _ rfl
              have lt1 := HM.out.lt
              have x0 := HM.out.r2.cell 0 _ rfl
              have y0 := HM.out.r2.frozen 0
              have x1 := HM.out.r2.cell 1 _ rfl
              have y1 := HM.out.r2.frozen 1
              have x2 := HM.out.r2.cell 2 _ rfl
              have y2 := HM.out.r2.frozen 2
              have x3 := HM.out.r2.cell 3 _ rfl
              have y3 := HM.out.r2.frozen 3
              have x4 := HM.out.r2.cell 4 _ rfl
              have y4 := HM.out.r2.frozen 4
              have x5 := HM.out.r2.cell 5 _ rfl
              have y5 := HM.out.r2.frozen 5
              have x6 := HM.out.r2.cell 6 _ rfl
              have y6 := HM.out.r2.frozen 6
              have x7 := HM.out.r2.cell 7 _ rfl
              have y7 := HM.out.r2.frozen 7
              have x8 := HM.out.r2.cell 8 _ rfl
              have y8 := HM.out.r2.frozen 8
              go_wp2_with fail
              go_region_held3 (fun w' => w'.cell? ⟨w.heap.size, 0, none⟩ = some (.string s)) (first | go_keep) (fail)
              have R9 : Hid (RowAt (((((((((wr.setCell ⟨w.heap.size + 1, 0, none⟩ (.int .i64 0)).setCell ⟨w.heap.size + 1, 1, none⟩ (.int .i64 0)).setCell ⟨w.heap.size + 1, 2, none⟩ (.int .i64 0)).setCell ⟨w.heap.size + 1, 3, none⟩ (.int .i64 0)).setCell ⟨w.heap.size + 1, 4, none⟩ (.int .i64 0)).setCell ⟨w.heap.size + 1, 5, none⟩ (.slice none 0 0)).setCell ⟨w.heap.size + 1, 6, none⟩ (.slice none 0 0)).setCell ⟨w.heap.size + 1, 7, none⟩ (.slice none 0 0)).setCell ⟨w.heap.size + 1, 8, none⟩ (.slice none 0 0)).drew (w.heap.size + 1) 46 zero9) := hid (RowAt.drew' (((((((((HM.out.r2.setCell 0 (.int .i64 0)).setCell 1 (.int .i64 0)).setCell 2 (.int .i64 0)).setCell 3 (.int .i64 0)).setCell 4 (.int .i64 0)).setCell 5 (.slice none 0 0)).setCell 6 (.slice none 0 0)).setCell 7 (.slice none 0 0)).setCell 8 (.slice none 0 0)))
              have B9 : Hid (Below w.heap.size w (((((((((wr.setCell ⟨w.heap.size + 1, 0, none⟩ (.int .i64 0)).setCell ⟨w.heap.size + 1, 1, none⟩ (.int .i64 0)).setCell ⟨w.heap.size + 1, 2, none⟩ (.int .i64 0)).setCell ⟨w.heap.size + 1, 3, none⟩ (.int .i64 0)).setCell ⟨w.heap.size + 1, 4, none⟩ (.int .i64 0)).setCell ⟨w.heap.size + 1, 5, none⟩ (.slice none 0 0)).setCell ⟨w.heap.size + 1, 6, none⟩ (.slice none 0 0)).setCell ⟨w.heap.size + 1, 7, none⟩ (.slice none 0 0)).setCell ⟨w.heap.size + 1, 8, none⟩ (.slice none 0 0)).drew) := hid (((((((((HM.out.below.setCell (p := ⟨w.heap.size + 1, 0, none⟩) (by show w.heap.size ≤ w.heap.size + 1; omega) (.int .i64 0)).setCell (p := ⟨w.heap.size + 1, 1, none⟩) (by show w.heap.size ≤ w.heap.size + 1; omega) (.int .i64 0)).setCell (p := ⟨w.heap.size + 1, 2, none⟩) (by show w.heap.size ≤ w.heap.size + 1; omega) (.int .i64 0)).setCell (p := ⟨w.heap.size + 1, 3, none⟩) (by show w.heap.size ≤ w.heap.size + 1; omega) (.int .i64 0)).setCell (p := ⟨w.heap.size + 1, 4, none⟩) (by show w.heap.size ≤ w.heap.size + 1; omega) (.int .i64 0)).setCell (p := ⟨w.heap.size + 1, 5, none⟩) (by show w.heap.size ≤ w.heap.size + 1; omega) (.slice none 0 0)).setCell (p := ⟨w.heap.size + 1, 6, none⟩) (by show w.heap.size ≤ w.heap.size + 1; omega) (.slice none 0 0)).setCell (p := ⟨w.heap.size + 1, 7, none⟩) (by show w.heap.size ≤ w.heap.size + 1; omega) (.slice none 0 0)).setCell (p := ⟨w.heap.size + 1, 8, none⟩) (by show w.heap.size ≤ w.heap.size + 1; omega) (.slice none 0 0)).drew
              clear HM
              go_wp2
              generalize World.drew _ = W9 at *
              refine bodyPost_ret (zero_read R9.out rfl rfl rfl) rfl ?_
              exact ⟨B9.out, zeroV, by simp [HD.out], by rw [HD.out]; exact isConf_zero _ _⟩
            · have hlt : a < s.size := by omega
              have hli : (a : Int) < (s.size : Int) := by omega
              have hl0 : (0 : Int) ≤ (a : Int) := by omega
              have e1 := wrap_gb s a hlt
              have e3 := wrapI_gb s a hlt
              have rr := gb_byte s a
              have HC : Hid (cnt (nums s) a = (gb (nums s) a).toNat) := hid rfl
              have c1 := HM.out.r1.cell 0 _ rfl
              have c3 := HM.out.r3.cell 0 _ rfl
              have c4 := HM.out.r4.cell 0 _ rfl
              generalize gb (nums s) a = G at *
              have rr0 := rr.1
              have rr1 := rr.2
              clear rr
              by_cases hmo : G > 6
              · have HD := hid (HDM.out hlt hmo)
                clear HDO HDM HOC HPL HN HO HC
                have x0 := HM.out.r2.cell 0 _ rfl
                have y0 := HM.out.r2.frozen 0
                have x1 := HM.out.r2.cell 1 _ rfl
                have y1 := HM.out.r2.frozen 1
                have x2 := HM.out.r2.cell 2 _ rfl
                have y2 := HM.out.r2.frozen 2
                have x3 := HM.out.r2.cell 3 _ rfl
                have y3 := HM.out.r2.frozen 3
                have x4 := HM.out.r2.cell 4 _ rfl
                have y4 := HM.out.r2.frozen 4
                have x5 := HM.out.r2.cell 5 _ rfl
                have y5 := HM.out.r2.frozen 5
                have x6 := HM.out.r2.cell 6 _ rfl
                have y6 := HM.out.r2.frozen 6
                have x7 := HM.out.r2.cell 7 _ rfl
                have y7 := HM.out.r2.frozen 7
                have x8 := HM.out.r2.cell 8 _ rfl
                have y8 := HM.out.r2.frozen 8
                go_wp2_with fail
                go_quiet (fail)
                have R9 : Hid (RowAt ((((((((((wr.drewN nq).setCell ⟨w.heap.size + 1, 0, none⟩ (.int .i64 0)).setCell ⟨w.heap.size + 1, 1, none⟩ (.int .i64 0)).setCell ⟨w.heap.size + 1, 2, none⟩ (.int .i64 0)).setCell ⟨w.heap.size + 1, 3, none⟩ (.int .i64 0)).setCell ⟨w.heap.size + 1, 4, none⟩ (.int .i64 0)).setCell ⟨w.heap.size + 1, 5, none⟩ (.slice none 0 0)).setCell ⟨w.heap.size + 1, 6, none⟩ (.slice none 0 0)).setCell ⟨w.heap.size + 1, 7, none⟩ (.slice none 0 0)).setCell ⟨w.heap.size + 1, 8, none⟩ (.slice none 0 0)) (w.heap.size + 1) 46 zero9) := hid ((((((((((show RowAt (wr.drewN nq) (w.heap.size + 1) 46 zero9 from HM.out.r2).setCell 0 (.int .i64 0)).setCell 1 (.int .i64 0)).setCell 2 (.int .i64 0)).setCell 3 (.int .i64 0)).setCell 4 (.int .i64 0)).setCell 5 (.slice none 0 0)).setCell 6 (.slice none 0 0)).setCell 7 (.slice none 0 0)).setCell 8 (.slice none 0 0))
                have B9 : Hid (Below w.heap.size w ((((((((((wr.drewN nq).setCell ⟨w.heap.size + 1, 0, none⟩ (.int .i64 0)).setCell ⟨w.heap.size + 1, 1, none⟩ (.int .i64 0)).setCell ⟨w.heap.size + 1, 2, none⟩ (.int .i64 0)).setCell ⟨w.heap.size + 1, 3, none⟩ (.int .i64 0)).setCell ⟨w.heap.size + 1, 4, none⟩ (.int .i64 0)).setCell ⟨w.heap.size + 1, 5, none⟩ (.slice none 0 0)).setCell ⟨w.heap.size + 1, 6, none⟩ (.slice none 0 0)).setCell ⟨w.heap.size + 1, 7, none⟩ (.slice none 0 0)).setCell ⟨w.heap.size + 1, 8, none⟩ (.slice none 0 0))) := hid ((((((((((below_drewN HM.out.below nq).setCell (p := ⟨w.heap.size + 1, 0, none⟩) (by show w.heap.size ≤ w.heap.size + 1; omega) (.int .i64 0)).setCell (p := ⟨w.heap.size + 1, 1, none⟩) (by show w.heap.size ≤ w.heap.size + 1; omega) (.int .i64 0)).setCell (p := ⟨w.heap.size + 1, 2, none⟩) (by show w.heap.size ≤ w.heap.size + 1; omega) (.int .i64 0)).setCell (p := ⟨w.heap.size + 1, 3, none⟩) (by show w.heap.size ≤ w.heap.size + 1; omega) (.int .i64 0)).setCell (p := ⟨w.heap.size + 1, 4, none⟩) (by show w.heap.size ≤ w.heap.size + 1; omega) (.int .i64 0)).setCell (p := ⟨w.heap.size + 1, 5, none⟩) (by show w.heap.size ≤ w.heap.size + 1; omega) (.slice none 0 0)).setCell (p := ⟨w.heap.size + 1, 6, none⟩) (by show w.heap.size ≤ w.heap.size + 1; omega) (.slice none 0 0)).setCell (p := ⟨w.heap.size + 1, 7, none⟩) (by show w.heap.size ≤ w.heap.size + 1; omega) (.slice none 0 0)).setCell (p := ⟨w.heap.size + 1, 8, none⟩) (by show w.heap.size ≤ w.heap.size + 1; omega) (.slice none 0 0))
                clear HM
                go_wp2
                generalize World.setCell _ _ _ = W9 at *
                refine bodyPost_ret (zero_read R9.out rfl rfl rfl) rfl ?_
                exact ⟨B9.out, zeroV, by simp [HD.out], by rw [HD.out]; exact isConf_zero _ _⟩
              · have HOC2 := hid (HOC.out hlt (by omega))
                clear HDO HDM HOC
                go_wp2_with fail
                go_quiet (fail)
                have HM2 := hid (HM.out.bel (below_drewN (Below.refl _ _) nq))
                have HO2 := hid (owns_below' HO.out (below_drewN (Below.refl wr.heap.size wr) nq))
                generalize wr.drewN nq = wq at *
                have ltq := HM2.out.lt
                have c1 := HM2.out.r1.cell 0 _ rfl
                have Hbm : Hid (Below wq.heap.size wq (wq.alloc (.cells #[.int .i64 (a : Int)] 3))) := hid (below_new _ _)
                have HO3 := hid (owns_below' HO2.out Hbm.out)
                have HN3 : Hid (∀ j u, [Value.int .i64 (a : Int)][j]? = some u → (wq.alloc (.cells #[.int .i64 (a : Int)] 3)).cell? ((⟨wq.heap.size, 0, none⟩ : Addr).add j) = some u) := hid (RowAt.news (X := [Value.int .i64 (a : Int)]) (Y := []) (t := 3) (rowAt_new2 wq _ [Value.int .i64 (a : Int)] 3 rfl))
                clear HM HO HO2 c3 c4
                go_wp2_with (first
                  | (at_builtin; refine wpList_append_own _ rfl _ _ 42 rfl (w.heap.size + 1 + 1 + 1 + 1) 3 i3 _ 1 8 Try.underlying42 hi hz hsz hby rfl (by decide) _ _ _ rfl HO3.out ⟨wq.heap.size, 0, none⟩ 1 1 [.int .i64 (a : Int)] rfl rfl HN3.out ?c1 ?c2 ?c3 ?c4 ?_))
                case c1 => intro x hx; rw [List.mem_singleton.1 hx]; rfl
                case c2 => simp [maxLen]
                case c3 => omega
                case c4 => simp; omega
                intro v2 w1 hown1 hgrow _
                have HM3 := hid (HM2.out.grow Hbm.out hgrow (fun q hq => (hvb q hq).1))
                have HO4 : Hid (w1.ownsRow (w.heap.size + 1 + 1 + 1 + 1) 3 1 v2 (0 + 1) (pl (nums s) (0 + 1))) := hid (by rw [HPL.out]; exact hown1)
                clear HO3 HN3 HM2 hown1 hgrow Hbm HPL c1
                have c1 := HM3.out.r1.cell 0 _ rfl
                have c3 := HM3.out.r3.cell 0 _ rfl
                have q1 : IntKind.i64.wrap (3 * G) = 3 * G := by rw [IntKind.wrap_i64]; omega
                have q1' : IntKind.i64.wrap G = G := by rw [IntKind.wrap_i64]; omega
                have q2 : IntKind.i64.wrap (1 + 3 * G) = 1 + 3 * G := by rw [IntKind.wrap_i64]; omega
                have q2' : IntKind.i64.wrap (1 + G) = 1 + G := by rw [IntKind.wrap_i64]; omega
                have q3 : IntKind.i64.wrap ((a : Int) + (1 + 3 * G)) = (a : Int) + (1 + 3 * G) := by rw [IntKind.wrap_i64]; omega
                have q3' : IntKind.i64.wrap ((a : Int) + (1 + G)) = (a : Int) + (1 + G) := by rw [IntKind.wrap_i64]; omega
                go_wp2_with fail
                go_quiet (fail)
                go_wp2
                go_roundw
                case rel =>
                  refine ⟨0 + 1, by omega, by go_num, ?_, fun j hj => ?_, owns_below' HO4.out (below_drewN (Below.refl _ _) _), HM3.out.bel (below_drewN (Below.refl _ _) _)⟩
                  · rw [HN.out, HC.out]
                    congr 1
                    omega
                  · by_cases e : j = 0
                    · subst e; exact HOC2.out
                    · exact HOK.out j (by omega)
                case measure => simp [intOf]
          · have HA := hid (rfl : ps (nums s) 1 = ps (nums s) 1)
            have HN : Hid (ps (nums s) (1 + 1) = ps (nums s) 1 + 1 + 1 * cnt (nums s) (ps (nums s) 1)) := hid rfl
            have HDO := hid (dec_out HBG.out H67.out 1 (by omega) HOK.out)
            have HDM := hid (dec_most HBG.out H67.out 1 (by omega) HOK.out)
            have HOC : Hid (ps (nums s) 1 < (nums s).length → gb (nums s) (ps (nums s) 1) ≤ 4 → okc (nums s) 1) := hid fun h1 h2 => ⟨h1, h2⟩
            have HPL := hid (pl_snoc (nums s) 1)
            rw [HLN.out] at HDO HDM HOC
            generalize ps (nums s) 1 = a at *
            clear HA
            by_cases hge : s.size ≤ a
            · have HD := hid (HDO.out hge)
              have hgi : ((s.size : Nat) : Int) ≤ (a : Int) := by omega
              clear HDO HDM HOC HPL HN HO
              have c1 := HM.out.r1.cell 0 _ rfl
              have lt1 := HM.out.lt
              have x0 := HM.out.r2.cell 0 _ rfl
              have y0 := HM.out.r2.frozen 0
              have x1 := HM.out.r2.cell 1 _ rfl
              have y1 := HM.out.r2.frozen 1
              have x2 := HM.out.r2.cell 2 _ rfl
              have y2 := HM.out.r2.frozen 2
              have x3 := HM.out.r2.cell 3 _ rfl
              have y3 := HM.out.r2.frozen 3
              have x4 := HM.out.r2.cell 4 _ rfl
              have y4 := HM.out.r2.frozen 4
              have x5 := HM.out.r2.cell 5 _ rfl
              have y5 := HM.out.r2.frozen 5
              have x6 := HM.out.r2.cell 6 _ rfl
              have y6 := HM.out.r2.frozen 6
              have x7 := HM.out.r2.cell 7 _ rfl
              have y7 := HM.out.r2.frozen 7
              have x8 := HM.out.r2.cell 8 _ rfl
              have y8 := HM.out.r2.frozen 8
              go_wp2_with fail
              go_region_held3 (fun w' => w'.cell? ⟨w.heap.size, 0, none⟩ = some (.string s)) (first | go_keep) (fail)
              have R9 : Hid (RowAt (((((((((wr.setCell ⟨w.heap.size + 1, 0, none⟩ (.int .i64 0)).setCell ⟨w.heap.size + 1, 1, none⟩ (.int .i64 0)).setCell ⟨w.heap.size + 1, 2, none⟩ (.int .i64 0)).setCell ⟨w.heap.size + 1, 3, none⟩ (.int .i64 0)).setCell ⟨w.heap.size + 1, 4, none⟩ (.int .i64 0)).setCell ⟨w.heap.size + 1, 5, none⟩ (.slice none 0 0)).setCell ⟨w.heap.size + 1, 6, none⟩ (.slice none 0 0)).setCell ⟨w.heap.size + 1, 7, none⟩ (.slice none 0 0)).setCell ⟨w.heap.size + 1, 8, none⟩ (.slice none 0 0)).drew (w.heap.size + 1) 46 zero9) := hid (RowAt.drew' (((((((((HM.out.r2.setCell 0 (.int .i64 0)).setCell 1 (.int .i64 0)).setCell 2 (.int .i64 0)).setCell 3 (.int .i64 0)).setCell 4 (.int .i64 0)).setCell 5 (.slice none 0 0)).setCell 6 (.slice none 0 0)).setCell 7 (.slice none 0 0)).setCell 8 (.slice none 0 0)))
              have B9 : Hid (Below w.heap.size w (((((((((wr.setCell ⟨w.heap.size + 1, 0, none⟩ (.int .i64 0)).setCell ⟨w.heap.size + 1, 1, none⟩ (.int .i64 0)).setCell ⟨w.heap.size + 1, 2, none⟩ (.int .i64 0)).setCell ⟨w.heap.size + 1, 3, none⟩ (.int .i64 0)).setCell ⟨w.heap.size + 1, 4, none⟩ (.int .i64 0)).setCell ⟨w.heap.size + 1, 5, none⟩ (.slice none 0 0)).setCell ⟨w.heap.size + 1, 6, none⟩ (.slice none 0 0)).setCell ⟨w.heap.size + 1, 7, none⟩ (.slice none 0 0)).setCell ⟨w.heap.size + 1, 8, none⟩ (.slice none 0 0)).drew) := hid (((((((((HM.out.below.setCell (p := ⟨w.heap.size + 1, 0, none⟩) (by show w.heap.size ≤ w.heap.size + 1; omega) (.int .i64 0)).setCell (p := ⟨w.heap.size + 1, 1, none⟩) (by show w.heap.size ≤ w.heap.size + 1; omega) (.int .i64 0)).setCell (p := ⟨w.heap.size + 1, 2, none⟩) (by show w.heap.size ≤ w.heap.size + 1; omega) (.int .i64 0)).setCell (p := ⟨w.heap.size + 1, 3, none⟩) (by show w.heap.size ≤ w.heap.size + 1; omega) (.int .i64 0)).setCell (p := ⟨w.heap.size + 1, 4, none⟩) (by show w.heap.size ≤ w.heap.size + 1; omega) (.int .i64 0)).setCell (p := ⟨w.heap.size + 1, 5, none⟩) (by show w.heap.size ≤ w.heap.size + 1; omega) (.slice none 0 0)).setCell (p := ⟨w.heap.size + 1, 6, none⟩) (by show w.heap.size ≤ w.heap.size + 1; omega) (.slice none 0 0)).setCell (p := ⟨w.heap.size + 1, 7, none⟩) (by show w.heap.size ≤ w.heap.size + 1; omega) (.slice none 0 0)).setCell (p := ⟨w.heap.size + 1, 8, none⟩) (by show w.heap.size ≤ w.heap.size + 1; omega) (.slice none 0 0)).drew
              clear HM
              go_wp2
              generalize World.drew _ = W9 at *
              refine bodyPost_ret (zero_read R9.out rfl rfl rfl) rfl ?_
              exact ⟨B9.out, zeroV, by simp [HD.out], by rw [HD.out]; exact isConf_zero _ _⟩
            · have hlt : a < s.size := by omega
              have hli : (a : Int) < (s.size : Int) := by omega
              have hl0 : (0 : Int) ≤ (a : Int) := by omega
              have e1 := wrap_gb s a hlt
              have e3 := wrapI_gb s a hlt
              have rr := gb_byte s a
              have HC : Hid (cnt (nums s) a = (gb (nums s) a).toNat) := hid rfl
              have c1 := HM.out.r1.cell 0 _ rfl
              have c3 := HM.out.r3.cell 1 _ rfl
              have c4 := HM.out.r4.cell 1 _ rfl
              generalize gb (nums s) a = G at *
              have rr0 := rr.1
              have rr1 := rr.2
              clear rr
              by_cases hmo : G > 4
              · have HD := hid (HDM.out hlt hmo)
                clear HDO HDM HOC HPL HN HO HC
                have x0 := HM.out.r2.cell 0 _ rfl
                have y0 := HM.out.r2.frozen 0
                have x1 := HM.out.r2.cell 1 _ rfl
                have y1 := HM.out.r2.frozen 1
                have x2 := HM.out.r2.cell 2 _ rfl
                have y2 := HM.out.r2.frozen 2
                have x3 := HM.out.r2.cell 3 _ rfl
                have y3 := HM.out.r2.frozen 3
                have x4 := HM.out.r2.cell 4 _ rfl
                have y4 := HM.out.r2.frozen 4
                have x5 := HM.out.r2.cell 5 _ rfl
                have y5 := HM.out.r2.frozen 5
                have x6 := HM.out.r2.cell 6 _ rfl
                have y6 := HM.out.r2.frozen 6
                have x7 := HM.out.r2.cell 7 _ rfl
                have y7 := HM.out.r2.frozen 7
                have x8 := HM.out.r2.cell 8 _ rfl
                have y8 := HM.out.r2.frozen 8
                go_wp2_with fail
                go_quiet (fail)
                have R9 : Hid (RowAt ((((((((((wr.drewN nq).setCell ⟨w.heap.size + 1, 0, none⟩ (.int .i64 0)).setCell ⟨w.heap.size + 1, 1, none⟩ (.int .i64 0)).setCell ⟨w.heap.size + 1, 2, none⟩ (.int .i64 0)).setCell ⟨w.heap.size + 1, 3, none⟩ (.int .i64 0)).setCell ⟨w.heap.size + 1, 4, none⟩ (.int .i64 0)).setCell ⟨w.heap.size + 1, 5, none⟩ (.slice none 0 0)).setCell ⟨w.heap.size + 1, 6, none⟩ (.slice none 0 0)).setCell ⟨w.heap.size + 1, 7, none⟩ (.slice none 0 0)).setCell ⟨w.heap.size + 1, 8, none⟩ (.slice none 0 0)) (w.heap.size + 1) 46 zero9) := hid ((((((((((show RowAt (wr.drewN nq) (w.heap.size + 1) 46 zero9 from HM.out.r2).setCell 0 (.int .i64 0)).setCell 1 (.int .i64 0)).setCell 2 (.int .i64 0)).setCell 3 (.int .i64 0)).setCell 4 (.int .i64 0)).setCell 5 (.slice none 0 0)).setCell 6 (.slice none 0 0)).setCell 7 (.slice none 0 0)).setCell 8 (.slice none 0 0))
                have B9 : Hid (Below w.heap.size w ((((((((((wr.drewN nq).setCell ⟨w.heap.size + 1, 0, none⟩ (.int .i64 0)).setCell ⟨w.heap.size + 1, 1, none⟩ (.int .i64 0)).setCell ⟨w.heap.size + 1, 2, none⟩ (.int .i64 0)).setCell ⟨w.heap.size + 1, 3, none⟩ (.int .i64 0)).setCell ⟨w.heap.size + 1, 4, none⟩ (.int .i64 0)).setCell ⟨w.heap.size + 1, 5, none⟩ (.slice none 0 0)).setCell ⟨w.heap.size + 1, 6, none⟩ (.slice none 0 0)).setCell ⟨w.heap.size + 1, 7, none⟩ (.slice none 0 0)).setCell ⟨w.heap.size + 1, 8, none⟩ (.slice none 0 0))) := hid ((((((((((below_drewN HM.out.below nq).setCell (p := ⟨w.heap.size + 1, 0, none⟩) (by show w.heap.size ≤ w.heap.size + 1; omega) (.int .i64 0)).setCell (p := ⟨w.heap.size + 1, 1, none⟩) (by show w.heap.size ≤ w.heap.size + 1; omega) (.int .i64 0)).setCell (p := ⟨w.heap.size + 1, 2, none⟩) (by show w.heap.size ≤ w.heap.size + 1; omega) (.int .i64 0)).setCell (p := ⟨w.heap.size + 1, 3, none⟩) (by show w.heap.size ≤ w.heap.size + 1; omega) (.int .i64 0)).setCell (p := ⟨w.heap.size + 1, 4, none⟩) (by show w.heap.size ≤ w.heap.size + 1; omega) (.int .i64 0)).setCell (p := ⟨w.heap.size + 1, 5, none⟩) (by show w.heap.size ≤ w.heap.size + 1; omega) (.slice none 0 0)).setCell (p := ⟨w.heap.size + 1, 6, none⟩) (by show w.heap.size ≤ w.heap.size + 1; omega) (.slice none 0 0)).setCell (p := ⟨w.heap.size + 1, 7, none⟩) (by show w.heap.size ≤ w.heap.size + 1; omega) (.slice none 0 0)).setCell (p := ⟨w.heap.size + 1, 8, none⟩) (by show w.heap.size ≤ w.heap.size + 1; omega) (.slice none 0 0))
                clear HM
                go_wp2
                generalize World.setCell _ _ _ = W9 at *
                refine bodyPost_ret (zero_read R9.out rfl rfl rfl) rfl ?_
                exact ⟨B9.out, zeroV, by simp [HD.out], by rw [HD.out]; exact isConf_zero _ _⟩
              · have HOC2 := hid (HOC.out hlt (by omega))
                clear HDO HDM HOC
                go_wp2_with fail
                go_quiet (fail)
                have HM2 := hid (HM.out.bel (below_drewN (Below.refl _ _) nq))
                have HO2 := hid (owns_below' HO.out (below_drewN (Below.refl wr.heap.size wr) nq))
                generalize wr.drewN nq = wq at *
                have ltq := HM2.out.lt
                have c1 := HM2.out.r1.cell 0 _ rfl
                have Hbm : Hid (Below wq.heap.size wq (wq.alloc (.cells #[.int .i64 (a : Int)] 3))) := hid (below_new _ _)
                have HO3 := hid (owns_below' HO2.out Hbm.out)
                have HN3 : Hid (∀ j u, [Value.int .i64 (a : Int)][j]? = some u → (wq.alloc (.cells #[.int .i64 (a : Int)] 3)).cell? ((⟨wq.heap.size, 0, none⟩ : Addr).add j) = some u) := hid (RowAt.news (X := [Value.int .i64 (a : Int)]) (Y := []) (t := 3) (rowAt_new2 wq _ [Value.int .i64 (a : Int)] 3 rfl))
                clear HM HO HO2 c3 c4
                go_wp2_with (first
                  | (at_builtin; refine wpList_append_own _ rfl _ _ 42 rfl (w.heap.size + 1 + 1 + 1 + 1) 3 i3 _ 1 8 Try.underlying42 hi hz hsz hby rfl (by decide) _ _ _ rfl HO3.out ⟨wq.heap.size, 0, none⟩ 1 1 [.int .i64 (a : Int)] rfl rfl HN3.out ?c1 ?c2 ?c3 ?c4 ?_))
                case c1 => intro x hx; rw [List.mem_singleton.1 hx]; rfl
                case c2 => simp [maxLen]
                case c3 => omega
                case c4 => simp; omega
                intro v2 w1 hown1 hgrow _
                have HM3 := hid (HM2.out.grow Hbm.out hgrow (fun q hq => (hvb q hq).1))
                have HO4 : Hid (w1.ownsRow (w.heap.size + 1 + 1 + 1 + 1) 3 1 v2 (1 + 1) (pl (nums s) (1 + 1))) := hid (by rw [HPL.out]; exact hown1)
                clear HO3 HN3 HM2 hown1 hgrow Hbm HPL c1
                have c1 := HM3.out.r1.cell 0 _ rfl
                have c3 := HM3.out.r3.cell 1 _ rfl
                have q1 : IntKind.i64.wrap (1 * G) = 1 * G := by rw [IntKind.wrap_i64]; omega
                have q1' : IntKind.i64.wrap G = G := by rw [IntKind.wrap_i64]; omega
                have q2 : IntKind.i64.wrap (1 + 1 * G) = 1 + 1 * G := by rw [IntKind.wrap_i64]; omega
                have q2' : IntKind.i64.wrap (1 + G) = 1 + G := by rw [IntKind.wrap_i64]; omega
                have q3 : IntKind.i64.wrap ((a : Int) + (1 + 1 * G)) = (a : Int) + (1 + 1 * G) := by rw [IntKind.wrap_i64]; omega
                have q3' : IntKind.i64.wrap ((a : Int) + (1 + G)) = (a : Int) + (1 + G) := by rw [IntKind.wrap_i64]; omega
                go_wp2_with fail
                go_quiet (fail)
                go_wp2
                go_roundw
                case rel =>
                  refine ⟨1 + 1, by omega, by go_num, ?_, fun j hj => ?_, owns_below' HO4.out (below_drewN (Below.refl _ _) _), HM3.out.bel (below_drewN (Below.refl _ _) _)⟩
                  · rw [HN.out, HC.out]
                    congr 1
                    omega
                  · by_cases e : j = 1
                    · subst e; exact HOC2.out
                    · exact HOK.out j (by omega)
                case measure => simp [intOf]
          · have HA := hid (rfl : ps (nums s) 2 = ps (nums s) 2)
            have HN : Hid (ps (nums s) (2 + 1) = ps (nums s) 2 + 1 + 3 * cnt (nums s) (ps (nums s) 2)) := hid rfl
            have HDO := hid (dec_out HBG.out H67.out 2 (by omega) HOK.out)
            have HDM := hid (dec_most HBG.out H67.out 2 (by omega) HOK.out)
            have HOC : Hid (ps (nums s) 2 < (nums s).length → gb (nums s) (ps (nums s) 2) ≤ 4 → okc (nums s) 2) := hid fun h1 h2 => ⟨h1, h2⟩
            have HPL := hid (pl_snoc (nums s) 2)
            rw [HLN.out] at HDO HDM HOC
            generalize ps (nums s) 2 = a at *
            clear HA
            by_cases hge : s.size ≤ a
            · have HD := hid (HDO.out hge)
              have hgi : ((s.size : Nat) : Int) ≤ (a : Int) := by omega
              clear HDO HDM HOC HPL HN HO
              have c1 := HM.out.r1.cell 0 _ rfl
              have lt1 := HM.out.lt
              have x0 := HM.out.r2.cell 0 _ rfl
              have y0 := HM.out.r2.frozen 0
              have x1 := HM.out.r2.cell 1 _ rfl
              have y1 := HM.out.r2.frozen 1
              have x2 := HM.out.r2.cell 2 _ rfl
              have y2 := HM.out.r2.frozen 2
              have x3 := HM.out.r2.cell 3 _ rfl
              have y3 := HM.out.r2.frozen 3
              have x4 := HM.out.r2.cell 4 _ rfl
              have y4 := HM.out.r2.frozen 4
              have x5 := HM.out.r2.cell 5 _ rfl
              have y5 := HM.out.r2.frozen 5
              have x6 := HM.out.r2.cell 6 _ rfl
              have y6 := HM.out.r2.frozen 6
              have x7 := HM.out.r2.cell 7 _ rfl
              have y7 := HM.out.r2.frozen 7
              have x8 := HM.out.r2.cell 8 _ rfl
              have y8 := HM.out.r2.frozen 8
              go_wp2_with fail
              go_region_held3 (fun w' => w'.cell? ⟨w.heap.size, 0, none⟩ = some (.string s)) (first | go_keep) (fail)
              have R9 : Hid (RowAt (((((((((wr.setCell ⟨w.heap.size + 1, 0, none⟩ (.int .i64 0)).setCell ⟨w.heap.size + 1, 1, none⟩ (.int .i64 0)).setCell ⟨w.heap.size + 1, 2, none⟩ (.int .i64 0)).setCell ⟨w.heap.size + 1, 3, none⟩ (.int .i64 0)).setCell ⟨w.heap.size + 1, 4, none⟩ (.int .i64 0)).setCell ⟨w.heap.size + 1, 5, none⟩ (.slice none 0 0)).setCell ⟨w.heap.size + 1, 6, none⟩ (.slice none 0 0)).setCell ⟨w.heap.size + 1, 7, none⟩ (.slice none 0 0)).setCell ⟨w.heap.size + 1, 8, none⟩ (.slice none 0 0)).drew (w.heap.size + 1) 46 zero9) := hid (RowAt.drew' (((((((((HM.out.r2.setCell 0 (.int .i64 0)).setCell 1 (.int .i64 0)).setCell 2 (.int .i64 0)).setCell 3 (.int .i64 0)).setCell 4 (.int .i64 0)).setCell 5 (.slice none 0 0)).setCell 6 (.slice none 0 0)).setCell 7 (.slice none 0 0)).setCell 8 (.slice none 0 0)))
              have B9 : Hid (Below w.heap.size w (((((((((wr.setCell ⟨w.heap.size + 1, 0, none⟩ (.int .i64 0)).setCell ⟨w.heap.size + 1, 1, none⟩ (.int .i64 0)).setCell ⟨w.heap.size + 1, 2, none⟩ (.int .i64 0)).setCell ⟨w.heap.size + 1, 3, none⟩ (.int .i64 0)).setCell ⟨w.heap.size + 1, 4, none⟩ (.int .i64 0)).setCell ⟨w.heap.size + 1, 5, none⟩ (.slice none 0 0)).setCell ⟨w.heap.size + 1, 6, none⟩ (.slice none 0 0)).setCell ⟨w.heap.size + 1, 7, none⟩ (.slice none 0 0)).setCell ⟨w.heap.size + 1, 8, none⟩ (.slice none 0 0)).drew) := hid (((((((((HM.out.below.setCell (p := ⟨w.heap.size + 1, 0, none⟩) (by show w.heap.size ≤ w.heap.size + 1; omega) (.int .i64 0)).setCell (p := ⟨w.heap.size + 1, 1, none⟩) (by show w.heap.size ≤ w.heap.size + 1; omega) (.int .i64 0)).setCell (p := ⟨w.heap.size + 1, 2, none⟩) (by show w.heap.size ≤ w.heap.size + 1; omega) (.int .i64 0)).setCell (p := ⟨w.heap.size + 1, 3, none⟩) (by show w.heap.size ≤ w.heap.size + 1; omega) (.int .i64 0)).setCell (p := ⟨w.heap.size + 1, 4, none⟩) (by show w.heap.size ≤ w.heap.size + 1; omega) (.int .i64 0)).setCell (p := ⟨w.heap.size + 1, 5, none⟩) (by show w.heap.size ≤ w.heap.size + 1; omega) (.slice none 0 0)).setCell (p := ⟨w.heap.size + 1, 6, none⟩) (by show w.heap.size ≤ w.heap.size + 1; omega) (.slice none 0 0)).setCell (p := ⟨w.heap.size + 1, 7, none⟩) (by show w.heap.size ≤ w.heap.size + 1; omega) (.slice none 0 0)).setCell (p := ⟨w.heap.size + 1, 8, none⟩) (by show w.heap.size ≤ w.heap.size + 1; omega) (.slice none 0 0)).drew
              clear HM
              go_wp2
              generalize World.drew _ = W9 at *
              refine bodyPost_ret (zero_read R9.out rfl rfl rfl) rfl ?_
              exact ⟨B9.out, zeroV, by simp [HD.out], by rw [HD.out]; exact isConf_zero _ _⟩
            · have hlt : a < s.size := by omega
              have hli : (a : Int) < (s.size : Int) := by omega
              have hl0 : (0 : Int) ≤ (a : Int) := by omega
              have e1 := wrap_gb s a hlt
              have e3 := wrapI_gb s a hlt
              have rr := gb_byte s a
              have HC : Hid (cnt (nums s) a = (gb (nums s) a).toNat) := hid rfl
              have c1 := HM.out.r1.cell 0 _ rfl
              have c3 := HM.out.r3.cell 2 _ rfl
              have c4 := HM.out.r4.cell 2 _ rfl
              generalize gb (nums s) a = G at *
              have rr0 := rr.1
              have rr1 := rr.2
              clear rr
              by_cases hmo : G > 4
              · have HD := hid (HDM.out hlt hmo)
                clear HDO HDM HOC HPL HN HO HC
                have x0 := HM.out.r2.cell 0 _ rfl
                have y0 := HM.out.r2.frozen 0
                have x1 := HM.out.r2.cell 1 _ rfl
                have y1 := HM.out.r2.frozen 1
                have x2 := HM.out.r2.cell 2 _ rfl
                have y2 := HM.out.r2.frozen 2
                have x3 := HM.out.r2.cell 3 _ rfl
                have y3 := HM.out.r2.frozen 3
                have x4 := HM.out.r2.cell 4 _ rfl
                have y4 := HM.out.r2.frozen 4
                have x5 := HM.out.r2.cell 5 _ rfl
                have y5 := HM.out.r2.frozen 5
                have x6 := HM.out.r2.cell 6 _ rfl
                have y6 := HM.out.r2.frozen 6
                have x7 := HM.out.r2.cell 7 _ rfl
                have y7 := HM.out.r2.frozen 7
                have x8 := HM.out.r2.cell 8 _ rfl
                have y8 := HM.out.r2.frozen 8
                go_wp2_with fail
                go_quiet (fail)
                have R9 : Hid (RowAt ((((((((((wr.drewN nq).setCell ⟨w.heap.size + 1, 0, none⟩ (.int .i64 0)).setCell ⟨w.heap.size + 1, 1, none⟩ (.int .i64 0)).setCell ⟨w.heap.size + 1, 2, none⟩ (.int .i64 0)).setCell ⟨w.heap.size + 1, 3, none⟩ (.int .i64 0)).setCell ⟨w.heap.size + 1, 4, none⟩ (.int .i64 0)).setCell ⟨w.heap.size + 1, 5, none⟩ (.slice none 0 0)).setCell ⟨w.heap.size + 1, 6, none⟩ (.slice none 0 0)).setCell ⟨w.heap.size + 1, 7, none⟩ (.slice none 0 0)).setCell ⟨w.heap.size + 1, 8, none⟩ (.slice none 0 0)) (w.heap.size + 1) 46 zero9) := hid ((((((((((show RowAt (wr.drewN nq) (w.heap.size + 1) 46 zero9 from HM.out.r2).setCell 0 (.int .i64 0)).setCell 1 (.int .i64 0)).setCell 2 (.int .i64 0)).setCell 3 (.int .i64 0)).setCell 4 (.int .i64 0)).setCell 5 (.slice none 0 0)).setCell 6 (.slice none 0 0)).setCell 7 (.slice none 0 0)).setCell 8 (.slice none 0 0))
                have B9 : Hid (Below w.heap.size w ((((((((((wr.drewN nq).setCell ⟨w.heap.size + 1, 0, none⟩ (.int .i64 0)).setCell ⟨w.heap.size + 1, 1, none⟩ (.int .i64 0)).setCell ⟨w.heap.size + 1, 2, none⟩ (.int .i64 0)).setCell ⟨w.heap.size + 1, 3, none⟩ (.int .i64 0)).setCell ⟨w.heap.size + 1, 4, none⟩ (.int .i64 0)).setCell ⟨w.heap.size + 1, 5, none⟩ (.slice none 0 0)).setCell ⟨w.heap.size + 1, 6, none⟩ (.slice none 0 0)).setCell ⟨w.heap.size + 1, 7, none⟩ (.slice none 0 0)).setCell ⟨w.heap.size + 1, 8, none⟩ (.slice none 0 0))) := hid ((((((((((below_drewN HM.out.below nq).setCell (p := ⟨w.heap.size + 1, 0, none⟩) (by show w.heap.size ≤ w.heap.size + 1; omega) (.int .i64 0)).setCell (p := ⟨w.heap.size + 1, 1, none⟩) (by show w.heap.size ≤ w.heap.size + 1; omega) (.int .i64 0)).setCell (p := ⟨w.heap.size + 1, 2, none⟩) (by show w.heap.size ≤ w.heap.size + 1; omega) (.int .i64 0)).setCell (p := ⟨w.heap.size + 1, 3, none⟩) (by show w.heap.size ≤ w.heap.size + 1; omega) (.int .i64 0)).setCell (p := ⟨w.heap.size + 1, 4, none⟩) (by show w.heap.size ≤ w.heap.size + 1; omega) (.int .i64 0)).setCell (p := ⟨w.heap.size + 1, 5, none⟩) (by show w.heap.size ≤ w.heap.size + 1; omega) (.slice none 0 0)).setCell (p := ⟨w.heap.size + 1, 6, none⟩) (by show w.heap.size ≤ w.heap.size + 1; omega) (.slice none 0 0)).setCell (p := ⟨w.heap.size + 1, 7, none⟩) (by show w.heap.size ≤ w.heap.size + 1; omega) (.slice none 0 0)).setCell (p := ⟨w.heap.size + 1, 8, none⟩) (by show w.heap.size ≤ w.heap.size + 1; omega) (.slice none 0 0))
                clear HM
                go_wp2
                generalize World.setCell _ _ _ = W9 at *
                refine bodyPost_ret (zero_read R9.out rfl rfl rfl) rfl ?_
                exact ⟨B9.out, zeroV, by simp [HD.out], by rw [HD.out]; exact isConf_zero _ _⟩
              · have HOC2 := hid (HOC.out hlt (by omega))
                clear HDO HDM HOC
                go_wp2_with fail
                go_quiet (fail)
                have HM2 := hid (HM.out.bel (below_drewN (Below.refl _ _) nq))
                have HO2 := hid (owns_below' HO.out (below_drewN (Below.refl wr.heap.size wr) nq))
                generalize wr.drewN nq = wq at *
                have ltq := HM2.out.lt
                have c1 := HM2.out.r1.cell 0 _ rfl
                have Hbm : Hid (Below wq.heap.size wq (wq.alloc (.cells #[.int .i64 (a : Int)] 3))) := hid (below_new _ _)
                have HO3 := hid (owns_below' HO2.out Hbm.out)
                have HN3 : Hid (∀ j u, [Value.int .i64 (a : Int)][j]? = some u → (wq.alloc (.cells #[.int .i64 (a : Int)] 3)).cell? ((⟨wq.heap.size, 0, none⟩ : Addr).add j) = some u) := hid (RowAt.news (X := [Value.int .i64 (a : Int)]) (Y := []) (t := 3) (rowAt_new2 wq _ [Value.int .i64 (a : Int)] 3 rfl))
                clear HM HO HO2 c3 c4
                go_wp2_with (first
                  | (at_builtin; refine wpList_append_own _ rfl _ _ 42 rfl (w.heap.size + 1 + 1 + 1 + 1) 3 i3 _ 1 8 Try.underlying42 hi hz hsz hby rfl (by decide) _ _ _ rfl HO3.out ⟨wq.heap.size, 0, none⟩ 1 1 [.int .i64 (a : Int)] rfl rfl HN3.out ?c1 ?c2 ?c3 ?c4 ?_))
                case c1 => intro x hx; rw [List.mem_singleton.1 hx]; rfl
                case c2 => simp [maxLen]
                case c3 => omega
                case c4 => simp; omega
                intro v2 w1 hown1 hgrow _
                have HM3 := hid (HM2.out.grow Hbm.out hgrow (fun q hq => (hvb q hq).1))
                have HO4 : Hid (w1.ownsRow (w.heap.size + 1 + 1 + 1 + 1) 3 1 v2 (2 + 1) (pl (nums s) (2 + 1))) := hid (by rw [HPL.out]; exact hown1)
                clear HO3 HN3 HM2 hown1 hgrow Hbm HPL c1
                have c1 := HM3.out.r1.cell 0 _ rfl
                have c3 := HM3.out.r3.cell 2 _ rfl
                have q1 : IntKind.i64.wrap (3 * G) = 3 * G := by rw [IntKind.wrap_i64]; omega
                have q1' : IntKind.i64.wrap G = G := by rw [IntKind.wrap_i64]; omega
                have q2 : IntKind.i64.wrap (1 + 3 * G) = 1 + 3 * G := by rw [IntKind.wrap_i64]; omega
                have q2' : IntKind.i64.wrap (1 + G) = 1 + G := by rw [IntKind.wrap_i64]; omega
                have q3 : IntKind.i64.wrap ((a : Int) + (1 + 3 * G)) = (a : Int) + (1 + 3 * G) := by rw [IntKind.wrap_i64]; omega
                have q3' : IntKind.i64.wrap ((a : Int) + (1 + G)) = (a : Int) + (1 + G) := by rw [IntKind.wrap_i64]; omega
                go_wp2_with fail
                go_quiet (fail)
                go_wp2
                go_roundw
                case rel =>
                  refine ⟨2 + 1, by omega, by go_num, ?_, fun j hj => ?_, owns_below' HO4.out (below_drewN (Below.refl _ _) _), HM3.out.bel (below_drewN (Below.refl _ _) _)⟩
                  · rw [HN.out, HC.out]
                    congr 1
                    omega
                  · by_cases e : j = 2
                    · subst e; exact HOC2.out
                    · exact HOK.out j (by omega)
                case measure => simp [intOf]
          · have HA := hid (rfl : ps (nums s) 3 = ps (nums s) 3)
            have HN : Hid (ps (nums s) (3 + 1) = ps (nums s) 3 + 1 + 7 * cnt (nums s) (ps (nums s) 3)) := hid rfl
            have HDO := hid (dec_out HBG.out H67.out 3 (by omega) HOK.out)
            have HDM := hid (dec_most HBG.out H67.out 3 (by omega) HOK.out)
            have HOC : Hid (ps (nums s) 3 < (nums s).length → gb (nums s) (ps (nums s) 3) ≤ 6 → okc (nums s) 3) := hid fun h1 h2 => ⟨h1, h2⟩
            have HPL := hid (pl_snoc (nums s) 3)
            rw [HLN.out] at HDO HDM HOC
            generalize ps (nums s) 3 = a at *
            clear HA
            by_cases hge : s.size ≤ a
            · have HD := hid (HDO.out hge)
              have hgi : ((s.size : Nat) : Int) ≤ (a : Int) := by omega
              clear HDO HDM HOC HPL HN HO
              have c1 := HM.out.r1.cell 0 _ rfl
              have lt1 := HM.out.lt
              have x0 := HM.out.r2.cell 0 _ rfl
              have y0 := HM.out.r2.frozen 0
              have x1 := HM.out.r2.cell 1 _ rfl
              have y1 := HM.out.r2.frozen 1
              have x2 := HM.out.r2.cell 2 _ rfl
              have y2 := HM.out.r2.frozen 2
              have x3 := HM.out.r2.cell 3 _ rfl
              have y3 := HM.out.r2.frozen 3
              have x4 := HM.out.r2.cell 4 _ rfl
              have y4 := HM.out.r2.frozen 4
              have x5 := HM.out.r2.cell 5 _ rfl
              have y5 := HM.out.r2.frozen 5
              have x6 := HM.out.r2.cell 6 _ rfl
              have y6 := HM.out.r2.frozen 6
              have x7 := HM.out.r2.cell 7 _ rfl
              have y7 := HM.out.r2.frozen 7
              have x8 := HM.out.r2.cell 8 _ rfl
              have y8 := HM.out.r2.frozen 8
              go_wp2_with fail
              go_region_held3 (fun w' => w'.cell? ⟨w.heap.size, 0, none⟩ = some (.string s)) (first | go_keep) (fail)
              have R9 : Hid (RowAt (((((((((wr.setCell ⟨w.heap.size + 1, 0, none⟩ (.int .i64 0)).setCell ⟨w.heap.size + 1, 1, none⟩ (.int .i64 0)).setCell ⟨w.heap.size + 1, 2, none⟩ (.int .i64 0)).setCell ⟨w.heap.size + 1, 3, none⟩ (.int .i64 0)).setCell ⟨w.heap.size + 1, 4, none⟩ (.int .i64 0)).setCell ⟨w.heap.size + 1, 5, none⟩ (.slice none 0 0)).setCell ⟨w.heap.size + 1, 6, none⟩ (.slice none 0 0)).setCell ⟨w.heap.size + 1, 7, none⟩ (.slice none 0 0)).setCell ⟨w.heap.size + 1, 8, none⟩ (.slice none 0 0)).drew (w.heap.size + 1) 46 zero9) := hid (RowAt.drew' (((((((((HM.out.r2.setCell 0 (.int .i64 0)).setCell 1 (.int .i64 0)).setCell 2 (.int .i64 0)).setCell 3 (.int .i64 0)).setCell 4 (.int .i64 0)).setCell 5 (.slice none 0 0)).setCell 6 (.slice none 0 0)).setCell 7 (.slice none 0 0)).setCell 8 (.slice none 0 0)))
              have B9 : Hid (Below w.heap.size w (((((((((wr.setCell ⟨w.heap.size + 1, 0, none⟩ (.int .i64 0)).setCell ⟨w.heap.size + 1, 1, none⟩ (.int .i64 0)).setCell ⟨w.heap.size + 1, 2, none⟩ (.int .i64 0)).setCell ⟨w.heap.size + 1, 3, none⟩ (.int .i64 0)).setCell ⟨w.heap.size + 1, 4, none⟩ (.int .i64 0)).setCell ⟨w.heap.size + 1, 5, none⟩ (.slice none 0 0)).setCell ⟨w.heap.size + 1, 6, none⟩ (.slice none 0 0)).setCell ⟨w.heap.size + 1, 7, none⟩ (.slice none 0 0)).setCell ⟨w.heap.size + 1, 8, none⟩ (.slice none 0 0)).drew) := hid (((((((((HM.out.below.setCell (p := ⟨w.heap.size + 1, 0, none⟩) (by show w.heap.size ≤ w.heap.size + 1; omega) (.int .i64 0)).setCell (p := ⟨w.heap.size + 1, 1, none⟩) (by show w.heap.size ≤ w.heap.size + 1; omega) (.int .i64 0)).setCell (p := ⟨w.heap.size + 1, 2, none⟩) (by show w.heap.size ≤ w.heap.size + 1; omega) (.int .i64 0)).setCell (p := ⟨w.heap.size + 1, 3, none⟩) (by show w.heap.size ≤ w.heap.size + 1; omega) (.int .i64 0)).setCell (p := ⟨w.heap.size + 1, 4, none⟩) (by show w.heap.size ≤ w.heap.size + 1; omega) (.int .i64 0)).setCell (p := ⟨w.heap.size + 1, 5, none⟩) (by show w.heap.size ≤ w.heap.size + 1; omega) (.slice none 0 0)).setCell (p := ⟨w.heap.size + 1, 6, none⟩) (by show w.heap.size ≤ w.heap.size + 1; omega) (.slice none 0 0)).setCell (p := ⟨w.heap.size + 1, 7, none⟩) (by show w.heap.size ≤ w.heap.size + 1; omega) (.slice none 0 0)).setCell (p := ⟨w.heap.size + 1, 8, none⟩) (by show w.heap.size ≤ w.heap.size + 1; omega) (.slice none 0 0)).drew
              clear HM
              go_wp2
              generalize World.drew _ = W9 at *
              refine bodyPost_ret (zero_read R9.out rfl rfl rfl) rfl ?_
              exact ⟨B9.out, zeroV, by simp [HD.out], by rw [HD.out]; exact isConf_zero _ _⟩
            · have hlt : a < s.size := by omega
              have hli : (a : Int) < (s.size : Int) := by omega
              have hl0 : (0 : Int) ≤ (a : Int) := by omega
              have e1 := wrap_gb s a hlt
              have e3 := wrapI_gb s a hlt
              have rr := gb_byte s a
              have HC : Hid (cnt (nums s) a = (gb (nums s) a).toNat) := hid rfl
              have c1 := HM.out.r1.cell 0 _ rfl
              have c3 := HM.out.r3.cell 3 _ rfl
              have c4 := HM.out.r4.cell 3 _ rfl
              generalize gb (nums s) a = G at *
              have rr0 := rr.1
              have rr1 := rr.2
              clear rr
              by_cases hmo : G > 6
              · have HD := hid (HDM.out hlt hmo)
                clear HDO HDM HOC HPL HN HO HC
                have x0 := HM.out.r2.cell 0 _ rfl
                have y0 := HM.out.r2.frozen 0
                have x1 := HM.out.r2.cell 1 _ rfl
                have y1 := HM.out.r2.frozen 1
                have x2 := HM.out.r2.cell 2 _ rfl
                have y2 := HM.out.r2.frozen 2
                have x3 := HM.out.r2.cell 3 _ rfl
                have y3 := HM.out.r2.frozen 3
                have x4 := HM.out.r2.cell 4 _ rfl
                have y4 := HM.out.r2.frozen 4
                have x5 := HM.out.r2.cell 5 _ rfl
                have y5 := HM.out.r2.frozen 5
                have x6 := HM.out.r2.cell 6 _ rfl
                have y6 := HM.out.r2.frozen 6
                have x7 := HM.out.r2.cell 7 _ rfl
                have y7 := HM.out.r2.frozen 7
                have x8 := HM.out.r2.cell 8 _ rfl
                have y8 := HM.out.r2.frozen 8
                go_wp2_with fail
                go_quiet (fail)
                have R9 : Hid (RowAt ((((((((((wr.drewN nq).setCell ⟨w.heap.size + 1, 0, none⟩ (.int .i64 0)).setCell ⟨w.heap.size + 1, 1, none⟩ (.int .i64 0)).setCell ⟨w.heap.size + 1, 2, none⟩ (.int .i64 0)).setCell ⟨w.heap.size + 1, 3, none⟩ (.int .i64 0)).setCell ⟨w.heap.size + 1, 4, none⟩ (.int .i64 0)).setCell ⟨w.heap.size + 1, 5, none⟩ (.slice none 0 0)).setCell ⟨w.heap.size + 1, 6, none⟩ (.slice none 0 0)).setCell ⟨w.heap.size + 1, 7, none⟩ (.slice none 0 0)).setCell ⟨w.heap.size + 1, 8, none⟩ (.slice none 0 0)) (w.heap.size + 1) 46 zero9) := hid ((((((((((show RowAt (wr.drewN nq) (w.heap.size + 1) 46 zero9 from HM.out.r2).setCell 0 (.int .i64 0)).setCell 1 (.int .i64 0)).setCell 2 (.int .i64 0)).setCell 3 (.int .i64 0)).setCell 4 (.int .i64 0)).setCell 5 (.slice none 0 0)).setCell 6 (.slice none 0 0)).setCell 7 (.slice none 0 0)).setCell 8 (.slice none 0 0))
                have B9 : Hid (Below w.heap.size w ((((((((((wr.drewN nq).setCell ⟨w.heap.size + 1, 0, none⟩ (.int .i64 0)).setCell ⟨w.heap.size + 1, 1, none⟩ (.int .i64 0)).setCell ⟨w.heap.size + 1, 2, none⟩ (.int .i64 0)).setCell ⟨w.heap.size + 1, 3, none⟩ (.int .i64 0)).setCell ⟨w.heap.size + 1, 4, none⟩ (.int .i64 0)).setCell ⟨w.heap.size + 1, 5, none⟩ (.slice none 0 0)).setCell ⟨w.heap.size + 1, 6, none⟩ (.slice none 0 0)).setCell ⟨w.heap.size + 1, 7, none⟩ (.slice none 0 0)).setCell ⟨w.heap.size + 1, 8, none⟩ (.slice none 0 0))) := hid ((((((((((below_drewN HM.out.below nq).setCell (p := ⟨w.heap.size + 1, 0, none⟩) (by show w.heap.size ≤ w.heap.size + 1; omega) (.int .i64 0)).setCell (p := ⟨w.heap.size + 1, 1, none⟩) (by show w.heap.size ≤ w.heap.size + 1; omega) (.int .i64 0)).setCell (p := ⟨w.heap.size + 1, 2, none⟩) (by show w.heap.size ≤ w.heap.size + 1; omega) (.int .i64 0)).setCell (p := ⟨w.heap.size + 1, 3, none⟩) (by show w.heap.size ≤ w.heap.size + 1; omega) (.int .i64 0)).setCell (p := ⟨w.heap.size + 1, 4, none⟩) (by show w.heap.size ≤ w.heap.size + 1; omega) (.int .i64 0)).setCell (p := ⟨w.heap.size + 1, 5, none⟩) (by show w.heap.size ≤ w.heap.size + 1; omega) (.slice none 0 0)).setCell (p := ⟨w.heap.size + 1, 6, none⟩) (by show w.heap.size ≤ w.heap.size + 1; omega) (.slice none 0 0)).setCell (p := ⟨w.heap.size + 1, 7, none⟩) (by show w.heap.size ≤ w.heap.size + 1; omega) (.slice none 0 0)).setCell (p := ⟨w.heap.size + 1, 8, none⟩) (by show w.heap.size ≤ w.heap.size + 1; omega) (.slice none 0 0))
                clear HM
                go_wp2
                generalize World.setCell _ _ _ = W9 at *
                refine bodyPost_ret (zero_read R9.out rfl rfl rfl) rfl ?_
                exact ⟨B9.out, zeroV, by simp [HD.out], by rw [HD.out]; exact isConf_zero _ _⟩
              · have HOC2 := hid (HOC.out hlt (by omega))
                clear HDO HDM HOC
                go_wp2_with fail
                go_quiet (fail)
                have HM2 := hid (HM.out.bel (below_drewN (Below.refl _ _) nq))
                have HO2 := hid (owns_below' HO.out (below_drewN (Below.refl wr.heap.size wr) nq))
                generalize wr.drewN nq = wq at *
                have ltq := HM2.out.lt
                have c1 := HM2.out.r1.cell 0 _ rfl
                have Hbm : Hid (Below wq.heap.size wq (wq.alloc (.cells #[.int .i64 (a : Int)] 3))) := hid (below_new _ _)
                have HO3 := hid (owns_below' HO2.out Hbm.out)
                have HN3 : Hid (∀ j u, [Value.int .i64 (a : Int)][j]? = some u → (wq.alloc (.cells #[.int .i64 (a : Int)] 3)).cell? ((⟨wq.heap.size, 0, none⟩ : Addr).add j) = some u) := hid (RowAt.news (X := [Value.int .i64 (a : Int)]) (Y := []) (t := 3) (rowAt_new2 wq _ [Value.int .i64 (a : Int)] 3 rfl))
                clear HM HO HO2 c3 c4
                go_wp2_with (first
                  | (at_builtin; refine wpList_append_own _ rfl _ _ 42 rfl (w.heap.size + 1 + 1 + 1 + 1) 3 i3 _ 1 8 Try.underlying42 hi hz hsz hby rfl (by decide) _ _ _ rfl HO3.out ⟨wq.heap.size, 0, none⟩ 1 1 [.int .i64 (a : Int)] rfl rfl HN3.out ?c1 ?c2 ?c3 ?c4 ?_))
                case c1 => intro x hx; rw [List.mem_singleton.1 hx]; rfl
                case c2 => simp [maxLen]
                case c3 => omega
                case c4 => simp; omega
                intro v2 w1 hown1 hgrow _
                have HM3 := hid (HM2.out.grow Hbm.out hgrow (fun q hq => (hvb q hq).1))
                have HO4 : Hid (w1.ownsRow (w.heap.size + 1 + 1 + 1 + 1) 3 1 v2 (3 + 1) (pl (nums s) (3 + 1))) := hid (by rw [HPL.out]; exact hown1)
                clear HO3 HN3 HM2 hown1 hgrow Hbm HPL c1
                have c1 := HM3.out.r1.cell 0 _ rfl
                have c3 := HM3.out.r3.cell 3 _ rfl
                have q1 : IntKind.i64.wrap (7 * G) = 7 * G := by rw [IntKind.wrap_i64]; omega
                have q1' : IntKind.i64.wrap G = G := by rw [IntKind.wrap_i64]; omega
                have q2 : IntKind.i64.wrap (1 + 7 * G) = 1 + 7 * G := by rw [IntKind.wrap_i64]; omega
                have q2' : IntKind.i64.wrap (1 + G) = 1 + G := by rw [IntKind.wrap_i64]; omega
                have q3 : IntKind.i64.wrap ((a : Int) + (1 + 7 * G)) = (a : Int) + (1 + 7 * G) := by rw [IntKind.wrap_i64]; omega
                have q3' : IntKind.i64.wrap ((a : Int) + (1 + G)) = (a : Int) + (1 + G) := by rw [IntKind.wrap_i64]; omega
                go_wp2_with fail
                go_quiet (fail)
                go_wp2
                go_roundw
                case rel =>
                  refine ⟨3 + 1, by omega, by go_num, ?_, fun j hj => ?_, owns_below' HO4.out (below_drewN (Below.refl _ _) _), HM3.out.bel (below_drewN (Below.refl _ _) _)⟩
                  · rw [HN.out, HC.out]
                    congr 1
                    omega
                  · by_cases e : j = 3
                    · subst e; exact HOC2.out
                    · exact HOK.out j (by omega)
                case measure => simp [intOf]
          · have HOK4 := HOK
            have HDOV := hid (dec_over HBG.out H67.out HOK.out)
            have HDMO := hid (dec_more HBG.out H67.out HOK.out)
            have HDAL := hid (dec_all HBG.out H67.out HOK.out)
            rw [HLN.out] at HDOV HDMO HDAL
            have HP4 := hid (ps_le (nums s))
            have hA4 := hid (rfl : ps (nums s) 4 = ps (nums s) 4)
            generalize hps4 : ps (nums s) 4 = a at *
            have HPS4 := hid hps4
            clear hps4 hA4
            by_cases hov : s.size < a
            · have HD := hid (HDOV.out hov)
              have hgi : ((s.size : Nat) : Int) < (a : Int) := by omega
              clear HDOV HDMO HDAL HO
              have c1 := HM.out.r1.cell 0 _ rfl
              have lt1 := HM.out.lt
              have x0 := HM.out.r2.cell 0 _ rfl
              have y0 := HM.out.r2.frozen 0
              have x1 := HM.out.r2.cell 1 _ rfl
              have y1 := HM.out.r2.frozen 1
              have x2 := HM.out.r2.cell 2 _ rfl
              have y2 := HM.out.r2.frozen 2
              have x3 := HM.out.r2.cell 3 _ rfl
              have y3 := HM.out.r2.frozen 3
              have x4 := HM.out.r2.cell 4 _ rfl
              have y4 := HM.out.r2.frozen 4
              have x5 := HM.out.r2.cell 5 _ rfl
              have y5 := HM.out.r2.frozen 5
              have x6 := HM.out.r2.cell 6 _ rfl
              have y6 := HM.out.r2.frozen 6
              have x7 := HM.out.r2.cell 7 _ rfl
              have y7 := HM.out.r2.frozen 7
              have x8 := HM.out.r2.cell 8 _ rfl
              have y8 := HM.out.r2.frozen 8
              go_wp2_with fail
              go_region_held3 (fun w' => w'.cell? ⟨w.heap.size, 0, none⟩ = some (.string s)) (first | go_keep) (fail)
              have R9 : Hid (RowAt (((((((((wr.setCell ⟨w.heap.size + 1, 0, none⟩ (.int .i64 0)).setCell ⟨w.heap.size + 1, 1, none⟩ (.int .i64 0)).setCell ⟨w.heap.size + 1, 2, none⟩ (.int .i64 0)).setCell ⟨w.heap.size + 1, 3, none⟩ (.int .i64 0)).setCell ⟨w.heap.size + 1, 4, none⟩ (.int .i64 0)).setCell ⟨w.heap.size + 1, 5, none⟩ (.slice none 0 0)).setCell ⟨w.heap.size + 1, 6, none⟩ (.slice none 0 0)).setCell ⟨w.heap.size + 1, 7, none⟩ (.slice none 0 0)).setCell ⟨w.heap.size + 1, 8, none⟩ (.slice none 0 0)).drew (w.heap.size + 1) 46 zero9) := hid (RowAt.drew' (((((((((HM.out.r2.setCell 0 (.int .i64 0)).setCell 1 (.int .i64 0)).setCell 2 (.int .i64 0)).setCell 3 (.int .i64 0)).setCell 4 (.int .i64 0)).setCell 5 (.slice none 0 0)).setCell 6 (.slice none 0 0)).setCell 7 (.slice none 0 0)).setCell 8 (.slice none 0 0)))
              have B9 : Hid (Below w.heap.size w (((((((((wr.setCell ⟨w.heap.size + 1, 0, none⟩ (.int .i64 0)).setCell ⟨w.heap.size + 1, 1, none⟩ (.int .i64 0)).setCell ⟨w.heap.size + 1, 2, none⟩ (.int .i64 0)).setCell ⟨w.heap.size + 1, 3, none⟩ (.int .i64 0)).setCell ⟨w.heap.size + 1, 4, none⟩ (.int .i64 0)).setCell ⟨w.heap.size + 1, 5, none⟩ (.slice none 0 0)).setCell ⟨w.heap.size + 1, 6, none⟩ (.slice none 0 0)).setCell ⟨w.heap.size + 1, 7, none⟩ (.slice none 0 0)).setCell ⟨w.heap.size + 1, 8, none⟩ (.slice none 0 0)).drew) := hid (((((((((HM.out.below.setCell (p := ⟨w.heap.size + 1, 0, none⟩) (by show w.heap.size ≤ w.heap.size + 1; omega) (.int .i64 0)).setCell (p := ⟨w.heap.size + 1, 1, none⟩) (by show w.heap.size ≤ w.heap.size + 1; omega) (.int .i64 0)).setCell (p := ⟨w.heap.size + 1, 2, none⟩) (by show w.heap.size ≤ w.heap.size + 1; omega) (.int .i64 0)).setCell (p := ⟨w.heap.size + 1, 3, none⟩) (by show w.heap.size ≤ w.heap.size + 1; omega) (.int .i64 0)).setCell (p := ⟨w.heap.size + 1, 4, none⟩) (by show w.heap.size ≤ w.heap.size + 1; omega) (.int .i64 0)).setCell (p := ⟨w.heap.size + 1, 5, none⟩) (by show w.heap.size ≤ w.heap.size + 1; omega) (.slice none 0 0)).setCell (p := ⟨w.heap.size + 1, 6, none⟩) (by show w.heap.size ≤ w.heap.size + 1; omega) (.slice none 0 0)).setCell (p := ⟨w.heap.size + 1, 7, none⟩) (by show w.heap.size ≤ w.heap.size + 1; omega) (.slice none 0 0)).setCell (p := ⟨w.heap.size + 1, 8, none⟩) (by show w.heap.size ≤ w.heap.size + 1; omega) (.slice none 0 0)).drew
              clear HM
              go_wp2
              generalize World.drew _ = W9 at *
              refine bodyPost_ret (zero_read R9.out rfl rfl rfl) rfl ?_
              exact ⟨B9.out, zeroV, by simp [HD.out], by rw [HD.out]; exact isConf_zero _ _⟩
            · by_cases hmr : a < s.size
              · have HD := hid (HDMO.out hmr)
                have hgi : (a : Int) < ((s.size : Nat) : Int) := by omega
                have hgj : ¬ ((s.size : Nat) : Int) < (a : Int) := by omega
                clear HDOV HDMO HDAL HO
                have c1 := HM.out.r1.cell 0 _ rfl
                have x0 := HM.out.r2.cell 0 _ rfl
                have y0 := HM.out.r2.frozen 0
                have x1 := HM.out.r2.cell 1 _ rfl
                have y1 := HM.out.r2.frozen 1
                have x2 := HM.out.r2.cell 2 _ rfl
                have y2 := HM.out.r2.frozen 2
                have x3 := HM.out.r2.cell 3 _ rfl
                have y3 := HM.out.r2.frozen 3
                have x4 := HM.out.r2.cell 4 _ rfl
                have y4 := HM.out.r2.frozen 4
                have x5 := HM.out.r2.cell 5 _ rfl
                have y5 := HM.out.r2.frozen 5
                have x6 := HM.out.r2.cell 6 _ rfl
                have y6 := HM.out.r2.frozen 6
                have x7 := HM.out.r2.cell 7 _ rfl
                have y7 := HM.out.r2.frozen 7
                have x8 := HM.out.r2.cell 8 _ rfl
                have y8 := HM.out.r2.frozen 8
                have R9 : Hid (RowAt (((((((((wr.setCell ⟨w.heap.size + 1, 0, none⟩ (.int .i64 0)).setCell ⟨w.heap.size + 1, 1, none⟩ (.int .i64 0)).setCell ⟨w.heap.size + 1, 2, none⟩ (.int .i64 0)).setCell ⟨w.heap.size + 1, 3, none⟩ (.int .i64 0)).setCell ⟨w.heap.size + 1, 4, none⟩ (.int .i64 0)).setCell ⟨w.heap.size + 1, 5, none⟩ (.slice none 0 0)).setCell ⟨w.heap.size + 1, 6, none⟩ (.slice none 0 0)).setCell ⟨w.heap.size + 1, 7, none⟩ (.slice none 0 0)).setCell ⟨w.heap.size + 1, 8, none⟩ (.slice none 0 0)) (w.heap.size + 1) 46 zero9) := hid ((((((((((show RowAt wr (w.heap.size + 1) 46 zero9 from HM.out.r2).setCell 0 (.int .i64 0)).setCell 1 (.int .i64 0)).setCell 2 (.int .i64 0)).setCell 3 (.int .i64 0)).setCell 4 (.int .i64 0)).setCell 5 (.slice none 0 0)).setCell 6 (.slice none 0 0)).setCell 7 (.slice none 0 0)).setCell 8 (.slice none 0 0))
                have B9 : Hid (Below w.heap.size w (((((((((wr.setCell ⟨w.heap.size + 1, 0, none⟩ (.int .i64 0)).setCell ⟨w.heap.size + 1, 1, none⟩ (.int .i64 0)).setCell ⟨w.heap.size + 1, 2, none⟩ (.int .i64 0)).setCell ⟨w.heap.size + 1, 3, none⟩ (.int .i64 0)).setCell ⟨w.heap.size + 1, 4, none⟩ (.int .i64 0)).setCell ⟨w.heap.size + 1, 5, none⟩ (.slice none 0 0)).setCell ⟨w.heap.size + 1, 6, none⟩ (.slice none 0 0)).setCell ⟨w.heap.size + 1, 7, none⟩ (.slice none 0 0)).setCell ⟨w.heap.size + 1, 8, none⟩ (.slice none 0 0))) := hid (((((((((HM.out.below.setCell (p := ⟨w.heap.size + 1, 0, none⟩) (by show w.heap.size ≤ w.heap.size + 1; omega) (.int .i64 0)).setCell (p := ⟨w.heap.size + 1, 1, none⟩) (by show w.heap.size ≤ w.heap.size + 1; omega) (.int .i64 0)).setCell (p := ⟨w.heap.size + 1, 2, none⟩) (by show w.heap.size ≤ w.heap.size + 1; omega) (.int .i64 0)).setCell (p := ⟨w.heap.size + 1, 3, none⟩) (by show w.heap.size ≤ w.heap.size + 1; omega) (.int .i64 0)).setCell (p := ⟨w.heap.size + 1, 4, none⟩) (by show w.heap.size ≤ w.heap.size + 1; omega) (.int .i64 0)).setCell (p := ⟨w.heap.size + 1, 5, none⟩) (by show w.heap.size ≤ w.heap.size + 1; omega) (.slice none 0 0)).setCell (p := ⟨w.heap.size + 1, 6, none⟩) (by show w.heap.size ≤ w.heap.size + 1; omega) (.slice none 0 0)).setCell (p := ⟨w.heap.size + 1, 7, none⟩) (by show w.heap.size ≤ w.heap.size + 1; omega) (.slice none 0 0)).setCell (p := ⟨w.heap.size + 1, 8, none⟩) (by show w.heap.size ≤ w.heap.size + 1; omega) (.slice none 0 0))
                clear HM
                go_wp2
                generalize World.setCell _ _ _ = W9 at *
                refine bodyPost_ret (zero_read R9.out rfl rfl rfl) rfl ?_
                exact ⟨B9.out, zeroV, by simp [HD.out], by rw [HD.out]; exact isConf_zero _ _⟩
              · obtain rfl : a = s.size := by omega
                have HDA := hid (HDAL.out rfl)
                clear HDOV HDMO HDAL hov hmr
                have hok0 := HOK.out 0 (by omega)
                have hok1 := HOK.out 1 (by omega)
                have hok2 := HOK.out 2 (by omega)
                have hok3 := HOK.out 3 (by omega)
                have hb7 : 6 < s.size := by have := hok0.1; rw [HLN.out] at this; exact this
                have c1 := HM.out.r1.cell 0 _ rfl
                obtain ⟨g8, cap8, rfl, hg8, hg8l⟩ := HO.out.form (by omega)
                go_wp2_with fail
                refine (b_any s 1 w.heap.size _ (by first | exact c1 | (simp; exact c1)) (by omega) hs).mono ?_
                rintro e w' ⟨rfl, rfl⟩
                go_wp2_with fail
                refine (b_any s 2 w.heap.size _ (by first | exact c1 | (simp; exact c1)) (by omega) hs).mono ?_
                rintro e w' ⟨rfl, rfl⟩
                go_wp2_with fail
                refine (b_any s 3 w.heap.size _ (by first | exact c1 | (simp; exact c1)) (by omega) hs).mono ?_
                rintro e w' ⟨rfl, rfl⟩
                go_wp2_with fail
                refine (b_any s 4 w.heap.size _ (by first | exact c1 | (simp; exact c1)) (by omega) hs).mono ?_
                rintro e w' ⟨rfl, rfl⟩
                go_wp2_with fail
                refine (b_any s 5 w.heap.size _ (by first | exact c1 | (simp; exact c1)) (by omega) hs).mono ?_
                rintro e w' ⟨rfl, rfl⟩
                have N0 : Hid (Dn w (wr.alloc (.cells #[.int .i64 (gb (nums s) 1), .int .i64 (gb (nums s) 2), .int .i64 (gb (nums s) 3), .int .i64 (gb (nums s) 4), .int .i64 (gb (nums s) 5), .slice none 0 0, .slice none 0 0, .slice none 0 0, .slice none 0 0] 46)) s (.slice (some ⟨g8, 0, none⟩) 4 cap8) wr.heap.size [.int .i64 (gb (nums s) 1), .int .i64 (gb (nums s) 2), .int .i64 (gb (nums s) 3), .int .i64 (gb (nums s) 4), .int .i64 (gb (nums s) 5), .slice none 0 0, .slice none 0 0, .slice none 0 0, .slice none 0 0]) := by
                  have q := below_new wr (.cells #[.int .i64 (gb (nums s) 1), .int .i64 (gb (nums s) 2), .int .i64 (gb (nums s) 3), .int .i64 (gb (nums s) 4), .int .i64 (gb (nums s) 5), .slice none 0 0, .slice none 0 0, .slice none 0 0, .slice none 0 0] 46)
                  have h := HM.out.bel q
                  refine hid ⟨h.below, h.r1, h.r2, owns_below' HO.out q, by have := HM.out.lt; omega, fun k hk => (hvb k hk).2, rowAt_new2 wr _ [.int .i64 (gb (nums s) 1), .int .i64 (gb (nums s) 2), .int .i64 (gb (nums s) 3), .int .i64 (gb (nums s) 4), .int .i64 (gb (nums s) 5), .slice none 0 0, .slice none 0 0, .slice none 0 0, .slice none 0 0] 46 rfl⟩
                have hcb : w.heap.size + 1 + 1 + 1 + 1 ≤ wr.heap.size := by omega
                clear HM HO c1
                go_wp2
                generalize wr.alloc _ = Wj at *
                generalize wr.heap.size = cb at *
                have hcbl := N0.out.bx.lt
                have Q0 : Hid (∃ P, ps (nums s) 0 = P ∧ P < s.size ∧ gb (nums s) P = (cnt (nums s) P : Int) ∧ cnt (nums s) P ≤ 6 ∧ P + 1 + 3 * cnt (nums s) P ≤ s.size) := by
                  have h1 := (hok0).1
                  have h2 := (hok0).2
                  rw [HLN.out] at h1
                  have h3 := (gb_byte s (ps (nums s) 0)).1
                  have h4 := HP4.out
                  have h5 : ps (nums s) 1 = ps (nums s) 0 + 1 + 3 * cnt (nums s) (ps (nums s) 0) := rfl
                  have h6 := HPS4.out
                  have h7 : (cnt (nums s) (ps (nums s) 0) : Int) = gb (nums s) (ps (nums s) 0) := by rw [cnt]; omega
                  simp only [ms4] at h2
                  exact hid ⟨_, rfl, h1, h7.symm, by omega, by omega⟩
                obtain ⟨P0, hPe0, hP0, hgP0, hC60, hPC0⟩ := Q0.out
                have HPe0 := hid hPe0
                have HgP0 := hid hgP0
                clear Q0 hgP0
                have HCn0 := hid (rfl : cnt (nums s) P0 = cnt (nums s) P0)
                generalize hCn : cnt (nums s) P0 = C0 at *
                have HCN0 := hid hCn
                clear hCn HCn0
                go_loopw [13] (fun i wr => ∃ (k : Nat) (v : Value), k ≤ C0 ∧ i = .int .i64 k ∧ Wj.grownBy wr (some cb) ∧ RowAt wr cb 46 [.int .i64 (gb (nums s) 1), .int .i64 (gb (nums s) 2), .int .i64 (gb (nums s) 3), .int .i64 (gb (nums s) 4), .int .i64 (gb (nums s) 5), v, (.slice none 0 0), (.slice none 0 0), (.slice none 0 0)] ∧ wr.ownsRow Wj.heap.size 122 2 v k (flS ((List.range k).map (fun i => (gb (nums s) (P0 + 1 + 3 * i), gw (nums s) (P0 + 1 + 3 * i + 1)))))) (fun i _ => C0 - (intOf i).toNat)
                case atStart => exact ⟨0, .slice none 0 0, Nat.zero_le _, rfl, ⟨rfl, rfl, rfl, Nat.le_refl _, fun _ _ _ => rfl⟩, N0.out.bx, World.ownsRow_nil _ _ _ _⟩
                case round =>
                  obtain ⟨k, v, hk, rfl, hg, hbx, hown⟩ := hrel
                  have HG := hid hg
                  have HBX := hid hbx
                  have HOL := hid hown
                  have HDn := hid (N0.out.over hg hbx)
                  have hvb := hown.lt
                  have hsW := hg.size
                  have hc1 := HDn.out.r1.cell 0 _ rfl
                  have hcn := pl_cell HDn.out.cn 0 (by omega)
                  rw [HPe0.out] at hcn
                  have hcbw := HBX.out.lt
                  have hg8w := HDn.out.cn.lt g8 rfl
                  clear hg hbx hown
                  by_cases hlt : k < C0
                  · skip
                    go_wp2_with fail
                    refine (b_any s P0 w.heap.size _ (by first | exact hc1 | (simp; exact hc1)) hP0 hs).mono ?_
                    rintro e w' ⟨rfl, rfl⟩
                    rw [HgP0.out]
                    have hki : (k : Int) < (C0 : Int) := by omega
                    have hpi : (((P0 + 1 + 3 * k : Nat)) : Int) = (P0 : Int) + 1 + 3 * (k : Int) := by omega
                    have Hpos : Hid (P0 + 1 + 3 * k + 3 ≤ s.size) := hid (by have : 3 * (k + 1) ≤ 3 * C0 := Nat.mul_le_mul_left 3 hlt; omega)
                    have HX : Hid (flS ((List.range (k + 1)).map (fun i => (gb (nums s) (P0 + 1 + 3 * i), gw (nums s) (P0 + 1 + 3 * i + 1)))) = flS ((List.range k).map (fun i => (gb (nums s) (P0 + 1 + 3 * i), gw (nums s) (P0 + 1 + 3 * i + 1)))) ++ [.int .i64 (gb (nums s) (P0 + 1 + 3 * k)), .int .i64 (gw (nums s) (P0 + 1 + 3 * k + 1))]) := hid (by rw [List.range_succ, List.map_append]; exact flS_snoc _ _)
                    obtain ⟨i76', hi', hz', hsz', hby'⟩ := infoOf Try.info122r
                    have hbxc := HBX.out.cell 5 _ rfl
                    have hbxf := HBX.out.frozen 5
                    have hbxd : ∀ q o, ((wr.drewN q).alloc o).cell? ⟨cb, 5, none⟩ = some v := fun q o => cell_old o (show (wr.drewN q).cell? _ = _ from hbxc)
                    have hbxa : ∀ o, (wr.alloc o).cell? ⟨cb, 5, none⟩ = some v := fun o => cell_old o hbxc
                    have hne8 : ¬ cb = g8 := by have := N0.out.nc g8 rfl; omega
                    have wr1 : IntKind.i64.wrap ((P0 : Int) + 1 + 3 * (k : Int) + 1) = (P0 : Int) + 1 + 3 * (k : Int) + 1 := by rw [IntKind.wrap_i64]; have := Hpos.out; omega
                    go_wp2_with fail
                    go_region_law (first
                      | (go_simp; go_at_call 83; refine (bI_any s _ (P0 + 1 + 3 * k) w.heap.size _ (by omega) (by first | exact hc1 | (simp; exact hc1)) (by have := Hpos.out; omega) hs).mono ?_; rintro e w' ⟨rfl, rfl⟩)
                      | (go_simp; go_at_call 84; refine (wI_any s _ (P0 + 1 + 3 * k + 1) w.heap.size _ (by omega) (by first | exact hc1 | (simp; exact hc1)) (by have := Hpos.out; omega) hs).mono ?_; rintro e w' ⟨rfl, nn1, rfl⟩)
                      | (refine step_append_lies _ (by rfl) _ _ _ (by rfl) Wj.heap.size 122 i76' _ 2 16 Try.underlying41 hi' hz' hsz' hby' rfl (by omega) v k (flS ((List.range k).map (fun i => (gb (nums s) (P0 + 1 + 3 * i), gw (nums s) (P0 + 1 + 3 * i + 1))))) (by rfl) (by refine owns_below' HOL.out ?_; first | exact below_drewN (below_new _ _) _ | exact (below_drewN (Below.refl _ _) _).alloc (Nat.le_refl _) _ | exact (below_new _ _).drew | exact below_drewN (below_new _ _).drew _ | exact (below_drewN (below_new _ _) _).drew) ⟨wr.heap.size, 0, none⟩ 1 1 [.int .i64 (gb (nums s) (P0 + 1 + 3 * k)), .int .i64 (gw (nums s) (P0 + 1 + 3 * k + 1))] (by rfl) (by rfl) (by first | exact RowAt.news (Y := []) (RowAt.drewN (rowAt_new2 wr _ [Value.int .i64 (gb (nums s) (P0 + 1 + 3 * k)), Value.int .i64 (gw (nums s) (P0 + 1 + 3 * k + 1))] 122 rfl) _) | exact RowAt.news (Y := []) (RowAt.drew' (rowAt_new2 wr _ [Value.int .i64 (gb (nums s) (P0 + 1 + 3 * k)), Value.int .i64 (gw (nums s) (P0 + 1 + 3 * k + 1))] 122 rfl)) | exact RowAt.news (Y := []) (rowAt_new2 (wr.drewN _) _ [Value.int .i64 (gb (nums s) (P0 + 1 + 3 * k)), Value.int .i64 (gw (nums s) (P0 + 1 + 3 * k + 1))] 122 rfl)) (by intro u hu; simp only [List.mem_cons, List.not_mem_nil, or_false] at hu; rcases hu with rfl | rfl <;> rfl) (by omega) (by simp [maxLen]; omega) (by omega) (by simp; omega) (wr.heap.size + 1) (by simp) ?_; intro g2 cap2 w1 hown1 hgrow hat hlt1; have HB1 := hid (RowAt.grown' (show RowAt _ cb 46 [.int .i64 (gb (nums s) 1), .int .i64 (gb (nums s) 2), .int .i64 (gb (nums s) 3), .int .i64 (gb (nums s) 4), .int .i64 (gb (nums s) 5), v, (.slice none 0 0), (.slice none 0 0), (.slice none 0 0)] from (by first | exact RowAt.drewN (RowAt.alloc HBX.out _) _ | exact RowAt.drew' (RowAt.alloc HBX.out _) | exact RowAt.alloc (RowAt.drewN HBX.out _) _)) hgrow (fun e => by have := (hvb _ e.symm).1; omega)); have hc2 := HB1.out.cell 5 _ rfl; have hf2 := HB1.out.frozen 5))
                    all_goals
                      have HE : Hid (Wj.grownBy (w1.setCell ⟨cb, 5, none⟩ (.slice (some ⟨g2, 0, none⟩) (k + 1) cap2)) (some cb) ∧ RowAt (w1.setCell ⟨cb, 5, none⟩ (.slice (some ⟨g2, 0, none⟩) (k + 1) cap2)) cb 46 [.int .i64 (gb (nums s) 1), .int .i64 (gb (nums s) 2), .int .i64 (gb (nums s) 3), .int .i64 (gb (nums s) 4), .int .i64 (gb (nums s) 5), (.slice (some ⟨g2, 0, none⟩) (k + 1) cap2), (.slice none 0 0), (.slice none 0 0), (.slice none 0 0)] ∧ (w1.setCell ⟨cb, 5, none⟩ (.slice (some ⟨g2, 0, none⟩) (k + 1) cap2)).ownsRow Wj.heap.size 122 2 (.slice (some ⟨g2, 0, none⟩) (k + 1) cap2) (k + 1) (flS ((List.range (k + 1)).map (fun i => (gb (nums s) (P0 + 1 + 3 * i), gw (nums s) (P0 + 1 + 3 * i + 1)))))) := by
                        refine hid ⟨grow_more HG.out (by first | exact below_drewN (below_new _ _) _ | exact (below_drewN (Below.refl _ _) _).alloc (Nat.le_refl _) _ | exact (below_new _ _).drew | exact below_drewN (below_new _ _).drew _ | exact (below_drewN (below_new _ _) _).drew) hgrow (fun q hq => (hvb q hq).1), HB1.out.setCell 5 _, ?_⟩
                        rw [HX.out]
                        exact owns_row_set hown1 (by omega)
                      clear hown1 hgrow hat HB1 hc2 hf2
                      go_wp2
                      go_roundw
                      case rel => exact ⟨k + 1, _, by omega, by go_num, HE.out⟩
                      case measure => simp [intOf]; omega
                  · obtain rfl : k = C0 := by omega
                    go_wp2_with fail
                    refine (b_any s P0 w.heap.size _ (by first | exact hc1 | (simp; exact hc1)) hP0 hs).mono ?_
                    rintro e w' ⟨rfl, rfl⟩
                    rw [HgP0.out]
                    have hki : ¬ (k : Int) < (k : Int) := by omega
                    obtain ⟨v5, rfl⟩ : ∃ x, x = v := ⟨_, rfl⟩
                    have OL0 := HOL
                    have hgj := HG.out
                    have N1 := HDn
                    clear HG HBX HOL HDn hvb hc1 hcn hgj
                    obtain ⟨W1, rfl⟩ : ∃ x, x = wr := ⟨_, rfl⟩
                    obtain ⟨C0', rfl⟩ : ∃ x, x = k := ⟨_, rfl⟩
                    have hsW0 : Wj.heap.size ≤ W1.heap.size := hsW
                    have hcbw0 := hcbw
                    clear hsW hcbw hki hlt hk
                    go_wp2
                    have Q1 : Hid (∃ P, ps (nums s) 1 = P ∧ P < s.size ∧ gb (nums s) P = (cnt (nums s) P : Int) ∧ cnt (nums s) P ≤ 4 ∧ P + 1 + 1 * cnt (nums s) P ≤ s.size) := by
                      have h1 := (hok1).1
                      have h2 := (hok1).2
                      rw [HLN.out] at h1
                      have h3 := (gb_byte s (ps (nums s) 1)).1
                      have h4 := HP4.out
                      have h5 : ps (nums s) 2 = ps (nums s) 1 + 1 + 1 * cnt (nums s) (ps (nums s) 1) := rfl
                      have h6 := HPS4.out
                      have h7 : (cnt (nums s) (ps (nums s) 1) : Int) = gb (nums s) (ps (nums s) 1) := by rw [cnt]; omega
                      simp only [ms4] at h2
                      exact hid ⟨_, rfl, h1, h7.symm, by omega, by omega⟩
                    obtain ⟨P1, hPe1, hP1, hgP1, hC61, hPC1⟩ := Q1.out
                    have HPe1 := hid hPe1
                    have HgP1 := hid hgP1
                    clear Q1 hgP1
                    have HCn1 := hid (rfl : cnt (nums s) P1 = cnt (nums s) P1)
                    generalize hCn : cnt (nums s) P1 = C1 at *
                    have HCN1 := hid hCn
                    clear hCn HCn1
                    go_loopw [15] (fun i wr => ∃ (k : Nat) (v : Value), k ≤ C1 ∧ i = .int .i64 k ∧ W1.grownBy wr (some cb) ∧ RowAt wr cb 46 [.int .i64 (gb (nums s) 1), .int .i64 (gb (nums s) 2), .int .i64 (gb (nums s) 3), .int .i64 (gb (nums s) 4), .int .i64 (gb (nums s) 5), v5, v, (.slice none 0 0), (.slice none 0 0)] ∧ wr.ownsRow W1.heap.size 3 1 v k (flI ((List.range k).map (fun i => gb (nums s) (P1 + 1 + i))))) (fun i _ => C1 - (intOf i).toNat)
                    case atStart => exact ⟨0, .slice none 0 0, Nat.zero_le _, rfl, ⟨rfl, rfl, rfl, Nat.le_refl _, fun _ _ _ => rfl⟩, N1.out.bx, World.ownsRow_nil _ _ _ _⟩
                    case round =>
                      obtain ⟨k, v, hk, rfl, hg, hbx, hown⟩ := hrel
                      have HG := hid hg
                      have HBX := hid hbx
                      have HOL := hid hown
                      have HDn := hid (N1.out.over hg hbx)
                      have hvb := hown.lt
                      have hsW := hg.size
                      have hc1 := HDn.out.r1.cell 0 _ rfl
                      have hcn := pl_cell HDn.out.cn 1 (by omega)
                      rw [HPe1.out] at hcn
                      have hcbw := HBX.out.lt
                      have hg8w := HDn.out.cn.lt g8 rfl
                      clear hg hbx hown
                      by_cases hlt : k < C1
                      · skip
                        go_wp2_with fail
                        refine (b_any s P1 w.heap.size _ (by first | exact hc1 | (simp; exact hc1)) hP1 hs).mono ?_
                        rintro e w' ⟨rfl, rfl⟩
                        rw [HgP1.out]
                        have hki : (k : Int) < (C1 : Int) := by omega
                        have hpi : (((P1 + 1 + k : Nat)) : Int) = (P1 : Int) + 1 + (k : Int) := by omega
                        have Hpos : Hid (P1 + 1 + k + 1 ≤ s.size) := hid (by have : 1 * (k + 1) ≤ 1 * C1 := Nat.mul_le_mul_left 1 hlt; omega)
                        have HX : Hid (flI ((List.range (k + 1)).map (fun i => gb (nums s) (P1 + 1 + i))) = flI ((List.range k).map (fun i => gb (nums s) (P1 + 1 + i))) ++ [.int .i64 (gb (nums s) (P1 + 1 + k))]) := hid (by rw [List.range_succ, List.map_append]; exact flI_snoc _ _)
                        obtain ⟨i3', hi', hz', hsz', hby'⟩ := infoOf Try.info3r
                        have hbxc := HBX.out.cell 6 _ rfl
                        have hbxf := HBX.out.frozen 6
                        have hbxd : ∀ q o, ((wr.drewN q).alloc o).cell? ⟨cb, 6, none⟩ = some v := fun q o => cell_old o (show (wr.drewN q).cell? _ = _ from hbxc)
                        have hbxa : ∀ o, (wr.alloc o).cell? ⟨cb, 6, none⟩ = some v := fun o => cell_old o hbxc
                        have hne8 : ¬ cb = g8 := by have := N0.out.nc g8 rfl; omega
                        have wra : IntKind.i64.wrap ((P1 : Int) + 1) = (P1 : Int) + 1 := by rw [IntKind.wrap_i64]; have := Hpos.out; omega
                        have wrb : IntKind.i64.wrap ((P1 : Int) + 1 + (k : Int)) = (P1 : Int) + 1 + (k : Int) := by rw [IntKind.wrap_i64]; have := Hpos.out; omega
                        go_wp2_with fail
                        go_region_law (first
                          | (go_simp; go_at_call 83; refine (bI_any s _ (P1 + 1 + k) w.heap.size _ (by omega) (by first | exact hc1 | (simp; exact hc1)) (by have := Hpos.out; omega) hs).mono ?_; rintro e w' ⟨rfl, rfl⟩)
                          | (refine step_append_lies _ (by rfl) _ _ _ (by rfl) W1.heap.size 3 i3' _ 1 8 Try.underlying42 hi' hz' hsz' hby' rfl (by omega) v k (flI ((List.range k).map (fun i => gb (nums s) (P1 + 1 + i)))) (by rfl) (by refine owns_below' HOL.out ?_; first | exact below_drewN (below_new _ _) _ | exact (below_drewN (Below.refl _ _) _).alloc (Nat.le_refl _) _ | exact (below_new _ _).drew | exact below_drewN (below_new _ _).drew _ | exact (below_drewN (below_new _ _) _).drew) ⟨wr.heap.size, 0, none⟩ 1 1 [.int .i64 (gb (nums s) (P1 + 1 + k))] (by rfl) (by rfl) (by first | exact RowAt.news (Y := []) (RowAt.drewN (rowAt_new2 wr _ [Value.int .i64 (gb (nums s) (P1 + 1 + k))] 3 rfl) _) | exact RowAt.news (Y := []) (RowAt.drew' (rowAt_new2 wr _ [Value.int .i64 (gb (nums s) (P1 + 1 + k))] 3 rfl)) | exact RowAt.news (Y := []) (rowAt_new2 (wr.drewN _) _ [Value.int .i64 (gb (nums s) (P1 + 1 + k))] 3 rfl)) (by intro u hu; simp only [List.mem_cons, List.not_mem_nil, or_false] at hu; rcases hu with rfl <;> rfl) (by omega) (by simp [maxLen]; omega) (by omega) (by simp; omega) (wr.heap.size + 1) (by simp) ?_; intro g2 cap2 w1 hown1 hgrow hat hlt1; have HB1 := hid (RowAt.grown' (show RowAt _ cb 46 [.int .i64 (gb (nums s) 1), .int .i64 (gb (nums s) 2), .int .i64 (gb (nums s) 3), .int .i64 (gb (nums s) 4), .int .i64 (gb (nums s) 5), v5, v, (.slice none 0 0), (.slice none 0 0)] from (by first | exact RowAt.drewN (RowAt.alloc HBX.out _) _ | exact RowAt.drew' (RowAt.alloc HBX.out _) | exact RowAt.alloc (RowAt.drewN HBX.out _) _)) hgrow (fun e => by have := (hvb _ e.symm).1; omega)); have hc2 := HB1.out.cell 6 _ rfl; have hf2 := HB1.out.frozen 6))
                        all_goals
                          have HE : Hid (W1.grownBy (w1.setCell ⟨cb, 6, none⟩ (.slice (some ⟨g2, 0, none⟩) (k + 1) cap2)) (some cb) ∧ RowAt (w1.setCell ⟨cb, 6, none⟩ (.slice (some ⟨g2, 0, none⟩) (k + 1) cap2)) cb 46 [.int .i64 (gb (nums s) 1), .int .i64 (gb (nums s) 2), .int .i64 (gb (nums s) 3), .int .i64 (gb (nums s) 4), .int .i64 (gb (nums s) 5), v5, (.slice (some ⟨g2, 0, none⟩) (k + 1) cap2), (.slice none 0 0), (.slice none 0 0)] ∧ (w1.setCell ⟨cb, 6, none⟩ (.slice (some ⟨g2, 0, none⟩) (k + 1) cap2)).ownsRow W1.heap.size 3 1 (.slice (some ⟨g2, 0, none⟩) (k + 1) cap2) (k + 1) (flI ((List.range (k + 1)).map (fun i => gb (nums s) (P1 + 1 + i))))) := by
                            refine hid ⟨grow_more HG.out (by first | exact below_drewN (below_new _ _) _ | exact (below_drewN (Below.refl _ _) _).alloc (Nat.le_refl _) _ | exact (below_new _ _).drew | exact below_drewN (below_new _ _).drew _ | exact (below_drewN (below_new _ _) _).drew) hgrow (fun q hq => (hvb q hq).1), HB1.out.setCell 6 _, ?_⟩
                            rw [HX.out]
                            exact owns_row_set hown1 (by omega)
                          clear hown1 hgrow hat HB1 hc2 hf2
                          go_wp2
                          go_roundw
                          case rel => exact ⟨k + 1, _, by omega, by go_num, HE.out⟩
                          case measure => simp [intOf]; omega
                      · obtain rfl : k = C1 := by omega
                        go_wp2_with fail
                        refine (b_any s P1 w.heap.size _ (by first | exact hc1 | (simp; exact hc1)) hP1 hs).mono ?_
                        rintro e w' ⟨rfl, rfl⟩
                        rw [HgP1.out]
                        have hki : ¬ (k : Int) < (k : Int) := by omega
                        obtain ⟨v6, rfl⟩ : ∃ x, x = v := ⟨_, rfl⟩
                        have OL1 := HOL
                        have hgj := HG.out
                        replace OL0 := hid (owns_kept OL0.out hgj (by omega))
                        have N2 := HDn
                        clear HG HBX HOL HDn hvb hc1 hcn hgj
                        obtain ⟨W2, rfl⟩ : ∃ x, x = wr := ⟨_, rfl⟩
                        obtain ⟨C1', rfl⟩ : ∃ x, x = k := ⟨_, rfl⟩
                        have hsW1 : W1.heap.size ≤ W2.heap.size := hsW
                        have hcbw1 := hcbw
                        clear hsW hcbw hki hlt hk
                        go_wp2
                        have Q2 : Hid (∃ P, ps (nums s) 2 = P ∧ P < s.size ∧ gb (nums s) P = (cnt (nums s) P : Int) ∧ cnt (nums s) P ≤ 4 ∧ P + 1 + 3 * cnt (nums s) P ≤ s.size) := by
                          have h1 := (hok2).1
                          have h2 := (hok2).2
                          rw [HLN.out] at h1
                          have h3 := (gb_byte s (ps (nums s) 2)).1
                          have h4 := HP4.out
                          have h5 : ps (nums s) 3 = ps (nums s) 2 + 1 + 3 * cnt (nums s) (ps (nums s) 2) := rfl
                          have h6 := HPS4.out
                          have h7 : (cnt (nums s) (ps (nums s) 2) : Int) = gb (nums s) (ps (nums s) 2) := by rw [cnt]; omega
                          simp only [ms4] at h2
                          exact hid ⟨_, rfl, h1, h7.symm, by omega, by omega⟩
                        obtain ⟨P2, hPe2, hP2, hgP2, hC62, hPC2⟩ := Q2.out
                        have HPe2 := hid hPe2
                        have HgP2 := hid hgP2
                        clear Q2 hgP2
                        have HCn2 := hid (rfl : cnt (nums s) P2 = cnt (nums s) P2)
                        generalize hCn : cnt (nums s) P2 = C2 at *
                        have HCN2 := hid hCn
                        clear hCn HCn2
                        go_loopw [16] (fun i wr => ∃ (k : Nat) (v : Value), k ≤ C2 ∧ i = .int .i64 k ∧ W2.grownBy wr (some cb) ∧ RowAt wr cb 46 [.int .i64 (gb (nums s) 1), .int .i64 (gb (nums s) 2), .int .i64 (gb (nums s) 3), .int .i64 (gb (nums s) 4), .int .i64 (gb (nums s) 5), v5, v6, v, (.slice none 0 0)] ∧ wr.ownsRow W2.heap.size 119 3 v k (flC ((List.range k).map (fun i => (gb (nums s) (P2 + 1 + 3 * i), gb (nums s) (P2 + 1 + 3 * i + 1), gb (nums s) (P2 + 1 + 3 * i + 2)))))) (fun i _ => C2 - (intOf i).toNat)
                        case atStart => exact ⟨0, .slice none 0 0, Nat.zero_le _, rfl, ⟨rfl, rfl, rfl, Nat.le_refl _, fun _ _ _ => rfl⟩, N2.out.bx, World.ownsRow_nil _ _ _ _⟩
                        case round =>
                          obtain ⟨k, v, hk, rfl, hg, hbx, hown⟩ := hrel
                          have HG := hid hg
                          have HBX := hid hbx
                          have HOL := hid hown
                          have HDn := hid (N2.out.over hg hbx)
                          have hvb := hown.lt
                          have hsW := hg.size
                          have hc1 := HDn.out.r1.cell 0 _ rfl
                          have hcn := pl_cell HDn.out.cn 2 (by omega)
                          rw [HPe2.out] at hcn
                          have hcbw := HBX.out.lt
                          have hg8w := HDn.out.cn.lt g8 rfl
                          clear hg hbx hown
                          by_cases hlt : k < C2
                          · skip
                            go_wp2_with fail
                            refine (b_any s P2 w.heap.size _ (by first | exact hc1 | (simp; exact hc1)) hP2 hs).mono ?_
                            rintro e w' ⟨rfl, rfl⟩
                            rw [HgP2.out]
                            have hki : (k : Int) < (C2 : Int) := by omega
                            have hpi : (((P2 + 1 + 3 * k : Nat)) : Int) = (P2 : Int) + 1 + 3 * (k : Int) := by omega
                            have Hpos : Hid (P2 + 1 + 3 * k + 3 ≤ s.size) := hid (by have : 3 * (k + 1) ≤ 3 * C2 := Nat.mul_le_mul_left 3 hlt; omega)
                            have HX : Hid (flC ((List.range (k + 1)).map (fun i => (gb (nums s) (P2 + 1 + 3 * i), gb (nums s) (P2 + 1 + 3 * i + 1), gb (nums s) (P2 + 1 + 3 * i + 2)))) = flC ((List.range k).map (fun i => (gb (nums s) (P2 + 1 + 3 * i), gb (nums s) (P2 + 1 + 3 * i + 1), gb (nums s) (P2 + 1 + 3 * i + 2)))) ++ [.int .i64 (gb (nums s) (P2 + 1 + 3 * k)), .int .i64 (gb (nums s) (P2 + 1 + 3 * k + 1)), .int .i64 (gb (nums s) (P2 + 1 + 3 * k + 2))]) := hid (by rw [List.range_succ, List.map_append]; exact flC_snoc _ _)
                            obtain ⟨i72', hi', hz', hsz', hby'⟩ := infoOf Try.info119r
                            have hbxc := HBX.out.cell 7 _ rfl
                            have hbxf := HBX.out.frozen 7
                            have hbxd : ∀ q o, ((wr.drewN q).alloc o).cell? ⟨cb, 7, none⟩ = some v := fun q o => cell_old o (show (wr.drewN q).cell? _ = _ from hbxc)
                            have hbxa : ∀ o, (wr.alloc o).cell? ⟨cb, 7, none⟩ = some v := fun o => cell_old o hbxc
                            have hne8 : ¬ cb = g8 := by have := N0.out.nc g8 rfl; omega
                            have wr1 : IntKind.i64.wrap ((P2 : Int) + 1 + 3 * (k : Int) + 1) = (P2 : Int) + 1 + 3 * (k : Int) + 1 := by rw [IntKind.wrap_i64]; have := Hpos.out; omega
                            have wr2 : IntKind.i64.wrap ((P2 : Int) + 1 + 3 * (k : Int) + 2) = (P2 : Int) + 1 + 3 * (k : Int) + 2 := by rw [IntKind.wrap_i64]; have := Hpos.out; omega
                            go_wp2_with fail
                            go_region_law (first
                              | (go_simp; go_at_call 83; refine (bI_any s _ (P2 + 1 + 3 * k) w.heap.size _ (by omega) (by first | exact hc1 | (simp; exact hc1)) (by have := Hpos.out; omega) hs).mono ?_; rintro e w' ⟨rfl, rfl⟩)
                              | (go_simp; go_at_call 83; refine (bI_any s _ (P2 + 1 + 3 * k + 1) w.heap.size _ (by omega) (by first | exact hc1 | (simp; exact hc1)) (by have := Hpos.out; omega) hs).mono ?_; rintro e w' ⟨rfl, rfl⟩)
                              | (go_simp; go_at_call 83; refine (bI_any s _ (P2 + 1 + 3 * k + 2) w.heap.size _ (by omega) (by first | exact hc1 | (simp; exact hc1)) (by have := Hpos.out; omega) hs).mono ?_; rintro e w' ⟨rfl, rfl⟩)
                              | (refine step_append_lies _ (by rfl) _ _ _ (by rfl) W2.heap.size 119 i72' _ 3 24 Try.underlying43 hi' hz' hsz' hby' rfl (by omega) v k (flC ((List.range k).map (fun i => (gb (nums s) (P2 + 1 + 3 * i), gb (nums s) (P2 + 1 + 3 * i + 1), gb (nums s) (P2 + 1 + 3 * i + 2))))) (by rfl) (by refine owns_below' HOL.out ?_; first | exact below_drewN (below_new _ _) _ | exact (below_drewN (Below.refl _ _) _).alloc (Nat.le_refl _) _ | exact (below_new _ _).drew | exact below_drewN (below_new _ _).drew _ | exact (below_drewN (below_new _ _) _).drew) ⟨wr.heap.size, 0, none⟩ 1 1 [.int .i64 (gb (nums s) (P2 + 1 + 3 * k)), .int .i64 (gb (nums s) (P2 + 1 + 3 * k + 1)), .int .i64 (gb (nums s) (P2 + 1 + 3 * k + 2))] (by rfl) (by rfl) (by first | exact RowAt.news (Y := []) (RowAt.drewN (rowAt_new2 wr _ [Value.int .i64 (gb (nums s) (P2 + 1 + 3 * k)), Value.int .i64 (gb (nums s) (P2 + 1 + 3 * k + 1)), Value.int .i64 (gb (nums s) (P2 + 1 + 3 * k + 2))] 119 rfl) _) | exact RowAt.news (Y := []) (RowAt.drew' (rowAt_new2 wr _ [Value.int .i64 (gb (nums s) (P2 + 1 + 3 * k)), Value.int .i64 (gb (nums s) (P2 + 1 + 3 * k + 1)), Value.int .i64 (gb (nums s) (P2 + 1 + 3 * k + 2))] 119 rfl)) | exact RowAt.news (Y := []) (rowAt_new2 (wr.drewN _) _ [Value.int .i64 (gb (nums s) (P2 + 1 + 3 * k)), Value.int .i64 (gb (nums s) (P2 + 1 + 3 * k + 1)), Value.int .i64 (gb (nums s) (P2 + 1 + 3 * k + 2))] 119 rfl)) (by intro u hu; simp only [List.mem_cons, List.not_mem_nil, or_false] at hu; rcases hu with rfl | rfl | rfl <;> rfl) (by omega) (by simp [maxLen]; omega) (by omega) (by simp; omega) (wr.heap.size + 1) (by simp) ?_; intro g2 cap2 w1 hown1 hgrow hat hlt1; have HB1 := hid (RowAt.grown' (show RowAt _ cb 46 [.int .i64 (gb (nums s) 1), .int .i64 (gb (nums s) 2), .int .i64 (gb (nums s) 3), .int .i64 (gb (nums s) 4), .int .i64 (gb (nums s) 5), v5, v6, v, (.slice none 0 0)] from (by first | exact RowAt.drewN (RowAt.alloc HBX.out _) _ | exact RowAt.drew' (RowAt.alloc HBX.out _) | exact RowAt.alloc (RowAt.drewN HBX.out _) _)) hgrow (fun e => by have := (hvb _ e.symm).1; omega)); have hc2 := HB1.out.cell 7 _ rfl; have hf2 := HB1.out.frozen 7))
                            all_goals
                              have HE : Hid (W2.grownBy (w1.setCell ⟨cb, 7, none⟩ (.slice (some ⟨g2, 0, none⟩) (k + 1) cap2)) (some cb) ∧ RowAt (w1.setCell ⟨cb, 7, none⟩ (.slice (some ⟨g2, 0, none⟩) (k + 1) cap2)) cb 46 [.int .i64 (gb (nums s) 1), .int .i64 (gb (nums s) 2), .int .i64 (gb (nums s) 3), .int .i64 (gb (nums s) 4), .int .i64 (gb (nums s) 5), v5, v6, (.slice (some ⟨g2, 0, none⟩) (k + 1) cap2), (.slice none 0 0)] ∧ (w1.setCell ⟨cb, 7, none⟩ (.slice (some ⟨g2, 0, none⟩) (k + 1) cap2)).ownsRow W2.heap.size 119 3 (.slice (some ⟨g2, 0, none⟩) (k + 1) cap2) (k + 1) (flC ((List.range (k + 1)).map (fun i => (gb (nums s) (P2 + 1 + 3 * i), gb (nums s) (P2 + 1 + 3 * i + 1), gb (nums s) (P2 + 1 + 3 * i + 2)))))) := by
                                refine hid ⟨grow_more HG.out (by first | exact below_drewN (below_new _ _) _ | exact (below_drewN (Below.refl _ _) _).alloc (Nat.le_refl _) _ | exact (below_new _ _).drew | exact below_drewN (below_new _ _).drew _ | exact (below_drewN (below_new _ _) _).drew) hgrow (fun q hq => (hvb q hq).1), HB1.out.setCell 7 _, ?_⟩
                                rw [HX.out]
                                exact owns_row_set hown1 (by omega)
                              clear hown1 hgrow hat HB1 hc2 hf2
                              go_wp2
                              go_roundw
                              case rel => exact ⟨k + 1, _, by omega, by go_num, HE.out⟩
                              case measure => simp [intOf]; omega
                          · obtain rfl : k = C2 := by omega
                            go_wp2_with fail
                            refine (b_any s P2 w.heap.size _ (by first | exact hc1 | (simp; exact hc1)) hP2 hs).mono ?_
                            rintro e w' ⟨rfl, rfl⟩
                            rw [HgP2.out]
                            have hki : ¬ (k : Int) < (k : Int) := by omega
                            obtain ⟨v7, rfl⟩ : ∃ x, x = v := ⟨_, rfl⟩
                            have OL2 := HOL
                            have hgj := HG.out
                            replace OL0 := hid (owns_kept OL0.out hgj (by omega))
                            replace OL1 := hid (owns_kept OL1.out hgj (by omega))
                            have N3 := HDn
                            clear HG HBX HOL HDn hvb hc1 hcn hgj
                            obtain ⟨W3, rfl⟩ : ∃ x, x = wr := ⟨_, rfl⟩
                            obtain ⟨C2', rfl⟩ : ∃ x, x = k := ⟨_, rfl⟩
                            have hsW2 : W2.heap.size ≤ W3.heap.size := hsW
                            have hcbw2 := hcbw
                            clear hsW hcbw hki hlt hk
                            go_wp2
                            have Q3 : Hid (∃ P, ps (nums s) 3 = P ∧ P < s.size ∧ gb (nums s) P = (cnt (nums s) P : Int) ∧ cnt (nums s) P ≤ 6 ∧ P + 1 + 7 * cnt (nums s) P ≤ s.size) := by
                              have h1 := (hok3).1
                              have h2 := (hok3).2
                              rw [HLN.out] at h1
                              have h3 := (gb_byte s (ps (nums s) 3)).1
                              have h4 := HP4.out
                              have h5 : ps (nums s) 4 = ps (nums s) 3 + 1 + 7 * cnt (nums s) (ps (nums s) 3) := rfl
                              have h6 := HPS4.out
                              have h7 : (cnt (nums s) (ps (nums s) 3) : Int) = gb (nums s) (ps (nums s) 3) := by rw [cnt]; omega
                              simp only [ms4] at h2
                              exact hid ⟨_, rfl, h1, h7.symm, by omega, by omega⟩
                            obtain ⟨P3, hPe3, hP3, hgP3, hC63, hPC3⟩ := Q3.out
                            have HPe3 := hid hPe3
                            have HgP3 := hid hgP3
                            clear Q3 hgP3
                            have HCn3 := hid (rfl : cnt (nums s) P3 = cnt (nums s) P3)
                            generalize hCn : cnt (nums s) P3 = C3 at *
                            have HCN3 := hid hCn
                            clear hCn HCn3
                            go_loopw [18] (fun i wr => ∃ (k : Nat) (v : Value), k ≤ C3 ∧ i = .int .i64 k ∧ W3.grownBy wr (some cb) ∧ RowAt wr cb 46 [.int .i64 (gb (nums s) 1), .int .i64 (gb (nums s) 2), .int .i64 (gb (nums s) 3), .int .i64 (gb (nums s) 4), .int .i64 (gb (nums s) 5), v5, v6, v7, v] ∧ wr.ownsRow W3.heap.size 108 4 v k (flT ((List.range k).map (fun i => (gb (nums s) (P3 + 1 + 7 * i), gw (nums s) (P3 + 1 + 7 * i + 1), gw (nums s) (P3 + 1 + 7 * i + 3), gw (nums s) (P3 + 1 + 7 * i + 5)))))) (fun i _ => C3 - (intOf i).toNat)
                            case atStart => exact ⟨0, .slice none 0 0, Nat.zero_le _, rfl, ⟨rfl, rfl, rfl, Nat.le_refl _, fun _ _ _ => rfl⟩, N3.out.bx, World.ownsRow_nil _ _ _ _⟩
                            case round =>
                              obtain ⟨k, v, hk, rfl, hg, hbx, hown⟩ := hrel
                              have HG := hid hg
                              have HBX := hid hbx
                              have HOL := hid hown
                              have HDn := hid (N3.out.over hg hbx)
                              have hvb := hown.lt
                              have hsW := hg.size
                              have hc1 := HDn.out.r1.cell 0 _ rfl
                              have hcn := pl_cell HDn.out.cn 3 (by omega)
                              rw [HPe3.out] at hcn
                              have hcbw := HBX.out.lt
                              have hg8w := HDn.out.cn.lt g8 rfl
                              clear hg hbx hown
                              by_cases hlt : k < C3
                              · skip
                                go_wp2_with fail
                                refine (b_any s P3 w.heap.size _ (by first | exact hc1 | (simp; exact hc1)) hP3 hs).mono ?_
                                rintro e w' ⟨rfl, rfl⟩
                                rw [HgP3.out]
                                have hki : (k : Int) < (C3 : Int) := by omega
                                have hpi : (((P3 + 1 + 7 * k : Nat)) : Int) = (P3 : Int) + 1 + 7 * (k : Int) := by omega
                                have Hpos : Hid (P3 + 1 + 7 * k + 7 ≤ s.size) := hid (by have : 7 * (k + 1) ≤ 7 * C3 := Nat.mul_le_mul_left 7 hlt; omega)
                                have HX : Hid (flT ((List.range (k + 1)).map (fun i => (gb (nums s) (P3 + 1 + 7 * i), gw (nums s) (P3 + 1 + 7 * i + 1), gw (nums s) (P3 + 1 + 7 * i + 3), gw (nums s) (P3 + 1 + 7 * i + 5)))) = flT ((List.range k).map (fun i => (gb (nums s) (P3 + 1 + 7 * i), gw (nums s) (P3 + 1 + 7 * i + 1), gw (nums s) (P3 + 1 + 7 * i + 3), gw (nums s) (P3 + 1 + 7 * i + 5)))) ++ [.int .i64 (gb (nums s) (P3 + 1 + 7 * k)), .int .i64 (gw (nums s) (P3 + 1 + 7 * k + 1)), .int .i64 (gw (nums s) (P3 + 1 + 7 * k + 3)), .int .i64 (gw (nums s) (P3 + 1 + 7 * k + 5))]) := hid (by rw [List.range_succ, List.map_append]; exact flT_snoc _ _)
                                obtain ⟨i78', hi', hz', hsz', hby'⟩ := infoOf Try.info108r
                                have hbxc := HBX.out.cell 8 _ rfl
                                have hbxf := HBX.out.frozen 8
                                have hbxd : ∀ q o, ((wr.drewN q).alloc o).cell? ⟨cb, 8, none⟩ = some v := fun q o => cell_old o (show (wr.drewN q).cell? _ = _ from hbxc)
                                have hbxa : ∀ o, (wr.alloc o).cell? ⟨cb, 8, none⟩ = some v := fun o => cell_old o hbxc
                                have hne8 : ¬ cb = g8 := by have := N0.out.nc g8 rfl; omega
                                have wr1 : IntKind.i64.wrap ((P3 : Int) + 1 + 7 * (k : Int) + 1) = (P3 : Int) + 1 + 7 * (k : Int) + 1 := by rw [IntKind.wrap_i64]; have := Hpos.out; omega
                                have wr3 : IntKind.i64.wrap ((P3 : Int) + 1 + 7 * (k : Int) + 3) = (P3 : Int) + 1 + 7 * (k : Int) + 3 := by rw [IntKind.wrap_i64]; have := Hpos.out; omega
                                have wr5 : IntKind.i64.wrap ((P3 : Int) + 1 + 7 * (k : Int) + 5) = (P3 : Int) + 1 + 7 * (k : Int) + 5 := by rw [IntKind.wrap_i64]; have := Hpos.out; omega
                                go_wp2_with fail
                                go_region_law (first
                                  | (go_simp; go_at_call 83; refine (bI_any s _ (P3 + 1 + 7 * k) w.heap.size _ (by omega) (by first | exact hc1 | (simp; exact hc1)) (by have := Hpos.out; omega) hs).mono ?_; rintro e w' ⟨rfl, rfl⟩)
                                  | (go_simp; go_at_call 84; refine (wI_any s _ (P3 + 1 + 7 * k + 1) w.heap.size _ (by omega) (by first | exact hc1 | (simp; exact hc1)) (by have := Hpos.out; omega) hs).mono ?_; rintro e w' ⟨rfl, nn1, rfl⟩)
                                  | (go_simp; go_at_call 84; refine (wI_any s _ (P3 + 1 + 7 * k + 3) w.heap.size _ (by omega) (by first | exact hc1 | (simp; exact hc1)) (by have := Hpos.out; omega) hs).mono ?_; rintro e w' ⟨rfl, nn2, rfl⟩)
                                  | (go_simp; go_at_call 84; refine (wI_any s _ (P3 + 1 + 7 * k + 5) w.heap.size _ (by omega) (by first | exact hc1 | (simp; exact hc1)) (by have := Hpos.out; omega) hs).mono ?_; rintro e w' ⟨rfl, nn3, rfl⟩)
                                  | (refine step_append_lies _ (by rfl) _ _ _ (by rfl) W3.heap.size 108 i78' _ 4 32 Try.underlying44 hi' hz' hsz' hby' rfl (by omega) v k (flT ((List.range k).map (fun i => (gb (nums s) (P3 + 1 + 7 * i), gw (nums s) (P3 + 1 + 7 * i + 1), gw (nums s) (P3 + 1 + 7 * i + 3), gw (nums s) (P3 + 1 + 7 * i + 5))))) (by rfl) (by refine owns_below' HOL.out ?_; first | exact below_drewN (below_new _ _) _ | exact (below_drewN (Below.refl _ _) _).alloc (Nat.le_refl _) _ | exact (below_new _ _).drew | exact below_drewN (below_new _ _).drew _ | exact (below_drewN (below_new _ _) _).drew) ⟨wr.heap.size, 0, none⟩ 1 1 [.int .i64 (gb (nums s) (P3 + 1 + 7 * k)), .int .i64 (gw (nums s) (P3 + 1 + 7 * k + 1)), .int .i64 (gw (nums s) (P3 + 1 + 7 * k + 3)), .int .i64 (gw (nums s) (P3 + 1 + 7 * k + 5))] (by rfl) (by rfl) (by first | exact RowAt.news (Y := []) (RowAt.drewN (rowAt_new2 wr _ [Value.int .i64 (gb (nums s) (P3 + 1 + 7 * k)), Value.int .i64 (gw (nums s) (P3 + 1 + 7 * k + 1)), Value.int .i64 (gw (nums s) (P3 + 1 + 7 * k + 3)), Value.int .i64 (gw (nums s) (P3 + 1 + 7 * k + 5))] 108 rfl) _) | exact RowAt.news (Y := []) (RowAt.drew' (rowAt_new2 wr _ [Value.int .i64 (gb (nums s) (P3 + 1 + 7 * k)), Value.int .i64 (gw (nums s) (P3 + 1 + 7 * k + 1)), Value.int .i64 (gw (nums s) (P3 + 1 + 7 * k + 3)), Value.int .i64 (gw (nums s) (P3 + 1 + 7 * k + 5))] 108 rfl)) | exact RowAt.news (Y := []) (rowAt_new2 (wr.drewN _) _ [Value.int .i64 (gb (nums s) (P3 + 1 + 7 * k)), Value.int .i64 (gw (nums s) (P3 + 1 + 7 * k + 1)), Value.int .i64 (gw (nums s) (P3 + 1 + 7 * k + 3)), Value.int .i64 (gw (nums s) (P3 + 1 + 7 * k + 5))] 108 rfl)) (by intro u hu; simp only [List.mem_cons, List.not_mem_nil, or_false] at hu; rcases hu with rfl | rfl | rfl | rfl <;> rfl) (by omega) (by simp [maxLen]; omega) (by omega) (by simp; omega) (wr.heap.size + 1) (by simp) ?_; intro g2 cap2 w1 hown1 hgrow hat hlt1; have HB1 := hid (RowAt.grown' (show RowAt _ cb 46 [.int .i64 (gb (nums s) 1), .int .i64 (gb (nums s) 2), .int .i64 (gb (nums s) 3), .int .i64 (gb (nums s) 4), .int .i64 (gb (nums s) 5), v5, v6, v7, v] from (by first | exact RowAt.drewN (RowAt.alloc HBX.out _) _ | exact RowAt.drew' (RowAt.alloc HBX.out _) | exact RowAt.alloc (RowAt.drewN HBX.out _) _)) hgrow (fun e => by have := (hvb _ e.symm).1; omega)); have hc2 := HB1.out.cell 8 _ rfl; have hf2 := HB1.out.frozen 8))
                                all_goals
                                  have HE : Hid (W3.grownBy (w1.setCell ⟨cb, 8, none⟩ (.slice (some ⟨g2, 0, none⟩) (k + 1) cap2)) (some cb) ∧ RowAt (w1.setCell ⟨cb, 8, none⟩ (.slice (some ⟨g2, 0, none⟩) (k + 1) cap2)) cb 46 [.int .i64 (gb (nums s) 1), .int .i64 (gb (nums s) 2), .int .i64 (gb (nums s) 3), .int .i64 (gb (nums s) 4), .int .i64 (gb (nums s) 5), v5, v6, v7, (.slice (some ⟨g2, 0, none⟩) (k + 1) cap2)] ∧ (w1.setCell ⟨cb, 8, none⟩ (.slice (some ⟨g2, 0, none⟩) (k + 1) cap2)).ownsRow W3.heap.size 108 4 (.slice (some ⟨g2, 0, none⟩) (k + 1) cap2) (k + 1) (flT ((List.range (k + 1)).map (fun i => (gb (nums s) (P3 + 1 + 7 * i), gw (nums s) (P3 + 1 + 7 * i + 1), gw (nums s) (P3 + 1 + 7 * i + 3), gw (nums s) (P3 + 1 + 7 * i + 5)))))) := by
                                    refine hid ⟨grow_more HG.out (by first | exact below_drewN (below_new _ _) _ | exact (below_drewN (Below.refl _ _) _).alloc (Nat.le_refl _) _ | exact (below_new _ _).drew | exact below_drewN (below_new _ _).drew _ | exact (below_drewN (below_new _ _) _).drew) hgrow (fun q hq => (hvb q hq).1), HB1.out.setCell 8 _, ?_⟩
                                    rw [HX.out]
                                    exact owns_row_set hown1 (by omega)
                                  clear hown1 hgrow hat HB1 hc2 hf2
                                  go_wp2
                                  go_roundw
                                  case rel => exact ⟨k + 1, _, by omega, by go_num, HE.out⟩
                                  case measure => simp [intOf]; omega
                              · obtain rfl : k = C3 := by omega
                                go_wp2_with fail
                                refine (b_any s P3 w.heap.size _ (by first | exact hc1 | (simp; exact hc1)) hP3 hs).mono ?_
                                rintro e w' ⟨rfl, rfl⟩
                                rw [HgP3.out]
                                have hki : ¬ (k : Int) < (k : Int) := by omega
                                obtain ⟨v8, rfl⟩ : ∃ x, x = v := ⟨_, rfl⟩
                                have OL3 := HOL
                                have hgj := HG.out
                                replace OL0 := hid (owns_kept OL0.out hgj (by omega))
                                replace OL1 := hid (owns_kept OL1.out hgj (by omega))
                                replace OL2 := hid (owns_kept OL2.out hgj (by omega))
                                have N4 := HDn
                                clear HG HBX HOL HDn hvb hc1 hcn hgj
                                obtain ⟨W4, rfl⟩ : ∃ x, x = wr := ⟨_, rfl⟩
                                obtain ⟨C3', rfl⟩ : ∃ x, x = k := ⟨_, rfl⟩
                                have hsW3 : W3.heap.size ≤ W4.heap.size := hsW
                                have hcbw3 := hcbw
                                clear hsW hcbw hki hlt hk
                                have HCE : Hid (cnf (nums s) = ⟨gb (nums s) 1, gb (nums s) 2, gb (nums s) 3, gb (nums s) 4, gb (nums s) 5, (List.range C0').map (fun i => (gb (nums s) (P0 + 1 + 3 * i), gw (nums s) (P0 + 1 + 3 * i + 1))), (List.range C1').map (fun i => gb (nums s) (P1 + 1 + i)), (List.range C2').map (fun i => (gb (nums s) (P2 + 1 + 3 * i), gb (nums s) (P2 + 1 + 3 * i + 1), gb (nums s) (P2 + 1 + 3 * i + 2))), (List.range C3').map (fun i => (gb (nums s) (P3 + 1 + 7 * i), gw (nums s) (P3 + 1 + 7 * i + 1), gw (nums s) (P3 + 1 + 7 * i + 3), gw (nums s) (P3 + 1 + 7 * i + 5)))⟩) := hid (by
                                  unfold cnf
                                  rw [HPe0.out, HPe1.out, HPe2.out, HPe3.out, HCN0.out, HCN1.out, HCN2.out, HCN3.out]
                                  simp only [Nat.one_mul])
                                have hW0 : w.heap.size + 1 < Wj.heap.size := by have := N0.out.lc; omega
                                have OC : Hid (OwnConf W4 Wj.heap.size v5 v6 v7 v8 (cnf (nums s))) := by
                                  refine hid ?_
                                  rw [HCE.out]
                                  refine ⟨?_, ?_, ?_, ?_⟩
                                  · have := OL0.out; simpa using this
                                  · have := owns_mono OL1.out (base' := Wj.heap.size) hsW0; simpa using this
                                  · have := owns_mono OL2.out (base' := Wj.heap.size) (by omega); simpa using this
                                  · have := owns_mono OL3.out (base' := Wj.heap.size) (by omega); simpa using this
                                have HE5 : Hid ((cnf (nums s)).s = gb (nums s) 1 ∧ (cnf (nums s)).w = gb (nums s) 2 ∧ (cnf (nums s)).d = gb (nums s) 3 ∧ (cnf (nums s)).p = gb (nums s) 4 ∧ (cnf (nums s)).q = gb (nums s) 5) := hid ⟨rfl, rfl, rfl, rfl, rfl⟩
                                clear OL0 OL1 OL2 OL3 HCE HPe0 HPe1 HPe2 HPe3 HCN0 HCN1 HCN2 HCN3 HgP0 HgP1 HgP2 HgP3 N1 N2 N3
                                rw [← HE5.out.1, ← HE5.out.2.1, ← HE5.out.2.2.1, ← HE5.out.2.2.2.1, ← HE5.out.2.2.2.2] at N4
                                generalize hCF : cnf (nums s) = CF at *
                                clear hCF HE5
                                obtain ⟨A4, rfl, rfl, rfl, rfl, hC4⟩ := OC.out.conf
                                have HC4 := hid hC4
                                clear hC4
                                obtain ⟨a5, a6, a7, a8, c5, c6, c7, c8⟩ := A4
                                dsimp only at *
                                have x0 := N4.out.bx.cell 0 _ rfl
                                have x1 := N4.out.bx.cell 1 _ rfl
                                have x2 := N4.out.bx.cell 2 _ rfl
                                have x3 := N4.out.bx.cell 3 _ rfl
                                have x4 := N4.out.bx.cell 4 _ rfl
                                have x5 := N4.out.bx.cell 5 _ rfl
                                have x6 := N4.out.bx.cell 6 _ rfl
                                have x7 := N4.out.bx.cell 7 _ rfl
                                have x8 := N4.out.bx.cell 8 _ rfl
                                go_wp2_with fail
                                refine (checkRef_any CF ⟨a5, a6, a7, a8, c5, c6, c7, c8⟩ _ HC4.out).mono ?_
                                rintro e w2 ⟨rfl, hb2⟩
                                have M4 := hid (N4.out.bel hb2)
                                have O4 := hid (OC.out.below hb2)
                                clear hb2 N4 OC HC4 x0 x1 x2 x3 x4 x5 x6 x7 x8
                                have x0 := M4.out.r2.cell 0 _ rfl
                                have y0 := M4.out.r2.frozen 0
                                have z0 := M4.out.bx.cell 0 _ rfl
                                have x1 := M4.out.r2.cell 1 _ rfl
                                have y1 := M4.out.r2.frozen 1
                                have z1 := M4.out.bx.cell 1 _ rfl
                                have x2 := M4.out.r2.cell 2 _ rfl
                                have y2 := M4.out.r2.frozen 2
                                have z2 := M4.out.bx.cell 2 _ rfl
                                have x3 := M4.out.r2.cell 3 _ rfl
                                have y3 := M4.out.r2.frozen 3
                                have z3 := M4.out.bx.cell 3 _ rfl
                                have x4 := M4.out.r2.cell 4 _ rfl
                                have y4 := M4.out.r2.frozen 4
                                have z4 := M4.out.bx.cell 4 _ rfl
                                have x5 := M4.out.r2.cell 5 _ rfl
                                have y5 := M4.out.r2.frozen 5
                                have z5 := M4.out.bx.cell 5 _ rfl
                                have x6 := M4.out.r2.cell 6 _ rfl
                                have y6 := M4.out.r2.frozen 6
                                have z6 := M4.out.bx.cell 6 _ rfl
                                have x7 := M4.out.r2.cell 7 _ rfl
                                have y7 := M4.out.r2.frozen 7
                                have z7 := M4.out.bx.cell 7 _ rfl
                                have x8 := M4.out.r2.cell 8 _ rfl
                                have y8 := M4.out.r2.frozen 8
                                have z8 := M4.out.bx.cell 8 _ rfl
                                by_cases h0 : ckC CF = 0
                                · have HE : Hid (dec (nums s) = (CF, 0, 0)) := hid (by rw [HDA.out, if_pos h0])
                                  rw [h0]
                                  clear h0 HDA
                                  have R9 := hid (((((((((M4.out.r2.setCell 0 (.int .i64 CF.s)).setCell 1 (.int .i64 CF.w)).setCell 2 (.int .i64 CF.d)).setCell 3 (.int .i64 CF.p)).setCell 4 (.int .i64 CF.q)).setCell 5 (.slice a5 CF.sl.length c5)).setCell 6 (.slice a6 CF.ow.length c6)).setCell 7 (.slice a7 CF.ch.length c7)).setCell 8 (.slice a8 CF.ta.length c8))
                                  have B9 := hid (((((((((M4.out.below.setCell (p := ⟨w.heap.size + 1, 0, none⟩) (by show w.heap.size ≤ w.heap.size + 1; omega) (.int .i64 CF.s)).setCell (p := ⟨w.heap.size + 1, 1, none⟩) (by show w.heap.size ≤ w.heap.size + 1; omega) (.int .i64 CF.w)).setCell (p := ⟨w.heap.size + 1, 2, none⟩) (by show w.heap.size ≤ w.heap.size + 1; omega) (.int .i64 CF.d)).setCell (p := ⟨w.heap.size + 1, 3, none⟩) (by show w.heap.size ≤ w.heap.size + 1; omega) (.int .i64 CF.p)).setCell (p := ⟨w.heap.size + 1, 4, none⟩) (by show w.heap.size ≤ w.heap.size + 1; omega) (.int .i64 CF.q)).setCell (p := ⟨w.heap.size + 1, 5, none⟩) (by show w.heap.size ≤ w.heap.size + 1; omega) (.slice a5 CF.sl.length c5)).setCell (p := ⟨w.heap.size + 1, 6, none⟩) (by show w.heap.size ≤ w.heap.size + 1; omega) (.slice a6 CF.ow.length c6)).setCell (p := ⟨w.heap.size + 1, 7, none⟩) (by show w.heap.size ≤ w.heap.size + 1; omega) (.slice a7 CF.ch.length c7)).setCell (p := ⟨w.heap.size + 1, 8, none⟩) (by show w.heap.size ≤ w.heap.size + 1; omega) (.slice a8 CF.ta.length c8))
                                  have O9 := hid ((((((((((O4.out.set 0 (.int .i64 CF.s) (b := w.heap.size + 1) (by omega)).set 1 (.int .i64 CF.w) (b := w.heap.size + 1) (by omega)).set 2 (.int .i64 CF.d) (b := w.heap.size + 1) (by omega)).set 3 (.int .i64 CF.p) (b := w.heap.size + 1) (by omega)).set 4 (.int .i64 CF.q) (b := w.heap.size + 1) (by omega)).set 5 (.slice a5 CF.sl.length c5) (b := w.heap.size + 1) (by omega)).set 6 (.slice a6 CF.ow.length c6) (b := w.heap.size + 1) (by omega)).set 7 (.slice a7 CF.ch.length c7) (b := w.heap.size + 1) (by omega)).set 8 (.slice a8 CF.ta.length c8) (b := w.heap.size + 1) (by omega)).mono (base' := w.heap.size) (by omega))
                                  clear M4 O4
                                  go_wp2
                                  have d0 := R9.out.cell 0 _ rfl
                                  have d1 := R9.out.cell 1 _ rfl
                                  have d2 := R9.out.cell 2 _ rfl
                                  have d3 := R9.out.cell 3 _ rfl
                                  have d4 := R9.out.cell 4 _ rfl
                                  have d5 := R9.out.cell 5 _ rfl
                                  have d6 := R9.out.cell 6 _ rfl
                                  have d7 := R9.out.cell 7 _ rfl
                                  have d8 := R9.out.cell 8 _ rfl
                                  exact bodyPost_ret (v := .tuple #[.agg #[(.int .i64 CF.s), (.int .i64 CF.w), (.int .i64 CF.d), (.int .i64 CF.p), (.int .i64 CF.q), (.slice a5 CF.sl.length c5), (.slice a6 CF.ow.length c6), (.slice a7 CF.ch.length c7), (.slice a8 CF.ta.length c8)], .int .i64 0, .int .i64 0]) (by simp [results, Try.results31, go_sem, d0, d1, d2, d3, d4, d5, d6, d7, d8]) rfl ⟨B9.out, _, by rw [HE.out]; rfl, by rw [HE.out]; exact ⟨_, _, _, _, rfl, O9.out⟩⟩
                                · have HE : Hid (dec (nums s) = (zeroC, 0, ckC CF)) := hid (by rw [HDA.out, if_neg h0])
                                  have hx' : (ckC CF != 0) = true := by simp [h0]
                                  clear h0 HDA
                                  generalize hq : ckC CF = q at *
                                  clear hq
                                  have R9 := hid (((((((((M4.out.r2.setCell 0 (.int .i64 0)).setCell 1 (.int .i64 0)).setCell 2 (.int .i64 0)).setCell 3 (.int .i64 0)).setCell 4 (.int .i64 0)).setCell 5 (.slice none 0 0)).setCell 6 (.slice none 0 0)).setCell 7 (.slice none 0 0)).setCell 8 (.slice none 0 0))
                                  have B9 := hid (((((((((M4.out.below.setCell (p := ⟨w.heap.size + 1, 0, none⟩) (by show w.heap.size ≤ w.heap.size + 1; omega) (.int .i64 0)).setCell (p := ⟨w.heap.size + 1, 1, none⟩) (by show w.heap.size ≤ w.heap.size + 1; omega) (.int .i64 0)).setCell (p := ⟨w.heap.size + 1, 2, none⟩) (by show w.heap.size ≤ w.heap.size + 1; omega) (.int .i64 0)).setCell (p := ⟨w.heap.size + 1, 3, none⟩) (by show w.heap.size ≤ w.heap.size + 1; omega) (.int .i64 0)).setCell (p := ⟨w.heap.size + 1, 4, none⟩) (by show w.heap.size ≤ w.heap.size + 1; omega) (.int .i64 0)).setCell (p := ⟨w.heap.size + 1, 5, none⟩) (by show w.heap.size ≤ w.heap.size + 1; omega) (.slice none 0 0)).setCell (p := ⟨w.heap.size + 1, 6, none⟩) (by show w.heap.size ≤ w.heap.size + 1; omega) (.slice none 0 0)).setCell (p := ⟨w.heap.size + 1, 7, none⟩) (by show w.heap.size ≤ w.heap.size + 1; omega) (.slice none 0 0)).setCell (p := ⟨w.heap.size + 1, 8, none⟩) (by show w.heap.size ≤ w.heap.size + 1; omega) (.slice none 0 0))
                                  clear M4 O4
                                  go_wp2
                                  have d0 := R9.out.cell 0 _ rfl
                                  have d1 := R9.out.cell 1 _ rfl
                                  have d2 := R9.out.cell 2 _ rfl
                                  have d3 := R9.out.cell 3 _ rfl
                                  have d4 := R9.out.cell 4 _ rfl
                                  have d5 := R9.out.cell 5 _ rfl
                                  have d6 := R9.out.cell 6 _ rfl
                                  have d7 := R9.out.cell 7 _ rfl
                                  have d8 := R9.out.cell 8 _ rfl
                                  exact bodyPost_ret (v := .tuple #[zeroV, .int .i64 0, .int .i64 q]) (by simp [results, Try.results31, go_sem, d0, d1, d2, d3, d4, d5, d6, d7, d8]) rfl ⟨B9.out, zeroV, by rw [HE.out]; rfl, by rw [HE.out]; exact isConf_zero _ _⟩
end Go.Proofs.Ytcdglnbkpklefaa
