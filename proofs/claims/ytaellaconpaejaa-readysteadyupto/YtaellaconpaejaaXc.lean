/- Walks: copies and joins of lists of numbers. -/
import Derived.Test.YtaellaconpaejaaXb
import Derived.Test.YtaellaconpaejaaOa
import Derived.Lib.AppendZeros
set_option linter.unusedVariables false
namespace Go.Proofs.Ytaellaconpaejaa
open Go.RowKit

theorem Try.info3x : (Try.prog.info? 3).map (fun i => (i.zero, i.size, i.bytes)) = some (some (.int .i64 0), 1, 8) := by kernel_rfl

/-- Numbers, as they lie in memory. -/
def ivs (l : List Int) : List Value := l.map fun n => .int .i64 n
theorem ivs_len (l : List Int) : (ivs l).length = l.length := by simp [ivs]
theorem ivs_app (l m : List Int) : ivs (l ++ m) = ivs l ++ ivs m := by simp [ivs]
theorem ivs_nil : ivs [] = [] := rfl

theorem i64x_one (l : List Int) : ∀ u ∈ ivs l, u.oneCell' = true := by
  intro u hu
  simp only [ivs, List.mem_map] at hu
  obtain ⟨n, _, rfl⟩ := hu
  rfl

theorem append_none {P : Program} (w : World) (t ty e : TypeId) (i : TypeInfo) (ht : P.underlying t = some (.slice e)) (hi : P.info? e = some i) (p : Option Addr) (n cap : Nat) (ax : Option Addr) (c : Nat) (hroom : n ≤ cap) :
    (Builtin.append_ #[t, t] ty #[.slice p n cap, .slice ax 0 c]).run P w = .ok (.slice p n cap) w := by
  cases p <;> cases ax <;> simp [Builtin.append_, run_underlying ht, sizeOf, typeInfo, hi, Builtin.lenOf, hroom, Builtin.firstCells, loadCells, loadCellsFrom, storeCells]

/-- An append of a slice of numbers that came in, empty or not, to what is empty or not. -/
theorem wpList_appI {ops : Array Oper} {rest : List Oper} {o : Oper} {a : Act} {w : World} {Q : Exit → Act → World → Prop} (hgd : o.guard = none) (s x : Operand)
    (ho : o.op = .call { callee := .builtin .append, args := #[s, x], argTypes := #[42, 42] })
    (base : Nat) (v : Value) (n : Nat) (xs : List Value) (hs : a.eval s = v) (hown : w.ownsRow base 3 1 v n xs)
    (L : List Int) (a6 : Option Addr) (c6 : Nat) (hx : a.eval x = .slice a6 L.length c6) (hL : IntsIn w a6 L) (h63 : n + L.length ≤ maxLen) (hbytes : (n + L.length) * 8 ≤ 140737488355328) (hbase : base ≤ w.heap.size)
    (h : ∀ v' w', w'.ownsRow base 3 1 v' (n + L.length) (xs ++ ivs L) → w.grownBy w' v.ownBlock → wpList Try.prog ops Q rest (a.put o.dst v') w') : wpList Try.prog ops Q (o :: rest) a w := by
  obtain ⟨i3, hi, hz, hsz, hby⟩ := infoOf Try.info3x
  by_cases hL0 : L = []
  · subst hL0
    have hroom : ∃ p cap, v = .slice p n cap ∧ n ≤ cap := by
      rcases hown.2 with ⟨e, e2⟩ | ⟨g, cap, _, e, _, _, h, _⟩
      · exact ⟨none, 0, by rw [e, e2], by omega⟩
      · exact ⟨_, cap, e, h⟩
    obtain ⟨p, cap, rfl, hr⟩ := hroom
    refine wpList_plain hgd fun K hK => ?_
    have hrun := append_none (P := Try.prog) w 42 o.type 3 i3 Try.underlying42 hi p n cap a6 c6 hr
    unfold Oper.wp
    simp [execOp, ho, resolve, invoke, builtin, hs, hx, hrun, Result.andThen]
    exact hK _ _ (h _ _ (by simpa [ivs] using hown) ⟨rfl, rfl, rfl, Nat.le_refl _, fun _ _ _ => rfl⟩)
  · obtain ⟨b, off, rfl, _⟩ := hL 0 (List.length_pos_iff.2 hL0)
    refine wpList_append_own w hgd s x 42 ho base 3 i3 _ 1 8 Try.underlying42 hi hz hsz hby rfl (by decide) v n xs hs hown ⟨b, off, none⟩ L.length c6 (ivs L) hx (by simp [ivs]) ?_ (i64x_one L) h63 hbytes hbase (fun v' w' h1 h2 _ => h v' w' h1 h2)
    intro j u hu
    have hj : j < L.length := by
      have := (List.getElem?_eq_some_iff.1 hu).1
      rwa [ivs_len] at this
    obtain ⟨b2, o2, e, hc⟩ := hL j hj
    simp only [Option.some.injEq, Addr.mk.injEq, and_true] at e
    obtain ⟨rfl, rfl⟩ := e
    have hadd : (⟨b, off, none⟩ : Addr).add j = ⟨b, off + j, none⟩ := by unfold Addr.add; split <;> simp_all
    rw [hadd, hc]
    simp only [ivs, List.getElem?_map, List.getElem?_eq_getElem hj, Option.map_some] at hu
    rw [← hu]

/-- A list of numbers in memory of its own. -/
theorem ints_own {w : World} {base n : Nat} {v : Value} {l : List Int} (h : w.ownsRow base 3 1 v n (ivs l)) : ∃ a c, v = .slice a l.length c ∧ n = l.length ∧ IntsIn w a l ∧ l.length ≤ c ∧ l.length ≤ 9223372036854775807 ∧ ∀ b o, a = some ⟨b, o, none⟩ → base ≤ b ∧ b < w.heap.size := by
  have hlen : n = l.length := by have := h.1; simp [ivs] at this; omega
  subst hlen
  have h' := h
  obtain ⟨hl, hv⟩ := h
  rcases hv with ⟨rfl, hn⟩ | ⟨g, cap, cur, rfl, hb, hg, hnc, hm, hcs, ht⟩
  · exact ⟨none, 0, by rw [hn], rfl, fun i hi => by omega, by omega, by omega, fun b o e => by simp at e⟩
  · refine ⟨_, cap, rfl, rfl, fun i hi => ?_, hnc, by simp only [maxLen] at hm; omega, fun b o e => ?_⟩
    · refine ⟨g, 0, rfl, ?_⟩
      have := h'.cells (g := g) rfl i (.int .i64 l[i]) (by simp [ivs, hi])
      rw [addZ] at this
      rw [Nat.zero_add]; exact this
    · simp at e
      obtain ⟨rfl, _⟩ := e
      exact ⟨hb, (Array.getElem?_eq_some_iff.1 hg).1⟩

theorem ownsx_mono {w : World} {base base' e size n : Nat} {v : Value} {xs : List Value} (h : w.ownsRow base e size v n xs) (hb : base' ≤ base) : w.ownsRow base' e size v n xs := by
  refine ⟨h.1, ?_⟩
  rcases h.2 with q | ⟨g, cap, cur, e1, e2, r⟩
  · exact .inl q
  · exact .inr ⟨g, cap, cur, e1, by omega, r⟩
theorem ownsx_kept {w w' : World} {base e size n b : Nat} {v : Value} {xs : List Value} (h : w.ownsRow base e size v n xs) (hg : w.grownBy w' (some b)) (hb : b < base) : w'.ownsRow base e size v n xs := by
  refine h.kept hg ?_
  cases hv : v.ownBlock with
  | none => exact .inl rfl
  | some g => right; have := (h.lt g hv).1; simp; omega
theorem ownsx_set {w : World} {base e size n b : Nat} {v : Value} {xs : List Value} (h : w.ownsRow base e size v n xs) (i : Nat) (u : Value) (hb : b < base) : (w.setCell ⟨b, i, none⟩ u).ownsRow base e size v n xs := ownsx_kept h (grow_setCell _ _ _ _) hb

set_option maxRecDepth 100000 in
set_option maxHeartbeats 400000 in
theorem clone87_any (a : Option Addr) (L : List Int) (cap : Nat) (w : World) (hw : IntsIn w a L) (hl : L.length ≤ 4) (hnil : a = none → L = []) :
    Calls Try.prog 93 #[.slice a L.length cap] w fun e w' => ∃ v, e = .returned v ∧ w'.ownsRow w.heap.size 3 1 v L.length (ivs L) ∧ Below w.heap.size w w' := by
  have hnilq := fun (w : World) (a : Option Addr) (n c : Nat) => Lib.run_eql_slice_nil (P := Try.prog) w 42 3 a n c 0 0 Try.underlying42
  cases a with
  | none =>
    obtain rfl := hnil rfl
    go_enter Try.func93, Try.ntmps93
    go_wp2
    go_ret
    exact ⟨_, rfl, World.ownsRow_nil _ _ _ _, Below.refl _ _⟩
  | some p =>
    have h1 : Below w.heap.size w (w.alloc (.cells #[] 3)) := below_new _ _
    have hown : Hid ((w.alloc (.cells #[] 3)).ownsRow w.heap.size 3 1 (.slice (some ⟨w.heap.size, 0, none⟩) 0 0) 0 []) := hid (World.ownsRow_made w #[] 0 (Nat.le_refl _) (by simp [maxLen]) rfl)
    have Hw := hid (hw.keep h1)
    go_enter Try.func93, Try.ntmps93
    go_wp2_with (at_builtin; refine wpList_appI rfl _ _ rfl w.heap.size (.slice (some ⟨w.heap.size, 0, none⟩) 0 0) 0 [] rfl hown.out L _ _ rfl Hw.out (by simp [maxLen]; omega) (by omega) (by simp) ?_)
    intro v' w1 hown1 hgrow
    have HE := hid (show w1.ownsRow w.heap.size 3 1 v' L.length (ivs L) ∧ Below w.heap.size w w1 from ⟨by simpa using hown1, h1.grown hgrow (by simp) (fun k hk => by simp [Value.ownBlock] at hk; omega)⟩)
    clear hown1 hgrow hown h1 Hw
    go_wp2
    go_ret
    exact ⟨_, rfl, HE.out⟩

end Go.Proofs.Ytaellaconpaejaa
