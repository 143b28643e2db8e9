/- Walks: slices.Delete of one job; drop. Walks: budget, may, take. Walks: what a window is refused for. -/
import Derived.Test.YtildebflnmbefaaGreatKp
import Derived.Lib.SliceRun
import Derived.Test.YtildebflnmbefaaGreatKo
import Derived.Test.YtildebflnmbefaaGreatYiJ
set_option linter.unusedVariables false
namespace Go.Proofs.YtildebflnmbefaaGreat
open Go.RowKit

/-- Cells that are written lie in the block's list. -/
theorem setCells_list {g : Nat} {t : TypeId} : ∀ (vs : List Value) (o : Nat) (w : World) (cur : Array Value), w.heap[g]? = some (.cells cur t (0, 0)) → o + vs.length ≤ cur.size → ∃ cur', (w.setCells g o vs).heap[g]? = some (.cells cur' t (0, 0)) ∧ cur'.size = cur.size ∧ cur'.toList = cur.toList.take o ++ vs ++ cur.toList.drop (o + vs.length)
  | [], o, w, cur, h, hl => ⟨cur, h, rfl, by simp⟩
  | v :: r, o, w, cur, h, hl => by
    have hl' : o + (r.length + 1) ≤ cur.size := hl
    obtain ⟨cur', h1, h2, h3⟩ := setCells_list r (o + 1) (w.setCell ⟨g, o, none⟩ v) (cur.setIfInBounds o v) (set_atx h) (by simp; omega)
    refine ⟨cur', h1, by rw [h2]; simp, ?_⟩
    rw [h3, Array.toList_setIfInBounds]
    have ho : o < cur.toList.length := by simp; omega
    generalize cur.toList = L at *
    obtain ⟨p, x, q, rfl, rfl⟩ : ∃ p x q, L = p ++ x :: q ∧ p.length = o := ⟨L.take o, L[o], L.drop (o + 1), by simp, by simp; omega⟩
    have e1 : (p ++ x :: q).set p.length v = p ++ v :: q := by simp
    have d1 : ∀ y : Value, List.drop (p.length + 1 + r.length) (p ++ y :: q) = q.drop r.length := fun y => by
      rw [show p ++ y :: q = (p ++ [y]) ++ q by simp, List.drop_append]
      simp [List.drop_eq_nil_of_le]
    rw [e1, d1, show p.length + (v :: r).length = p.length + 1 + r.length by simp; omega, d1]
    rw [show p ++ v :: q = (p ++ [v]) ++ q by simp, List.take_append_of_le_length (by simp), List.take_of_length_le (by simp)]
    simp

theorem setCells_grown (g : Nat) : ∀ (vs : List Value) (o : Nat) (w : World), w.grownBy (w.setCells g o vs) (some g)
  | [], o, w => ⟨rfl, rfl, rfl, Nat.le_refl _, fun _ _ _ => rfl⟩
  | v :: r, o, w => by
    have h := setCells_grown g r (o + 1) (w.setCell ⟨g, o, none⟩ v)
    refine ⟨h.os, h.tape, h.output, Nat.le_trans (by simp) h.size, fun k hk hne => ?_⟩
    rw [show (w.setCells g o (v :: r)).heap[k]? = ((w.setCell ⟨g, o, none⟩ v).setCells g (o + 1) r).heap[k]? from rfl, h.block k (by simpa using hk) hne, heap_set_ne _ _ _ _ k (fun e => hne (by rw [e]))]

theorem clearJ (w : World) (ty : TypeId) (b o c : Nat) (hc : ∀ j, j < 6 → (w.cell? ⟨b, o + j, none⟩).isSome = true) (hf : ∀ j, j < 6 → w.frozen? ⟨b, o + j, none⟩ = false) :
    (Builtin.clear_ #[28] ty #[.slice (some ⟨b, o, none⟩) 1 c]).run Tryz.prog w = .ok (.tuple #[]) (w.setCells b o [.int .i64 0, .int .i64 0, .int .i64 0, .int .i64 0, .bool false, .bool false]) := by
  have hst := run_storeCells_cells (P := Tryz.prog) b o [.int .i64 0, .int .i64 0, .int .i64 0, .int .i64 0, .bool false, .bool false] 0 w (by simpa using hc) (by simpa using hf) (by intro v hv'; simp at hv'; rcases hv' with rfl | rfl <;> rfl)
  simp only [Nat.add_zero] at hst
  have hz : ∀ w, (zeroValue 79).run Tryz.prog w = .ok (.agg #[.int .i64 0, .int .i64 0, .int .i64 0, .int .i64 0, .bool false, .bool false]) w := fun w => by kernel_rfl
  have hcells : (Builtin.zeroCells (Value.agg #[.int .i64 0, .int .i64 0, .int .i64 0, .int .i64 0, .bool false, .bool false]).cells 1).toList = [.int .i64 0, .int .i64 0, .int .i64 0, .int .i64 0, .bool false, .bool false] := by kernel_rfl
  simp [Builtin.clear_, run_underlying Tryz.underlying28, hz, hcells, hst]

theorem take_left {α : Type} (a b : List α) (k : Nat) (h : a.length = k) : (a ++ b).take k = a := by subst h; simp
theorem erase_take (J : List JobT) (i : Nat) (hi : i < J.length) (c0 c1 c2 z : List Value) (cap : Nat) (hl : c0.length = cap * 6) (hcap : J.length ≤ cap) (h0 : c0.take (J.length * 6) = fJ J) (h1 : c1 = c0.take (i * 6) ++ fJ (J.drop (i + 1)) ++ c0.drop (i * 6 + (fJ (J.drop (i + 1))).length)) (h2 : c2 = c1.take ((J.length - 1) * 6) ++ z ++ c1.drop ((J.length - 1) * 6 + z.length)) : c2.take ((J.length - 1) * 6) = fJ (J.eraseIdx i) := by
  have t2 : c0.take (i * 6) = fJ (J.take i) := by
    have e1 : c0.take (i * 6) = (fJ J).take (i * 6) := by rw [← h0, List.take_take, Nat.min_eq_left (by omega)]
    have e2 : fJ J = fJ (J.take i) ++ fJ (J.drop i) := by rw [← fJ_app, List.take_append_drop]
    rw [e1, e2]
    exact take_left _ _ _ (by rw [fJ_len, List.length_take, Nat.min_eq_left (by omega)])
  have hd : (fJ (J.drop (i + 1))).length = (J.length - (i + 1)) * 6 := by rw [fJ_len, List.length_drop]
  have hn1 : (fJ (J.take i) ++ fJ (J.drop (i + 1))).length = (J.length - 1) * 6 := by
    rw [List.length_append, hd, fJ_len, List.length_take, Nat.min_eq_left (by omega)]
    omega
  have t3 : c1.take ((J.length - 1) * 6) = fJ (J.take i) ++ fJ (J.drop (i + 1)) := by
    rw [h1, t2]
    exact take_left _ _ _ hn1
  rw [h2, t3, List.append_assoc, take_left _ _ _ hn1, ← fJ_app, List.eraseIdx_eq_take_drop_succ]

set_option maxRecDepth 100000 in
set_option maxHeartbeats 2000000 in
theorem deleteJ_ok (g cap i base : Nat) (J : List JobT) (w : World) (ho : w.ownsRow base 79 6 (.slice (some ⟨g, 0, none⟩) J.length cap) J.length (fJ J)) (hi : i < J.length) :
    Calls Tryz.prog 95 #[.slice (some ⟨g, 0, none⟩) J.length cap, .int .i64 (i : Int), .int .i64 ((i + 1 : Nat) : Int)] w fun e w' => e = .returned (.slice (some ⟨g, 0, none⟩) (J.length - 1) cap) ∧ w'.ownsRow base 79 6 (.slice (some ⟨g, 0, none⟩) (J.length - 1) cap) (J.length - 1) (fJ (J.eraseIdx i)) ∧ w.grownBy w' (some g) := by
  obtain ⟨cur, hcur, hcap, hmax, hsz, hcur2, hbg⟩ : ∃ cur, w.heap[g]? = some (.cells cur 79 (0, 0)) ∧ J.length ≤ cap ∧ cap ≤ maxLen ∧ cur.size = cap * 6 ∧ cur.toList.take (J.length * 6) = fJ J ∧ base ≤ g := by
    rcases ho.2 with ⟨q, _⟩ | ⟨g', cap', cur, e1, e2, e3, e4, e5, e6, e7⟩
    · cases q
    · cases e1
      exact ⟨cur, e3, e4, e5, e6, e7, e2⟩
  have hmx : cap ≤ 9223372036854775807 := by simp only [maxLen] at hmax; omega
  obtain ⟨n, hn⟩ : ∃ n, J.length = n := ⟨_, rfl⟩
  have hcell : ∀ k, k < n * 6 → w.cell? ⟨g, k, none⟩ = (fJ J)[k]? := fun k hk => by
    rw [← hcur2, hn]
    simp [World.cell?, hcur, hk]
  have hfr : ∀ k, w.frozen? ⟨g, k, none⟩ = false := fun k => by simp [World.frozen?, hcur]
  have hlen : (fJ J).length = n * 6 := by rw [fJ_len, hn]
  obtain ⟨i0, hi0, hz0, hz1, hz2⟩ := infoOf Tryz.info79x
  obtain ⟨news, hnews⟩ : ∃ news, news = fJ (J.drop (i + 1)) := ⟨_, rfl⟩
  have hdl : news.length = (n - (i + 1)) * 6 := by rw [hnews, fJ_len, List.length_drop, hn]
  have hsplit : fJ J = fJ (J.take (i + 1)) ++ news := by rw [hnews, ← fJ_app, List.take_append_drop]
  have htl : (fJ (J.take (i + 1))).length = (i + 1) * 6 := by rw [fJ_len, List.length_take]; congr 1; omega
  have hget : ∀ t u, news[t]? = some u → w.cell? ⟨g, (i + 1) * 6 + t, none⟩ = some u := fun t u hu => by
    have ht := (List.getElem?_eq_some_iff.1 hu).1
    rw [hcell _ (by omega), hsplit, List.getElem?_append_right (by omega), htl, Nat.add_sub_cancel_left]
    exact hu
  have hin : n ≤ cap := by omega
  have hi' : i < n := by omega
  obtain ⟨A, hA, hsrc⟩ : ∃ A : Addr, (if cap = i + 1 then some (⟨g, 0, none⟩ : Addr) else some ⟨g, (i + 1) * 6, none⟩) = some A ∧ Hid (∀ t u, news[t]? = some u → w.drew.cell? (A.add t) = some u) := by
    by_cases h : cap = i + 1
    · refine ⟨⟨g, 0, none⟩, by simp [h], fun t u hu => ?_⟩
      have h0 : news.length = 0 := by rw [hdl]; omega
      rw [List.length_eq_zero_iff.1 h0] at hu
      simp at hu
    · refine ⟨⟨g, (i + 1) * 6, none⟩, by simp [h], fun t u hu => ?_⟩
      rw [Addr.add_lit]
      exact hget t u hu
  have s1 : Hid (news.length = (n - (i + 1)) * 6) := hid hdl
  have s2 : Hid (∀ u ∈ news, u.oneCell' = true) := by rw [hnews]; exact hid (fJ_one _)
  have s3 : Hid (∀ t, t < news.length → (w.drew.cell? ⟨g, 0 + i * 6 + t, none⟩).isSome = true ∧ w.drew.frozen? ⟨g, 0 + i * 6 + t, none⟩ = false) := hid fun t ht => by
    refine ⟨?_, hfr _⟩
    show (w.cell? _).isSome = true
    rw [hcell _ (by omega), List.getElem?_eq_getElem (by omega)]
    rfl
  obtain ⟨W1, hW1⟩ : ∃ W1, W1 = w.drew.setCells g (0 + i * 6) news := ⟨_, rfl⟩
  obtain ⟨c1, hc1, hc1s, hc1l⟩ := setCells_list (t := 79) news (0 + i * 6) w.drew cur hcur (by omega)
  rw [← hW1] at hc1
  have hcl : ∀ ty, (Builtin.clear_ #[28] ty #[.slice (some ⟨g, (n - 1) * 6, none⟩) 1 (cap - (n - 1))]).run Tryz.prog W1 = .ok (.tuple #[]) (W1.setCells g ((n - 1) * 6) [.int .i64 0, .int .i64 0, .int .i64 0, .int .i64 0, .bool false, .bool false]) := fun ty => clearJ W1 ty g ((n - 1) * 6) (cap - (n - 1)) (fun j hj => by
      have : (n - 1) * 6 + j < c1.size := by omega
      simp [World.cell?, hc1, this]) (fun j hj => by simp [World.frozen?, hc1])
  have HW : Hid (W1 = w.drew.setCells g (0 + i * 6) news) := hid hW1
  have hic : i ≤ cap := by omega
  have hjc : i + 1 ≤ cap := by omega
  have hni : i + 1 ≤ n := by omega
  have e1 : i + (n - (i + 1)) = n - 1 := by omega
  have z1 : (0 : Int) ≤ (i : Int) + 1 := by omega
  have z2 : (i : Int) + 1 ≤ (n : Int) := by omega
  rw [hn]
  have e2 : n - (n - 1) = 1 := by omega
  have e3 : ¬ cap = n - 1 := by omega
  have z3 : ((n - 1 : Nat) : Int) ≤ (n : Int) := by omega
  obtain ⟨c2, hc2, hc2s, hc2l⟩ := setCells_list (t := 79) [.int .i64 0, .int .i64 0, .int .i64 0, .int .i64 0, .bool false, .bool false] ((n - 1) * 6) W1 c1 hc1 (by simp; omega)
  have HG : Hid (w.grownBy (W1.setCells g ((n - 1) * 6) [.int .i64 0, .int .i64 0, .int .i64 0, .int .i64 0, .bool false, .bool false]) (some g)) := by
    have g1 := setCells_grown g news (0 + i * 6) w.drew
    rw [← hW1] at g1
    have g2 := setCells_grown g [.int .i64 0, .int .i64 0, .int .i64 0, .int .i64 0, .bool false, .bool false] ((n - 1) * 6) W1
    exact hid ⟨g2.os.trans g1.os, g2.tape.trans g1.tape, g2.output.trans g1.output, Nat.le_trans g1.size g2.size, fun k hk hne => (g2.block k (Nat.lt_of_lt_of_le hk g1.size) hne).trans (g1.block k hk hne)⟩
  have HO : Hid ((W1.setCells g ((n - 1) * 6) [.int .i64 0, .int .i64 0, .int .i64 0, .int .i64 0, .bool false, .bool false]).ownsRow base 79 6 (.slice (some ⟨g, 0, none⟩) (n - 1) cap) (n - 1) (fJ (J.eraseIdx i))) := by
    have hil : (J.eraseIdx i).length = n - 1 := by rw [List.length_eraseIdx_of_lt hi, hn]
    refine hid ⟨by rw [fJ_len, hil], .inr ⟨g, cap, c2, rfl, hbg, hc2, by omega, hmax, by omega, ?_⟩⟩
    rw [← hn]
    exact erase_take J i hi cur.toList c1.toList c2.toList [.int .i64 0, .int .i64 0, .int .i64 0, .int .i64 0, .bool false, .bool false] cap (by rw [Array.length_toList, hsz]) hcap hcur2 (by rw [hc1l, hnews, Nat.zero_add]) (by rw [hc2l, hn])
  clear hW1 hcell hget hsplit htl ho hfr hc2 hc2l hc2s hc1l
  go_enter Tryz.func95, Tryz.ntmps95
  go_wp2_with fail
  go_region_law (refine step_append_room rfl (.tmp 22) (.tmp 25) 28 rfl 79 i0 6 Tryz.underlying28 hi0 hz1 g 0 i cap (by simp [Act.eval, Act.put]) A (n - (i + 1)) (cap - (i + 1)) news (by simp [Act.eval, Act.put]) s1.out hsrc.out s2.out (by omega) s3.out ?_; rw [← HW.out, e1])
  go_wp2
  go_ret
  exact ⟨rfl, HO.out, HG.out⟩

set_option maxRecDepth 100000 in
set_option maxHeartbeats 1000000 in
theorem dropW_ok (X : RC) (M : RM) (D : Dom) (K : KT) (now : Int) (k : Nat) (w : World) (h : RO X w M D K now) (hk : k < D.jobs.length) :
    Calls Tryz.prog 78 #[.pointer (some ⟨X.rb, 0, none⟩), .int .i64 (k : Int)] w fun e w' => e = .returned (.tuple #[]) ∧ ∃ a' c', RO X w' (jM M a' c') (dropD D k) K now := by
  have c0 := h.row.cell 0 _ rfl
  have hrb := h.row.lt
  have o := h.px.jobs
  dsimp only at o
  obtain ⟨g, hg, ⟨cur, hcur⟩, hbg⟩ := owns_zero o (by omega)
  have hne : g ≠ X.rb := owns_ne o h.row (by decide) g (by rw [hg]; rfl)
  rw [hg] at o c0
  have hl := (owns_in o).2.2
  have hkb : (k : Int) < (D.jobs.length : Int) := by omega
  have ob : (Value.slice M.A.aJ D.jobs.length M.A.cJ).ownBlock = some g := by rw [hg]; rfl
  have HH := hid h
  have HD := hid (deleteJ_ok g M.A.cJ k X.w0.heap.size D.jobs w o hk)
  clear h o
  go_enter Tryz.func78, Tryz.ntmps78
  go_wp2_with fail
  refine Calls.mono HD.out ?_
  rintro e w1 ⟨rfl, ho1, hg1⟩
  have r1 : RowAt w1 X.rb 64 _ := (hg1.block X.rb hrb (fun e => hne (by cases e; rfl))).trans HH.out.row
  have d0 := r1.cell 0 _ rfl
  have f0 := r1.frozen 0
  have hel : (D.jobs.eraseIdx k).length = D.jobs.length - 1 := List.length_eraseIdx_of_lt hk
  have HE : Hid (RO X (w1.setCell ⟨X.rb, 0, none⟩ (.slice (some ⟨g, 0, none⟩) (D.jobs.length - 1) M.A.cJ)) (jM M (some ⟨g, 0, none⟩) M.A.cJ) (dropD D k) K now) := by
    have := HH.out.newJobs (w1 := w1) (a' := some ⟨g, 0, none⟩) (c' := M.A.cJ) (J := D.jobs.eraseIdx k) (by rw [ob]; exact hg1) (by rw [hel]; exact ho1) (fun x hx => .inl (by rw [ob]; exact hx))
    rw [hel] at this
    exact hid this
  clear ho1 hg1 HD c0
  go_wp2
  go_end0
  exact ⟨rfl, _, _, HE.out⟩

end Go.Proofs.YtildebflnmbefaaGreat

namespace Go.Proofs.YtildebflnmbefaaGreat
open Go.RowKit

set_option maxRecDepth 100000 in
set_option maxHeartbeats 1000000 in
theorem takeW_ok (X : RC) (M : RM) (D : Dom) (K : KT) (now : Int) (c : Nat) (w : World) (h : RO X w M D K now) (hc : c < D.tak.length) :
    Calls Tryz.prog 76 #[.pointer (some ⟨X.rb, 0, none⟩), .int .i64 (c : Int)] w fun e w' => e = .returned (.int .i64 (D.tak.getD c 0)) ∧ RO X w' M (takeD D c) K now := by
  have c4 := h.row.cell 4 _ rfl
  have HH := hid h
  have o := h.takOwn
  obtain ⟨g, hg, ⟨cur, hcur⟩, hbg⟩ := owns_zero o (by omega)
  have hi := intsIn_of (owns_in o).1
  obtain ⟨b, of, e1, ct⟩ := hi c hc
  rw [hg] at e1 c4
  cases e1
  rw [Nat.zero_add] at ct
  have hl := (owns_in o).2.2
  have hgd : D.tak.getD c 0 = D.tak[c] := by simp [hc]
  have fz : w.frozen? ⟨g, c, none⟩ = false := by simp [World.frozen?, hcur]
  have hci : (c : Int) < (D.tak.length : Int) := by omega
  rw [hgd]
  clear h o hi
  go_enter Tryz.func76, Tryz.ntmps76
  go_wp2
  go_ret
  exact ⟨rfl, HH.out.taken hg c 0⟩

set_option maxRecDepth 100000 in
set_option maxHeartbeats 1000000 in
theorem budgetW_ok (X : RC) (M : RM) (D : Dom) (K : KT) (now : Int) (j : JobT) (w : World) (h : RO X w M D K now) (h0 : 0 ≤ j.1) (h1 : j.1 < X.C.ta.length) :
    Calls Tryz.prog 77 #[.pointer (some ⟨X.rb, 0, none⟩), jv j] w fun e w' => e = .returned (.int .i64 (tk X.C j.1.toNat).2.2.1) ∧ Below w.heap.size w w' := by
  obtain ⟨j0, j1, j2, j3, j4, j5⟩ := j
  dsimp only [jv] at *
  obtain ⟨k, rfl⟩ : ∃ k : Nat, j0 = (k : Int) := ⟨j0.toNat, by omega⟩
  have hk : k < X.C.ta.length := by omega
  have c15 := h.row.cell 15 _ rfl
  have hrb := h.row.lt
  have hC := h.confIn
  obtain ⟨b, o, e1, t0, t1, t2, t3⟩ := hC.ta k hk
  have hl := hC.l8
  rw [e1] at c15
  have hb : b < w.heap.size := World.block_lt_of_cell? _ _ t0
  have e : (tk X.C ((k : Int)).toNat).2.2.1 = X.C.ta[k].2.2.1 := by simp [tk, hk]
  rw [e]
  have HB := fun o => hid (below_new w o)
  clear h hC
  go_enter Tryz.func77, Tryz.ntmps77
  go_wp2
  go_quiet (fail)
  go_wp2
  go_ret
  exact ⟨rfl, below_drewN (HB _).out _⟩

set_option maxRecDepth 100000 in
set_option maxHeartbeats 2000000 in
theorem mayW_ok (X : RC) (M : RM) (D : Dom) (K : KT) (now : Int) (a : ActT) (w : World) (h : RO X w M D K now) (h0 : 0 ≤ a.2.1) :
    Calls Tryz.prog 73 #[.pointer (some ⟨X.rb, 0, none⟩), av a] w fun e w' => e = .returned (.bool (mayA X.C X.dn a)) ∧ Below w.heap.size w w' := by
  obtain ⟨k, n, v⟩ := a
  dsimp only at h0
  obtain ⟨n, rfl⟩ : ∃ m : Nat, n = (m : Int) := ⟨n.toNat, by omega⟩
  have c13 := h.row.cell 13 _ rfl
  have c14 := h.row.cell 14 _ rfl
  have c16 := h.row.cell 16 _ rfl
  have hrb := h.row.lt
  have hC := h.confIn
  have l7 := hC.l7
  have l6 := hC.l6
  have HB := fun o => hid (below_new w o)
  have HX := hid hC
  clear h hC
  unfold mayA
  dsimp only
  rw [Int.toNat_natCast]
  by_cases h4 : k = 4
  · subst h4
    by_cases hn : n < X.C.ch.length
    · obtain ⟨b, o, e1, t0, t1, t2⟩ := HX.out.ch n hn
      rw [e1] at c14
      have hb : b < w.heap.size := World.block_lt_of_cell? _ _ t0
      have hni : (n : Int) < (X.C.ch.length : Int) := by omega
      have e : X.C.ch.getD n (0, 0, 0) = X.C.ch[n] := by simp [hn]
      rw [e]
      go_enter Tryz.func73, Tryz.ntmps73
      go_wp2
      go_quiet (fail)
      all_goals
        go_wp2
        go_ret
        exact ⟨ret_bool (by first | rfl | simp [hni] | (simp [hni]; rfl)), below_drewN (HB _).out _⟩
    · have hni : ¬ (n : Int) < (X.C.ch.length : Int) := by omega
      go_enter Tryz.func73, Tryz.ntmps73
      go_wp2
      go_quiet (fail)
      all_goals
        go_wp2
        go_ret
        exact ⟨ret_bool (by first | rfl | simp [hni] | (simp [hni]; rfl)), below_drewN (HB _).out _⟩
  simp only [h4, if_false]
  by_cases h5 : k = 5
  · subst h5
    by_cases hn : n < X.C.ch.length
    · obtain ⟨b, o, e1, t0, t1, t2⟩ := HX.out.ch n hn
      rw [e1] at c14
      have hb : b < w.heap.size := World.block_lt_of_cell? _ _ t0
      have hni : (n : Int) < (X.C.ch.length : Int) := by omega
      have e : X.C.ch.getD n (0, 0, 0) = X.C.ch[n] := by simp [hn]
      rw [e]
      go_enter Tryz.func73, Tryz.ntmps73
      go_wp2
      go_quiet (fail)
      all_goals
        go_wp2
        go_ret
        exact ⟨ret_bool (by first | rfl | simp [hni] | (simp [hni]; rfl)), below_drewN (HB _).out _⟩
    · have hni : ¬ (n : Int) < (X.C.ch.length : Int) := by omega
      go_enter Tryz.func73, Tryz.ntmps73
      go_wp2
      go_quiet (fail)
      all_goals
        go_wp2
        go_ret
        exact ⟨ret_bool (by first | rfl | simp [hni] | (simp [hni]; rfl)), below_drewN (HB _).out _⟩
  simp only [h5, if_false]
  by_cases h7 : k = 7
  · subst h7
    by_cases hn : n < X.C.ow.length
    · obtain ⟨b, o, e1, t0⟩ := HX.out.ow n hn
      rw [e1] at c13
      have hb : b < w.heap.size := World.block_lt_of_cell? _ _ t0
      have hni : (n : Int) < (X.C.ow.length : Int) := by omega
      have e : X.C.ow.getD n 0 = X.C.ow[n] := by simp [hn]
      rw [e]
      go_enter Tryz.func73, Tryz.ntmps73
      go_wp2
      go_quiet (fail)
      all_goals
        go_wp2
        go_ret
        exact ⟨ret_bool (by first | rfl | simp [hni] | (simp [hni]; rfl)), below_drewN (HB _).out _⟩
    · have hni : ¬ (n : Int) < (X.C.ow.length : Int) := by omega
      go_enter Tryz.func73, Tryz.ntmps73
      go_wp2
      go_quiet (fail)
      all_goals
        go_wp2
        go_ret
        exact ⟨ret_bool (by first | rfl | simp [hni] | (simp [hni]; rfl)), below_drewN (HB _).out _⟩
  simp only [h7, if_false]
  go_enter Tryz.func73, Tryz.ntmps73
  go_wp2
  go_ret
  exact ⟨rfl, (HB _).out⟩

end Go.Proofs.YtildebflnmbefaaGreat

namespace Go.Proofs.YtildebflnmbefaaGreat
open Go.RowKit

set_option maxRecDepth 100000 in
set_option maxHeartbeats 4000000 in
theorem checkRun_any (C : Conf) (B : Mem) (dn : Int) (D : Dom) (A : DMem) (K : KT) (aK : Option Addr) (cK : Nat) (L : List ActT) (aL : Option Addr) (cL : Nat) (fr te : Int) (w : World) (hC : ConfIn w B C) (hD : DomIn w A D) (hK : CacheIn w aK K) (hKl : List.length K ≤ 9223372036854775807) (hL : ChansIn w aL L) (hLl : List.length L ≤ 9223372036854775807) :
    Calls Tryz.prog 11 #[cv C B, .int .i64 dn, dv D A, .agg #[.slice aK K.length cK], .slice aL L.length cL, .int .i64 fr, .int .i64 te] w fun e w' => e = .returned (.int .i64 (ckRun C dn D K L fr te)) ∧ Below w.heap.size w w' := by
  have q1 := below_new w (.cells (cl C B) 27)
  have q2 := below_new (w.alloc (.cells (cl C B) 27)) (.cells (dl D A) 33)
  have q3 := below_new ((w.alloc (.cells (cl C B) 27)).alloc (.cells (dl D A) 33)) (.cells #[.slice aK K.length cK] 36)
  have hb := btrans (btrans q1 q2) q3
  have HB := hid hb
  have HC := hid (hC.keep hb)
  have HD := hid (hD.keep hb)
  have HK := hid (hK.keep hb)
  have HL := hid (hL.keep hb)
  have R3 := hid (rowAt_new ((w.alloc (.cells (cl C B) 27)).alloc (.cells (dl D A) 33)) (w.heap.size + 1 + 1) [.slice aK K.length cK] 36 (by simp))
  clear q1 q2 q3 hb hC hD hK hL
  go_enter Tryz.func11, Tryz.ntmps11
  go_wp2_with fail
  refine (checkD_any D A C B dn _ HC.out HD.out).mono ?_
  rintro e w1 ⟨rfl, hb1⟩
  generalize hW : World.alloc (World.alloc (World.alloc w _) _) _ = W at *
  clear hW
  have HB1 := hid (btrans HB.out hb1)
  have T3 := hid (R3.out.below hb1 (Nat.le_refl _))
  have HK1 := hid (HK.out.keep hb1)
  have HL1 := hid (HL.out.keep hb1)
  clear R3 HK HL HC HD HB hb1
  by_cases h1 : ckD C dn D = 0
  case neg =>
    have HE : Hid (ckRun C dn D K L fr te = ckD C dn D) := hid (by rw [ckRun, if_pos h1])
    have hx : (ckD C dn D != 0) = true := by simp [h1]
    clear h1
    generalize ckD C dn D = q at *
    go_wp2
    go_ret
    exact ⟨ret_int HE.out.symm, HB1.out⟩
  have H1 := hid h1
  rw [h1]
  clear h1
  have c0 := T3.out.cell 0 _ rfl
  go_wp2_with fail
  refine (check_any aK K cK _ HK1.out hKl).mono ?_
  rintro e w2 ⟨rfl, hb2⟩
  have HB2 := hid (btrans HB1.out hb2)
  have HL2 := hid (HL1.out.keep hb2)
  clear c0 T3 HK1 HL1 HB1 hb2
  by_cases h2 : ck K = 0
  case neg =>
    have HE : Hid (ckRun C dn D K L fr te = ck K) := hid (by rw [ckRun, if_neg (by rw [H1.out]; decide), if_pos h2])
    have hx : (ck K != 0) = true := by simp [h2]
    clear h2
    generalize ck K = q at *
    go_wp2
    go_ret
    exact ⟨ret_int HE.out.symm, HB2.out⟩
  have H2 := hid h2
  rw [h2]
  clear h2
  have HE0 : Hid (ckRun C dn D K L fr te = if ckAs L ≠ 0 then ckAs L else if fr < 0 ∨ te < fr ∨ 100000 < te then 3 else 0) := hid (by rw [ckRun, if_neg (by rw [H1.out]; decide), if_neg (by rw [H2.out]; decide)])
  by_cases h60 : 60 < List.length L
  · have HE : Hid (ckRun C dn D K L fr te = 2) := hid (by rw [HE0.out, ckAs, if_pos h60]; rfl)
    have hz : (60 : Int) < (List.length L : Int) := by omega
    go_wp2
    go_ret
    exact ⟨ret_int HE.out.symm, HB2.out⟩
  have hz : (List.length L : Int) ≤ 60 := by omega
  have HA : Hid (ckAs L = fe (List.length L) fun i => ckA (L.getD i (0, 0, 0))) := hid (by rw [ckAs, if_neg h60])
  clear h60
  go_wp2
  go_loopw [37] (fun i wr => ∃ k : Nat, k ≤ List.length L ∧ i = .int .i64 k ∧ Below w2.heap.size w2 wr ∧ ∀ j, j < k → ckA (L.getD j (0, 0, 0)) = 0) (fun i _ => List.length L - (intOf i).toNat)
  case atStart => exact ⟨0, Nat.zero_le _, rfl, Below.refl _ _, by omega⟩
  case round =>
    obtain ⟨k, hk, rfl, hbl, hno⟩ := hrel
    have Hno := hid hno
    clear hno
    by_cases hlt : k < List.length L
    · obtain ⟨b1, o1, rfl, p0, p1, p2⟩ := (HL2.out.keep hbl) k hlt
      have HV : Hid (L.getD k (0, 0, 0) = L[k]) := hid (by simp [hlt])
      have hk1 : (k : Int) < (List.length L : Int) := by omega
      have hk0 : (0 : Int) ≤ (k : Int) := by omega
      generalize L[k] = a at *
      obtain ⟨ak, an, av'⟩ := a
      dsimp only at *
      have HQ := hid (btrans hbl (below_new wr (.cells #[.int .i64 ak, .int .i64 an, .int .i64 av'] 53)))
      clear hbl
      go_wp2_with fail
      refine (checkAction_any (ak, an, av') _).mono ?_
      rintro e w3 ⟨rfl, hb3⟩
      have HB3 := hid (btrans HQ.out hb3)
      clear hb3 HQ p0 p1 p2
      by_cases h0 : ckA (ak, an, av') = 0
      · have H0 := hid h0
        rw [h0]
        clear h0
        go_wp2
        go_roundw
        case rel =>
          refine ⟨k + 1, by omega, by go_num, HB3.out, fun j hj => ?_⟩
          by_cases e : j = k
          · subst e; rw [HV.out]; exact H0.out
          · exact Hno.out j (by omega)
        case measure => simp [intOf]; omega
      · have HE2 : Hid (ckRun C dn D K L fr te = ckA (ak, an, av')) := hid (by
          have e1 : ckAs L = ckA (ak, an, av') := by rw [HA.out, fe_at _ k _ hlt (by rw [HV.out]; exact h0) (fun j hj => Hno.out j hj), HV.out]
          rw [HE0.out, e1, if_pos h0])
        have hx : (ckA (ak, an, av') != 0) = true := by simp [h0]
        clear h0 HV
        generalize ckA (ak, an, av') = q at *
        go_wp2
        go_ret
        exact ⟨ret_int HE2.out.symm, btrans HB2.out HB3.out⟩
    · have HE3 : Hid (ckRun C dn D K L fr te = if fr < 0 ∨ te < fr ∨ 100000 < te then 3 else 0) := hid (by
        have e1 : ckAs L = 0 := by rw [HA.out]; exact fe_zero _ _ (fun j hj => Hno.out j (by omega))
        rw [HE0.out, e1, if_neg (by decide)])
      have HBl := hid (btrans HB2.out hbl)
      clear hbl
      go_wp2
      all_goals go_ret
      all_goals exact ⟨ret_int (by rw [HE3.out]; first | (rw [if_pos (by omega)]) | (rw [if_neg (by omega)])), HBl.out⟩

end Go.Proofs.YtildebflnmbefaaGreat
