/- Walks of the document's answer: what its check of a cache comes to. -/
import Derived.Test.YtaellaconpaejaaCd
import Derived.Test.YtaellaconpaejaaMb
import Derived.Test.YtaellaconpaejaaCg
set_option linter.unusedVariables false
namespace Go.Proofs.Ytaellaconpaejaa
open Go.RowKit

theorem ck_shape3 {C : List (List (Int × Bool))} (h : inR C.length 1 4 = false) : ck C = 3 := by
  have : ckShape C = 3 := by simp [ckShape, h]
  simp [ck, this]

theorem ck_ways3 {C : List (List (Int × Bool))} (h : inR C.length 1 4 = true) (k : Nat) (hk : k < C.length) (h2 : inR C[k].length 1 3 = false) : ck C = 3 := by
  have h3 : C.any (fun l => !inR l.length 1 3) = true := List.any_eq_true.2 ⟨_, List.getElem_mem hk, by simp [h2]⟩
  have : ckShape C = 3 := by simp only [ckShape, h, h3]; simp
  simp [ck, this]

theorem ck_form1 {C : List (List (Int × Bool))} (h : inR C.length 1 4 = true) (h2 : ∀ j (hj : j < C.length), inR C[j].length 1 3 = true) (k : Nat) (hk : k < C.length) (h4 : C[k].length ≠ (C.headD []).length) : ck C = 1 := by
  have h3 : C.any (fun l => !inR l.length 1 3) = false := by
    rw [List.any_eq_false]
    intro x hx
    obtain ⟨j, hj, rfl⟩ := List.getElem_of_mem hx
    simp [h2 j hj]
  have h5 : C.any (fun l => l.length != (C.headD []).length) = true := List.any_eq_true.2 ⟨_, List.getElem_mem hk, by simpa using h4⟩
  have : ckShape C = 1 := by simp only [ckShape, h, h3, h5]; simp
  simp [ck, this]

theorem ck_shape0 {C : List (List (Int × Bool))} (h : inR C.length 1 4 = true) (h2 : ∀ j (hj : j < C.length), inR C[j].length 1 3 = true) (h4 : ∀ j (hj : j < C.length), C[j].length = (C.headD []).length) : ckShape C = 0 := by
  rw [ckShape_zero_iff]
  refine ⟨by simp [inR] at h; omega, fun l hl => ?_, fun l hl => ?_⟩
  · obtain ⟨j, hj, rfl⟩ := List.getElem_of_mem hl
    have := h2 j hj
    simp [inR] at this; omega
  · obtain ⟨j, hj, rfl⟩ := List.getElem_of_mem hl
    exact h4 j hj

theorem ck_at {C : List (List (Int × Bool))} (h : ckShape C = 0) (k : Nat) (hk : k < C.length) (m : Nat) (hm : m < C[k].length) (h1 : ∀ j, j < k → ckSet C j = 0) (h2 : ∀ j, j < m → ckWay C[k] j k C.length = 0) (h3 : ckWay C[k] m k C.length ≠ 0) : ck C = ckWay C[k] m k C.length := by
  have e1 : ckSet C k = ckWay C[k] m k C.length := by
    rw [ckSet_def C k hk]
    exact fe_at _ m _ hm h3 h2
  rw [ck, h]
  simp only [ne_eq, not_true_eq_false, if_false]
  rw [fe_at C.length k (ckSet C) hk (by rw [e1]; exact h3) h1, e1]

theorem ck_all {C : List (List (Int × Bool))} (h : ckShape C = 0) (h1 : ∀ j, j < C.length → ckSet C j = 0) : ck C = 0 := by
  rw [ck, h]
  simp only [ne_eq, not_true_eq_false, if_false]
  exact fe_zero _ _ h1

def anyL (ls : List (Int × Bool)) (x : Int) : Bool := ls.any fun y => y.1 == x

theorem anyL_take (ls : List (Int × Bool)) (x : Int) (n : Nat) (h : n < ls.length) : anyL (ls.take (n + 1)) x = (anyL (ls.take n) x || (ls[n].1 == x)) := by
  rw [anyL, List.take_succ_eq_append_getElem h, List.any_append]
  simp only [anyL, List.any_cons, List.any_nil, Bool.or_false]

theorem idx_anyL (ls : List (Int × Bool)) (x : Int) : (0 ≤ idx x ls) ↔ anyL ls x = true := by
  rw [idx_nonneg_iff]
  simp [anyL]

section
variable {ls : List (Int × Bool)} {i : Nat} {j N l : Int} {d : Bool}
theorem ckW3 (hx : ls[i]? = some (l, d)) (hr : inR l 0 1000 = false) : ckWay ls i j N = 3 := by rw [ckWay, hx]; simp [hr]
theorem ckW1 (hx : ls[i]? = some (0, true)) : ckWay ls i j N = 1 := by rw [ckWay, hx]; simp [inR]
theorem ckW0z (hx : ls[i]? = some (0, false)) : ckWay ls i j N = 0 := by rw [ckWay, hx]; simp [inR]
theorem ckW4 (hx : ls[i]? = some (l, d)) (hr : inR l 0 1000 = true) (hz : l ≠ 0) (hm : l % N ≠ j) : ckWay ls i j N = 4 := by rw [ckWay, hx]; simp [hr, hz, hm]
theorem ckW6 (hx : ls[i]? = some (l, d)) (hr : inR l 0 1000 = true) (hz : l ≠ 0) (hm : l % N = j) (h6 : anyL (ls.take i) l = true) : ckWay ls i j N = 6 := by
  have := (idx_anyL (ls.take i) l).2 h6
  rw [ckWay, hx]; simp [hr, hz, hm]; omega
theorem ckW4b (hx : ls[i]? = some (l, d)) (hr : inR l 0 1000 = true) (hz : l ≠ 0) (hm : l % N = j) (h6 : anyL (ls.take i) l = false) (h4 : anyL (ls.take i) 0 = true) : ckWay ls i j N = 4 := by
  have h1 : ¬ 0 ≤ idx l (ls.take i) := fun h => by rw [(idx_anyL _ _).1 h] at h6; cases h6
  have h2 := (idx_anyL (ls.take i) 0).2 h4
  rw [ckWay, hx]; simp [hr, hz, hm]; rw [if_neg h1, if_pos h2]
theorem ckW0 (hx : ls[i]? = some (l, d)) (hr : inR l 0 1000 = true) (hz : l ≠ 0) (hm : l % N = j) (h6 : anyL (ls.take i) l = false) (h4 : anyL (ls.take i) 0 = false) : ckWay ls i j N = 0 := by
  have h1 : ¬ 0 ≤ idx l (ls.take i) := fun h => by rw [(idx_anyL _ _).1 h] at h6; cases h6
  have h2 : ¬ 0 ≤ idx 0 (ls.take i) := fun h => by rw [(idx_anyL _ _).1 h] at h4; cases h4
  rw [ckWay, hx]; simp [hr, hz, hm]; rw [if_neg h1, if_neg h2]
end

set_option maxRecDepth 100000 in
set_option maxHeartbeats 2000000 in
theorem checkCache_any (a : Option Addr) (C : List (List (Int × Bool))) (cap : Nat) (w : World) (hw : CacheIn w a C) (hl : C.length ≤ 9223372036854775807) :
    Calls Try.prog 17 #[.agg #[.slice a C.length cap]] w fun e w' => e = .returned (.int .i64 (ck C)) ∧ Below w.heap.size w w' := by
  have h1 : Below w.heap.size w (w.alloc (.cells #[.slice a C.length cap] 24)) := (Below.refl _ _).alloc (Nat.le_refl _) _
  have hw1 := hw.keep h1
  have hc : (w.alloc (.cells #[.slice a C.length cap] 24)).cell? ⟨w.heap.size, 0, none⟩ = some (.slice a C.length cap) := by simp
  go_enter Try.func17, Try.ntmps17
  go_wp2_with fail
  refine (between_any _ _ _ _).mono ?_
  rintro e _ ⟨rfl, rfl⟩
  cases hr : inR C.length 1 4 with
  | false =>
    go_wp2
    go_ret
    exact ⟨ret_int (ck_shape3 hr).symm, h1⟩
  | true =>
    have HR := hid hr
    have hpos : 1 ≤ C.length ∧ C.length ≤ 4 := by simp [inR] at hr; omega
    obtain ⟨hpos, hp4⟩ := hpos
    have hpos' : (1 : Int) ≤ C.length := by omega
    have hp4' : (C.length : Int) ≤ 4 := by omega
    clear hr
    generalize hW0 : w.alloc (.cells #[.slice a C.length cap] 24) = w0 at *
    clear hW0
    go_wp2
    go_loopw [3] (fun i wr => wr = w0 ∧ ∃ k : Nat, k ≤ C.length ∧ i = .int .i64 k ∧ ∀ j (hj : j < C.length), j < k → inR C[j].length 1 3 = true) (fun i _ => C.length - (intOf i).toNat)
    case atStart => exact ⟨rfl, 0, Nat.zero_le _, rfl, by omega⟩
    case round =>
      obtain ⟨rfl, k, hk, rfl, hno⟩ := hrel
      have Hno := hid hno
      clear hno
      by_cases hlt : k < C.length
      · obtain ⟨b', o', a2, cap2, rfl, hc1, hws, hcap, hlen⟩ := hw1 k hlt
        have hk1 : (k : Int) < C.length := by omega
        go_wp2_with fail
        refine (between_any _ _ _ _).mono ?_
        rintro e _ ⟨rfl, rfl⟩
        cases hx : inR C[k].length 1 3 with
        | false =>
          go_wp2
          go_ret
          exact ⟨ret_int (ck_ways3 HR.out k hlt hx).symm, h1⟩
        | true =>
          have HX := hid hx
          clear hx
          go_wp2
          go_roundw
          case rel =>
            refine ⟨by trivial, k + 1, by omega, by go_num, fun j hj hlt2 => ?_⟩
            by_cases e : j = k
            · subst e; exact HX.out
            · exact Hno.out j hj (by omega)
          case measure => simp [intOf]; omega
      · have HW : Hid (∀ j (hj : j < C.length), inR C[j].length 1 3 = true) := fun j hj => Hno.out j hj (by omega)
        clear Hno
        obtain ⟨b0, o0, a0, cap0, rfl, hc0, hws0, hcap0, hlen0⟩ := hw1 0 (by omega)
        rw [Nat.add_zero] at hc0
        have H0 : Hid ((C.headD []).length = C[0].length) := by
          cases C with
          | nil => simp at hpos
          | cons x r => rfl
        go_wp2
        go_loopw [4] (fun i wi => ∃ k : Nat, k ≤ C.length ∧ i = .int .i64 k ∧ (∃ n, wi = wr.drewN n) ∧ ∀ j (hj : j < C.length), j < k → C[j].length = C[0].length) (fun i _ => C.length - (intOf i).toNat)
        case atStart => exact ⟨0, Nat.zero_le _, rfl, ⟨0, rfl⟩, by omega⟩
        case round =>
          rename_i w0
          obtain ⟨k, hk, rfl, ⟨nd, rfl⟩, hno⟩ := hrel
          have Hno := hid hno
          clear hno
          by_cases hlt : k < C.length
          · obtain ⟨b', o', a2, cap2, e2, hc1, hws, hcap, hlen⟩ := hw1 k hlt
            simp only [Option.some.injEq, Addr.mk.injEq, and_true] at e2
            obtain ⟨rfl, rfl⟩ := e2
            have hk1 : (k : Int) < C.length := by omega
            have hk0 : (0 : Int) < C.length := by omega
            go_wp2
            go_quiet (fail)
            by_cases hx : C[k].length = C[0].length
            · have hx' : ((C[k].length : Int) != (C[0].length : Int)) = false := by simp [hx]
              have HX := hid hx
              clear hx
              go_wp2
              go_roundw
              case rel =>
                refine ⟨k + 1, by omega, by go_num, ⟨_, rfl⟩, fun j hj hlt2 => ?_⟩
                by_cases e : j = k
                · subst e; exact HX.out
                · exact Hno.out j hj (by omega)
              case measure => simp [intOf]; omega
            · have hx' : ((C[k].length : Int) != (C[0].length : Int)) = true := by simp; omega
              have HX : Hid (ck C = 1) := ck_form1 HR.out HW.out k hlt (by rw [H0.out]; exact hx)
              clear hx
              go_wp2
              go_ret
              exact ⟨ret_int HX.out.symm, below_drewN (below_drewN h1 _) _⟩
          · have HS : Hid (ckShape C = 0) := ck_shape0 HR.out HW.out (fun j hj => by rw [H0.out]; exact Hno.out j hj (by omega))
            clear Hno HW H0
            have h2 := below_drewN h1 nd
            have hw2 : CacheIn (wr.drewN nd) (some ⟨b0, o0, none⟩) C := hw1
            have hc2 : (wr.drewN nd).cell? ⟨w.heap.size, 0, none⟩ = some (.slice (some ⟨b0, o0, none⟩) C.length cap) := hc
            clear hw1 hc h1
            go_wp2
            generalize wr.drewN nd = w3 at *
            go_loopw [5] (fun i wx => ∃ k : Nat, k ≤ C.length ∧ i = .int .i64 k ∧ Below w3.heap.size w3 wx ∧ ∀ j, j < k → ckSet C j = 0) (fun i _ => C.length - (intOf i).toNat)
            case atStart => exact ⟨0, Nat.zero_le _, rfl, Below.refl _ _, by omega⟩
            case round =>
              rename_i wq1 wq2
              obtain ⟨k, hk, rfl, hbl, hno⟩ := hrel
              have Hno := hid hno
              clear hno
              have hc3 := bkeep hbl hc2 (Nat.le_refl _)
              by_cases hlt : k < C.length
              · obtain ⟨b', o', a2, cap2, e2, hc1, hws, hcap, hlen⟩ := hw2 k hlt
                simp only [Option.some.injEq, Addr.mk.injEq, and_true] at e2
                obtain ⟨rfl, rfl⟩ := e2
                have hc1' := bkeep hbl hc1 (Nat.le_refl _)
                have hws' := hws.keep hbl
                have hk1 : (k : Int) < C.length := by omega
                have hk0 : (0 : Int) ≤ k := by omega
                go_wp2
                go_loopw [6] (fun i wi => ∃ m : Nat, m ≤ C[k].length ∧ i = .int .i64 m ∧ Below wr.heap.size wr wi ∧ ∀ j, j < m → ckWay C[k] j k C.length = 0) (fun i _ => C[k].length - (intOf i).toNat)
                case atStart => exact ⟨0, Nat.zero_le _, rfl, Below.refl _ _, by omega⟩
                case round =>
                  rename_i wq3
                  obtain ⟨m, hm, rfl, hbi, hno2⟩ := hrel
                  have Hno2 := hid hno2
                  clear hno2
                  have hc4 := bkeep hbi hc3 (Nat.le_refl _)
                  have hc5 := bkeep hbi hc1' (Nat.le_refl _)
                  by_cases hlm : m < C[k].length
                  · obtain ⟨b2, o2, rfl, hd1, hd2⟩ := (hws'.keep hbi) m hlm
                    have hm1 : (m : Int) < C[k].length := by omega
                    have hm0 : (0 : Int) ≤ m := by omega
                    generalize hxx : C[k][m] = x at hd1 hd2
                    obtain ⟨l, d⟩ := x
                    have Hx : Hid (C[k][m]? = some (l, d)) := by show _ = _; rw [List.getElem?_eq_getElem hlm, hxx]
                    clear hxx
                    simp only at hd1 hd2
                    have hlb1 : w.heap.size < wr.heap.size := World.block_lt_of_cell? _ _ hc4
                    have hlb2 : b0 < wr.heap.size := World.block_lt_of_cell? _ _ hc5
                    have hlb3 : b2 < wr.heap.size := World.block_lt_of_cell? _ _ hd1
                    go_wp2_with fail
                    refine (between_any _ _ _ _).mono ?_
                    rintro e _ ⟨rfl, rfl⟩
                    have hbx := hbi.alloc (by have := hbi.size; omega) (.cells #[.int .i64 l, .bool d] 119)
                    cases hr : inR l 0 1000 with
                    | false =>
                      have HF := hid (ck_at HS.out k hlt m hlm Hno.out Hno2.out (by rw [ckW3 Hx.out hr]; omega))
                      rw [ckW3 Hx.out hr] at HF
                      go_wp2
                      go_ret
                      exact ⟨ret_int HF.out.symm, btrans h2 (btrans hbl hbx)⟩
                    | true =>
                      have Hr := hid hr
                      have hr1 : 0 ≤ l ∧ l ≤ 1000 := by simpa [inR] using hr
                      obtain ⟨hl0, hl1⟩ := hr1
                      clear hr
                      by_cases hz : l = 0
                      · subst hz
                        cases d with
                        | true =>
                          have HF := hid (ck_at HS.out k hlt m hlm Hno.out Hno2.out (by rw [ckW1 Hx.out]; omega))
                          rw [ckW1 Hx.out] at HF
                          go_wp2
                          go_ret
                          exact ⟨ret_int HF.out.symm, btrans h2 (btrans hbl hbx)⟩
                        | false =>
                          go_wp2
                          go_roundw
                          case rel =>
                            refine ⟨m + 1, by omega, by go_num, hbx, fun j hj => ?_⟩
                            by_cases e : j = m
                            · subst e; exact ckW0z Hx.out
                            · exact Hno2.out j (by omega)
                          case measure => simp [intOf]; omega
                      · have hz' : (l == 0) = false := by simp [hz]
                        have Hz := hid hz
                        clear hz
                        by_cases hmm : l % (C.length : Int) = k
                        · have hm' : (l % (C.length : Int) != (k : Int)) = false := by simp [hmm]
                          have Hm := hid hmm
                          clear hmm
                          have hq1 := bkeep ((Below.refl wr.heap.size wr).alloc (Nat.le_refl _) (.cells #[.int .i64 l, .bool d] 119)) hc4 (Nat.le_refl _)
                          have hq2 := bkeep ((Below.refl wr.heap.size wr).alloc (Nat.le_refl _) (.cells #[.int .i64 l, .bool d] 119)) hc5 (Nat.le_refl _)
                          have hq3 : (wr.alloc (.cells #[.int .i64 l, .bool d] 119)).cell? ⟨wr.heap.size, 0, none⟩ = some (.int .i64 l) := by rw [cell_new _ _ _ _ _ rfl]; rfl
                          have hq4 : WaysIn (wr.alloc (.cells #[.int .i64 l, .bool d] 119)) (some ⟨b2, o2, none⟩) C[k] := (hws'.keep hbi).keep ((Below.refl wr.heap.size wr).alloc (Nat.le_refl _) _)
                          go_wp2
                          clear hc4 hc5 hd1 hd2 hlb1 hlb2 hlb3
                          generalize wr.alloc (.cells #[.int .i64 l, .bool d] 119) = w5 at *
                          generalize wr.heap.size = bx at *
                          go_loopw [8, 9, 10] (fun t e i wz => ∃ n : Nat, n ≤ m ∧ i = .int .i64 n ∧ t = .bool (anyL (C[k].take n) l) ∧ e = .bool (anyL (C[k].take n) 0) ∧ ∃ q, wz = w5.drewN q) (fun _ _ i _ => m - (intOf i).toNat)
                          case atStart => exact ⟨0, Nat.zero_le _, rfl, by simp [anyL], by simp [anyL], 0, rfl⟩
                          case round =>
                            obtain ⟨n, hn, rfl, rfl, rfl, q, rfl⟩ := hrel
                            by_cases hnm : n < m
                            · have hnl : n < C[k].length := by omega
                              obtain ⟨b3, o3, e3, hy1, hy2⟩ := hq4 n hnl
                              simp only [Option.some.injEq, Addr.mk.injEq, and_true] at e3
                              obtain ⟨rfl, rfl⟩ := e3
                              have ht1 := anyL_take C[k] l n hnl
                              have ht2 := anyL_take C[k] 0 n hnl
                              have hn1 : (n : Int) < C[k].length := by omega
                              have hn0 : (0 : Int) ≤ n := by omega
                              have hnm1 : (n : Int) < m := by omega
                              generalize C[k][n].1 = y at *
                              generalize anyL (C[k].take n) l = tb at *
                              generalize anyL (C[k].take n) 0 = eb at *
                              have HT1 := hid ht1
                              have HT2 := hid ht2
                              clear ht1 ht2 hy2
                              cases tb <;> cases eb
                              all_goals
                                go_wp2
                                go_quiet (fail)
                                go_wp2
                                go_roundw
                                case rel => exact ⟨n + 1, by omega, by go_num, by rw [HT1.out]; simp, by rw [HT2.out]; simp, _, rfl⟩
                                case measure => simp [intOf]; omega
                            · obtain rfl : n = m := by omega
                              have hbz := below_drewN hbx q
                              cases htb : anyL (C[k].take n) l with
                              | true =>
                                have HF := hid (ck_at HS.out k hlt n hlm Hno.out Hno2.out (by rw [ckW6 Hx.out Hr.out Hz.out Hm.out htb]; omega))
                                rw [ckW6 Hx.out Hr.out Hz.out Hm.out htb] at HF
                                clear htb
                                go_wp2
                                go_ret
                                exact ⟨ret_int HF.out.symm, btrans h2 (btrans hbl hbz)⟩
                              | false =>
                                cases heb : anyL (C[k].take n) 0 with
                                | true =>
                                  have HF := hid (ck_at HS.out k hlt n hlm Hno.out Hno2.out (by rw [ckW4b Hx.out Hr.out Hz.out Hm.out htb heb]; omega))
                                  rw [ckW4b Hx.out Hr.out Hz.out Hm.out htb heb] at HF
                                  clear htb heb
                                  go_wp2
                                  go_ret
                                  exact ⟨ret_int HF.out.symm, btrans h2 (btrans hbl hbz)⟩
                                | false =>
                                  have HF := hid (ckW0 Hx.out Hr.out Hz.out Hm.out htb heb)
                                  clear htb heb
                                  go_wp2
                                  go_roundw
                                  case rel =>
                                    refine ⟨n + 1, by omega, by go_num, hbz, fun j hj => ?_⟩
                                    by_cases e : j = n
                                    · subst e; exact HF.out
                                    · exact Hno2.out j (by omega)
                                  case measure => simp [intOf]; omega
                        · have hm' : (l % (C.length : Int) != (k : Int)) = true := by simp [hmm]
                          have HF := hid (ck_at HS.out k hlt m hlm Hno.out Hno2.out (by rw [ckW4 Hx.out Hr.out Hz.out hmm]; omega))
                          rw [ckW4 Hx.out Hr.out Hz.out hmm] at HF
                          clear hmm
                          go_wp2
                          go_ret
                          exact ⟨ret_int HF.out.symm, btrans h2 (btrans hbl hbx)⟩
                  · go_wp2
                    go_roundw
                    case rel =>
                      refine ⟨k + 1, by omega, by go_num, btrans hbl hbi, fun j hj => ?_⟩
                      by_cases e : j = k
                      · subst e
                        rw [ckSet_def C j hlt]
                        exact fe_zero _ _ (fun i hi => Hno2.out i (by omega))
                      · exact Hno.out j (by omega)
                    case measure => simp [intOf]; omega
              · go_wp2
                go_ret
                exact ⟨ret_int (ck_all HS.out (fun j hj => Hno.out j (by omega))).symm, btrans h2 hbl⟩

end Go.Proofs.Ytaellaconpaejaa
