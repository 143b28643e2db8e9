/- Walks of the document's answer: an access. -/
import Derived.Test.YtaellaconpaejaaRe
set_option linter.unusedVariables false
namespace Go.Proofs.Ytaellaconpaejaa
open Go.RowKit

def cstOf (s k : Nat) (c : Int) : Int := if s < k then c else 10

theorem owns_one (w : World) (l : Int) (d : Bool) : (w.alloc (.cells #[.int .i64 l, .bool d] 119)).ownsRow w.heap.size 119 2 (.slice (some ⟨w.heap.size, 0, none⟩) 1 1) 1 (flat [(l, d)]) :=
  owns_of_rowAt (ls := [(l, d)]) (r := []) (rowAt_new w w.heap.size [.int .i64 l, .bool d] 119 rfl) rfl (Nat.le_refl _) (by simp [maxLen]) (Nat.le_refl _) rfl

theorem flat_snoc (ls : List (Int × Bool)) (x : Int × Bool) : flat (ls ++ [x]) = flat ls ++ [.int .i64 x.1, .bool x.2] := by simp [flat]

def cst1 (h : Bool) : Int := if h then 1 else 10

set_option maxRecDepth 100000 in
set_option maxHeartbeats 4000000 in
theorem accessOf_any (a : Option Addr) (C : List (List (Int × Bool))) (cap : Nat) (l : Int) (wr0 : Bool) (s : Nat) (w : World) (hw : CacheIn w a C) (h : ck C = 0) (hl1 : 1 ≤ l) (hl2 : l ≤ 1000) (hs : l % (C.length : Int) = (s : Int)) (hsl : s < C.length) :
    Calls Try.prog 19 #[.agg #[.slice a C.length cap], .int .i64 l, .bool wr0] w fun e w' => ∃ a' cap', e = .returned (.tuple #[.agg #[.slice a' C.length cap'], .int .i64 (useSet C[s] l wr0).2]) ∧ CacheFrom w.heap.size w' a' (C.set s (useSet C[s] l wr0).1) ∧ Below w.heap.size w w' := by
  obtain ⟨hsh, hC1, hC4, hCn⟩ := ck_ok h
  obtain ⟨D, hD⟩ : ∃ D, D = C.set s (useSet C[s] l wr0).1 := ⟨_, rfl⟩
  have hDl : D.length = C.length := by rw [hD]; simp
  have hDs : D[s] = (useSet C[s] l wr0).1 := by subst hD; simp
  have hDo : ∀ j (hj : j < C.length), j ≠ s → D[j]'(by omega) = C[j] := fun j hj e => by subst hD; exact List.getElem_set_ne (fun h => e h.symm) _
  have hDn : ∀ ls ∈ D, 0 < ls.length ∧ ls.length ≤ 3 := by
    intro ls hls
    rw [hD] at hls
    rcases List.mem_or_eq_of_mem_set hls with h | h
    · exact hCn ls h
    · rw [h, useSet_len _ _ _ (hCn _ (List.getElem_mem hsl)).1]; exact hCn _ (List.getElem_mem hsl)
  have hgood := ((ck_zero_iff C).1 h).2 s hsl
  rw [← hD]
  generalize hcost : (useSet C[s] l wr0).2 = cost
  have HCn := hid hCn
  have HDn := hid hDn
  have HDo := hid hDo
  have HDs := hid hDs
  have Hgood := hid hgood.2
  have Hcost := hid hcost
  clear hCn hDn hDo hDs hD hgood hcost h hsh
  have hC1' : (1 : Int) ≤ C.length := by omega
  have hC4' : (C.length : Int) ≤ 4 := by omega
  have hz1 : ¬ C.length = 0 := by omega
  have hz2 : ¬ C = [] := by intro e; rw [e] at hz1; exact hz1 rfl
  have hs2 : l.tmod (C.length : Int) = (s : Int) := by rw [Int.tmod_eq_emod_of_nonneg (by omega)]; exact hs
  obtain ⟨i35, hi, hz, hsz35, hby⟩ := infoOf Try.info35
  obtain ⟨i66, hi6, hz6, hsz66, hby6⟩ := infoOf Try.info119
  go_enter Try.func19, Try.ntmps19
  go_wp2
  have Hb0 : Hid (Below w.heap.size w (((w.alloc (.cells #[.slice a C.length cap] 24)).alloc (.cells #[.slice none 0 0] 24)).alloc (.cells #[.slice none 0 0] 24))) := (((Below.refl _ _).alloc (Nat.le_refl _) _).alloc (by simp) _).alloc (by simp; omega) _
  have Hr0 : Hid (RowAt (((w.alloc (.cells #[.slice a C.length cap] 24)).alloc (.cells #[.slice none 0 0] 24)).alloc (.cells #[.slice none 0 0] 24)) w.heap.size 24 [.slice a C.length cap]) := ((rowAt_new w _ [.slice a C.length cap] 24 rfl).alloc _).alloc _
  have Hr1 : Hid (RowAt (((w.alloc (.cells #[.slice a C.length cap] 24)).alloc (.cells #[.slice none 0 0] 24)).alloc (.cells #[.slice none 0 0] 24)) (w.heap.size + 1) 24 [.slice none 0 0]) := (rowAt_new _ _ [.slice none 0 0] 24 (by simp)).alloc _
  have Hr2 : Hid (RowAt (((w.alloc (.cells #[.slice a C.length cap] 24)).alloc (.cells #[.slice none 0 0] 24)).alloc (.cells #[.slice none 0 0] 24)) (w.heap.size + 1 + 1) 24 [.slice none 0 0]) := rowAt_new _ _ [.slice none 0 0] 24 (by simp)
  go_loopw [10, 11] (fun c i wr => ∃ (k : Nat) (v : Value) (L : List Value), k ≤ C.length ∧ i = .int .i64 k ∧ c = .int .i64 (cstOf s k cost) ∧ Mid w wr (.slice a C.length cap) (.slice none 0 0) v (D.take k) L) (fun _ i _ => C.length - (intOf i).toNat)
  case atStart => exact ⟨0, _, [], Nat.zero_le _, rfl, rfl, ⟨Hb0.out, Grows.nil _ _, Hr0.out, Hr1.out, Hr2.out, by simp, by simp⟩⟩
  case round =>
    clear Hb0 Hr0 Hr1 Hr2
    obtain ⟨k, v, L, hk, rfl, rfl, hM⟩ := hrel
    have hc0 := hM.r0.cell 0 _ rfl
    have hc2 := hM.r2.cell 0 _ rfl
    have hsz := hM.size
    have hvb := hM.vlt
    have hbl := hM.bel
    have HM := hid hM
    clear hM
    by_cases hlt : k < C.length
    · have hk4 : (k : Int) < (C.length : Int) := by omega
      have hk0 : (0 : Int) ≤ k := by omega
      obtain ⟨b1, o1, a2, cap2, rfl, hd1, hws, hcap, hlen⟩ := hw k hlt
      have hd1' := bkeep hbl hd1 (Nat.le_refl _)
      have hws' := hws.keep hbl
      obtain ⟨hp, h3⟩ := HCn.out C[k] (List.getElem_mem hlt)
      obtain ⟨b2, o2, rfl, _, _⟩ := hws 0 hp
      have hb1 : b1 < wr.heap.size := World.block_lt_of_cell? _ _ hd1'
      have hlt2 : w.heap.size + 1 + 1 < wr.heap.size := by omega
      have hlt3 : w.heap.size < wr.heap.size := by omega
      have hLk : (D.take k).length = k := by simp; omega
      by_cases hks : k = s
      · subst hks
        have hks' : ((k : Int) != (k : Int)) = false := by simp
        have h3' : (C[k].length : Int) ≤ 3 := by omega
        go_wp2
        generalize wr = wq at *
        have HF0 : Hid (Below wq.heap.size wq (wq.alloc (.cells #[.int .i64 l, .bool wr0] 119))) := (Below.refl _ _).alloc (Nat.le_refl _) _
        have HR0 : Hid (RowAt (wq.alloc (.cells #[.int .i64 l, .bool wr0] 119)) wq.heap.size 119 [.int .i64 l, .bool wr0]) := rowAt_new wq _ [.int .i64 l, .bool wr0] 119 rfl
        go_loopw [10, 14, 15] (fun c r i wi => ∃ (m : Nat) (ar : Option Addr) (cr : Nat), m ≤ C[k].length ∧ i = .int .i64 m ∧ r = .slice ar (restOf C[k] l m).length cr ∧ c = .int .i64 (cst1 (hitOf C[k] l m)) ∧ Below wq.heap.size wq wi ∧ RowAt wi wq.heap.size 119 [.int .i64 l, .bool (wr0 || dirtyOf C[k] l m)] ∧ wi.ownsRow (wq.heap.size + 1) 119 2 (.slice ar (restOf C[k] l m).length cr) (restOf C[k] l m).length (flat (restOf C[k] l m)) ∧ wq.heap.size + 1 ≤ wi.heap.size) (fun _ _ i _ => C[k].length - (intOf i).toNat)
        case atStart => exact ⟨0, none, 0, Nat.zero_le _, rfl, rfl, by simp [cstOf, hitOf, cst1], HF0.out, by simpa [dirtyOf] using HR0.out, World.ownsRow_nil _ _ _ _, by simp⟩
        case round =>
          clear HF0 HR0
          obtain ⟨m, ar, cr, hm, rfl, rfl, rfl, hbi, hrF, hownR, hszi⟩ := hrel
          have hcF0 := hrF.cell 0 _ rfl
          have hcF1 := hrF.cell 1 _ rfl
          have hfF := hrF.frozen 1
          have HrF := hid hrF
          have HoR := hid hownR
          clear hrF hownR
          by_cases hlm : m < C[k].length
          · obtain ⟨b3, o3, e3, hy1, hy2⟩ := (hws'.keep hbi) m hlm
            simp only [Option.some.injEq, Addr.mk.injEq, and_true] at e3
            obtain ⟨rfl, rfl⟩ := e3
            have hm1 : (m : Int) < C[k].length := by omega
            have hm0 : (0 : Int) ≤ m := by omega
            have Hh := hid (hitOf_succ C[k] l m hlm)
            have Hd := hid (dirtyOf_succ C[k] l m hlm)
            by_cases hx : C[k][m].1 = l
            · have hx' : (C[k][m].1 == l) = true := by simp [hx]
              have Hr := hid (restOf_hit C[k] l m hlm hx)
              have Hb := hid (before_hit C[k] l m hlm hx (by omega) Hgood.out)
              clear hx
              generalize C[k][m].1 = y1 at *
              generalize C[k][m].2 = y2 at *
              have HoR2 : ∀ u, Hid ((wr.setCell ⟨wq.heap.size, 1, none⟩ u).ownsRow (wq.heap.size + 1) 119 2 (.slice ar (restOf C[k] l m).length cr) (restOf C[k] l m).length (flat (restOf C[k] l m))) := fun u => ownsRow_setCell_below HoR.out (by show wq.heap.size < wq.heap.size + 1; omega) u
              have HrF2 : ∀ u, Hid (RowAt (wr.setCell ⟨wq.heap.size, 1, none⟩ u) wq.heap.size 119 [.int .i64 l, u]) := fun u => HrF.out.setCell 1 u
              have Hbi2 : ∀ u, Hid (Below wq.heap.size wq (wr.setCell ⟨wq.heap.size, 1, none⟩ u)) := fun u => hbi.setCell (Nat.le_refl _) u
              have e1 : (wr0 || dirtyOf C[k] l (m + 1)) = (wr0 || y2) := by rw [Hd.out, Hb.out, hx']; simp
              have e2 : hitOf C[k] l (m + 1) = true := by rw [Hh.out, hx']; simp
              have E1 := hid e1
              have E2 := hid e2
              clear e1 e2 Hd Hb Hh
              cases wr0 with
              | true =>
                go_wp2
                go_roundw
                case rel => exact ⟨m + 1, ar, cr, by omega, by go_num, by rw [Hr.out], by rw [E2.out]; rfl, (Hbi2 _).out, by rw [E1.out]; exact (HrF2 _).out, by rw [Hr.out]; exact (HoR2 _).out, by simpa using hszi⟩
                case measure => simp [intOf]; omega
              | false =>
                go_wp2
                go_roundw
                case rel => exact ⟨m + 1, ar, cr, by omega, by go_num, by rw [Hr.out], by rw [E2.out]; rfl, (Hbi2 _).out, by rw [E1.out]; exact (HrF2 _).out, by rw [Hr.out]; exact (HoR2 _).out, by simpa using hszi⟩
                case measure => simp [intOf]; omega
            · have hx' : (C[k][m].1 == l) = false := by simp [hx]
              have Hr := hid (restOf_miss C[k] l m hlm hx)
              clear hx
              generalize hxx : C[k][m] = y at *
              obtain ⟨y1, y2⟩ := y
              clear hxx
              simp only at hy1 hy2 hx'
              have hRl := restOf_len_le C[k] l m
              have e1 : (wr0 || dirtyOf C[k] l (m + 1)) = (wr0 || dirtyOf C[k] l m) := by rw [Hd.out]; simp [hx']
              have e2 : hitOf C[k] l (m + 1) = hitOf C[k] l m := by rw [Hh.out]; simp [hx']
              have E1 := hid e1
              have E2 := hid e2
              clear e1 e2 Hd Hh
              have HownC : Hid ((wr.alloc (.cells #[.int .i64 y1, .bool y2] 119)).ownsRow (wq.heap.size + 1) 119 2 (.slice ar (restOf C[k] l m).length cr) (restOf C[k] l m).length (flat (restOf C[k] l m))) := HoR.out.alloc _
              have HnewsC : Hid (∀ j u, [Value.int .i64 y1, Value.bool y2][j]? = some u → (wr.alloc (.cells #[.int .i64 y1, .bool y2] 119)).cell? ((⟨wr.heap.size, 0, none⟩ : Addr).add j) = some u) := RowAt.news (X := [Value.int .i64 y1, Value.bool y2]) (Y := []) (t := 119) (rowAt_new wr wr.heap.size [Value.int .i64 y1, Value.bool y2] 119 rfl)
              have HmC : Hid (∀ u ∈ [Value.int .i64 y1, Value.bool y2], u.oneCell' = true) := flat_mem [(y1, y2)]
              go_wp2_with (at_builtin; refine wpList_append_lies _ rfl _ _ _ (by rfl) (wq.heap.size + 1) 119 i66 _ 2 16 Try.underlying35 hi6 hz6 hsz66 hby6 rfl (by omega) (.slice ar (restOf C[k] l m).length cr) (restOf C[k] l m).length (flat (restOf C[k] l m)) (by rfl) HownC.out ⟨wr.heap.size, 0, none⟩ 1 1 [.int .i64 y1, .bool y2] (by rfl) (by rfl) HnewsC.out HmC.out (by omega) (by simp [maxLen]; omega) (by omega) (by simp; omega) (wr.heap.size + 1) (by simp) ?_)
              intro g cap' w1 hown1 hgrow1 hat1 hlt1
              have hneF : ∀ q, (Value.slice ar (restOf C[k] l m).length cr).ownBlock = some q → wq.heap.size + 1 ≤ q := fun q hq => (HownC.out.lt q hq).1
              have HrF3 : Hid (RowAt w1 wq.heap.size 119 [.int .i64 l, .bool (wr0 || dirtyOf C[k] l m)]) := (HrF.out.alloc _).grown hgrow1 (fun e => by have := hneF _ e.symm; omega)
              have Hbi3 : Hid (Below wq.heap.size wq w1) := (hbi.alloc hbi.size _).grown hgrow1 (by have := hbi.size; simp; omega) (fun q hq => by have := hneF q hq; omega)
              have Ho3 : Hid (w1.ownsRow (wq.heap.size + 1) 119 2 (.slice (some ⟨g, 0, none⟩) (restOf C[k] l (m + 1)).length cap') (restOf C[k] l (m + 1)).length (flat (restOf C[k] l (m + 1)))) := by
                show World.ownsRow _ _ _ _ _ _ _
                rw [Hr.out, flat_snoc]
                simpa using hown1
              have Hs3 : Hid (wq.heap.size + 1 ≤ w1.heap.size) := by have := hgrow1.size; simp at this; show _ ≤ _; omega
              have Hl3 : Hid ((restOf C[k] l (m + 1)).length = (restOf C[k] l m).length + 1) := by show _ = _; rw [Hr.out]; simp
              clear hown1 hgrow1 hat1 HownC HnewsC HoR hneF
              go_wp2
              go_roundw
              case rel => exact ⟨m + 1, some ⟨g, 0, none⟩, cap', by omega, by go_num, by rw [Hl3.out], by rw [E2.out], Hbi3.out, by rw [E1.out]; exact HrF3.out, Ho3.out, Hs3.out⟩
              case measure => simp [intOf]; omega
          · obtain rfl : m = C[k].length := by omega
            have hMi := HM.out.below hbi
            have hcv := hMi.r2.cell 0 _ rfl
            have hszM := hMi.size
            have hvbM := hMi.vlt
            have hvbQ := HM.out.vlt
            have HMi := hid hMi
            clear hMi hcF1 hfF hc0 hc2 hd1 hd1'
            cases hh : hitOf C[k] l C[k].length with
            | false =>
              obtain ⟨e1, e2, e3⟩ := miss_all C[k] l wr0 hh hp
              have HoR2 := HoR
              rw [e1] at HoR2 ⊢
              rw [e2, Bool.or_false] at HrF
              obtain ⟨r, gr, rfl, hrR, hrc, hrb⟩ : ∃ r : List Value, ∃ gr, ar = some ⟨gr, 0, none⟩ ∧ RowAt wr gr 119 (flat C[k] ++ r) ∧ C[k].length ≤ cr ∧ wq.heap.size + 1 ≤ gr := by
                have q := HoR2.out
                rcases q.2 with ⟨e, h0⟩ | ⟨g, cap', cur, e, _⟩
                · omega
                · simp only [Value.slice.injEq] at e
                  obtain ⟨rfl, _, rfl⟩ := e
                  obtain ⟨r, q1, q2, q3, q4, q5⟩ := rowAt_of_owns q
                  exact ⟨r, g, rfl, q1, q3, q5⟩
              obtain ⟨p, hpp⟩ : ∃ p, C[k].length = p + 1 := ⟨C[k].length - 1, by omega⟩
              have hsub : (C[k].length : Int) - 1 = (p : Int) := by omega
              have hpl : (p : Int) < C[k].length := by omega
              have hp0 : (0 : Int) ≤ p := by omega
              have hpc : (p : Int) ≤ (cr : Int) := by omega
              have hlast := hrR.ways p (by omega)
              obtain ⟨g', o', e4, hl4, hlast2⟩ := hlast
              clear hl4
              simp only [Option.some.injEq, Addr.mk.injEq, and_true] at e4
              obtain ⟨rfl, rfl⟩ := e4
              rw [Nat.zero_add] at hlast2
              have e5 : C[k].getLastD (0, false) = C[k][p] := by
                have : C[k] ≠ [] := by intro e; rw [e] at hpp; simp at hpp
                rw [List.getLastD_eq_getLast?, List.getLast?_eq_some_getLast this, List.getLast_eq_getElem]
                simp [hpp]
              have hDk : D[k] = (l, wr0) :: C[k].dropLast := by rw [HDs.out, e3]
              have hck : cost = 10 + wb C[k][p].2 := by rw [← Hcost.out, e3, e5]
              have HDk := hid hDk
              have Hck := hid hck
              have Hpp := hid hpp
              have HwsR : Hid (WaysIn wr (some ⟨gr, 0, none⟩) C[k].dropLast) := by rw [List.dropLast_eq_take]; exact hrR.ways.take _
              have HpR : Hid (C[k].dropLast.length = p) := by show _ = _; simp [hpp]
              clear e5 hck
              generalize C[k][p].2 = ld at *
              clear e1 e2 e3 hDk hpp hh hrR
              cases ld with
              | true =>
                go_wp2
                have hDtake : D.take k ++ [(l, wr0) :: C[k].dropLast] = D.take (k + 1) := by
                  rw [List.take_succ_eq_append_getElem (by omega), HDk.out]
                by_cases hp1 : p = 0
                · subst hp1
                  rw [List.length_eq_zero_iff.1 HpR.out] at hDtake
                  have hcG0 := HrF.out.cell 0 _ rfl
                  have hcG1 := HrF.out.cell 1 _ rfl
                  have hltA : w.heap.size + 1 + 1 < wr.heap.size := by omega
                  have hltB : wq.heap.size < wr.heap.size := by omega
                  have hcvA : ∀ o, (wr.alloc o).cell? ⟨w.heap.size + 1 + 1, 0, none⟩ = some v := fun o => (HMi.out.r2.alloc o).cell 0 _ rfl
                  have hcvB : ∀ o o', ((wr.alloc o).alloc o').cell? ⟨w.heap.size + 1 + 1, 0, none⟩ = some v := fun o o' => ((HMi.out.r2.alloc o).alloc o').cell 0 _ rfl
                  have HA1 : Hid (Mid w (wr.alloc (.cells #[.int .i64 l, .bool wr0] 119)).drew (.slice (some ⟨b1, o1, none⟩) C.length cap) (.slice none 0 0) v (D.take k) L ∧ WaysIn (wr.alloc (.cells #[.int .i64 l, .bool wr0] 119)).drew (some ⟨wr.heap.size, 0, none⟩) [(l, wr0)] ∧ w.heap.size + 1 + 1 + 1 ≤ wr.heap.size ∧ some wr.heap.size ≠ v.ownBlock) :=
                    ⟨HMi.out.below (((Below.refl _ _).alloc (Nat.le_refl _) _).drew), waysIn_of_owns (owns_one wr l wr0), by omega, fun e => by have := (hvbM _ e.symm).2; omega⟩
                  have HownB := hid (HA1.out.1.asks k hLk (.slice (some ⟨wr.heap.size, 0, none⟩) 1 1)).1
                  have HnewsB : Hid (∀ j u, [Value.slice (some ⟨wr.heap.size, 0, none⟩) 1 1][j]? = some u → ((wr.alloc (.cells #[.int .i64 l, .bool wr0] 119)).alloc (.cells #[.slice (some ⟨wr.heap.size, 0, none⟩) 1 1] 35)).drew.cell? ((⟨wr.heap.size + 1, 0, none⟩ : Addr).add j) = some u) := RowAt.news (X := [Value.slice (some ⟨wr.heap.size, 0, none⟩) 1 1]) (Y := []) (t := 35) (rowAt_new (wr.alloc (.cells #[.int .i64 l, .bool wr0] 119)) (wr.heap.size + 1) [Value.slice (some ⟨wr.heap.size, 0, none⟩) 1 1] 35 (by simp))
                  go_region_law (first
                    | (refine step_append_zero (by rfl) _ _ _ (by rfl) 119 i66 Try.underlying35 hi6 wr.heap.size 0 1 1 (by rfl) (some ⟨gr, 0, none⟩) _ (by rfl) (by omega) ?_)
                    | (refine step_append_lies _ (by rfl) _ _ _ (by rfl) (w.heap.size + 1 + 1 + 1) 35 i35 _ 1 24 Try.underlying22 hi hz hsz35 hby rfl (by omega) v k L (by rfl) (by exact HownB.out) ⟨wr.heap.size + 1, 0, none⟩ 1 1 [.slice (some ⟨wr.heap.size, 0, none⟩) 1 1] (by rfl) (by rfl) (by exact HnewsB.out) (fun u hu => by rw [List.mem_singleton.1 hu]; rfl) (by omega) (by simp [maxLen]; omega) (by omega) (by simp; omega) (wr.heap.size + 1 + 1) (by simp) ?_; intro g2 cap3 w2 hown2 hgrow2 hat2 hlt2'; have hc22 := (HA1.out.1.store hgrow2).1; have hf22 := (HA1.out.1.store hgrow2).2))
                  all_goals
                    have HF := hid (HA1.out.1.append2 (ls := [(l, wr0)]) (n := 1) hLk rfl HA1.out.2.1 (Nat.le_refl _) (by omega) (by omega) HA1.out.2.2.1 HA1.out.2.2.2 hown2 hgrow2 (by simpa using hat2))
                    rw [hDtake] at HF
                    clear hc22 hf22 hown2 hgrow2 hat2 HownB HnewsB HA1
                    go_wp2
                    go_roundw
                    case rel => exact ⟨k + 1, _, _, by omega, by go_num, by rw [Hck.out]; simp [cstOf, wb], HF.out⟩
                    case measure => simp [intOf]; omega
                have hpp1 : 0 < p := by omega
                have hp2 : p ≤ 2 := by omega
                have hcG0 := HrF.out.cell 0 _ rfl
                have hcG1 := HrF.out.cell 1 _ rfl
                have hltA : w.heap.size + 1 + 1 < wr.heap.size := by omega
                have hltB : wq.heap.size < wr.heap.size := by omega
                have hcvA : ∀ o, (wr.alloc o).cell? ⟨w.heap.size + 1 + 1, 0, none⟩ = some v := fun o => (HMi.out.r2.alloc o).cell 0 _ rfl
                have HownD : Hid ((wr.alloc (.cells #[.int .i64 l, .bool wr0] 119)).drew.ownsRow wr.heap.size 119 2 (.slice (some ⟨wr.heap.size, 0, none⟩) 1 1) 1 (flat [(l, wr0)])) := owns_one wr l wr0
                have HnewsD : Hid (∀ j u, (flat C[k].dropLast)[j]? = some u → (wr.alloc (.cells #[.int .i64 l, .bool wr0] 119)).drew.cell? ((⟨gr, 0, none⟩ : Addr).add j) = some u) := (HwsR.out.keep (((Below.refl _ _).alloc (Nat.le_refl _) _).drew)).news
                have HlenD : Hid ((flat C[k].dropLast).length = p * 2) := by show _ = _; rw [flat_len, HpR.out]
                have HA : Hid (∀ (g1 cap1 : Nat) (w1 : World), w1.ownsRow wr.heap.size 119 2 (.slice (some ⟨g1, 0, none⟩) (1 + p) cap1) (1 + p) (flat [(l, wr0)] ++ flat C[k].dropLast) → (wr.alloc (.cells #[.int .i64 l, .bool wr0] 119)).drew.grownBy w1 (some wr.heap.size) → Mid w w1 (.slice (some ⟨b1, o1, none⟩) C.length cap) (.slice none 0 0) v (D.take k) L ∧ WaysIn w1 (some ⟨g1, 0, none⟩) ((l, wr0) :: C[k].dropLast) ∧ 1 + p ≤ cap1 ∧ w.heap.size + 1 + 1 + 1 ≤ g1 ∧ some g1 ≠ v.ownBlock) := by
                  intro g1 cap1 w1 q1 q2
                  have q3 : flat [(l, wr0)] ++ flat C[k].dropLast = flat ((l, wr0) :: C[k].dropLast) := by simp [flat]
                  rw [q3] at q1
                  obtain ⟨r', _, _, q4, _, q5⟩ := rowAt_of_owns q1
                  refine ⟨HMi.out.grown (((Below.refl _ _).alloc (Nat.le_refl _) _).drew) q2 (fun q hq => by simp at hq; omega), waysIn_of_owns q1, q4, by omega, fun e => by have := (hvbM _ e.symm).2; omega⟩
                go_region_law (first
                  | (refine step_append_lies _ (by rfl) _ _ _ (by rfl) wr.heap.size 119 i66 _ 2 16 Try.underlying35 hi6 hz6 hsz66 hby6 rfl (by omega) (.slice (some ⟨wr.heap.size, 0, none⟩) 1 1) 1 (flat [(l, wr0)]) (by rfl) HownD.out ⟨gr, 0, none⟩ (p) cr (flat C[k].dropLast) (by rfl) HlenD.out HnewsD.out (flat_mem _) (by omega) (by simp [maxLen]; omega) (by omega) (by simp) (wr.heap.size + 1) (by simp) ?_; intro g1 cap1 w1 hown1 hgrow1 hat1 hlt1; have HA1 := hid (HA.out g1 cap1 w1 hown1 hgrow1); have HownB := hid (HA1.out.1.asks k hLk (.slice (some ⟨g1, 0, none⟩) (1 + p) cap1)).1; have HnewsB := hid (HA1.out.1.asks k hLk (.slice (some ⟨g1, 0, none⟩) (1 + p) cap1)).2.1; have hszB := (HA1.out.1.asks k hLk (.slice (some ⟨g1, 0, none⟩) (1 + p) cap1)).2.2; have hc21 := HA1.out.1.r2.cell 0 _ rfl; have hc21' := fun o => (HA1.out.1.r2.alloc o).cell 0 _ rfl)
                  | (refine step_append_lies _ (by rfl) _ _ _ (by rfl) (w.heap.size + 1 + 1 + 1) 35 i35 _ 1 24 Try.underlying22 hi hz hsz35 hby rfl (by omega) v k L (by rfl) HownB.out ⟨w1.heap.size, 0, none⟩ 1 1 [.slice (some ⟨g1, 0, none⟩) (1 + p) cap1] (by rfl) (by rfl) HnewsB.out (fun u hu => by rw [List.mem_singleton.1 hu]; rfl) (by omega) (by simp [maxLen]; omega) (by omega) hszB (w1.heap.size + 1) (by simp) ?_; intro g2 cap3 w2 hown2 hgrow2 hat2 hlt2'; have hc22 := (HA1.out.1.store hgrow2).1; have hf22 := (HA1.out.1.store hgrow2).2))
                all_goals
                  have HF := hid (HA1.out.1.append2 (ls := (l, wr0) :: C[k].dropLast) hLk (by rw [List.length_cons, HpR.out, Nat.add_comm]) HA1.out.2.1 HA1.out.2.2.1 (by omega) (by omega) HA1.out.2.2.2.1 HA1.out.2.2.2.2 hown2 hgrow2 hat2)
                  rw [hDtake] at HF
                  clear hc22 hf22 hc21 hc21' hown2 hgrow2 hat2 HownB HnewsB HA1 hown1 hgrow1 hat1
                  go_wp2
                  go_roundw
                  case rel => exact ⟨k + 1, _, _, by omega, by go_num, by rw [Hck.out]; simp [cstOf, wb], HF.out⟩
                  case measure => simp [intOf]; omega
              | false =>
                go_wp2
                have hDtake : D.take k ++ [(l, wr0) :: C[k].dropLast] = D.take (k + 1) := by
                  rw [List.take_succ_eq_append_getElem (by omega), HDk.out]
                by_cases hp1 : p = 0
                · subst hp1
                  rw [List.length_eq_zero_iff.1 HpR.out] at hDtake
                  have hcG0 := HrF.out.cell 0 _ rfl
                  have hcG1 := HrF.out.cell 1 _ rfl
                  have hltA : w.heap.size + 1 + 1 < wr.heap.size := by omega
                  have hltB : wq.heap.size < wr.heap.size := by omega
                  have hcvA : ∀ o, (wr.alloc o).cell? ⟨w.heap.size + 1 + 1, 0, none⟩ = some v := fun o => (HMi.out.r2.alloc o).cell 0 _ rfl
                  have hcvB : ∀ o o', ((wr.alloc o).alloc o').cell? ⟨w.heap.size + 1 + 1, 0, none⟩ = some v := fun o o' => ((HMi.out.r2.alloc o).alloc o').cell 0 _ rfl
                  have HA1 : Hid (Mid w (wr.alloc (.cells #[.int .i64 l, .bool wr0] 119)).drew (.slice (some ⟨b1, o1, none⟩) C.length cap) (.slice none 0 0) v (D.take k) L ∧ WaysIn (wr.alloc (.cells #[.int .i64 l, .bool wr0] 119)).drew (some ⟨wr.heap.size, 0, none⟩) [(l, wr0)] ∧ w.heap.size + 1 + 1 + 1 ≤ wr.heap.size ∧ some wr.heap.size ≠ v.ownBlock) :=
                    ⟨HMi.out.below (((Below.refl _ _).alloc (Nat.le_refl _) _).drew), waysIn_of_owns (owns_one wr l wr0), by omega, fun e => by have := (hvbM _ e.symm).2; omega⟩
                  have HownB := hid (HA1.out.1.asks k hLk (.slice (some ⟨wr.heap.size, 0, none⟩) 1 1)).1
                  have HnewsB : Hid (∀ j u, [Value.slice (some ⟨wr.heap.size, 0, none⟩) 1 1][j]? = some u → ((wr.alloc (.cells #[.int .i64 l, .bool wr0] 119)).alloc (.cells #[.slice (some ⟨wr.heap.size, 0, none⟩) 1 1] 35)).drew.cell? ((⟨wr.heap.size + 1, 0, none⟩ : Addr).add j) = some u) := RowAt.news (X := [Value.slice (some ⟨wr.heap.size, 0, none⟩) 1 1]) (Y := []) (t := 35) (rowAt_new (wr.alloc (.cells #[.int .i64 l, .bool wr0] 119)) (wr.heap.size + 1) [Value.slice (some ⟨wr.heap.size, 0, none⟩) 1 1] 35 (by simp))
                  go_region_law (first
                    | (refine step_append_zero (by rfl) _ _ _ (by rfl) 119 i66 Try.underlying35 hi6 wr.heap.size 0 1 1 (by rfl) (some ⟨gr, 0, none⟩) _ (by rfl) (by omega) ?_)
                    | (refine step_append_lies _ (by rfl) _ _ _ (by rfl) (w.heap.size + 1 + 1 + 1) 35 i35 _ 1 24 Try.underlying22 hi hz hsz35 hby rfl (by omega) v k L (by rfl) (by exact HownB.out) ⟨wr.heap.size + 1, 0, none⟩ 1 1 [.slice (some ⟨wr.heap.size, 0, none⟩) 1 1] (by rfl) (by rfl) (by exact HnewsB.out) (fun u hu => by rw [List.mem_singleton.1 hu]; rfl) (by omega) (by simp [maxLen]; omega) (by omega) (by simp; omega) (wr.heap.size + 1 + 1) (by simp) ?_; intro g2 cap3 w2 hown2 hgrow2 hat2 hlt2'; have hc22 := (HA1.out.1.store hgrow2).1; have hf22 := (HA1.out.1.store hgrow2).2))
                  all_goals
                    have HF := hid (HA1.out.1.append2 (ls := [(l, wr0)]) (n := 1) hLk rfl HA1.out.2.1 (Nat.le_refl _) (by omega) (by omega) HA1.out.2.2.1 HA1.out.2.2.2 hown2 hgrow2 (by simpa using hat2))
                    rw [hDtake] at HF
                    clear hc22 hf22 hown2 hgrow2 hat2 HownB HnewsB HA1
                    go_wp2
                    go_roundw
                    case rel => exact ⟨k + 1, _, _, by omega, by go_num, by rw [Hck.out]; simp [cstOf, wb, cst1], HF.out⟩
                    case measure => simp [intOf]; omega
                have hpp1 : 0 < p := by omega
                have hp2 : p ≤ 2 := by omega
                have hcG0 := HrF.out.cell 0 _ rfl
                have hcG1 := HrF.out.cell 1 _ rfl
                have hltA : w.heap.size + 1 + 1 < wr.heap.size := by omega
                have hltB : wq.heap.size < wr.heap.size := by omega
                have hcvA : ∀ o, (wr.alloc o).cell? ⟨w.heap.size + 1 + 1, 0, none⟩ = some v := fun o => (HMi.out.r2.alloc o).cell 0 _ rfl
                have HownD : Hid ((wr.alloc (.cells #[.int .i64 l, .bool wr0] 119)).drew.ownsRow wr.heap.size 119 2 (.slice (some ⟨wr.heap.size, 0, none⟩) 1 1) 1 (flat [(l, wr0)])) := owns_one wr l wr0
                have HnewsD : Hid (∀ j u, (flat C[k].dropLast)[j]? = some u → (wr.alloc (.cells #[.int .i64 l, .bool wr0] 119)).drew.cell? ((⟨gr, 0, none⟩ : Addr).add j) = some u) := (HwsR.out.keep (((Below.refl _ _).alloc (Nat.le_refl _) _).drew)).news
                have HlenD : Hid ((flat C[k].dropLast).length = p * 2) := by show _ = _; rw [flat_len, HpR.out]
                have HA : Hid (∀ (g1 cap1 : Nat) (w1 : World), w1.ownsRow wr.heap.size 119 2 (.slice (some ⟨g1, 0, none⟩) (1 + p) cap1) (1 + p) (flat [(l, wr0)] ++ flat C[k].dropLast) → (wr.alloc (.cells #[.int .i64 l, .bool wr0] 119)).drew.grownBy w1 (some wr.heap.size) → Mid w w1 (.slice (some ⟨b1, o1, none⟩) C.length cap) (.slice none 0 0) v (D.take k) L ∧ WaysIn w1 (some ⟨g1, 0, none⟩) ((l, wr0) :: C[k].dropLast) ∧ 1 + p ≤ cap1 ∧ w.heap.size + 1 + 1 + 1 ≤ g1 ∧ some g1 ≠ v.ownBlock) := by
                  intro g1 cap1 w1 q1 q2
                  have q3 : flat [(l, wr0)] ++ flat C[k].dropLast = flat ((l, wr0) :: C[k].dropLast) := by simp [flat]
                  rw [q3] at q1
                  obtain ⟨r', _, _, q4, _, q5⟩ := rowAt_of_owns q1
                  refine ⟨HMi.out.grown (((Below.refl _ _).alloc (Nat.le_refl _) _).drew) q2 (fun q hq => by simp at hq; omega), waysIn_of_owns q1, q4, by omega, fun e => by have := (hvbM _ e.symm).2; omega⟩
                go_region_law (first
                  | (refine step_append_lies _ (by rfl) _ _ _ (by rfl) wr.heap.size 119 i66 _ 2 16 Try.underlying35 hi6 hz6 hsz66 hby6 rfl (by omega) (.slice (some ⟨wr.heap.size, 0, none⟩) 1 1) 1 (flat [(l, wr0)]) (by rfl) HownD.out ⟨gr, 0, none⟩ (p) cr (flat C[k].dropLast) (by rfl) HlenD.out HnewsD.out (flat_mem _) (by omega) (by simp [maxLen]; omega) (by omega) (by simp) (wr.heap.size + 1) (by simp) ?_; intro g1 cap1 w1 hown1 hgrow1 hat1 hlt1; have HA1 := hid (HA.out g1 cap1 w1 hown1 hgrow1); have HownB := hid (HA1.out.1.asks k hLk (.slice (some ⟨g1, 0, none⟩) (1 + p) cap1)).1; have HnewsB := hid (HA1.out.1.asks k hLk (.slice (some ⟨g1, 0, none⟩) (1 + p) cap1)).2.1; have hszB := (HA1.out.1.asks k hLk (.slice (some ⟨g1, 0, none⟩) (1 + p) cap1)).2.2; have hc21 := HA1.out.1.r2.cell 0 _ rfl; have hc21' := fun o => (HA1.out.1.r2.alloc o).cell 0 _ rfl)
                  | (refine step_append_lies _ (by rfl) _ _ _ (by rfl) (w.heap.size + 1 + 1 + 1) 35 i35 _ 1 24 Try.underlying22 hi hz hsz35 hby rfl (by omega) v k L (by rfl) HownB.out ⟨w1.heap.size, 0, none⟩ 1 1 [.slice (some ⟨g1, 0, none⟩) (1 + p) cap1] (by rfl) (by rfl) HnewsB.out (fun u hu => by rw [List.mem_singleton.1 hu]; rfl) (by omega) (by simp [maxLen]; omega) (by omega) hszB (w1.heap.size + 1) (by simp) ?_; intro g2 cap3 w2 hown2 hgrow2 hat2 hlt2'; have hc22 := (HA1.out.1.store hgrow2).1; have hf22 := (HA1.out.1.store hgrow2).2))
                all_goals
                  have HF := hid (HA1.out.1.append2 (ls := (l, wr0) :: C[k].dropLast) hLk (by rw [List.length_cons, HpR.out, Nat.add_comm]) HA1.out.2.1 HA1.out.2.2.1 (by omega) (by omega) HA1.out.2.2.2.1 HA1.out.2.2.2.2 hown2 hgrow2 hat2)
                  rw [hDtake] at HF
                  clear hc22 hf22 hc21 hc21' hown2 hgrow2 hat2 HownB HnewsB HA1 hown1 hgrow1 hat1
                  go_wp2
                  go_roundw
                  case rel => exact ⟨k + 1, _, _, by omega, by go_num, by rw [Hck.out]; simp [cstOf, wb, cst1], HF.out⟩
                  case measure => simp [intOf]; omega
            | true =>
              obtain ⟨e1, e2⟩ := hit_all C[k] l wr0 hh (by omega) Hgood.out
              have hDk : D[k] = (l, wr0 || dirtyOf C[k] l C[k].length) :: restOf C[k] l C[k].length := by rw [HDs.out, e2]
              have hck : cost = 1 := by rw [← Hcost.out, e2]
              have HDk := hid hDk
              have Hck := hid hck
              clear e2 hDk hck hh
              generalize restOf C[k] l C[k].length = R at *
              generalize (wr0 || dirtyOf C[k] l C[k].length) = db at *
              have hne : ((R.length : Int) == (C[k].length : Int)) = false := by simp; omega
              have hDtake : D.take k ++ [(l, db) :: R] = D.take (k + 1) := by
                rw [List.take_succ_eq_append_getElem (by omega), HDk.out]
              by_cases hp1 : R.length = 0
              · obtain rfl : R = [] := List.length_eq_zero_iff.1 hp1
                have hne0 : ((0 : Int) == (C[k].length : Int)) = false := by simp; omega
                clear hp1 hne
                go_wp2
                have hcG0 := HrF.out.cell 0 _ rfl
                have hcG1 := HrF.out.cell 1 _ rfl
                have hltA : w.heap.size + 1 + 1 < wr.heap.size := by omega
                have hltB : wq.heap.size < wr.heap.size := by omega
                have hcvA : ∀ o, (wr.alloc o).cell? ⟨w.heap.size + 1 + 1, 0, none⟩ = some v := fun o => (HMi.out.r2.alloc o).cell 0 _ rfl
                have hcvB : ∀ o o', ((wr.alloc o).alloc o').cell? ⟨w.heap.size + 1 + 1, 0, none⟩ = some v := fun o o' => ((HMi.out.r2.alloc o).alloc o').cell 0 _ rfl
                have HA1 : Hid (Mid w (wr.alloc (.cells #[.int .i64 l, .bool db] 119)).drew (.slice (some ⟨b1, o1, none⟩) C.length cap) (.slice none 0 0) v (D.take k) L ∧ WaysIn (wr.alloc (.cells #[.int .i64 l, .bool db] 119)).drew (some ⟨wr.heap.size, 0, none⟩) [(l, db)] ∧ w.heap.size + 1 + 1 + 1 ≤ wr.heap.size ∧ some wr.heap.size ≠ v.ownBlock) :=
                  ⟨HMi.out.below (((Below.refl _ _).alloc (Nat.le_refl _) _).drew), waysIn_of_owns (owns_one wr l db), by omega, fun e => by have := (hvbM _ e.symm).2; omega⟩
                have HownB := hid (HA1.out.1.asks k hLk (.slice (some ⟨wr.heap.size, 0, none⟩) 1 1)).1
                have HnewsB : Hid (∀ j u, [Value.slice (some ⟨wr.heap.size, 0, none⟩) 1 1][j]? = some u → ((wr.alloc (.cells #[.int .i64 l, .bool db] 119)).alloc (.cells #[.slice (some ⟨wr.heap.size, 0, none⟩) 1 1] 35)).drew.cell? ((⟨wr.heap.size + 1, 0, none⟩ : Addr).add j) = some u) := RowAt.news (X := [Value.slice (some ⟨wr.heap.size, 0, none⟩) 1 1]) (Y := []) (t := 35) (rowAt_new (wr.alloc (.cells #[.int .i64 l, .bool db] 119)) (wr.heap.size + 1) [Value.slice (some ⟨wr.heap.size, 0, none⟩) 1 1] 35 (by simp))
                go_region_law (first
                  | (refine step_append_zero (by rfl) _ _ _ (by rfl) 119 i66 Try.underlying35 hi6 wr.heap.size 0 1 1 (by rfl) ar _ (by rfl) (by omega) ?_)
                  | (refine step_append_lies _ (by rfl) _ _ _ (by rfl) (w.heap.size + 1 + 1 + 1) 35 i35 _ 1 24 Try.underlying22 hi hz hsz35 hby rfl (by omega) v k L (by rfl) (by exact HownB.out) ⟨wr.heap.size + 1, 0, none⟩ 1 1 [.slice (some ⟨wr.heap.size, 0, none⟩) 1 1] (by rfl) (by rfl) (by exact HnewsB.out) (fun u hu => by rw [List.mem_singleton.1 hu]; rfl) (by omega) (by simp [maxLen]; omega) (by omega) (by simp; omega) (wr.heap.size + 1 + 1) (by simp) ?_; intro g2 cap3 w2 hown2 hgrow2 hat2 hlt2'; have hc22 := (HA1.out.1.store hgrow2).1; have hf22 := (HA1.out.1.store hgrow2).2))
                all_goals
                  have HF := hid (HA1.out.1.append2 (ls := [(l, db)]) (n := 1) hLk rfl HA1.out.2.1 (Nat.le_refl _) (by omega) (by omega) HA1.out.2.2.1 HA1.out.2.2.2 hown2 hgrow2 (by simpa using hat2))
                  rw [hDtake] at HF
                  clear hc22 hf22 hown2 hgrow2 hat2 HownB HnewsB HA1
                  go_wp2
                  go_roundw
                  case rel => exact ⟨k + 1, _, _, by omega, by go_num, by rw [Hck.out]; simp [cstOf, cst1], HF.out⟩
                  case measure => simp [intOf]; omega
              · have hpp1 : 0 < R.length := by omega
                have hp2 : R.length ≤ 2 := by omega
                obtain ⟨gr, rfl⟩ : ∃ gr, ar = some ⟨gr, 0, none⟩ := by
                  rcases HoR.out.2 with ⟨e, h0⟩ | ⟨g, cap', cur, e, _⟩
                  · omega
                  · simp only [Value.slice.injEq] at e
                    exact ⟨g, e.1⟩
                have HwsR : Hid (WaysIn wr (some ⟨gr, 0, none⟩) R) := waysIn_of_owns HoR.out
                clear hp1
                go_wp2
                have hcG0 := HrF.out.cell 0 _ rfl
                have hcG1 := HrF.out.cell 1 _ rfl
                have hltA : w.heap.size + 1 + 1 < wr.heap.size := by omega
                have hltB : wq.heap.size < wr.heap.size := by omega
                have hcvA : ∀ o, (wr.alloc o).cell? ⟨w.heap.size + 1 + 1, 0, none⟩ = some v := fun o => (HMi.out.r2.alloc o).cell 0 _ rfl
                have HownD : Hid ((wr.alloc (.cells #[.int .i64 l, .bool db] 119)).drew.ownsRow wr.heap.size 119 2 (.slice (some ⟨wr.heap.size, 0, none⟩) 1 1) 1 (flat [(l, db)])) := owns_one wr l db
                have HnewsD : Hid (∀ j u, (flat R)[j]? = some u → (wr.alloc (.cells #[.int .i64 l, .bool db] 119)).drew.cell? ((⟨gr, 0, none⟩ : Addr).add j) = some u) := (HwsR.out.keep (((Below.refl _ _).alloc (Nat.le_refl _) _).drew)).news
                have HlenD : Hid ((flat R).length = R.length * 2) := by show _ = _; rw [flat_len]
                have HA : Hid (∀ (g1 cap1 : Nat) (w1 : World), w1.ownsRow wr.heap.size 119 2 (.slice (some ⟨g1, 0, none⟩) (1 + R.length) cap1) (1 + R.length) (flat [(l, db)] ++ flat R) → (wr.alloc (.cells #[.int .i64 l, .bool db] 119)).drew.grownBy w1 (some wr.heap.size) → Mid w w1 (.slice (some ⟨b1, o1, none⟩) C.length cap) (.slice none 0 0) v (D.take k) L ∧ WaysIn w1 (some ⟨g1, 0, none⟩) ((l, db) :: R) ∧ 1 + R.length ≤ cap1 ∧ w.heap.size + 1 + 1 + 1 ≤ g1 ∧ some g1 ≠ v.ownBlock) := by
                  intro g1 cap1 w1 q1 q2
                  have q3 : flat [(l, db)] ++ flat R = flat ((l, db) :: R) := by simp [flat]
                  rw [q3] at q1
                  obtain ⟨r', _, _, q4, _, q5⟩ := rowAt_of_owns q1
                  refine ⟨HMi.out.grown (((Below.refl _ _).alloc (Nat.le_refl _) _).drew) q2 (fun q hq => by simp at hq; omega), waysIn_of_owns q1, q4, by omega, fun e => by have := (hvbM _ e.symm).2; omega⟩
                go_region_law (first
                  | (refine step_append_lies _ (by rfl) _ _ _ (by rfl) wr.heap.size 119 i66 _ 2 16 Try.underlying35 hi6 hz6 hsz66 hby6 rfl (by omega) (.slice (some ⟨wr.heap.size, 0, none⟩) 1 1) 1 (flat [(l, db)]) (by rfl) HownD.out ⟨gr, 0, none⟩ (R.length) cr (flat R) (by rfl) HlenD.out HnewsD.out (flat_mem _) (by omega) (by simp [maxLen]; omega) (by omega) (by simp) (wr.heap.size + 1) (by simp) ?_; intro g1 cap1 w1 hown1 hgrow1 hat1 hlt1; have HA1 := hid (HA.out g1 cap1 w1 hown1 hgrow1); have HownB := hid (HA1.out.1.asks k hLk (.slice (some ⟨g1, 0, none⟩) (1 + R.length) cap1)).1; have HnewsB := hid (HA1.out.1.asks k hLk (.slice (some ⟨g1, 0, none⟩) (1 + R.length) cap1)).2.1; have hszB := (HA1.out.1.asks k hLk (.slice (some ⟨g1, 0, none⟩) (1 + R.length) cap1)).2.2; have hc21 := HA1.out.1.r2.cell 0 _ rfl; have hc21' := fun o => (HA1.out.1.r2.alloc o).cell 0 _ rfl)
                  | (refine step_append_lies _ (by rfl) _ _ _ (by rfl) (w.heap.size + 1 + 1 + 1) 35 i35 _ 1 24 Try.underlying22 hi hz hsz35 hby rfl (by omega) v k L (by rfl) HownB.out ⟨w1.heap.size, 0, none⟩ 1 1 [.slice (some ⟨g1, 0, none⟩) (1 + R.length) cap1] (by rfl) (by rfl) HnewsB.out (fun u hu => by rw [List.mem_singleton.1 hu]; rfl) (by omega) (by simp [maxLen]; omega) (by omega) hszB (w1.heap.size + 1) (by simp) ?_; intro g2 cap3 w2 hown2 hgrow2 hat2 hlt2'; have hc22 := (HA1.out.1.store hgrow2).1; have hf22 := (HA1.out.1.store hgrow2).2))
                all_goals
                  have HF := hid (HA1.out.1.append2 (ls := (l, db) :: R) hLk (by rw [List.length_cons, Nat.add_comm]) HA1.out.2.1 HA1.out.2.2.1 (by omega) (by omega) HA1.out.2.2.2.1 HA1.out.2.2.2.2 hown2 hgrow2 hat2)
                  rw [hDtake] at HF
                  clear hc22 hf22 hc21 hc21' hown2 hgrow2 hat2 HownB HnewsB HA1 hown1 hgrow1 hat1
                  go_wp2
                  go_roundw
                  case rel => exact ⟨k + 1, _, _, by omega, by go_num, by rw [Hck.out]; simp [cstOf, cst1], HF.out⟩
                  case measure => simp [intOf]; omega
      · have hks' : ((k : Int) != (s : Int)) = true := by simp; omega
        have hDtake : D.take k ++ [C[k]] = D.take (k + 1) := by
          rw [List.take_succ_eq_append_getElem (by omega), HDo.out k hlt hks]
        have Hcs : Hid (cstOf s k cost = cstOf s (k + 1) cost) := by
          show _ = _
          unfold cstOf
          by_cases e : s < k
          · rw [if_pos e, if_pos (by omega)]
          · rw [if_neg e, if_neg (by omega)]
        clear hks
        have HownA : Hid ((wr.alloc (.cells #[] 119)).drew.ownsRow wr.heap.size 119 2 (.slice (some ⟨wr.heap.size, 0, none⟩) 0 0) 0 []) := World.ownsRow_made wr #[] 0 (Nat.le_refl _) (by simp [maxLen]) rfl
        have HnewsA : Hid (∀ j u, (flat C[k])[j]? = some u → (wr.alloc (.cells #[] 119)).drew.cell? ((⟨b2, o2, none⟩ : Addr).add j) = some u) := (hws'.keep (((Below.refl _ _).alloc (Nat.le_refl _) _).drew)).news
        have HA : Hid (∀ (g1 cap1 : Nat) (w1 : World), w1.ownsRow wr.heap.size 119 2 (.slice (some ⟨g1, 0, none⟩) C[k].length cap1) C[k].length (flat C[k]) → (wr.alloc (.cells #[] 119)).drew.grownBy w1 (some wr.heap.size) → Mid w w1 (.slice (some ⟨b1, o1, none⟩) C.length cap) (.slice none 0 0) v (D.take k) L ∧ WaysIn w1 (some ⟨g1, 0, none⟩) C[k] ∧ C[k].length ≤ cap1 ∧ w.heap.size + 1 + 1 + 1 ≤ g1 ∧ some g1 ≠ v.ownBlock) := by
          intro g1 cap1 w1 q1 q2
          obtain ⟨r', _, _, q4, _, q5⟩ := rowAt_of_owns q1
          refine ⟨HM.out.grown (((Below.refl _ _).alloc (Nat.le_refl _) _).drew) q2 (fun q hq => by simp at hq; omega), waysIn_of_owns q1, q4, by omega, fun e => by have := (hvb _ e.symm).2; omega⟩
        go_wp2
        go_region_law (first
          | (refine step_append_lies _ (by rfl) _ _ _ (by rfl) wr.heap.size 119 i66 _ 2 16 Try.underlying35 hi6 hz6 hsz66 hby6 rfl (by omega) (.slice (some ⟨wr.heap.size, 0, none⟩) 0 0) 0 [] (by rfl) HownA.out ⟨b2, o2, none⟩ C[k].length cap2 (flat C[k]) (by rfl) (flat_len _) HnewsA.out (flat_mem _) hp (by simp [maxLen]; omega) (by omega) (by simp) (wr.heap.size + 1) (by simp) ?_; intro g1 cap1 w1 hown1 hgrow1 hat1 hlt1; have HA1 := hid (HA.out g1 cap1 w1 (by simpa using hown1) hgrow1); have HownB := hid (HA1.out.1.asks k hLk (.slice (some ⟨g1, 0, none⟩) C[k].length cap1)).1; have HnewsB := hid (HA1.out.1.asks k hLk (.slice (some ⟨g1, 0, none⟩) C[k].length cap1)).2.1; have hszB := (HA1.out.1.asks k hLk (.slice (some ⟨g1, 0, none⟩) C[k].length cap1)).2.2; have hc21 := HA1.out.1.r2.cell 0 _ rfl; have hc21' := fun o => (HA1.out.1.r2.alloc o).cell 0 _ rfl)
          | (refine step_append_lies _ (by rfl) _ _ _ (by rfl) (w.heap.size + 1 + 1 + 1) 35 i35 _ 1 24 Try.underlying22 hi hz hsz35 hby rfl (by omega) v k L (by rfl) HownB.out ⟨w1.heap.size, 0, none⟩ 1 1 [.slice (some ⟨g1, 0, none⟩) C[k].length cap1] (by rfl) (by rfl) HnewsB.out (fun u hu => by rw [List.mem_singleton.1 hu]; rfl) (by omega) (by simp [maxLen]; omega) (by omega) hszB (w1.heap.size + 1) (by simp) ?_; intro g2 cap3 w2 hown2 hgrow2 hat2 hlt2'; have hc22 := (HA1.out.1.store hgrow2).1; have hf22 := (HA1.out.1.store hgrow2).2))
        all_goals
          have HF := hid (HA1.out.1.append2 (ls := C[k]) hLk rfl HA1.out.2.1 HA1.out.2.2.1 h3 hp HA1.out.2.2.2.1 HA1.out.2.2.2.2 hown2 hgrow2 hat2)
          rw [hDtake] at HF
          clear hc22 hf22 hc21 hc21' hown2 hgrow2 hat2 HownB HnewsB HA1 hown1 hgrow1 hat1
          go_wp2
          go_roundw
          case rel => exact ⟨k + 1, _, _, by omega, by go_num, by rw [Hcs.out], HF.out⟩
          case measure => simp [intOf]; omega
    · obtain rfl : k = C.length := by omega
      have hfull : D.take C.length = D := by rw [← hDl, List.take_length]
      have Hc : Hid (cstOf s C.length cost = cost) := by show _ = _; simp [cstOf, hsl]
      obtain ⟨a', cap', e, hC⟩ := (HM.out.grows.setOther ⟨w.heap.size + 1, 0, none⟩ v (by show w.heap.size + 1 < _; omega)).from
      rw [hfull, hDl] at e
      rw [hfull] at hC
      have HCf := hid hC
      have hcR := HM.out.r1.cell 0 _ rfl
      have hfR := HM.out.r1.frozen 0
      subst e
      clear hC
      rw [Hc.out]
      go_wp2
      exact bodyPost_ret (v := .tuple #[.agg #[.slice a' C.length cap'], .int .i64 cost]) (by simp [results, Try.results19, go_sem, World.cell?_setCell_same wr _ _ hcR]) rfl ⟨a', cap', rfl, HCf.out.mono (by omega), hbl.setCell (by show w.heap.size ≤ w.heap.size + 1; omega) _⟩

end Go.Proofs.Ytaellaconpaejaa
