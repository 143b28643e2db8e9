/- The plain reckoning of configs: which of the seven checks tells. -/
import Derived.Test.YtaellaconpaejaaNa
namespace Go.Proofs.Ytaellaconpaejaa

theorem ckC_0 {C : Conf} (h : ckNum C ≠ 0) : ckC C = ckNum C := fe_at 7 0 (ck7 C) (by omega) h (fun j hj => by omega)
theorem ckC_1 {C : Conf} (h0 : ckNum C = 0) (h : ckPad C ≠ 0) : ckC C = ckPad C := fe_at 7 1 (ck7 C) (by omega) h (fun j hj => by
  match j, hj with
  | 0, _ => exact h0)
theorem ckC_2 {C : Conf} (h0 : ckNum C = 0) (h1 : ckPad C = 0) (h : ckCnt C ≠ 0) : ckC C = ckCnt C := fe_at 7 2 (ck7 C) (by omega) h (fun j hj => by
  match j, hj with
  | 0, _ => exact h0
  | 1, _ => exact h1)
theorem ckC_3 {C : Conf} (h0 : ckNum C = 0) (h1 : ckPad C = 0) (h2 : ckCnt C = 0) (h : ckSlots C ≠ 0) : ckC C = ckSlots C := fe_at 7 3 (ck7 C) (by omega) h (fun j hj => by
  match j, hj with
  | 0, _ => exact h0
  | 1, _ => exact h1
  | 2, _ => exact h2)
theorem ckC_4 {C : Conf} (h0 : ckNum C = 0) (h1 : ckPad C = 0) (h2 : ckCnt C = 0) (h3 : ckSlots C = 0) (h : ckOw C ≠ 0) : ckC C = ckOw C := fe_at 7 4 (ck7 C) (by omega) h (fun j hj => by
  match j, hj with
  | 0, _ => exact h0
  | 1, _ => exact h1
  | 2, _ => exact h2
  | 3, _ => exact h3)
theorem ckC_5 {C : Conf} (h0 : ckNum C = 0) (h1 : ckPad C = 0) (h2 : ckCnt C = 0) (h3 : ckSlots C = 0) (h4 : ckOw C = 0) (h : ckChans C ≠ 0) : ckC C = ckChans C := fe_at 7 5 (ck7 C) (by omega) h (fun j hj => by
  match j, hj with
  | 0, _ => exact h0
  | 1, _ => exact h1
  | 2, _ => exact h2
  | 3, _ => exact h3
  | 4, _ => exact h4)
theorem ckC_6 {C : Conf} (h0 : ckNum C = 0) (h1 : ckPad C = 0) (h2 : ckCnt C = 0) (h3 : ckSlots C = 0) (h4 : ckOw C = 0) (h5 : ckChans C = 0) : ckC C = ckTasks C := by
  by_cases h : ckTasks C = 0
  · rw [h]
    refine fe_zero 7 (ck7 C) fun j hj => ?_
    match j, hj with
    | 0, _ => exact h0
    | 1, _ => exact h1
    | 2, _ => exact h2
    | 3, _ => exact h3
    | 4, _ => exact h4
    | 5, _ => exact h5
    | 6, _ => exact h
  · exact fe_at 7 6 (ck7 C) (by omega) h (fun j hj => by
      match j, hj with
      | 0, _ => exact h0
      | 1, _ => exact h1
      | 2, _ => exact h2
      | 3, _ => exact h3
      | 4, _ => exact h4
      | 5, _ => exact h5)

/-- What one entry that is not right comes to. -/
theorem slots_at {C : Conf} {k : Nat} (hk : k < C.sl.length) (h : ckSl C.d C.sl[k] ≠ 0) (hno : ∀ j, j < k → ckSl C.d (C.sl.getD j (0, 0)) = 0) : ckSlots C = ckSl C.d C.sl[k] := by
  have e := getD_of C.sl k hk (0, 0)
  have := fe_at C.sl.length k (fun i => ckSl C.d (C.sl.getD i (0, 0))) hk (by rw [e]; exact h) hno
  rw [ckSlots, this, e]
theorem slots_0 {C : Conf} (hno : ∀ j, j < C.sl.length → ckSl C.d (C.sl.getD j (0, 0)) = 0) : ckSlots C = 0 := fe_zero _ _ hno
theorem tasks_at {C : Conf} {k : Nat} (hk : k < C.ta.length) (h : ckTa C.d C.ta[k] ≠ 0) (hno : ∀ j, j < k → ckTa C.d (C.ta.getD j (0, 0, 0, 0)) = 0) : ckTasks C = ckTa C.d C.ta[k] := by
  have e := getD_of C.ta k hk (0, 0, 0, 0)
  have := fe_at C.ta.length k (fun i => ckTa C.d (C.ta.getD i (0, 0, 0, 0))) hk (by rw [e]; exact h) hno
  rw [ckTasks, this, e]
theorem tasks_0 {C : Conf} (hno : ∀ j, j < C.ta.length → ckTa C.d (C.ta.getD j (0, 0, 0, 0)) = 0) : ckTasks C = 0 := fe_zero _ _ hno
theorem chans_at {C : Conf} {k : Nat} (hk : k < C.ch.length) (h : ckCh C.d C.ch k ≠ 0) (hno : ∀ j, j < k → ckCh C.d C.ch j = 0) : ckChans C = ckCh C.d C.ch k := fe_at _ k _ hk h hno
theorem chans_0 {C : Conf} (hno : ∀ j, j < C.ch.length → ckCh C.d C.ch j = 0) : ckChans C = 0 := fe_zero _ _ hno
theorem ow_5 {C : Conf} {k : Nat} (hk : k < C.ow.length) (h : isD C.d C.ow[k] = false) : ckOw C = 5 := by
  rw [ckOw, if_pos]
  rw [List.any_eq_true]
  exact ⟨_, List.getElem_mem hk, by simp [h]⟩
theorem ow_0 {C : Conf} (hno : ∀ j (h : j < C.ow.length), isD C.d C.ow[j] = true) : ckOw C = 0 := by
  rw [ckOw, if_neg]
  intro h
  obtain ⟨x, hx, hd⟩ := List.any_eq_true.1 h
  obtain ⟨j, hj, rfl⟩ := List.getElem_of_mem hx
  rw [hno j hj] at hd
  simp at hd
theorem ckCh_eq {d : Int} {ls : List (Int × Int × Int)} {k : Nat} (hk : k < ls.length) : ckCh d ls k = if isD d ls[k].1 && isD d ls[k].2.1 then (if ls[k].1 = ls[k].2.1 then 1 else if inR ls[k].2.2 1 4 then (if (ls.take k).any (twin ls[k]) then 6 else 0) else 3) else 5 := by
  rw [ckCh, List.getElem?_eq_getElem hk]

end Go.Proofs.Ytaellaconpaejaa
