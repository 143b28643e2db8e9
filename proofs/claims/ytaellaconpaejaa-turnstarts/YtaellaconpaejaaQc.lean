/- Walks: the reader of images: its lists. -/
import Derived.Test.YtaellaconpaejaaQb
set_option linter.unusedVariables false
namespace Go.Proofs.Ytaellaconpaejaa
open Go.RowKit

/-- What a list that was read looks like in memory. -/
def isRow {α : Type} (base : Nat) (t : TypeId) (sz : Nat) (fl : List α → List Value) (L : List α) (v : Value) (w : World) : Prop := w.ownsRow base t sz v L.length (fl L)

def flI (l : List Int) : List Value := l.flatMap fun x => [.int .i64 x]
theorem flI_len (l : List Int) : (flI l).length = l.length * 1 := by
  induction l with
  | nil => rfl
  | cons x l ih =>
    have e : flI (x :: l) = [.int .i64 x] ++ flI l := by simp [flI]
    rw [e, List.length_append, ih]
    simp only [List.length_cons, List.length_nil]; omega
theorem flI_snoc (l : List Int) (x : Int) : flI (l ++ [x]) = flI l ++ [.int .i64 x] := by simp [flI]
theorem Try.info3r : (Try.prog.info? 3).map (fun i => (i.zero, i.size, i.bytes)) = some (some (.int .i64 0), 1, 8) := by kernel_rfl

set_option maxRecDepth 100000 in
set_option maxHeartbeats 1000000 in
theorem ints_any (m : Int) (rb : Nat) (s : ByteArray) (k : Nat) (w : World) (hR : Rd w rb s k) (hk : k ≤ s.size) (hs : s.size ≤ 200) (hm : m ≤ 6) :
    Calls Try.prog 158 #[.pointer (some ⟨rb, 0, none⟩), .int .i64 m, .func (.func 155) #[.pointer (some ⟨rb, 0, none⟩)] #[]] w (RdPost w rb s (pList (nums s) m (p1 (nums s)) k) (isRow w.heap.size 3 1 flI)) := by
  obtain ⟨i3, hi, hz, hsz, hby⟩ := infoOf Try.info3r
  have hlt : rb < w.heap.size := RowAt.lt hR
  have HR0 := hid hR
  clear hR
  go_enter Try.func158, Try.ntmps158
  go_wp2_with fail
  refine (count_any m rb s k w HR0.out hk hs).mono ?_
  rintro e w1 ⟨hg, ⟨n, k1, v, hp, hk1, rfl, ⟨rfl, hn0, hn1⟩, hR1⟩ | ⟨n, hp, rfl⟩⟩
  · obtain ⟨N, rfl⟩ : ∃ N : Nat, n = N := ⟨n.toNat, by omega⟩
    have HP := hid hp
    have HG := hid hg
    have HR1 := hid hR1
    clear hg hp hR1 HR0
    go_wp2
    go_loopw [7, 11] (fun v i wr => ∃ (q : Nat) (L : List Int) (j : Nat), q ≤ N ∧ i = .int .i64 q ∧ pMany (p1 (nums s)) q k1 = .ok (L, j) ∧ j ≤ s.size ∧ wr.ownsRow w.heap.size 3 1 v L.length (flI L) ∧ Rd wr rb s j ∧ w.grownBy wr (some rb)) (fun v i _ => N - (intOf i).toNat)
    case atStart => exact ⟨0, [], k1, Nat.zero_le _, rfl, rfl, hk1, World.ownsRow_nil _ _ _ _, HR1.out, HG.out⟩
    case round =>
      clear HR1 HG
      obtain ⟨q, L, j, hq, rfl, hpm, hj, hown, hRr, hgr⟩ := hrel
      have HPM := hid hpm
      have HO := hid hown
      have HG := hid hgr
      have HR1 := hid hRr
      have hsz1 := hgr.size
      have hL := pMany_len q hpm
      have hvb := hown.lt
      clear hpm hown hgr hRr
      by_cases hlt2 : q < N
      · go_wp2_with fail
        refine (one_any rb s j _ HR1.out hj hs).mono ?_
        rintro e w2 ⟨hg2, ⟨x, j2, v, hp2, hj2, rfl, hv, hR2⟩ | ⟨n, hp2, rfl⟩⟩
        · obtain ⟨rfl, hx0, hx1⟩ := hv
          have hsz2 := hg2.size
          have HO2 : Hid ((w2.alloc (.cells #[.int .i64 x] 3)).ownsRow w.heap.size 3 1 u7 L.length (flI L)) := by
            refine hid ((HO.out.kept hg2 ?_).alloc _)
            cases hvo : u7.ownBlock with
            | none => exact .inl rfl
            | some z => right; have := (hvb z hvo).1; simp; omega
          have HN2 : Hid (∀ i u, [Value.int .i64 x][i]? = some u → (w2.alloc (.cells #[.int .i64 x] 3)).cell? ((⟨w2.heap.size, 0, none⟩ : Addr).add i) = some u) :=
            RowAt.news (X := [Value.int .i64 x]) (Y := []) (t := 3) (rowAt_new2 w2 _ [Value.int .i64 x] 3 rfl)
          have HG2 := hid (grow_trans HG.out hg2)
          have HR2 := hid hR2
          have HP2 := hid hp2
          clear hg2 hR2 hp2 HO HG HR1
          go_wp2_with (first
            | (at_builtin; refine wpList_append_lies _ rfl _ _ 42 rfl w.heap.size 3 i3 _ 1 8 Try.underlying42 hi hz hsz hby rfl (by decide) _ _ _ rfl HO2.out ⟨w2.heap.size, 0, none⟩ 1 1 [.int .i64 x] rfl rfl HN2.out ?c1 ?c2 ?c3 ?c4 ?c5 (w2.heap.size + 1) ?c6 ?_))
          case c1 => intro u hu; simp only [List.mem_cons, List.not_mem_nil, or_false] at hu; rcases hu with rfl <;> rfl
          case c2 => omega
          case c3 => simp [maxLen]; omega
          case c4 => omega
          case c5 => simp; omega
          case c6 => simp
          intro g cap2 w3 hown3 hgrow hat hltg
          have HF : Hid (∃ (q' : Nat) (L' : List Int) (j' : Nat), q' ≤ N ∧ (q : Int) + 1 = q' ∧ pMany (p1 (nums s)) q' k1 = .ok (L', j') ∧ j' ≤ s.size ∧ w3.ownsRow w.heap.size 3 1 (.slice (some ⟨g, 0, none⟩) (q + 1) cap2) L'.length (flI L') ∧ Rd w3 rb s j' ∧ w.grownBy w3 (some rb)) := by
            refine hid ⟨q + 1, L ++ [x], j2, by omega, by omega, ?_, hj2, ?_, ?_, ?_⟩
            · rw [pMany, bnd_ok HPM.out, bnd_ok HP2.out]
            · have e : (L ++ [x]).length = q + 1 := by rw [List.length_append, hL]; rfl
              rw [flI_snoc, e]
              exact hown3
            · refine RowAt.grown' (RowAt.alloc HR2.out _) hgrow (fun e => ?_)
              have := (hvb _ e.symm).1
              omega
            · refine ⟨hgrow.os.trans HG2.out.os, hgrow.tape.trans HG2.out.tape, hgrow.output.trans HG2.out.output, ?_, fun b h1 h2 => ?_⟩
              · have := hgrow.size
                simp at this; omega
              · rw [hgrow.block b (by simp; omega) (fun e => ?_), Below.heap_alloc _ _ _ (by omega), HG2.out.block b h1 h2]
                have := (hvb _ e.symm).1
                omega
          clear hown3 hgrow hat HO2 HN2 HG2 HR2 HP2
          go_wp2
          go_roundw
          case rel =>
            obtain ⟨q', L', j', h1, h2, h3⟩ := HF.out
            exact ⟨q', L', j', h1, by rw [h2], h3⟩
          case measure => simp [intOf]; omega
        · exact ⟨rfl, grow_trans HG.out hg2, .inr ⟨n, by rw [pList, bnd_ok HP.out]; exact pMany_err (n := q + 1) (by simp; omega) (by rw [pMany, bnd_ok HPM.out, bnd_err hp2]), rfl⟩⟩
      · obtain rfl : q = N := by omega
        go_wp2
        refine bodyPost_ret (v := u7) (by simp [results, Try.results158, go_sem]) rfl ⟨HG.out, .inl ⟨L, j, u7, by rw [pList, bnd_ok HP.out]; simpa using HPM.out, hj, rfl, HO.out, HR1.out⟩⟩
  · exact ⟨rfl, hg, .inr ⟨n, by rw [pList, bnd_err hp], rfl⟩⟩

def flS (l : List (Int × Int)) : List Value := l.flatMap fun x => [.int .i64 x.1, .int .i64 x.2]
theorem flS_len (l : List (Int × Int)) : (flS l).length = l.length * 2 := by
  induction l with
  | nil => rfl
  | cons x l ih =>
    have e : flS (x :: l) = [.int .i64 x.1, .int .i64 x.2] ++ flS l := by simp [flS]
    rw [e, List.length_append, ih]
    simp only [List.length_cons, List.length_nil]; omega
theorem flS_snoc (l : List (Int × Int)) (x : (Int × Int)) : flS (l ++ [x]) = flS l ++ [.int .i64 x.1, .int .i64 x.2] := by simp [flS]
theorem Try.info114r : (Try.prog.info? 114).map (fun i => (i.zero, i.size, i.bytes)) = some (some (.agg #[.int .i64 0, .int .i64 0]), 2, 16) := by kernel_rfl

set_option maxRecDepth 100000 in
set_option maxHeartbeats 1000000 in
theorem slots_any (m : Int) (rb : Nat) (s : ByteArray) (k : Nat) (w : World) (hR : Rd w rb s k) (hk : k ≤ s.size) (hs : s.size ≤ 200) (hm : m ≤ 6) :
    Calls Try.prog 156 #[.pointer (some ⟨rb, 0, none⟩), .int .i64 m, .func (.func 157) #[.pointer (some ⟨rb, 0, none⟩)] #[]] w (RdPost w rb s (pList (nums s) m (pSlot (nums s)) k) (isRow w.heap.size 114 2 flS)) := by
  obtain ⟨i76, hi, hz, hsz, hby⟩ := infoOf Try.info114r
  have hlt : rb < w.heap.size := RowAt.lt hR
  have HR0 := hid hR
  clear hR
  go_enter Try.func156, Try.ntmps156
  go_wp2_with fail
  refine (count_any m rb s k w HR0.out hk hs).mono ?_
  rintro e w1 ⟨hg, ⟨n, k1, v, hp, hk1, rfl, ⟨rfl, hn0, hn1⟩, hR1⟩ | ⟨n, hp, rfl⟩⟩
  · obtain ⟨N, rfl⟩ : ∃ N : Nat, n = N := ⟨n.toNat, by omega⟩
    have HP := hid hp
    have HG := hid hg
    have HR1 := hid hR1
    clear hg hp hR1 HR0
    go_wp2
    go_loopw [7, 11] (fun v i wr => ∃ (q : Nat) (L : List (Int × Int)) (j : Nat), q ≤ N ∧ i = .int .i64 q ∧ pMany (pSlot (nums s)) q k1 = .ok (L, j) ∧ j ≤ s.size ∧ wr.ownsRow w.heap.size 114 2 v L.length (flS L) ∧ Rd wr rb s j ∧ w.grownBy wr (some rb)) (fun v i _ => N - (intOf i).toNat)
    case atStart => exact ⟨0, [], k1, Nat.zero_le _, rfl, rfl, hk1, World.ownsRow_nil _ _ _ _, HR1.out, HG.out⟩
    case round =>
      clear HR1 HG
      obtain ⟨q, L, j, hq, rfl, hpm, hj, hown, hRr, hgr⟩ := hrel
      have HPM := hid hpm
      have HO := hid hown
      have HG := hid hgr
      have HR1 := hid hRr
      have hsz1 := hgr.size
      have hL := pMany_len q hpm
      have hvb := hown.lt
      clear hpm hown hgr hRr
      by_cases hlt2 : q < N
      · go_wp2_with fail
        refine (slot_any rb s j _ HR1.out hj hs).mono ?_
        rintro e w2 ⟨hg2, ⟨x, j2, v, hp2, hj2, rfl, hv, hR2⟩ | ⟨n, hp2, rfl⟩⟩
        · obtain rfl : v = .agg #[.int .i64 x.1, .int .i64 x.2] := hv
          have hsz2 := hg2.size
          have HO2 : Hid ((w2.alloc (.cells #[.int .i64 x.1, .int .i64 x.2] 114)).ownsRow w.heap.size 114 2 u7 L.length (flS L)) := by
            refine hid ((HO.out.kept hg2 ?_).alloc _)
            cases hvo : u7.ownBlock with
            | none => exact .inl rfl
            | some z => right; have := (hvb z hvo).1; simp; omega
          have HN2 : Hid (∀ i u, [Value.int .i64 x.1, Value.int .i64 x.2][i]? = some u → (w2.alloc (.cells #[.int .i64 x.1, .int .i64 x.2] 114)).cell? ((⟨w2.heap.size, 0, none⟩ : Addr).add i) = some u) :=
            RowAt.news (X := [Value.int .i64 x.1, Value.int .i64 x.2]) (Y := []) (t := 114) (rowAt_new2 w2 _ [Value.int .i64 x.1, Value.int .i64 x.2] 114 rfl)
          have HG2 := hid (grow_trans HG.out hg2)
          have HR2 := hid hR2
          have HP2 := hid hp2
          clear hg2 hR2 hp2 HO HG HR1
          go_wp2_with (first
            | (at_builtin; refine wpList_append_lies _ rfl _ _ 41 rfl w.heap.size 114 i76 _ 2 16 Try.underlying41 hi hz hsz hby rfl (by decide) _ _ _ rfl HO2.out ⟨w2.heap.size, 0, none⟩ 1 1 [.int .i64 x.1, .int .i64 x.2] rfl rfl HN2.out ?c1 ?c2 ?c3 ?c4 ?c5 (w2.heap.size + 1) ?c6 ?_))
          case c1 => intro u hu; simp only [List.mem_cons, List.not_mem_nil, or_false] at hu; rcases hu with rfl | rfl <;> rfl
          case c2 => omega
          case c3 => simp [maxLen]; omega
          case c4 => omega
          case c5 => simp; omega
          case c6 => simp
          intro g cap2 w3 hown3 hgrow hat hltg
          have HF : Hid (∃ (q' : Nat) (L' : List (Int × Int)) (j' : Nat), q' ≤ N ∧ (q : Int) + 1 = q' ∧ pMany (pSlot (nums s)) q' k1 = .ok (L', j') ∧ j' ≤ s.size ∧ w3.ownsRow w.heap.size 114 2 (.slice (some ⟨g, 0, none⟩) (q + 1) cap2) L'.length (flS L') ∧ Rd w3 rb s j' ∧ w.grownBy w3 (some rb)) := by
            refine hid ⟨q + 1, L ++ [x], j2, by omega, by omega, ?_, hj2, ?_, ?_, ?_⟩
            · rw [pMany, bnd_ok HPM.out, bnd_ok HP2.out]
            · have e : (L ++ [x]).length = q + 1 := by rw [List.length_append, hL]; rfl
              rw [flS_snoc, e]
              exact hown3
            · refine RowAt.grown' (RowAt.alloc HR2.out _) hgrow (fun e => ?_)
              have := (hvb _ e.symm).1
              omega
            · refine ⟨hgrow.os.trans HG2.out.os, hgrow.tape.trans HG2.out.tape, hgrow.output.trans HG2.out.output, ?_, fun b h1 h2 => ?_⟩
              · have := hgrow.size
                simp at this; omega
              · rw [hgrow.block b (by simp; omega) (fun e => ?_), Below.heap_alloc _ _ _ (by omega), HG2.out.block b h1 h2]
                have := (hvb _ e.symm).1
                omega
          clear hown3 hgrow hat HO2 HN2 HG2 HR2 HP2
          go_wp2
          go_roundw
          case rel =>
            obtain ⟨q', L', j', h1, h2, h3⟩ := HF.out
            exact ⟨q', L', j', h1, by rw [h2], h3⟩
          case measure => simp [intOf]; omega
        · exact ⟨rfl, grow_trans HG.out hg2, .inr ⟨n, by rw [pList, bnd_ok HP.out]; exact pMany_err (n := q + 1) (by simp; omega) (by rw [pMany, bnd_ok HPM.out, bnd_err hp2]), rfl⟩⟩
      · obtain rfl : q = N := by omega
        go_wp2
        refine bodyPost_ret (v := u7) (by simp [results, Try.results156, go_sem]) rfl ⟨HG.out, .inl ⟨L, j, u7, by rw [pList, bnd_ok HP.out]; simpa using HPM.out, hj, rfl, HO.out, HR1.out⟩⟩
  · exact ⟨rfl, hg, .inr ⟨n, by rw [pList, bnd_err hp], rfl⟩⟩

def flC (l : List (Int × Int × Int)) : List Value := l.flatMap fun x => [.int .i64 x.1, .int .i64 x.2.1, .int .i64 x.2.2]
theorem flC_len (l : List (Int × Int × Int)) : (flC l).length = l.length * 3 := by
  induction l with
  | nil => rfl
  | cons x l ih =>
    have e : flC (x :: l) = [.int .i64 x.1, .int .i64 x.2.1, .int .i64 x.2.2] ++ flC l := by simp [flC]
    rw [e, List.length_append, ih]
    simp only [List.length_cons, List.length_nil]; omega
theorem flC_snoc (l : List (Int × Int × Int)) (x : (Int × Int × Int)) : flC (l ++ [x]) = flC l ++ [.int .i64 x.1, .int .i64 x.2.1, .int .i64 x.2.2] := by simp [flC]
theorem Try.info125r : (Try.prog.info? 125).map (fun i => (i.zero, i.size, i.bytes)) = some (some (.agg #[.int .i64 0, .int .i64 0, .int .i64 0]), 3, 24) := by kernel_rfl

set_option maxRecDepth 100000 in
set_option maxHeartbeats 1000000 in
theorem chans_any (m : Int) (rb : Nat) (s : ByteArray) (k : Nat) (w : World) (hR : Rd w rb s k) (hk : k ≤ s.size) (hs : s.size ≤ 200) (hm : m ≤ 6) :
    Calls Try.prog 159 #[.pointer (some ⟨rb, 0, none⟩), .int .i64 m, .func (.func 160) #[.pointer (some ⟨rb, 0, none⟩)] #[]] w (RdPost w rb s (pList (nums s) m (pChan (nums s)) k) (isRow w.heap.size 125 3 flC)) := by
  obtain ⟨i72, hi, hz, hsz, hby⟩ := infoOf Try.info125r
  have hlt : rb < w.heap.size := RowAt.lt hR
  have HR0 := hid hR
  clear hR
  go_enter Try.func159, Try.ntmps159
  go_wp2_with fail
  refine (count_any m rb s k w HR0.out hk hs).mono ?_
  rintro e w1 ⟨hg, ⟨n, k1, v, hp, hk1, rfl, ⟨rfl, hn0, hn1⟩, hR1⟩ | ⟨n, hp, rfl⟩⟩
  · obtain ⟨N, rfl⟩ : ∃ N : Nat, n = N := ⟨n.toNat, by omega⟩
    have HP := hid hp
    have HG := hid hg
    have HR1 := hid hR1
    clear hg hp hR1 HR0
    go_wp2
    go_loopw [7, 11] (fun v i wr => ∃ (q : Nat) (L : List (Int × Int × Int)) (j : Nat), q ≤ N ∧ i = .int .i64 q ∧ pMany (pChan (nums s)) q k1 = .ok (L, j) ∧ j ≤ s.size ∧ wr.ownsRow w.heap.size 125 3 v L.length (flC L) ∧ Rd wr rb s j ∧ w.grownBy wr (some rb)) (fun v i _ => N - (intOf i).toNat)
    case atStart => exact ⟨0, [], k1, Nat.zero_le _, rfl, rfl, hk1, World.ownsRow_nil _ _ _ _, HR1.out, HG.out⟩
    case round =>
      clear HR1 HG
      obtain ⟨q, L, j, hq, rfl, hpm, hj, hown, hRr, hgr⟩ := hrel
      have HPM := hid hpm
      have HO := hid hown
      have HG := hid hgr
      have HR1 := hid hRr
      have hsz1 := hgr.size
      have hL := pMany_len q hpm
      have hvb := hown.lt
      clear hpm hown hgr hRr
      by_cases hlt2 : q < N
      · go_wp2_with fail
        refine (channel_any rb s j _ HR1.out hj hs).mono ?_
        rintro e w2 ⟨hg2, ⟨x, j2, v, hp2, hj2, rfl, hv, hR2⟩ | ⟨n, hp2, rfl⟩⟩
        · obtain rfl : v = .agg #[.int .i64 x.1, .int .i64 x.2.1, .int .i64 x.2.2] := hv
          have hsz2 := hg2.size
          have HO2 : Hid ((w2.alloc (.cells #[.int .i64 x.1, .int .i64 x.2.1, .int .i64 x.2.2] 125)).ownsRow w.heap.size 125 3 u7 L.length (flC L)) := by
            refine hid ((HO.out.kept hg2 ?_).alloc _)
            cases hvo : u7.ownBlock with
            | none => exact .inl rfl
            | some z => right; have := (hvb z hvo).1; simp; omega
          have HN2 : Hid (∀ i u, [Value.int .i64 x.1, Value.int .i64 x.2.1, Value.int .i64 x.2.2][i]? = some u → (w2.alloc (.cells #[.int .i64 x.1, .int .i64 x.2.1, .int .i64 x.2.2] 125)).cell? ((⟨w2.heap.size, 0, none⟩ : Addr).add i) = some u) :=
            RowAt.news (X := [Value.int .i64 x.1, Value.int .i64 x.2.1, Value.int .i64 x.2.2]) (Y := []) (t := 125) (rowAt_new2 w2 _ [Value.int .i64 x.1, Value.int .i64 x.2.1, Value.int .i64 x.2.2] 125 rfl)
          have HG2 := hid (grow_trans HG.out hg2)
          have HR2 := hid hR2
          have HP2 := hid hp2
          clear hg2 hR2 hp2 HO HG HR1
          go_wp2_with (first
            | (at_builtin; refine wpList_append_lies _ rfl _ _ 43 rfl w.heap.size 125 i72 _ 3 24 Try.underlying43 hi hz hsz hby rfl (by decide) _ _ _ rfl HO2.out ⟨w2.heap.size, 0, none⟩ 1 1 [.int .i64 x.1, .int .i64 x.2.1, .int .i64 x.2.2] rfl rfl HN2.out ?c1 ?c2 ?c3 ?c4 ?c5 (w2.heap.size + 1) ?c6 ?_))
          case c1 => intro u hu; simp only [List.mem_cons, List.not_mem_nil, or_false] at hu; rcases hu with rfl | rfl | rfl <;> rfl
          case c2 => omega
          case c3 => simp [maxLen]; omega
          case c4 => omega
          case c5 => simp; omega
          case c6 => simp
          intro g cap2 w3 hown3 hgrow hat hltg
          have HF : Hid (∃ (q' : Nat) (L' : List (Int × Int × Int)) (j' : Nat), q' ≤ N ∧ (q : Int) + 1 = q' ∧ pMany (pChan (nums s)) q' k1 = .ok (L', j') ∧ j' ≤ s.size ∧ w3.ownsRow w.heap.size 125 3 (.slice (some ⟨g, 0, none⟩) (q + 1) cap2) L'.length (flC L') ∧ Rd w3 rb s j' ∧ w.grownBy w3 (some rb)) := by
            refine hid ⟨q + 1, L ++ [x], j2, by omega, by omega, ?_, hj2, ?_, ?_, ?_⟩
            · rw [pMany, bnd_ok HPM.out, bnd_ok HP2.out]
            · have e : (L ++ [x]).length = q + 1 := by rw [List.length_append, hL]; rfl
              rw [flC_snoc, e]
              exact hown3
            · refine RowAt.grown' (RowAt.alloc HR2.out _) hgrow (fun e => ?_)
              have := (hvb _ e.symm).1
              omega
            · refine ⟨hgrow.os.trans HG2.out.os, hgrow.tape.trans HG2.out.tape, hgrow.output.trans HG2.out.output, ?_, fun b h1 h2 => ?_⟩
              · have := hgrow.size
                simp at this; omega
              · rw [hgrow.block b (by simp; omega) (fun e => ?_), Below.heap_alloc _ _ _ (by omega), HG2.out.block b h1 h2]
                have := (hvb _ e.symm).1
                omega
          clear hown3 hgrow hat HO2 HN2 HG2 HR2 HP2
          go_wp2
          go_roundw
          case rel =>
            obtain ⟨q', L', j', h1, h2, h3⟩ := HF.out
            exact ⟨q', L', j', h1, by rw [h2], h3⟩
          case measure => simp [intOf]; omega
        · exact ⟨rfl, grow_trans HG.out hg2, .inr ⟨n, by rw [pList, bnd_ok HP.out]; exact pMany_err (n := q + 1) (by simp; omega) (by rw [pMany, bnd_ok HPM.out, bnd_err hp2]), rfl⟩⟩
      · obtain rfl : q = N := by omega
        go_wp2
        refine bodyPost_ret (v := u7) (by simp [results, Try.results159, go_sem]) rfl ⟨HG.out, .inl ⟨L, j, u7, by rw [pList, bnd_ok HP.out]; simpa using HPM.out, hj, rfl, HO.out, HR1.out⟩⟩
  · exact ⟨rfl, hg, .inr ⟨n, by rw [pList, bnd_err hp], rfl⟩⟩

def flT (l : List (Int × Int × Int × Int)) : List Value := l.flatMap fun x => [.int .i64 x.1, .int .i64 x.2.1, .int .i64 x.2.2.1, .int .i64 x.2.2.2]
theorem flT_len (l : List (Int × Int × Int × Int)) : (flT l).length = l.length * 4 := by
  induction l with
  | nil => rfl
  | cons x l ih =>
    have e : flT (x :: l) = [.int .i64 x.1, .int .i64 x.2.1, .int .i64 x.2.2.1, .int .i64 x.2.2.2] ++ flT l := by simp [flT]
    rw [e, List.length_append, ih]
    simp only [List.length_cons, List.length_nil]; omega
theorem flT_snoc (l : List (Int × Int × Int × Int)) (x : (Int × Int × Int × Int)) : flT (l ++ [x]) = flT l ++ [.int .i64 x.1, .int .i64 x.2.1, .int .i64 x.2.2.1, .int .i64 x.2.2.2] := by simp [flT]
theorem Try.info108r : (Try.prog.info? 108).map (fun i => (i.zero, i.size, i.bytes)) = some (some (.agg #[.int .i64 0, .int .i64 0, .int .i64 0, .int .i64 0]), 4, 32) := by kernel_rfl

set_option maxRecDepth 100000 in
set_option maxHeartbeats 1000000 in
theorem tasks_any (m : Int) (rb : Nat) (s : ByteArray) (k : Nat) (w : World) (hR : Rd w rb s k) (hk : k ≤ s.size) (hs : s.size ≤ 200) (hm : m ≤ 6) :
    Calls Try.prog 161 #[.pointer (some ⟨rb, 0, none⟩), .int .i64 m, .func (.func 162) #[.pointer (some ⟨rb, 0, none⟩)] #[]] w (RdPost w rb s (pList (nums s) m (pTask (nums s)) k) (isRow w.heap.size 108 4 flT)) := by
  obtain ⟨i78, hi, hz, hsz, hby⟩ := infoOf Try.info108r
  have hlt : rb < w.heap.size := RowAt.lt hR
  have HR0 := hid hR
  clear hR
  go_enter Try.func161, Try.ntmps161
  go_wp2_with fail
  refine (count_any m rb s k w HR0.out hk hs).mono ?_
  rintro e w1 ⟨hg, ⟨n, k1, v, hp, hk1, rfl, ⟨rfl, hn0, hn1⟩, hR1⟩ | ⟨n, hp, rfl⟩⟩
  · obtain ⟨N, rfl⟩ : ∃ N : Nat, n = N := ⟨n.toNat, by omega⟩
    have HP := hid hp
    have HG := hid hg
    have HR1 := hid hR1
    clear hg hp hR1 HR0
    go_wp2
    go_loopw [7, 11] (fun v i wr => ∃ (q : Nat) (L : List (Int × Int × Int × Int)) (j : Nat), q ≤ N ∧ i = .int .i64 q ∧ pMany (pTask (nums s)) q k1 = .ok (L, j) ∧ j ≤ s.size ∧ wr.ownsRow w.heap.size 108 4 v L.length (flT L) ∧ Rd wr rb s j ∧ w.grownBy wr (some rb)) (fun v i _ => N - (intOf i).toNat)
    case atStart => exact ⟨0, [], k1, Nat.zero_le _, rfl, rfl, hk1, World.ownsRow_nil _ _ _ _, HR1.out, HG.out⟩
    case round =>
      clear HR1 HG
      obtain ⟨q, L, j, hq, rfl, hpm, hj, hown, hRr, hgr⟩ := hrel
      have HPM := hid hpm
      have HO := hid hown
      have HG := hid hgr
      have HR1 := hid hRr
      have hsz1 := hgr.size
      have hL := pMany_len q hpm
      have hvb := hown.lt
      clear hpm hown hgr hRr
      by_cases hlt2 : q < N
      · go_wp2_with fail
        refine (task_any rb s j _ HR1.out hj hs).mono ?_
        rintro e w2 ⟨hg2, ⟨x, j2, v, hp2, hj2, rfl, hv, hR2⟩ | ⟨n, hp2, rfl⟩⟩
        · obtain rfl : v = .agg #[.int .i64 x.1, .int .i64 x.2.1, .int .i64 x.2.2.1, .int .i64 x.2.2.2] := hv
          have hsz2 := hg2.size
          have HO2 : Hid ((w2.alloc (.cells #[.int .i64 x.1, .int .i64 x.2.1, .int .i64 x.2.2.1, .int .i64 x.2.2.2] 108)).ownsRow w.heap.size 108 4 u7 L.length (flT L)) := by
            refine hid ((HO.out.kept hg2 ?_).alloc _)
            cases hvo : u7.ownBlock with
            | none => exact .inl rfl
            | some z => right; have := (hvb z hvo).1; simp; omega
          have HN2 : Hid (∀ i u, [Value.int .i64 x.1, Value.int .i64 x.2.1, Value.int .i64 x.2.2.1, Value.int .i64 x.2.2.2][i]? = some u → (w2.alloc (.cells #[.int .i64 x.1, .int .i64 x.2.1, .int .i64 x.2.2.1, .int .i64 x.2.2.2] 108)).cell? ((⟨w2.heap.size, 0, none⟩ : Addr).add i) = some u) :=
            RowAt.news (X := [Value.int .i64 x.1, Value.int .i64 x.2.1, Value.int .i64 x.2.2.1, Value.int .i64 x.2.2.2]) (Y := []) (t := 108) (rowAt_new2 w2 _ [Value.int .i64 x.1, Value.int .i64 x.2.1, Value.int .i64 x.2.2.1, Value.int .i64 x.2.2.2] 108 rfl)
          have HG2 := hid (grow_trans HG.out hg2)
          have HR2 := hid hR2
          have HP2 := hid hp2
          clear hg2 hR2 hp2 HO HG HR1
          go_wp2_with (first
            | (at_builtin; refine wpList_append_lies _ rfl _ _ 44 rfl w.heap.size 108 i78 _ 4 32 Try.underlying44 hi hz hsz hby rfl (by decide) _ _ _ rfl HO2.out ⟨w2.heap.size, 0, none⟩ 1 1 [.int .i64 x.1, .int .i64 x.2.1, .int .i64 x.2.2.1, .int .i64 x.2.2.2] rfl rfl HN2.out ?c1 ?c2 ?c3 ?c4 ?c5 (w2.heap.size + 1) ?c6 ?_))
          case c1 => intro u hu; simp only [List.mem_cons, List.not_mem_nil, or_false] at hu; rcases hu with rfl | rfl | rfl | rfl <;> rfl
          case c2 => omega
          case c3 => simp [maxLen]; omega
          case c4 => omega
          case c5 => simp; omega
          case c6 => simp
          intro g cap2 w3 hown3 hgrow hat hltg
          have HF : Hid (∃ (q' : Nat) (L' : List (Int × Int × Int × Int)) (j' : Nat), q' ≤ N ∧ (q : Int) + 1 = q' ∧ pMany (pTask (nums s)) q' k1 = .ok (L', j') ∧ j' ≤ s.size ∧ w3.ownsRow w.heap.size 108 4 (.slice (some ⟨g, 0, none⟩) (q + 1) cap2) L'.length (flT L') ∧ Rd w3 rb s j' ∧ w.grownBy w3 (some rb)) := by
            refine hid ⟨q + 1, L ++ [x], j2, by omega, by omega, ?_, hj2, ?_, ?_, ?_⟩
            · rw [pMany, bnd_ok HPM.out, bnd_ok HP2.out]
            · have e : (L ++ [x]).length = q + 1 := by rw [List.length_append, hL]; rfl
              rw [flT_snoc, e]
              exact hown3
            · refine RowAt.grown' (RowAt.alloc HR2.out _) hgrow (fun e => ?_)
              have := (hvb _ e.symm).1
              omega
            · refine ⟨hgrow.os.trans HG2.out.os, hgrow.tape.trans HG2.out.tape, hgrow.output.trans HG2.out.output, ?_, fun b h1 h2 => ?_⟩
              · have := hgrow.size
                simp at this; omega
              · rw [hgrow.block b (by simp; omega) (fun e => ?_), Below.heap_alloc _ _ _ (by omega), HG2.out.block b h1 h2]
                have := (hvb _ e.symm).1
                omega
          clear hown3 hgrow hat HO2 HN2 HG2 HR2 HP2
          go_wp2
          go_roundw
          case rel =>
            obtain ⟨q', L', j', h1, h2, h3⟩ := HF.out
            exact ⟨q', L', j', h1, by rw [h2], h3⟩
          case measure => simp [intOf]; omega
        · exact ⟨rfl, grow_trans HG.out hg2, .inr ⟨n, by rw [pList, bnd_ok HP.out]; exact pMany_err (n := q + 1) (by simp; omega) (by rw [pMany, bnd_ok HPM.out, bnd_err hp2]), rfl⟩⟩
      · obtain rfl : q = N := by omega
        go_wp2
        refine bodyPost_ret (v := u7) (by simp [results, Try.results161, go_sem]) rfl ⟨HG.out, .inl ⟨L, j, u7, by rw [pList, bnd_ok HP.out]; simpa using HPM.out, hj, rfl, HO.out, HR1.out⟩⟩
  · exact ⟨rfl, hg, .inr ⟨n, by rw [pList, bnd_err hp], rfl⟩⟩

end Go.Proofs.Ytaellaconpaejaa
