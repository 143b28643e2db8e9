/- Walks: the reader of images: a whole config. -/
import Derived.Test.YtaellaconpaejaaQd
set_option linter.unusedVariables false
namespace Go.Proofs.Ytaellaconpaejaa
open Go.RowKit

abbrev zero9 : List Value := [.int .i64 0, .int .i64 0, .int .i64 0, .int .i64 0, .int .i64 0, .slice none 0 0, .slice none 0 0, .slice none 0 0, .slice none 0 0]

/-- Memory while a config is being read. -/
structure Cf (w wr : World) (rb : Nat) (s : ByteArray) (k : Nat) (V : List Value) : Prop where
  rd : Rd wr rb s k
  g : w.grownBy wr (some rb)
  b2 : RowAt wr w.heap.size 46 zero9
  b3 : RowAt wr (w.heap.size + 1) 46 V

theorem Cf.call {w wr w1 : World} {rb k k1 : Nat} {s : ByteArray} {V : List Value} (h : Cf w wr rb s k V) (hlt : rb < w.heap.size) (hg : wr.grownBy w1 (some rb)) (hR : Rd w1 rb s k1) : Cf w w1 rb s k1 V :=
  ⟨hR, grow_trans h.g hg, h.b2.grown' hg (by simp; omega), h.b3.grown' hg (by simp; omega)⟩
theorem Cf.set {w wr : World} {rb k : Nat} {s : ByteArray} {V : List Value} (h : Cf w wr rb s k V) (hlt : rb < w.heap.size) (i : Nat) (v : Value) : Cf w (wr.setCell ⟨w.heap.size + 1, i, none⟩ v) rb s k (V.set i v) :=
  ⟨h.rd.set _ _ _ (by omega), grow_set h.g _ _ _ (by omega), h.b2.setOther _ _ (by show w.heap.size ≠ w.heap.size + 1; omega), h.b3.setCell i v⟩
theorem Cf.lt {w wr : World} {rb k : Nat} {s : ByteArray} {V : List Value} (h : Cf w wr rb s k V) : w.heap.size + 2 ≤ wr.heap.size := h.b3.lt

/-- What a config that was read is. -/
def isConf (base : Nat) (C : Conf) (v : Value) (w : World) : Prop := ∃ v5 v6 v7 v8, v = .agg #[.int .i64 C.s, .int .i64 C.w, .int .i64 C.d, .int .i64 C.p, .int .i64 C.q, v5, v6, v7, v8] ∧ OwnConf w base v5 v6 v7 v8 C

set_option maxRecDepth 100000 in
set_option maxHeartbeats 2000000 in
theorem config_any (rb : Nat) (s : ByteArray) (w : World) (hR : Rd w rb s 0) (hs : s.size ≤ 200) :
    Calls Try.prog 127 #[.pointer (some ⟨rb, 0, none⟩)] w (RdPost w rb s (pConf (nums s)) (isConf (w.heap.size + 2))) := by
  have hmf : ∀ (fn : Fn) (first cap : Array Value) (w : World), (Instr.makeFunc fn first cap).run Try.prog w = .ok (.func fn first cap) w := fun _ _ _ _ => rfl
  have hlt : rb < w.heap.size := RowAt.lt hR
  have C0 : Hid (Cf w ((w.alloc (.cells #[.int .i64 0, .int .i64 0, .int .i64 0, .int .i64 0, .int .i64 0, .slice none 0 0, .slice none 0 0, .slice none 0 0, .slice none 0 0] 46)).alloc (.cells #[.int .i64 0, .int .i64 0, .int .i64 0, .int .i64 0, .int .i64 0, .slice none 0 0, .slice none 0 0, .slice none 0 0, .slice none 0 0] 46)) rb s 0 zero9) := by
    have q1 := below_new w (.cells #[.int .i64 0, .int .i64 0, .int .i64 0, .int .i64 0, .int .i64 0, .slice none 0 0, .slice none 0 0, .slice none 0 0, .slice none 0 0] 46)
    have q2 := below_new (w.alloc (.cells #[.int .i64 0, .int .i64 0, .int .i64 0, .int .i64 0, .int .i64 0, .slice none 0 0, .slice none 0 0, .slice none 0 0, .slice none 0 0] 46)) (.cells #[.int .i64 0, .int .i64 0, .int .i64 0, .int .i64 0, .int .i64 0, .slice none 0 0, .slice none 0 0, .slice none 0 0, .slice none 0 0] 46)
    exact hid ⟨(hR.grownN q1).grownN q2, grow_new _ (btrans q1 q2), (rowAt_new2 w _ zero9 46 rfl).alloc _, rowAt_new2 _ _ zero9 46 (by simp)⟩
  clear hR
  go_enter Try.func127, Try.ntmps127
  go_wp2_with fail
  refine (begin_any rb s _ C0.out.rd hs).mono ?_
  rintro e w1 ⟨hg, ⟨x0, k1, v, hp, hk1, rfl, rfl, hR⟩ | ⟨n, hp, rfl⟩⟩
  · have HP1 := hid hp
    have C1 := hid (C0.out.call hlt hg hR)
    clear hg hp hR C0
    go_wp2_with fail
    refine (one_any rb s k1 _ C1.out.rd hk1 hs).mono ?_
    rintro e w2 ⟨hg, ⟨xs, k2, v, hp, hk2, rfl, ⟨rfl, hxs0, hxs1⟩, hR⟩ | ⟨n, hp, rfl⟩⟩
    · have HP2 := hid hp
      have C2 := hid (C1.out.call hlt hg hR)
      clear hg hp hR C1
      go_wp2_with fail
      refine (one_any rb s k2 _ C2.out.rd hk2 hs).mono ?_
      rintro e w3 ⟨hg, ⟨xw, k3, v, hp, hk3, rfl, ⟨rfl, hxw0, hxw1⟩, hR⟩ | ⟨n, hp, rfl⟩⟩
      · have HP3 := hid hp
        have C3 := hid (C2.out.call hlt hg hR)
        clear hg hp hR C2
        go_wp2_with fail
        refine (one_any rb s k3 _ C3.out.rd hk3 hs).mono ?_
        rintro e w4 ⟨hg, ⟨xd, k4, v, hp, hk4, rfl, ⟨rfl, hxd0, hxd1⟩, hR⟩ | ⟨n, hp, rfl⟩⟩
        · have HP4 := hid hp
          have C4 := hid (C3.out.call hlt hg hR)
          clear hg hp hR C3
          have c0 := C4.out.b3.cell 0 _ rfl
          have f0 := C4.out.b3.frozen 0
          have c1 := C4.out.b3.cell 1 _ rfl
          have f1 := C4.out.b3.frozen 1
          have c2 := C4.out.b3.cell 2 _ rfl
          have f2 := C4.out.b3.frozen 2
          have c3 := C4.out.b3.cell 3 _ rfl
          have f3 := C4.out.b3.frozen 3
          have c4 := C4.out.b3.cell 4 _ rfl
          have f4 := C4.out.b3.frozen 4
          have c5 := C4.out.b3.cell 5 _ rfl
          have f5 := C4.out.b3.frozen 5
          have c6 := C4.out.b3.cell 6 _ rfl
          have f6 := C4.out.b3.frozen 6
          have c7 := C4.out.b3.cell 7 _ rfl
          have f7 := C4.out.b3.frozen 7
          have c8 := C4.out.b3.cell 8 _ rfl
          have f8 := C4.out.b3.frozen 8
          have C5 := hid ((((C4.out.set hlt 0 (.int .i64 xs)).set hlt 1 (.int .i64 xw)).set hlt 2 (.int .i64 xd)))
          go_wp2_with fail
          refine (one_any rb s k4 _ C5.out.rd hk4 hs).mono ?_
          rintro e w5 ⟨hg, ⟨xp, k5, v, hp, hk5, rfl, ⟨rfl, hxp0, hxp1⟩, hR⟩ | ⟨n, hp, rfl⟩⟩
          · have HP5 := hid hp
            have C6 := hid (C5.out.call hlt hg hR)
            clear hg hp hR C5
            clear c0 c1 c2 c3 c4 c5 c6 c7 c8 f0 f1 f2 f3 f4 f5 f6 f7 f8
            go_wp2_with fail
            refine (one_any rb s k5 _ C6.out.rd hk5 hs).mono ?_
            rintro e w6 ⟨hg, ⟨xq, k6, v, hp, hk6, rfl, ⟨rfl, hxq0, hxq1⟩, hR⟩ | ⟨n, hp, rfl⟩⟩
            · have HP6 := hid hp
              have C7 := hid (C6.out.call hlt hg hR)
              clear hg hp hR C6
              have c0 := C7.out.b3.cell 0 _ rfl
              have f0 := C7.out.b3.frozen 0
              have c1 := C7.out.b3.cell 1 _ rfl
              have f1 := C7.out.b3.frozen 1
              have c2 := C7.out.b3.cell 2 _ rfl
              have f2 := C7.out.b3.frozen 2
              have c3 := C7.out.b3.cell 3 _ rfl
              have f3 := C7.out.b3.frozen 3
              have c4 := C7.out.b3.cell 4 _ rfl
              have f4 := C7.out.b3.frozen 4
              have c5 := C7.out.b3.cell 5 _ rfl
              have f5 := C7.out.b3.frozen 5
              have c6 := C7.out.b3.cell 6 _ rfl
              have f6 := C7.out.b3.frozen 6
              have c7 := C7.out.b3.cell 7 _ rfl
              have f7 := C7.out.b3.frozen 7
              have c8 := C7.out.b3.cell 8 _ rfl
              have f8 := C7.out.b3.frozen 8
              have C8 := hid (((C7.out.set hlt 3 (.int .i64 xp)).set hlt 4 (.int .i64 xq)))
              go_wp2_with fail
              have hsz := C8.out.lt
              refine (slots_any 6 rb s k6 _ C8.out.rd hk6 hs (by omega)).mono ?_
              rintro e w7 ⟨hg, ⟨sl, k7, v, hp, hk7, rfl, hrow, hR⟩ | ⟨n, hp, rfl⟩⟩
              · have HP7 := hid hp
                have C9 := hid (C8.out.call hlt hg hR)
                clear hg hp hR C8
                clear c0 c1 c2 c3 c4 c5 c6 c7 c8 f0 f1 f2 f3 f4 f5 f6 f7 f8
                have R5 : Hid (w7.ownsRow (w.heap.size + 2) 114 2 v sl.length (flS sl)) := hid (owns_mono hrow hsz)
                clear hrow hsz
                obtain ⟨a5, q5, rfl, _⟩ := flS_in R5.out
                have c0 := C9.out.b3.cell 0 _ rfl
                have f0 := C9.out.b3.frozen 0
                have c1 := C9.out.b3.cell 1 _ rfl
                have f1 := C9.out.b3.frozen 1
                have c2 := C9.out.b3.cell 2 _ rfl
                have f2 := C9.out.b3.frozen 2
                have c3 := C9.out.b3.cell 3 _ rfl
                have f3 := C9.out.b3.frozen 3
                have c4 := C9.out.b3.cell 4 _ rfl
                have f4 := C9.out.b3.frozen 4
                have c5 := C9.out.b3.cell 5 _ rfl
                have f5 := C9.out.b3.frozen 5
                have c6 := C9.out.b3.cell 6 _ rfl
                have f6 := C9.out.b3.frozen 6
                have c7 := C9.out.b3.cell 7 _ rfl
                have f7 := C9.out.b3.frozen 7
                have c8 := C9.out.b3.cell 8 _ rfl
                have f8 := C9.out.b3.frozen 8
                replace R5 := hid (owns_set R5.out 5 (.slice a5 sl.length q5) (b := w.heap.size + 1) (by omega))
                have C10 := hid ((C9.out.set hlt 5 (.slice a5 sl.length q5)))
                go_wp2_with fail
                have hsz := C10.out.lt
                refine (ints_any 4 rb s k7 _ C10.out.rd hk7 hs (by omega)).mono ?_
                rintro e w8 ⟨hg, ⟨ow, k8, v, hp, hk8, rfl, hrow, hR⟩ | ⟨n, hp, rfl⟩⟩
                · have HP8 := hid hp
                  replace R5 := hid (owns_kept R5.out hg (by omega))
                  have C11 := hid (C10.out.call hlt hg hR)
                  clear hg hp hR C10
                  clear c0 c1 c2 c3 c4 c5 c6 c7 c8 f0 f1 f2 f3 f4 f5 f6 f7 f8
                  have R6 : Hid (w8.ownsRow (w.heap.size + 2) 3 1 v ow.length (flI ow)) := hid (owns_mono hrow hsz)
                  clear hrow hsz
                  obtain ⟨a6, q6, rfl, _⟩ := flI_in R6.out
                  have c0 := C11.out.b3.cell 0 _ rfl
                  have f0 := C11.out.b3.frozen 0
                  have c1 := C11.out.b3.cell 1 _ rfl
                  have f1 := C11.out.b3.frozen 1
                  have c2 := C11.out.b3.cell 2 _ rfl
                  have f2 := C11.out.b3.frozen 2
                  have c3 := C11.out.b3.cell 3 _ rfl
                  have f3 := C11.out.b3.frozen 3
                  have c4 := C11.out.b3.cell 4 _ rfl
                  have f4 := C11.out.b3.frozen 4
                  have c5 := C11.out.b3.cell 5 _ rfl
                  have f5 := C11.out.b3.frozen 5
                  have c6 := C11.out.b3.cell 6 _ rfl
                  have f6 := C11.out.b3.frozen 6
                  have c7 := C11.out.b3.cell 7 _ rfl
                  have f7 := C11.out.b3.frozen 7
                  have c8 := C11.out.b3.cell 8 _ rfl
                  have f8 := C11.out.b3.frozen 8
                  replace R5 := hid (owns_set R5.out 6 (.slice a6 ow.length q6) (b := w.heap.size + 1) (by omega))
                  replace R6 := hid (owns_set R6.out 6 (.slice a6 ow.length q6) (b := w.heap.size + 1) (by omega))
                  have C12 := hid ((C11.out.set hlt 6 (.slice a6 ow.length q6)))
                  go_wp2_with fail
                  have hsz := C12.out.lt
                  refine (chans_any 4 rb s k8 _ C12.out.rd hk8 hs (by omega)).mono ?_
                  rintro e w9 ⟨hg, ⟨ch, k9, v, hp, hk9, rfl, hrow, hR⟩ | ⟨n, hp, rfl⟩⟩
                  · have HP9 := hid hp
                    replace R5 := hid (owns_kept R5.out hg (by omega))
                    replace R6 := hid (owns_kept R6.out hg (by omega))
                    have C13 := hid (C12.out.call hlt hg hR)
                    clear hg hp hR C12
                    clear c0 c1 c2 c3 c4 c5 c6 c7 c8 f0 f1 f2 f3 f4 f5 f6 f7 f8
                    have R7 : Hid (w9.ownsRow (w.heap.size + 2) 125 3 v ch.length (flC ch)) := hid (owns_mono hrow hsz)
                    clear hrow hsz
                    obtain ⟨a7, q7, rfl, _⟩ := flC_in R7.out
                    have c0 := C13.out.b3.cell 0 _ rfl
                    have f0 := C13.out.b3.frozen 0
                    have c1 := C13.out.b3.cell 1 _ rfl
                    have f1 := C13.out.b3.frozen 1
                    have c2 := C13.out.b3.cell 2 _ rfl
                    have f2 := C13.out.b3.frozen 2
                    have c3 := C13.out.b3.cell 3 _ rfl
                    have f3 := C13.out.b3.frozen 3
                    have c4 := C13.out.b3.cell 4 _ rfl
                    have f4 := C13.out.b3.frozen 4
                    have c5 := C13.out.b3.cell 5 _ rfl
                    have f5 := C13.out.b3.frozen 5
                    have c6 := C13.out.b3.cell 6 _ rfl
                    have f6 := C13.out.b3.frozen 6
                    have c7 := C13.out.b3.cell 7 _ rfl
                    have f7 := C13.out.b3.frozen 7
                    have c8 := C13.out.b3.cell 8 _ rfl
                    have f8 := C13.out.b3.frozen 8
                    replace R5 := hid (owns_set R5.out 7 (.slice a7 ch.length q7) (b := w.heap.size + 1) (by omega))
                    replace R6 := hid (owns_set R6.out 7 (.slice a7 ch.length q7) (b := w.heap.size + 1) (by omega))
                    replace R7 := hid (owns_set R7.out 7 (.slice a7 ch.length q7) (b := w.heap.size + 1) (by omega))
                    have C14 := hid ((C13.out.set hlt 7 (.slice a7 ch.length q7)))
                    go_wp2_with fail
                    have hsz := C14.out.lt
                    refine (tasks_any 6 rb s k9 _ C14.out.rd hk9 hs (by omega)).mono ?_
                    rintro e w10 ⟨hg, ⟨ta, k10, v, hp, hk10, rfl, hrow, hR⟩ | ⟨n, hp, rfl⟩⟩
                    · have HP10 := hid hp
                      replace R5 := hid (owns_kept R5.out hg (by omega))
                      replace R6 := hid (owns_kept R6.out hg (by omega))
                      replace R7 := hid (owns_kept R7.out hg (by omega))
                      have C15 := hid (C14.out.call hlt hg hR)
                      clear hg hp hR C14
                      clear c0 c1 c2 c3 c4 c5 c6 c7 c8 f0 f1 f2 f3 f4 f5 f6 f7 f8
                      have R8 : Hid (w10.ownsRow (w.heap.size + 2) 108 4 v ta.length (flT ta)) := hid (owns_mono hrow hsz)
                      clear hrow hsz
                      obtain ⟨a8, q8, rfl, _⟩ := flT_in R8.out
                      have c0 := C15.out.b3.cell 0 _ rfl
                      have f0 := C15.out.b3.frozen 0
                      have c1 := C15.out.b3.cell 1 _ rfl
                      have f1 := C15.out.b3.frozen 1
                      have c2 := C15.out.b3.cell 2 _ rfl
                      have f2 := C15.out.b3.frozen 2
                      have c3 := C15.out.b3.cell 3 _ rfl
                      have f3 := C15.out.b3.frozen 3
                      have c4 := C15.out.b3.cell 4 _ rfl
                      have f4 := C15.out.b3.frozen 4
                      have c5 := C15.out.b3.cell 5 _ rfl
                      have f5 := C15.out.b3.frozen 5
                      have c6 := C15.out.b3.cell 6 _ rfl
                      have f6 := C15.out.b3.frozen 6
                      have c7 := C15.out.b3.cell 7 _ rfl
                      have f7 := C15.out.b3.frozen 7
                      have c8 := C15.out.b3.cell 8 _ rfl
                      have f8 := C15.out.b3.frozen 8
                      replace R5 := hid (owns_set R5.out 8 (.slice a8 ta.length q8) (b := w.heap.size + 1) (by omega))
                      replace R6 := hid (owns_set R6.out 8 (.slice a8 ta.length q8) (b := w.heap.size + 1) (by omega))
                      replace R7 := hid (owns_set R7.out 8 (.slice a8 ta.length q8) (b := w.heap.size + 1) (by omega))
                      replace R8 := hid (owns_set R8.out 8 (.slice a8 ta.length q8) (b := w.heap.size + 1) (by omega))
                      have C16 := hid ((C15.out.set hlt 8 (.slice a8 ta.length q8)))
                      go_wp2_with fail
                      refine (end_any rb s k10 _ C16.out.rd hk10 hs).mono ?_
                      rintro e w11 ⟨hg, ⟨x9, k11, v, hp, hk11, rfl, rfl, hR⟩ | ⟨n, hp, rfl⟩⟩
                      · have HP11 := hid hp
                        replace R5 := hid (owns_kept R5.out hg (by omega))
                        replace R6 := hid (owns_kept R6.out hg (by omega))
                        replace R7 := hid (owns_kept R7.out hg (by omega))
                        replace R8 := hid (owns_kept R8.out hg (by omega))
                        have C17 := hid (C16.out.call hlt hg hR)
                        clear hg hp hR C16
                        clear c0 c1 c2 c3 c4 c5 c6 c7 c8 f0 f1 f2 f3 f4 f5 f6 f7 f8
                        have c0 := C17.out.b3.cell 0 _ rfl
                        have f0 := C17.out.b3.frozen 0
                        have c1 := C17.out.b3.cell 1 _ rfl
                        have f1 := C17.out.b3.frozen 1
                        have c2 := C17.out.b3.cell 2 _ rfl
                        have f2 := C17.out.b3.frozen 2
                        have c3 := C17.out.b3.cell 3 _ rfl
                        have f3 := C17.out.b3.frozen 3
                        have c4 := C17.out.b3.cell 4 _ rfl
                        have f4 := C17.out.b3.frozen 4
                        have c5 := C17.out.b3.cell 5 _ rfl
                        have f5 := C17.out.b3.frozen 5
                        have c6 := C17.out.b3.cell 6 _ rfl
                        have f6 := C17.out.b3.frozen 6
                        have c7 := C17.out.b3.cell 7 _ rfl
                        have f7 := C17.out.b3.frozen 7
                        have c8 := C17.out.b3.cell 8 _ rfl
                        have f8 := C17.out.b3.frozen 8
                        have HC : Hid (OwnConf w11 (w.heap.size + 2) (.slice a5 sl.length q5) (.slice a6 ow.length q6) (.slice a7 ch.length q7) (.slice a8 ta.length q8) ⟨xs, xw, xd, xp, xq, sl, ow, ch, ta⟩) := hid ⟨R5.out, R6.out, R7.out, R8.out⟩
                        have HC2 := hid (((((((((HC.out.set 0 (.int .i64 xs) (b := w.heap.size) (by omega)).set 1 (.int .i64 xw) (b := w.heap.size) (by omega)).set 2 (.int .i64 xd) (b := w.heap.size) (by omega)).set 3 (.int .i64 xp) (b := w.heap.size) (by omega)).set 4 (.int .i64 xq) (b := w.heap.size) (by omega)).set 5 (.slice a5 sl.length q5) (b := w.heap.size) (by omega)).set 6 (.slice a6 ow.length q6) (b := w.heap.size) (by omega)).set 7 (.slice a7 ch.length q7) (b := w.heap.size) (by omega)).set 8 (.slice a8 ta.length q8) (b := w.heap.size) (by omega))
                        have HB := hid (((((((((C17.out.b2.setCell 0 (.int .i64 xs)).setCell 1 (.int .i64 xw)).setCell 2 (.int .i64 xd)).setCell 3 (.int .i64 xp)).setCell 4 (.int .i64 xq)).setCell 5 (.slice a5 sl.length q5)).setCell 6 (.slice a6 ow.length q6)).setCell 7 (.slice a7 ch.length q7)).setCell 8 (.slice a8 ta.length q8))
                        have e0 := C17.out.b2.cell 0 _ rfl
                        have z0 := C17.out.b2.frozen 0
                        have e1 := C17.out.b2.cell 1 _ rfl
                        have z1 := C17.out.b2.frozen 1
                        have e2 := C17.out.b2.cell 2 _ rfl
                        have z2 := C17.out.b2.frozen 2
                        have e3 := C17.out.b2.cell 3 _ rfl
                        have z3 := C17.out.b2.frozen 3
                        have e4 := C17.out.b2.cell 4 _ rfl
                        have z4 := C17.out.b2.frozen 4
                        have e5 := C17.out.b2.cell 5 _ rfl
                        have z5 := C17.out.b2.frozen 5
                        have e6 := C17.out.b2.cell 6 _ rfl
                        have z6 := C17.out.b2.frozen 6
                        have e7 := C17.out.b2.cell 7 _ rfl
                        have z7 := C17.out.b2.frozen 7
                        have e8 := C17.out.b2.cell 8 _ rfl
                        have z8 := C17.out.b2.frozen 8
                        have HG := hid (grow_set (grow_set (grow_set (grow_set (grow_set (grow_set (grow_set (grow_set (grow_set C17.out.g w.heap.size 0 (.int .i64 xs) (Nat.le_refl _)) w.heap.size 1 (.int .i64 xw) (Nat.le_refl _)) w.heap.size 2 (.int .i64 xd) (Nat.le_refl _)) w.heap.size 3 (.int .i64 xp) (Nat.le_refl _)) w.heap.size 4 (.int .i64 xq) (Nat.le_refl _)) w.heap.size 5 (.slice a5 sl.length q5) (Nat.le_refl _)) w.heap.size 6 (.slice a6 ow.length q6) (Nat.le_refl _)) w.heap.size 7 (.slice a7 ch.length q7) (Nat.le_refl _)) w.heap.size 8 (.slice a8 ta.length q8) (Nat.le_refl _))
                        have HR := hid (Rd.set (Rd.set (Rd.set (Rd.set (Rd.set (Rd.set (Rd.set (Rd.set (Rd.set C17.out.rd w.heap.size 0 (.int .i64 xs) (by omega)) w.heap.size 1 (.int .i64 xw) (by omega)) w.heap.size 2 (.int .i64 xd) (by omega)) w.heap.size 3 (.int .i64 xp) (by omega)) w.heap.size 4 (.int .i64 xq) (by omega)) w.heap.size 5 (.slice a5 sl.length q5) (by omega)) w.heap.size 6 (.slice a6 ow.length q6) (by omega)) w.heap.size 7 (.slice a7 ch.length q7) (by omega)) w.heap.size 8 (.slice a8 ta.length q8) (by omega))
                        clear HC R5 R6 R7 R8
                        go_wp2
                        have d0 := HB.out.cell 0 _ rfl
                        have d1 := HB.out.cell 1 _ rfl
                        have d2 := HB.out.cell 2 _ rfl
                        have d3 := HB.out.cell 3 _ rfl
                        have d4 := HB.out.cell 4 _ rfl
                        have d5 := HB.out.cell 5 _ rfl
                        have d6 := HB.out.cell 6 _ rfl
                        have d7 := HB.out.cell 7 _ rfl
                        have d8 := HB.out.cell 8 _ rfl
                        refine bodyPost_ret (v := .agg #[(.int .i64 xs), (.int .i64 xw), (.int .i64 xd), (.int .i64 xp), (.int .i64 xq), (.slice a5 sl.length q5), (.slice a6 ow.length q6), (.slice a7 ch.length q7), (.slice a8 ta.length q8)]) (by simp [results, Try.results127, go_sem, d0, d1, d2, d3, d4, d5, d6, d7, d8]) rfl ⟨HG.out, .inl ⟨⟨xs, xw, xd, xp, xq, sl, ow, ch, ta⟩, k11, _, by rw [pConf, bnd_ok HP1.out, bnd_ok HP2.out, bnd_ok HP3.out, bnd_ok HP4.out, bnd_ok HP5.out, bnd_ok HP6.out, bnd_ok HP7.out, bnd_ok HP8.out, bnd_ok HP9.out, bnd_ok HP10.out, bnd_ok HP11.out], hk11, rfl, ⟨_, _, _, _, rfl, HC2.out⟩, HR.out⟩⟩
                      · exact ⟨rfl, grow_trans C16.out.g hg, .inr ⟨n, by rw [pConf, bnd_ok HP1.out, bnd_ok HP2.out, bnd_ok HP3.out, bnd_ok HP4.out, bnd_ok HP5.out, bnd_ok HP6.out, bnd_ok HP7.out, bnd_ok HP8.out, bnd_ok HP9.out, bnd_ok HP10.out, bnd_err hp], rfl⟩⟩
                    · exact ⟨rfl, grow_trans C14.out.g hg, .inr ⟨n, by rw [pConf, bnd_ok HP1.out, bnd_ok HP2.out, bnd_ok HP3.out, bnd_ok HP4.out, bnd_ok HP5.out, bnd_ok HP6.out, bnd_ok HP7.out, bnd_ok HP8.out, bnd_ok HP9.out, bnd_err hp], rfl⟩⟩
                  · exact ⟨rfl, grow_trans C12.out.g hg, .inr ⟨n, by rw [pConf, bnd_ok HP1.out, bnd_ok HP2.out, bnd_ok HP3.out, bnd_ok HP4.out, bnd_ok HP5.out, bnd_ok HP6.out, bnd_ok HP7.out, bnd_ok HP8.out, bnd_err hp], rfl⟩⟩
                · exact ⟨rfl, grow_trans C10.out.g hg, .inr ⟨n, by rw [pConf, bnd_ok HP1.out, bnd_ok HP2.out, bnd_ok HP3.out, bnd_ok HP4.out, bnd_ok HP5.out, bnd_ok HP6.out, bnd_ok HP7.out, bnd_err hp], rfl⟩⟩
              · exact ⟨rfl, grow_trans C8.out.g hg, .inr ⟨n, by rw [pConf, bnd_ok HP1.out, bnd_ok HP2.out, bnd_ok HP3.out, bnd_ok HP4.out, bnd_ok HP5.out, bnd_ok HP6.out, bnd_err hp], rfl⟩⟩
            · exact ⟨rfl, grow_trans C6.out.g hg, .inr ⟨n, by rw [pConf, bnd_ok HP1.out, bnd_ok HP2.out, bnd_ok HP3.out, bnd_ok HP4.out, bnd_ok HP5.out, bnd_err hp], rfl⟩⟩
          · exact ⟨rfl, grow_trans C5.out.g hg, .inr ⟨n, by rw [pConf, bnd_ok HP1.out, bnd_ok HP2.out, bnd_ok HP3.out, bnd_ok HP4.out, bnd_err hp], rfl⟩⟩
        · exact ⟨rfl, grow_trans C3.out.g hg, .inr ⟨n, by rw [pConf, bnd_ok HP1.out, bnd_ok HP2.out, bnd_ok HP3.out, bnd_err hp], rfl⟩⟩
      · exact ⟨rfl, grow_trans C2.out.g hg, .inr ⟨n, by rw [pConf, bnd_ok HP1.out, bnd_ok HP2.out, bnd_err hp], rfl⟩⟩
    · exact ⟨rfl, grow_trans C1.out.g hg, .inr ⟨n, by rw [pConf, bnd_ok HP1.out, bnd_err hp], rfl⟩⟩
  · exact ⟨rfl, grow_trans C0.out.g hg, .inr ⟨n, by rw [pConf, bnd_err hp], rfl⟩⟩

end Go.Proofs.Ytaellaconpaejaa
