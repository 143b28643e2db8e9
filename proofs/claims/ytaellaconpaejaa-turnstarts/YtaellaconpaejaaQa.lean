/- Walks: the reader of images: one byte. -/
import Derived.Test.YtaellaconpaejaaOe
import Derived.Test.YtaellaconpaejaaPb
import Derived.BigQuiet
import Derived.WalkLawsBesides
set_option linter.unusedVariables false
namespace Go.Proofs.Ytaellaconpaejaa
open Go.RowKit

/-- A reader: its image, and where it stands. -/
def Rd (w : World) (rb : Nat) (s : ByteArray) (k : Nat) : Prop := RowAt w rb 172 [.string s, .int .i64 k]
/-- A reader gives up. -/
abbrev bad (n : Nat) : Ending := .panicked [{ v := .iface 169 (.agg #[.int .i64 n]), recovered := false }]

/-- What a call of a reader's method comes to. -/
def RdPost {α : Type} (w : World) (rb : Nat) (s : ByteArray) (r : Out α) (V : α → Value → World → Prop) (e : Ending) (w' : World) : Prop :=
  w.grownBy w' (some rb) ∧ ((∃ x k v, r = .ok (x, k) ∧ k ≤ s.size ∧ e = .returned v ∧ V x v w' ∧ Rd w' rb s k) ∨ ∃ n, r = .error n ∧ e = bad n)

def isByte (x : Int) (v : Value) (_ : World) : Prop := v = .int .i64 x ∧ 0 ≤ x ∧ x ≤ 255

theorem nums_at (s : ByteArray) (k : Nat) (h : k < s.size) : (nums s)[k]? = some ((s.data[k]'h).toNat : Int) := by
  have h' : k < s.data.size := h
  simp only [nums, List.getElem?_map, Array.getElem?_toList, Array.getElem?_eq_getElem h', Option.map_some]

theorem nums_len (s : ByteArray) : (nums s).length = s.size := by simp only [nums, List.length_map, Array.length_toList]; rfl

theorem grow_refl (w : World) (row : Option Nat) : w.grownBy w row := ⟨rfl, rfl, rfl, Nat.le_refl _, fun _ _ _ => rfl⟩
theorem grow_drewN (w : World) (n : Nat) (row : Option Nat) : w.grownBy (w.drewN n) row := ⟨rfl, rfl, rfl, Nat.le_refl _, fun _ _ _ => rfl⟩
theorem grow_trans {w w1 w2 : World} {row : Option Nat} (h : w.grownBy w1 row) (k : w1.grownBy w2 row) : w.grownBy w2 row :=
  ⟨k.os.trans h.os, k.tape.trans h.tape, k.output.trans h.output, Nat.le_trans h.size k.size, fun i h1 h2 => (k.block i (Nat.lt_of_lt_of_le h1 h.size) h2).trans (h.block i h1 h2)⟩
theorem RowAt.drewN {w : World} {g : Nat} {t : TypeId} {L : List Value} (h : RowAt w g t L) (n : Nat) : RowAt (w.drewN n) g t L := h

theorem p1_end (s : ByteArray) : p1 (nums s) s.size = .error s.size := by
  rw [p1, List.getElem?_eq_none (by rw [nums_len]; exact Nat.le_refl _)]
theorem p1_at (s : ByteArray) (k : Nat) (h : k < s.size) : p1 (nums s) k = .ok (((s.data[k]'h).toNat : Int), k + 1) := by
  rw [p1, nums_at s k h]

set_option maxRecDepth 100000 in
set_option maxHeartbeats 1000000 in
theorem one_any (rb : Nat) (s : ByteArray) (k : Nat) (w : World) (hR : Rd w rb s k) (hk : k ≤ s.size) (hs : s.size ≤ 200) :
    Calls Try.prog 155 #[.pointer (some ⟨rb, 0, none⟩)] w (RdPost w rb s (p1 (nums s) k) isByte) := by
  have HR := hid hR
  have hc0 : w.cell? ⟨rb, 0, none⟩ = some (.string s) := RowAt.cell hR 0 _ rfl
  have hc1 : w.cell? ⟨rb, 1, none⟩ = some (.int .i64 k) := RowAt.cell hR 1 _ rfl
  have hf1 := RowAt.frozen hR 1
  have hlt := RowAt.lt hR
  clear hR
  by_cases hke : k = s.size
  · subst hke
    go_enter Try.func155, Try.ntmps155
    go_wp2_with fail
    go_quiet (fail)
    go_wp2
    exact ⟨rfl, grow_drewN _ _ _, .inr ⟨_, p1_end s, rfl⟩⟩
  · have hkl : k < s.size := by omega
    go_enter Try.func155, Try.ntmps155
    go_wp2_with fail
    go_quiet (fail)
    go_wp2_with fail
    go_quiet (fail)
    go_wp2
    have hb : ((s.data[k]'hkl).toNat : Int) ≤ 255 := by have := (s.data[k]'hkl).toNat_lt; omega
    have e1 : wrap64 ((s[k]'hkl).toNat : Int) = ((s.data[k]'hkl).toNat : Int) := by
      show wrap64 ((s.data[k]'hkl).toNat : Int) = _
      unfold wrap64; omega
    rw [e1]
    refine bodyPost_ret (results_tmp rfl _ _ _) rfl ⟨?_, .inl ⟨_, k + 1, _, p1_at s k hkl, by omega, rfl, ⟨rfl, by omega, hb⟩, ?_⟩⟩
    · exact grow_trans (grow_trans (grow_drewN _ _ _) (grow_setCell _ _ _ _)) (grow_drewN _ _ _)
    · exact RowAt.drewN (RowAt.setCell (RowAt.drewN HR.out _) 1 _) _

theorem shl_or (x y : Int) (h0 : 0 ≤ x) (h1 : x ≤ 255) (h2 : 0 ≤ y) (h3 : y ≤ 255) : bits .or .i64 (x * 256) y = 256 * x + y := by
  rw [bits_join .i64 62 (by decide) (fun n h0 h1 => by rw [IntKind.wrap_i64]; omega) 8 (x * 256) y (by omega) (by omega) (by omega) h2 (by omega) (by omega)]
  omega

def isWord (x : Int) (v : Value) (_ : World) : Prop := v = .int .i64 x ∧ 0 ≤ x ∧ x ≤ 65535

set_option maxRecDepth 100000 in
set_option maxHeartbeats 1000000 in
theorem two_any (rb : Nat) (s : ByteArray) (k : Nat) (w : World) (hR : Rd w rb s k) (hk : k ≤ s.size) (hs : s.size ≤ 200) :
    Calls Try.prog 170 #[.pointer (some ⟨rb, 0, none⟩)] w (RdPost w rb s (p2 (nums s) k) isWord) := by
  go_enter Try.func170, Try.ntmps170
  go_wp2_with fail
  refine (one_any rb s k w hR hk hs).mono ?_
  rintro e w1 ⟨hg, ⟨x, k1, v, hp, hk1, rfl, ⟨rfl, hx0, hx1⟩, hR1⟩ | ⟨n, hp, rfl⟩⟩
  · have HG := hid hg
    have HP := hid hp
    clear hg hp
    go_wp2_with fail
    refine (one_any rb s k1 w1 hR1 hk1 hs).mono ?_
    rintro e w2 ⟨hg, ⟨y, k2, v, hp, hk2, rfl, ⟨rfl, hy0, hy1⟩, hR2⟩ | ⟨n, hp, rfl⟩⟩
    · have HG2 := hid hg
      have HP2 := hid hp
      clear hg hp
      go_wp2
      rw [shl_or x y hx0 hx1 hy0 hy1]
      refine bodyPost_ret (results_tmp rfl _ _ _) rfl ⟨grow_trans HG.out HG2.out, .inl ⟨_, k2, _, by rw [p2, bnd_ok HP.out, bnd_ok HP2.out], hk2, rfl, ⟨rfl, by omega, by omega⟩, hR2⟩⟩
    · exact ⟨rfl, grow_trans HG.out hg, .inr ⟨n, by rw [p2, bnd_ok HP.out, bnd_err hp], rfl⟩⟩
  · exact ⟨rfl, hg, .inr ⟨n, by rw [p2, bnd_err hp], rfl⟩⟩
end Go.Proofs.Ytaellaconpaejaa
