/- The law MailOrder, walked. -/
import Derived.Test.YtcdglnbkpklefaaXl
import Derived.Deep.DeepCutAuto
set_option linter.unusedVariables false
namespace Go.Proofs.Ytcdglnbkpklefaa
open Go.RowKit

/-- Lists of numbers, in a row of cells. -/
def LLIn (w : World) (p : Option Addr) (LL : List (List Int)) : Prop :=
  ∀ i (h : i < LL.length), ∃ b o a c, p = some ⟨b, o, none⟩ ∧ w.cell? ⟨b, o + i, none⟩ = some (.slice a LL[i].length c) ∧ IntsIn w a LL[i] ∧ LL[i].length ≤ c ∧ LL[i].length ≤ 140737488355328

set_option maxHeartbeats 400000 in
theorem choose_any (c : Int) (w : World) (h1 : -9223372036854775808 ≤ c) (h2 : c ≤ 9223372036854775807) :
    Calls Try.prog 47 #[.int .i64 c, .int .i64 4] w fun e w' => ∃ n : Nat, n ≤ 3 ∧ e = .returned (.int .i64 (n : Int)) ∧ w = w' := by
  by_cases hc : c < 0
  · have e1 : wrap64 (c + 1) = c + 1 := by unfold wrap64; omega
    have e2 : wrap64 (-(c + 1)) = -(c + 1) := by unfold wrap64; omega
    have e3 : (-(c + 1)).tmod 4 = -(c + 1) % 4 := Int.tmod_eq_emod_of_nonneg (by omega)
    have e4 : (-1 + -c).tmod 4 = -(c + 1) % 4 := by rw [Int.tmod_eq_emod_of_nonneg (by omega)]; congr 1; omega
    go_enter Try.func47, Try.ntmps47
    go_wp2
    go_ret
    refine ⟨(-(c + 1) % 4).toNat, by omega, ret_int ?_, rfl⟩
    omega
  · have e3 : c.tmod 4 = c % 4 := Int.tmod_eq_emod_of_nonneg (by omega)
    go_enter Try.func47, Try.ntmps47
    go_wp2
    go_ret
    refine ⟨(c % 4).toNat, by omega, ret_int ?_, rfl⟩
    omega

set_option maxRecDepth 100000 in
set_option maxHeartbeats 1000000 in
theorem order_out (size : Int) (x y : Value) (w : World) (hs : size < 1 ∨ 4 < size) :
    Calls Try.prog 10 #[.int .i64 size, x, y] w fun e w' => e = .returned (.bool true) ∧ Below w.heap.size w w' := by
  rcases hs with hs | hs
  · go_enter Try.func10, Try.ntmps10
    go_wp2_with fail
    refine (mailBegun_any _).mono ?_
    rintro e w1 ⟨rfl, hb1⟩
    go_wp2_with fail
    refine (mailBegun_any _).mono ?_
    rintro e w2 ⟨rfl, hb2⟩
    go_wp2
    go_ret
    exact ⟨rfl, btrans hb1 hb2⟩
  · have hs1 : ¬ size < 1 := by omega
    have hs2 : size > 4 := hs
    go_enter Try.func10, Try.ntmps10
    go_wp2_with fail
    refine (mailBegun_any _).mono ?_
    rintro e w1 ⟨rfl, hb1⟩
    go_wp2_with fail
    refine (mailBegun_any _).mono ?_
    rintro e w2 ⟨rfl, hb2⟩
    go_wp2
    go_ret
    exact ⟨rfl, btrans hb1 hb2⟩
set_option maxRecDepth 100000 in
set_option maxHeartbeats 8000000 in
theorem order_in (size : Int) (p : Option Addr) (LL : List (List Int)) (cp : Nat) (pg : Option Addr) (GT : List Int) (cg : Nat) (w : World) (hs1 : 1 ≤ size) (hs4 : size ≤ 4) (hLL : LLIn w p LL) (hN : LL.length * 24 ≤ 140737488351232) (hG : IntsIn w pg GT) (hgl : GT.length ≤ 9223372036854775807) (hgb : ∀ x ∈ GT, -9223372036854775808 ≤ x ∧ x ≤ 9223372036854775807) :
    Calls Try.prog 10 #[.int .i64 size, .slice p LL.length cp, .slice pg GT.length cg] w fun e w' => e = .returned (.bool true) ∧ Below w.heap.size w w' := by
  have h1 : ¬ size < 1 := by omega
  have h2 : ¬ size > 4 := by omega
  have HLL := hid hLL
  have HGT := hid hG
  have HGB := hid hgb
  have HNl : Hid (LL.length * 24 ≤ 140737488351232) := hid hN
  have hNi : LL.length ≤ 9223372036854775807 := by omega
  clear hLL hG hgb hN
  go_enter Try.func10, Try.ntmps10
  go_wp2_with fail
  refine (mailBegun_any _).mono ?_
  rintro e w1 ⟨rfl, hb1⟩
  have M0 : Hid (Mo w (w1.alloc (.cells #[.slice none 0 0, .int .i64 0] 63)) w1.heap.size none 0 [] 0 (.slice none 0 0) [] (.slice none 0 0) []) := by
    refine hid ⟨btrans hb1 (below_new _ _), rowAt_new2 w1 _ [.slice none 0 0, .int .i64 0] 63 rfl, fun i hi => absurd hi (by simp), by simp, World.ownsRow_nil _ _ _ _, World.ownsRow_nil _ _ _ _, fun g e => by simp [Value.ownBlock] at e, fun x o e => by simp at e, fun x o e => by simp at e, fun x o e => by simp at e, hb1.size⟩
  clear hb1
  go_wp2
  generalize w1.heap.size = b at *
  generalize w1.alloc _ = W0 at *
  go_loopw [8, 9, 10] (fun v8 v9 i wr => ∃ (k : Nat) (a : Option Addr) (cap : Nat) (V : List Int) (lost : Int) (K G : List Int), k ≤ LL.length ∧ i = .int .i64 k ∧ Mo w wr b a cap V lost v8 K v9 G ∧ K = G ++ V ∧ ckR V lost size = 0 ∧ G.length ≤ 3 * k) (fun _ _ i _ => LL.length - (intOf i).toNat)
  case atStart => exact ⟨0, none, 0, [], 0, [], [], Nat.zero_le _, rfl, M0.out, rfl, ckR_of hs1 hs4 (by simp; omega) rfl (by omega) (by omega), by simp⟩
  case round =>
    clear M0

    obtain ⟨k, a, cap, V, lost, K, G, hk, rfl, hM, hK, hck, hGk⟩ := hrel
    have HM := hid hM
    have HK := hid hK
    have HCK := hid hck
    have HGk := hid hGk
    obtain ⟨-, hvs, hval, hlo, hlo2⟩ := ckR_ok hck
    have c0 := hM.r7.cell 0 _ rfl
    have c1 := hM.r7.cell 1 _ rfl
    have g0 := hM.r7.frozen 0
    have g1 := hM.r7.frozen 1
    have hbl := hM.r7.lt
    have hlb := hM.lb
    clear hM hK hck hGk hval
    by_cases hlt : k < LL.length
    · obtain ⟨bl, ol, al, cl, rfl, hcl, hIl, hLc, hLm⟩ := HLL.out k hlt
      have hcl' := bkeep HM.out.below hcl (Nat.le_refl _)
      have IL := hid (hIl.keep HM.out.below)
      have ILw := hid hIl
      have hk1 : (k : Int) < (LL.length : Int) := by omega
      have hk0 : (0 : Int) ≤ (k : Int) := by omega
      have hbl2 : bl < w.heap.size := World.block_lt_of_cell? _ _ hcl
      have HCLw := hid hcl
      have hsz := HM.out.below.size
      clear hcl hIl
      generalize hLk : LL[k] = L at *
      have HLk := hid hLk
      clear hLk
      have hbz : Below wr.heap.size wr wr.drew := (Below.refl _ _).drew
      have hbz2 : Below wr.heap.size wr (wr.alloc (.cells #[.slice none 0 0, .int .i64 0] 63)).drew := (below_new _ _).drew
      have RZ : Hid (RowAt (wr.alloc (.cells #[.slice none 0 0, .int .i64 0] 63)).drew wr.heap.size 63 [.slice none 0 0, .int .i64 0]) := hid (rowAt_new2 wr _ [.slice none 0 0, .int .i64 0] 63 rfl)
      have HS : Hid (∀ w', Below wr.heap.size wr w' → w'.cell? ⟨b, 0, none⟩ = some (.slice a V.length cap) ∧ w'.cell? ⟨b, 1, none⟩ = some (.int .i64 lost) ∧ w'.cell? ⟨bl, ol + k, none⟩ = some (.slice al L.length cl)) := hid fun w' hb => ⟨bkeep hb c0 (Nat.le_refl _), bkeep hb c1 (Nat.le_refl _), bkeep hb hcl' (Nat.le_refl _)⟩
      cases hal : allR L 0 255 with
      | false =>
        have HAL := hid hal
        clear hal
        go_upto_region 9 with fail
        go_cut [12, 13] (fun t u wx => u = .int .i64 3 ∧ Below wr.heap.size wr wx)
        case first =>
          go_region_held3 (fun w' => w'.cell? ⟨b, 0, none⟩ = some (.slice a V.length cap) ∧ w'.cell? ⟨b, 1, none⟩ = some (.int .i64 lost) ∧ w'.cell? ⟨bl, ol + k, none⟩ = some (.slice al L.length cl))
            (first | exact HS.out _ (btrans hB2 (below_new _ _)) | exact HS.out _ hB3 | exact HS.out _ hB2 | exact HS.out _ hbz | exact HS.out _ hbz2 | go_keep)
            (first
              | (go_at_call 33; refine (commit_wrong a V cap lost size al L cl _ (HM.out.vals.keep hbz) (by omega) (IL.out.keep hbz) (by omega) HCK.out HAL.out).mono ?_; rintro e w2 ⟨rfl, hb2⟩; have hB2 := btrans hbz hb2)
              | (go_at_call 33; refine (commit_wrong a V cap lost size al L cl _ (HM.out.vals.keep hbz2) (by omega) (IL.out.keep hbz2) (by omega) HCK.out HAL.out).mono ?_; rintro e w2 ⟨rfl, hb2⟩; have hB2 := btrans hbz2 hb2; have hZ := (RZ.out.below hb2 (Nat.le_refl _)); have u0 := hZ.cell 0 _ rfl; have u1 := hZ.cell 1 _ rfl; have f0 := hZ.frozen 0; have f1 := hZ.frozen 1; have hB3 : Below wr.heap.size wr ((w2.setCell ⟨wr.heap.size, 0, none⟩ (.slice none 0 0)).setCell ⟨wr.heap.size, 1, none⟩ (.int .i64 0)) := (hB2.setCell (p := ⟨wr.heap.size, 0, none⟩) (Nat.le_refl _) _).setCell (p := ⟨wr.heap.size, 1, none⟩) (Nat.le_refl _) _))
          all_goals
            go_wp2
            go_meet
            case rel => first | exact ⟨rfl, btrans hB2 (below_new _ _)⟩ | exact ⟨rfl, hB3⟩ | exact ⟨rfl, hB2⟩
        case rest =>
          obtain ⟨rfl, hB2⟩ := hcut
          have M3 := hid (HM.out.keep hB2)
          clear HS HM c0 c1 g0 g1 hcl' hB2 hbz
          go_wp2
          go_roundw
          case rel => exact ⟨k + 1, a, cap, V, lost, K, G, by omega, by go_num, M3.out, HK.out, HCK.out, by have := HGk.out; omega⟩
          case measure => simp [intOf]; omega
      | true =>
        have HAL := hid hal
        clear hal
        have hRR : size = ((V.length + roomR V size : Nat) : Int) := by unfold roomR; omega
        have HRR := hid hRR
        have HCK2 := hid (ckR_com HCK.out HAL.out)
        have hVl := comV_len V L (roomR V size) L.length (Nat.le_refl _)
        have HCV : Hid (comV V L (roomR V size) L.length = V ++ L.take (min L.length (roomR V size))) := hid rfl
        have HCL : Hid (comL lost (roomR V size) L.length = min (lost + ((L.length - roomR V size : Nat) : Int)) 100000) := hid rfl
        have C33 := hid (fun wx h1 h2 => commit_ok a V cap lost size al L cl wx h1 (by omega) h2 hLm hLc HCK.out HAL.out (roomR V size) hRR)
        have hR4 : V.length + roomR V size ≤ 4 := by omega
        clear hRR
        generalize roomR V size = R at *
        generalize comV V L R L.length = V' at *
        generalize comL lost R L.length = l' at *
        obtain ⟨n, hn⟩ : ∃ n, n = min L.length R := ⟨_, rfl⟩
        have HN := hid hn
        rw [← hn] at HCV hVl
        have hnL : n ≤ L.length := by omega
        have hl0 : 0 ≤ l' := by have := HCL.out; omega
        have hl1 : l' ≤ 100000 := by have := HCL.out; omega
        have HVl := hid hVl
        have hV4 : V'.length ≤ 4 := by omega
        clear hn hVl
        go_upto_region 9 with fail
        go_cut [12, 13] (fun t u wx => ∃ (B : Nat) (a2 : Option Addr) (k2 : Nat), t = .pointer (some ⟨B, 0, none⟩) ∧ u = .int .i64 0 ∧ Below wr.heap.size wr wx ∧ RowAt wx B 63 [.slice a2 V'.length k2, .int .i64 l'] ∧ IntsIn wx a2 V' ∧ V'.length ≤ k2 ∧ wr.heap.size ≤ B ∧ ∀ x o, a2 = some ⟨x, o, none⟩ → wr.heap.size ≤ x ∧ x < wx.heap.size ∧ x ≠ B)
        case first =>
          go_region_held3 (fun w' => w'.cell? ⟨b, 0, none⟩ = some (.slice a V.length cap) ∧ w'.cell? ⟨b, 1, none⟩ = some (.int .i64 lost) ∧ w'.cell? ⟨bl, ol + k, none⟩ = some (.slice al L.length cl))
            (first | exact HS.out _ (btrans hB2 (below_new _ _)) | exact HS.out _ (hB3 _ _) | exact HS.out _ hB2 | exact HS.out _ hbz | exact HS.out _ hbz2 | go_keep)
            (first
              | (go_at_call 33; refine (C33.out _ (HM.out.vals.keep hbz) (IL.out.keep hbz)).mono ?_; rintro e w2 ⟨v2, rfl, ho2, hb2⟩; have hB2 := btrans hbz hb2; obtain ⟨a2, k2, rfl, -, hi2, hc2, -, hq2⟩ := ints_own ho2; have J2 := hid hi2; have HQ2 := hid hq2; clear ho2 hi2 hq2)
              | (go_at_call 33; refine (C33.out _ (HM.out.vals.keep hbz2) (IL.out.keep hbz2)).mono ?_; rintro e w2 ⟨v2, rfl, ho2, hb2⟩; have hB2 := btrans hbz2 hb2; obtain ⟨a2, k2, rfl, -, hi2, hc2, -, hq2⟩ := ints_own ho2; have J2 := hid hi2; have HQ2 := hid hq2; clear ho2 hi2 hq2; have HZ := hid (RZ.out.below hb2 (Nat.le_refl _)); have u0 := HZ.out.cell 0 _ rfl; have u1 := HZ.out.cell 1 _ rfl; have f0 := HZ.out.frozen 0; have f1 := HZ.out.frozen 1; have hB3 : ∀ x y, Below wr.heap.size wr ((w2.setCell ⟨wr.heap.size, 0, none⟩ x).setCell ⟨wr.heap.size, 1, none⟩ y) := fun x y => (hB2.setCell (p := ⟨wr.heap.size, 0, none⟩) (Nat.le_refl _) _).setCell (p := ⟨wr.heap.size, 1, none⟩) (Nat.le_refl _) _))
          all_goals
            go_wp2
            go_meet
            case rel =>
              first
                | exact ⟨w2.heap.size, a2, k2, rfl, rfl, btrans hB2 (below_new _ _), rowAt_new2 w2 _ [.slice a2 V'.length k2, .int .i64 l'] 63 rfl, J2.out.keep (below_new _ _), hc2, hB2.size, fun x o e => ⟨by have := (HQ2.out x o e).1; simp at this; omega, by have := (HQ2.out x o e).2; simp; omega, by have := (HQ2.out x o e).2; omega⟩⟩
                | exact ⟨wr.heap.size, a2, k2, rfl, rfl, hB3 _ _, (HZ.out.setCell 0 _).setCell 1 _, (J2.out.grown (grow_setCell w2 wr.heap.size 0 _) (fun x o e => by have := (HQ2.out x o e).1; simp at this ⊢; omega)).grown (grow_setCell _ wr.heap.size 1 _) (fun x o e => by have := (HQ2.out x o e).1; simp at this ⊢; omega), hc2, Nat.le_refl _, fun x o e => ⟨by have := (HQ2.out x o e).1; simp at this; omega, by have := (HQ2.out x o e).2; simpa [World.setCell] using this, by have := (HQ2.out x o e).1; simp at this; omega⟩⟩
        case rest =>
          obtain ⟨B, a2, k2, rfl, rfl, hB2, hr12, hi2, hc2, hBl, hq2⟩ := hcut
          have M3 := hid (HM.out.keep hB2)
          have R12 := hid hr12
          have J3 := hid hi2
          have IL3 := hid (IL.out.keep hB2)
          have hlt2 : wr.heap.size ≤ wc.heap.size := hB2.size
          have cl3 := (HS.out _ hB2).2.2
          have HQ3 := hid hq2
          have N8 : Hid (∀ x, u8.ownBlock = some x → x < wr.heap.size) := hid fun x e => (HM.out.o8.lt x e).2
          have N9 : Hid (∀ x, u9.ownBlock = some x → x < wr.heap.size) := hid fun x e => (HM.out.o9.lt x e).2
          clear HS HM c0 c1 g0 g1 hcl' hbz hbz2 RZ hr12 hi2 hq2 hB2 IL C33
          have c0 := M3.out.r7.cell 0 _ rfl
          have c1 := M3.out.r7.cell 1 _ rfl
          have g0 := M3.out.r7.frozen 0
          have g1 := M3.out.r7.frozen 1
          have d0 := R12.out.cell 0 _ rfl
          have d1 := R12.out.cell 1 _ rfl
          have e1 : (V'.length : Int) - (V.length : Int) = (n : Int) := by have := HVl.out; omega
          have e2 : ¬ ((n : Int) < 0) := by omega
          have e3 : ¬ ((n : Int) > (L.length : Int)) := by omega
          have e3' : (n : Int) ≤ (L.length : Int) := by omega
          have en0 : (0 : Int) ≤ (n : Int) := by omega
          have enc : (n : Int) ≤ (cl : Int) := by omega
          have HKn : Hid (K.length + n ≤ 3 * k + 4) := hid (by have h5 := HK.out; have h6 := HGk.out; have h7 := HVl.out; rw [h5, List.length_append]; omega)
          have hN3 : (3 * k + 4) * 8 ≤ 140737488355328 := by have := HNl.out; omega
          have hTL : (L.take n).length = n := by rw [List.length_take]; omega
          have HTL := hid hTL
          have IT := hid (IL3.out.takex n)
          have HK' : Hid (K ++ L.take n = G ++ V') := hid (by rw [HK.out, HCV.out, List.append_assoc])
          have HE : Hid (((L.length : Int) - (n : Int) > 100000 - lost → l' - lost = 100000 - lost) ∧ (¬ (L.length : Int) - (n : Int) > 100000 - lost → l' - lost = (L.length : Int) - (n : Int))) := hid (by have h5 := HCL.out; have h6 := HN.out; omega)
          clear hTL
          generalize hK2 : K ++ L.take n = K' at *
          have HK2 := hid hK2
          clear hK2
          go_upto_if 79 with fail
          go_cut [15] (fun t wx => t = .int .i64 (l' - lost) ∧ wc = wx)
          case first =>
            by_cases hbig : (L.length : Int) - (n : Int) > 100000 - lost
            · have HEL := hid (HE.out.1 hbig)
              clear HE
              go_wp2
              go_meet
              case rel => exact ⟨by rw [HEL.out], rfl⟩
            · have HEL := hid (HE.out.2 hbig)
              clear HE
              go_wp2
              go_meet
              case rel => exact ⟨by rw [HEL.out], rfl⟩
          case rest =>
            obtain ⟨rfl, rfl⟩ := hcut
            clear HE
            go_wp2_with (at_builtin; refine wpList_appW rfl _ _ rfl w.heap.size u8 K.length (ivs K) rfl M3.out.o8 (L.take n) n HTL.out _ _ rfl IT.out (by have := HKn.out; simp [maxLen]; omega) (by have := HKn.out; omega) M3.out.below.size ?_)
            intro v8 w4 hown4 hgrow4 hat4
            have M4 := M3.out.app8 (K' := K') hgrow4 (by rw [← HK2.out, ivs_app, List.length_append, HTL.out]; exact hown4) hat4
            have hr12 := R12.out.grown' hgrow4 (own_ne' M3.out.o8 R12.out)
            have hi4 : IntsIn w4 a2 V' := J3.out.grown hgrow4 (fun x o e q => by have h5 := N8.out x q.symm; have h6 := (HQ3.out x o e).1; omega)
            have hs4 := hgrow4.size
            have M5 := hid (M4.ring (lost' := l') hi4 hc2 (fun x o e => by
              have h6 := HQ3.out x o e
              refine ⟨fun q => ?_, fun q => by have h5 := N9.out x q; omega, by omega, by omega⟩
              rcases hat4 with h7 | h7
              · rw [h7] at q; have h5 := N8.out x q; omega
              · rw [h7] at q; simp at q; omega))
            have d0 := hr12.cell 0 _ rfl
            have d1 := hr12.cell 1 _ rfl
            have c0 := M4.r7.cell 0 _ rfl
            have c1 := M4.r7.cell 1 _ rfl
            have g0 := M4.r7.frozen 0
            have g1 := M4.r7.frozen 1
            clear M4 hr12 hi4 hown4 hgrow4 hat4 M3 R12 J3 IL3 IT N8 N9 HQ3 cl3
            go_wp2
            generalize World.setCell _ _ _ = w5 at *
            clear c0 c1 g0 g1 d0 d1 hs4
            go_loopw [9, 16] (fun v9 i wi => ∃ (j : Nat) (a : Option Addr) (cap : Nat) (V : List Int) (lost : Int) (G : List Int), j ≤ 3 ∧ i = .int .i64 j ∧ Mo w wi b a cap V lost v8 K' v9 G ∧ K' = G ++ V ∧ ckR V lost size = 0 ∧ G.length ≤ 3 * k + j) (fun _ i _ => 3 - (intOf i).toNat)
            case atStart => exact ⟨0, a2, k2, V', l', G, Nat.zero_le _, rfl, M5.out, HK'.out, HCK2.out, by have := HGk.out; omega⟩
            case round =>
              clear M5 HK' HCK2
              obtain ⟨j, a, cap, V, lost, G, hj, rfl, hM, hKG, hck, hGj⟩ := hrel
              have HM := hid hM
              have HKG := hid hKG
              have HCKi := hid hck
              have HGj := hid hGj
              obtain ⟨-, hvs, -, -, -⟩ := ckR_ok hck
              have c0 := hM.r7.cell 0 _ rfl
              have c1 := hM.r7.cell 1 _ rfl
              have g0 := hM.r7.frozen 0
              have g1 := hM.r7.frozen 1
              have hbl := hM.r7.lt
              clear hM hKG hck hGj
              have HEX : Hid (∀ wx, wr = wx → ∃ (k1 : Nat) (a : Option Addr) (cap : Nat) (V : List Int) (lost : Int) (K G : List Int), k1 ≤ LL.length ∧ Value.int .i64 ((k : Int) + 1) = .int .i64 k1 ∧ Mo w wx b a cap V lost v8 K u9 G ∧ K = G ++ V ∧ ckR V lost size = 0 ∧ G.length ≤ 3 * k1) := hid (fun wx e => by subst e; exact ⟨k + 1, a, cap, V, lost, K', G, by omega, by go_num, HM.out, HKG.out, HCKi.out, by have := HGj.out; omega⟩)
              by_cases hg : k < GT.length
              · obtain ⟨bg, og, rfl, hcg⟩ := HGT.out k hg
                have hcg' := bkeep HM.out.below hcg (Nat.le_refl _)
                have hgr := HGB.out GT[k] (List.getElem_mem hg)
                have hkg : (k : Int) < (GT.length : Int) := by omega
                generalize GT[k] = y at *
                clear hcg
                have hgr1 := hgr.1
                have hgr2 := hgr.2
                clear hgr
                go_wp2_with fail
                refine (choose_any y _ hgr1 hgr2).mono ?_
                rintro e w6 ⟨n', hn', rfl, rfl⟩
                by_cases hjn : j < n'
                · have hjn' : (j : Int) < (n' : Int) := by omega
                  have C34 := hid (fun wx h1 => receive_any a V cap lost size wx h1 (by omega) HM.out.hc)
                  have HCKr := hid (ckR_recv HCKi.out)
                  have hrs := recv_split HCKi.out
                  rw [HCKi.out] at C34
                  generalize recvX V lost size = X at *
                  generalize recvV V lost size = RV at *
                  generalize recvL V lost size = RL at *
                  clear HEX
                  go_wp2_with fail
                  refine (C34.out _ HM.out.vals).mono ?_
                  rintro e w7 ⟨v7, rfl, ho7, hb7⟩
                  obtain ⟨a7, k7, rfl, -, hi7, hc7, -, hq7⟩ := ints_own ho7
                  have q8 := below_new w7 (.cells #[.slice a7 RV.length k7, .int .i64 RL] 63)
                  have M8 := hid (HM.out.keep (btrans hb7 q8))
                  have R17 := hid (rowAt_new2 w7 _ [.slice a7 RV.length k7, .int .i64 RL] 63 rfl)
                  have J7 := hid (hi7.keep q8)
                  have HQ7 := hid hq7
                  have N8 : Hid (∀ x, v8.ownBlock = some x → x < wr.heap.size) := hid fun x e => (HM.out.o8.lt x e).2
                  have N9 : Hid (∀ x, u9.ownBlock = some x → x < wr.heap.size) := hid fun x e => (HM.out.o9.lt x e).2
                  have hs8 : (w7.alloc (.cells #[.slice a7 RV.length k7, .int .i64 RL] 63)).heap.size = w7.heap.size + 1 := by simp
                  have hs7 : wr.heap.size ≤ w7.heap.size := hb7.size
                  clear ho7 hi7 hq7 hb7 q8 c0 c1 g0 g1 HM C34
                  rcases hrs with ⟨rfl, rfl, rfl, rfl⟩ | ⟨x, r, rfl, rfl, hx0, hx1, rfl, rfl⟩
                  · have c0 := M8.out.r7.cell 0 _ rfl
                    have c1 := M8.out.r7.cell 1 _ rfl
                    have g0 := M8.out.r7.frozen 0
                    have g1 := M8.out.r7.frozen 1
                    have d0 := R17.out.cell 0 _ rfl
                    have d1 := R17.out.cell 1 _ rfl
                    have M9 := hid (M8.out.ring (lost' := RL) J7.out hc7 (fun x o e => by
                      have h6 := HQ7.out x o e
                      exact ⟨fun q => by have h5 := N8.out x q; omega, fun q => by have h5 := N9.out x q; omega, by omega, by omega⟩))
                    simp only [List.length_nil] at *
                    clear M8 R17 J7 HQ7 N8 N9
                    go_wp2
                    go_roundw
                    case rel => exact ⟨j + 1, a7, k7, [], RL, G, by omega, by go_num, M9.out, HKG.out, HCKr.out, by have := HGj.out; omega⟩
                    case measure => simp [intOf]; omega
                  · have c0 := M8.out.r7.cell 0 _ rfl
                    have c1 := M8.out.r7.cell 1 _ rfl
                    have hx2 : ¬ X < 0 := by omega
                    have hx3 : X ≥ 0 := hx0
                    have hx4 : (((X :: RV).length : Int) == 0) = false := by simp; omega
                    have hx5 : ((RV.length : Int) + 1 == 0) = false := by simp; omega
                    have d0 := R17.out.cell 0 _ rfl
                    have d1 := R17.out.cell 1 _ rfl
                    have hGb : (G.length + 1) * 8 ≤ 140737488355328 := by have h5 := HGj.out; have h6 := HNl.out; omega
                    simp only [List.length_cons] at *
                    have q9 : Below (w7.alloc (.cells #[.slice a7 RV.length k7, .int .i64 RL] 63)).heap.size (w7.alloc (.cells #[.slice a7 RV.length k7, .int .i64 RL] 63)) ((w7.alloc (.cells #[.slice a7 RV.length k7, .int .i64 RL] 63)).alloc (.cells #[.int .i64 X] 3)) := below_new _ _
                    have MA := hid (M8.out.keep q9)
                    have IX : Hid (IntsIn ((w7.alloc (.cells #[.slice a7 RV.length k7, .int .i64 RL] 63)).alloc (.cells #[.int .i64 X] 3)) (some ⟨w7.heap.size + 1, 0, none⟩) [X]) := hid (by
                      intro i hi
                      obtain rfl : i = 0 := by simp at hi; omega
                      exact ⟨w7.heap.size + 1, 0, rfl, (rowAt_new2 (w7.alloc (.cells #[.slice a7 RV.length k7, .int .i64 RL] 63)) (w7.heap.size + 1) [.int .i64 X] 3 (by simp)).cell 0 _ rfl⟩)
                    have RA := hid (R17.out.below q9 (Nat.le_refl _))
                    have JA := hid (J7.out.keep q9)
                    have hsA : ((w7.alloc (.cells #[.slice a7 RV.length k7, .int .i64 RL] 63)).alloc (.cells #[.int .i64 X] 3)).heap.size = (w7.alloc (.cells #[.slice a7 RV.length k7, .int .i64 RL] 63)).heap.size + 1 := by simp
                    go_wp2_with (at_builtin; refine wpList_appW rfl _ _ rfl w.heap.size u9 G.length (ivs G) rfl MA.out.o9 [X] 1 rfl _ _ rfl IX.out (by simp [maxLen]; omega) (by omega) MA.out.below.size ?_)
                    intro v9 wA hownA hgrowA hatA
                    have MB := MA.out.app9 (G' := G ++ [X]) hgrowA (by rw [ivs_app, List.length_append]; exact hownA) (by simpa using hatA)
                    have hrB := RA.out.grown' hgrowA (own_ne' MA.out.o9 RA.out)
                    have hiB : IntsIn wA a7 RV := JA.out.grown hgrowA (fun y o e q => by have h5 := N9.out y q.symm; have h6 := (HQ7.out y o e).1; omega)
                    have hsB := hgrowA.size
                    have MC := hid (MB.ring (lost' := RL) hiB hc7 (fun y o e => by
                      have h6 := HQ7.out y o e
                      refine ⟨fun q => by have h5 := N8.out y q; omega, fun q => ?_, by omega, by omega⟩
                      rcases hatA with h7 | h7
                      · rw [h7] at q; have h5 := N9.out y q; omega
                      · rw [h7] at q; simp at q; omega))
                    have e0 := hrB.cell 0 _ rfl
                    have e1 := hrB.cell 1 _ rfl
                    have k0 := MB.r7.cell 0 _ rfl
                    have k1 := MB.r7.cell 1 _ rfl
                    have f0 := MB.r7.frozen 0
                    have f1 := MB.r7.frozen 1
                    clear MB hrB hiB hownA hgrowA hatA MA RA JA IX M8 R17 J7 c0 c1 d0 d1 HQ7 N8 N9
                    go_wp2
                    go_roundw
                    case rel => exact ⟨j + 1, a7, k7, RV, RL, G ++ [X], by omega, by go_num, MC.out, by rw [HKG.out]; simp, HCKr.out, by have := HGj.out; simp; omega⟩
                    case measure => simp [intOf]; omega
                · have hjn' : ¬ (j : Int) < (n' : Int) := by omega
                  have HX := hid (HEX.out _ rfl)
                  clear HEX HM c0 c1 g0 g1
                  go_wp2
                  go_roundw
                  case rel => exact HX.out
                  case measure => simp [intOf]; omega
              · have hkg : ¬ (k : Int) < (GT.length : Int) := by omega
                have HX := hid (HEX.out _ rfl)
                clear HEX HM c0 c1 g0 g1
                go_wp2
                go_roundw
                case rel => exact HX.out
                case measure => simp [intOf]; omega
    · obtain rfl : k = LL.length := by omega
      have hVl : V.length ≤ 4 := by omega
      obtain ⟨a8, c8, rfl, -, hi8, -, hl8, -⟩ := ints_own HM.out.o8
      have I8 := hid hi8
      clear hi8
      go_wp2_with (at_builtin; refine wpList_appW rfl _ _ rfl w.heap.size u9 G.length (ivs G) rfl HM.out.o9 V V.length rfl _ _ rfl HM.out.vals (by have := HGk.out; have := HNl.out; simp [maxLen]; omega) (by have := HGk.out; have := HNl.out; omega) HM.out.below.size ?_)
      intro v' w2 hown hgrow hat
      have M2 := HM.out.app9 (G' := K) hgrow (by rw [HK.out, ivs_app, List.length_append]; exact hown) hat
      obtain ⟨a9, c9, e9, -, hi9, -, hl9, -⟩ := ints_own M2.o9
      obtain ⟨a8', c8', e8, -, hi8, -, -, -⟩ := ints_own M2.o8
      simp only [Value.slice.injEq, true_and] at e8
      obtain ⟨rfl, rfl⟩ := e8
      subst e9
      have I9 := hid hi9
      have I8' := hid hi8
      have B2 := hid M2.below
      clear hi9 hi8 M2 hown hgrow hat HM I8 c0 c1 g0 g1
      go_wp2_with fail
      refine (sameIntsx_true _ _ K _ _ _ I9.out I8'.out hl9).mono ?_
      rintro e w3 ⟨rfl, hb3⟩
      have B3 := hid (btrans B2.out hb3)
      clear hb3
      go_wp2
      go_ret
      exact ⟨rfl, B3.out⟩
end Go.Proofs.Ytcdglnbkpklefaa
