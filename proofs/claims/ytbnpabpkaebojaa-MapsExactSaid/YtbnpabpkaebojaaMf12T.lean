import Derived.Test.YtbnpabpkaebojaaMe12T
import Derived.Test.YtbnpabpkaebojaaRfT
/- Layer 12: the law's 'same', where a list's entries are a row's. -/
set_option linter.unusedVariables false
namespace Go.Proofs.Ytbnpabpkaebojaa
open Go.RowKit

theorem below_none {qs : Pairs} {i : Nat} (h : ∀ v, (i, v) ∉ qs) : belowK qs (i + 1) = belowK qs i := by
  unfold belowK
  refine List.countP_congr fun p hp => ?_
  have : p.1 ≠ i := fun e => h p.2 (by rw [← e]; exact hp)
  simp only [decide_eq_true_eq]
  omega
theorem below_some {qs : Pairs} (hs : Srt qs) {i v : Nat} (h : (i, v) ∈ qs) : belowK qs i < qs.length ∧ keyAt qs (belowK qs i) = i ∧ valAt qs (belowK qs i) = v ∧ belowK qs (i + 1) = belowK qs i + 1 := by
  obtain ⟨t, ht, e⟩ := List.getElem_of_mem h
  have hr := (rises_srt qs).2 hs
  have hk : keyAt qs t = i := by rw [keyAt_get ht, e]
  have h1 : belowK qs i = t := below_at hr (Nat.le_of_lt ht) (fun j hj => by rw [← hk]; exact rises_lt hr hj ht) (fun _ => by rw [hk]; exact Nat.le_refl _)
  have h2 : belowK qs (i + 1) = t + 1 := below_at hr ht (fun j hj => by
    rcases Nat.lt_or_ge j t with h | h
    · have := rises_lt hr h ht
      omega
    · obtain rfl : j = t := by omega
      omega) (fun hj => by
    have : keyAt qs t < keyAt qs (t + 1) := rises_lt hr (Nat.lt_succ_self t) hj
    omega)
  exact ⟨by omega, by rw [h1, hk], by rw [h1, valAt_get ht, e], by omega⟩
theorem below_all {qs : Pairs} (hg : GoodM qs) : belowK qs 64 = qs.length := by
  unfold belowK
  rw [List.countP_eq_length]
  intro p hp
  exact decide_eq_true (hg p hp).1

/-- A row of 64 places in a block of its own. -/
abbrev iv (n : Nat) : Value := .int .i64 (n : Int)
abbrev RowM (g : Nat) (l : List Nat) (w : World) : Prop := RowF 58 iv g l w
def rowV (l : List Nat) : Value := .agg (l.map iv).toArray


set_option maxHeartbeats 4000000 in
set_option maxRecDepth 100000 in
theorem maSame (a : Option Addr) (cap : Nat) (qs : Pairs) (hs : Srt qs) (hg : GoodM qs) (w : World) (h : IsEs w a (esOf qs)) (hl : qs.length ≤ 1000) :
    Calls Try.prog 21 #[.slice a qs.length cap, rowV (rowU qs)] w fun e w' => e = .returned (.bool true) ∧ KeptIn (· < w.heap.size) w w' := by
  obtain ⟨n, hn⟩ : ∃ n, qs.length = n := ⟨_, rfl⟩
  have hnI : (n : Int) ≤ 1000 := by omega
  have HN := Lib.hid hn
  have HG := Lib.hid (And.intro hs hg)
  obtain ⟨W, hW⟩ : ∃ W, w.alloc (.cells ((rowU qs).map iv).toArray 58) = W := ⟨_, rfl⟩
  have hkW : KeptIn (· < w.heap.size) w W := by rw [← hW]; exact (KeptIn.refl _ w).alloc (fun _ h => h) _
  have hrow : RowM w.heap.size (rowU qs) W := by rw [← hW]; exact heap_alloc_new w _
  have H := Lib.hid (And.intro (h.old hkW) (And.intro hrow hkW))
  obtain ⟨B, hB⟩ : ∃ B, w.heap.size = B := ⟨_, rfl⟩
  rw [hB] at H
  have HW := Lib.hid hW
  have HB := Lib.hid hB
  have HK0 : Hid (belowK qs 0 = 0) := Lib.hid (by unfold belowK; rw [List.countP_eq_zero]; intro p hp; simp)
  rw [hn]
  unfold rowV
  generalize hcs : ((rowU qs).map iv).toArray = cs at HW ⊢
  clear h hn hl hs hg hW hkW hrow hB hcs
  go_enter Try.func21, Try.ntmps21
  go_wp2_with fail
  rw [HW.out]
  simp only [HB.out]
  go_loopw [5, 6] (fun q i wr => ∃ (j k : Nat) (V : World), V = wr ∧ j ≤ 64 ∧ q = .int .i64 (k : Int) ∧ i = .int .i64 (j : Int) ∧ Hid (belowK qs j = k) ∧ Hid (IsEs V a (esOf qs) ∧ RowM B (rowU qs) V ∧ KeptIn (· < w.heap.size) w V)) (fun _ i _ => 64 - (intOf i).toNat)
  case atStart => exact ⟨0, 0, _, rfl, by omega, rfl, rfl, HK0, by rw [HB.out]; exact H⟩
  case round =>
    clear H
    obtain ⟨j, k, V, rfl, hj, rfl, rfl, HK, H⟩ := hrel
    clear HK0 HW
    have d0 : (0 : Int) ≤ (j : Int) := by omega
    by_cases hlt : j < 64
    · have d1 : (j : Int) < 64 := by omega
      have c0 : V.cell? ⟨B, j, none⟩ = some (iv (lookM qs j)) := H.out.2.1.cell j (rowU_at qs hlt)
      by_cases hin : ∃ v, (j, v) ∈ qs
      · obtain ⟨v, hv⟩ := hin
        obtain ⟨b1, b2, b3, b4⟩ := below_some HG.out.1 hv
        rw [lookM_in HG.out.1 hv] at c0
        obtain ⟨b, off, rfl, hb, hc⟩ := H.out.1.cells (by rw [esOf_length]; omega)
        rw [HK.out] at b1 b2 b3 b4
        obtain ⟨c1, c2⟩ := hc k (by rw [esOf_length]; exact b1)
        rw [esOf_at b1, b2, b3] at c1 c2
        simp only at c1 c2
        have hvp : 1 ≤ v := (HG.out.2 _ hv).2.1
        rw [HN.out] at b1
        obtain ⟨x, rfl⟩ : ∃ x, x = v := ⟨v, rfl⟩
        have z0 : ((x : Int) == 0) = false := by rw [beq_eq_false_iff_ne]; omega
        have z1 : ¬ (n : Int) ≤ (k : Int) := by omega
        have z2 : decide ((n : Int) ≤ (k : Int)) = false := decide_eq_false z1
        have z3 : decide (n ≤ k) = false := decide_eq_false (by omega)
        have z4 : (0 : Int) ≤ (k : Int) := by omega
        have z5 : (k : Int) < (n : Int) := by omega
        have z6 : (k : Int) ≤ 1000 := by omega
        have HK2 := Lib.hid b4
        clear b2 b3 b4 hc hb hv HK hvp
        go_wp2_with fail
        go_quiet (fail)
        go_wp2_with fail
        go_roundw
        case rel => exact ⟨j + 1, k + 1, _, rfl, by omega, by go_num, by go_num, HK2, Lib.hid ⟨H.out.1.old ((KeptIn.refl _ _).drewN nq), H.out.2.1, H.out.2.2.drewN nq⟩⟩
        case measure => simp only [intOf]; omega
      · have hno : ∀ v, (j, v) ∉ qs := fun v hv => hin ⟨v, hv⟩
        rw [lookM_no hno] at c0
        have HK2 : Hid (belowK qs (j + 1) = k) := Lib.hid (by rw [below_none hno]; exact HK.out)
        clear hno hin HK
        go_wp2_with fail
        go_roundw
        case rel => exact ⟨j + 1, k, _, rfl, by omega, rfl, by go_num, HK2, H⟩
        case measure => simp only [intOf]; omega
    · have d1 : ¬ (j : Int) < 64 := by omega
      have hkn : k = n := by
        rw [← HK.out, show j = 64 by omega, below_all HG.out.2]
        exact HN.out
      subst hkn
      have HE := Lib.hid H.out.2.2
      clear H HK
      go_wp2_with fail
      go_ret
      exact ⟨rfl, HE.out⟩

end Go.Proofs.Ytbnpabpkaebojaa
