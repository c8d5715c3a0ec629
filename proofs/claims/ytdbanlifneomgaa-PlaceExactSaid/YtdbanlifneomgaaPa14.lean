/- Places (layer 14): whether one can be: the program's and the document's. -/
import Derived.Test.YtdbanlifneomgaaBp
set_option linter.unusedVariables false
namespace Go.Proofs.Ytdbanlifneomgaa
open Go.RowKit

/-- A place. -/
structure Pla where
  ch : Int
  tier : Int
  slot : Int
  deriving DecidableEq

def plaV (x : Pla) : Value := .agg #[.int .i64 x.ch, .int .i64 x.tier, .int .i64 x.slot]
def spotV (t s : Int) : Value := .agg #[.int .i64 t, .int .i64 s]
def GoodP (x : Pla) : Prop := 1 ≤ x.ch ∧ x.ch ≤ 1023 ∧ (x.tier = 0 ∨ x.tier = 1) ∧ 0 ≤ x.slot ∧ x.slot ≤ 255
instance (x : Pla) : Decidable (GoodP x) := by unfold GoodP; infer_instance


set_option maxHeartbeats 1000000 in
theorem plCan (x : Pla) (w : World) : Calls Try.prog 32 #[plaV x] w fun e w' => e = .returned (.bool (decide (GoodP x))) ∧ KeptIn (· < w.heap.size) w w' := by
  obtain ⟨ch, tier, slot⟩ := x
  unfold plaV
  simp only
  by_cases h1 : (1 : Int) ≤ ch
  · by_cases h2 : ch ≤ 1023
    · by_cases t0 : tier = 0
      · subst t0
        by_cases h4 : (0 : Int) ≤ slot
        · by_cases h5 : slot ≤ 255
          · have hg : decide (GoodP ⟨ch, 0, slot⟩) = true := decide_eq_true ⟨h1, h2, by simp, h4, h5⟩
            rw [hg]
            clear hg
            have h5' : slot < 256 := by omega
            go_enter Try.func32, Try.ntmps32
            go_wp2_with fail
            go_ret
            exact ⟨rfl, (KeptIn.refl _ _).alloc (fun _ h => h) _⟩
          · have h5' : ¬ slot < 256 := by omega
            have hg : decide (GoodP ⟨ch, 0, slot⟩) = false := decide_eq_false (fun h => by obtain ⟨g1, g2, g3, g4, g5⟩ := h; simp only at g1 g2 g3 g4 g5; omega)
            rw [hg]
            clear hg
            go_enter Try.func32, Try.ntmps32
            go_wp2_with fail
            go_ret
            exact ⟨rfl, (KeptIn.refl _ _).alloc (fun _ h => h) _⟩
        · have hg : decide (GoodP ⟨ch, 0, slot⟩) = false := decide_eq_false (fun h => by obtain ⟨g1, g2, g3, g4, g5⟩ := h; simp only at g1 g2 g3 g4 g5; omega)
          rw [hg]
          clear hg
          go_enter Try.func32, Try.ntmps32
          go_wp2_with fail
          go_ret
          exact ⟨rfl, (KeptIn.refl _ _).alloc (fun _ h => h) _⟩
      · by_cases t1 : tier = 1
        · subst t1
          by_cases h4 : (0 : Int) ≤ slot
          · by_cases h5 : slot ≤ 255
            · have hg : decide (GoodP ⟨ch, 1, slot⟩) = true := decide_eq_true ⟨h1, h2, by simp, h4, h5⟩
              rw [hg]
              clear hg
              have h5' : slot < 256 := by omega
              go_enter Try.func32, Try.ntmps32
              go_wp2_with fail
              go_ret
              exact ⟨rfl, (KeptIn.refl _ _).alloc (fun _ h => h) _⟩
            · have h5' : ¬ slot < 256 := by omega
              have hg : decide (GoodP ⟨ch, 1, slot⟩) = false := decide_eq_false (fun h => by obtain ⟨g1, g2, g3, g4, g5⟩ := h; simp only at g1 g2 g3 g4 g5; omega)
              rw [hg]
              clear hg
              go_enter Try.func32, Try.ntmps32
              go_wp2_with fail
              go_ret
              exact ⟨rfl, (KeptIn.refl _ _).alloc (fun _ h => h) _⟩
          · have hg : decide (GoodP ⟨ch, 1, slot⟩) = false := decide_eq_false (fun h => by obtain ⟨g1, g2, g3, g4, g5⟩ := h; simp only at g1 g2 g3 g4 g5; omega)
            rw [hg]
            clear hg
            go_enter Try.func32, Try.ntmps32
            go_wp2_with fail
            go_ret
            exact ⟨rfl, (KeptIn.refl _ _).alloc (fun _ h => h) _⟩
        · have b0 : (tier == 0) = false := by rw [beq_eq_false_iff_ne]; exact t0
          have b1 : (tier == 1) = false := by rw [beq_eq_false_iff_ne]; exact t1
          have hg : decide (GoodP ⟨ch, tier, slot⟩) = false := decide_eq_false (fun h => by obtain ⟨g1, g2, g3, g4, g5⟩ := h; simp only at g1 g2 g3 g4 g5; omega)
          rw [hg]
          clear hg
          go_enter Try.func32, Try.ntmps32
          go_wp2_with fail
          go_ret
          exact ⟨rfl, (KeptIn.refl _ _).alloc (fun _ h => h) _⟩
    · have hg : decide (GoodP ⟨ch, tier, slot⟩) = false := decide_eq_false (fun h => by obtain ⟨g1, g2, g3, g4, g5⟩ := h; simp only at g1 g2 g3 g4 g5; omega)
      rw [hg]
      clear hg
      go_enter Try.func32, Try.ntmps32
      go_wp2_with fail
      go_ret
      exact ⟨rfl, (KeptIn.refl _ _).alloc (fun _ h => h) _⟩
  · have hg : decide (GoodP ⟨ch, tier, slot⟩) = false := decide_eq_false (fun h => by obtain ⟨g1, g2, g3, g4, g5⟩ := h; simp only at g1 g2 g3 g4 g5; omega)
    rw [hg]
    clear hg
    go_enter Try.func32, Try.ntmps32
    go_wp2_with fail
    go_ret
    exact ⟨rfl, (KeptIn.refl _ _).alloc (fun _ h => h) _⟩

set_option maxHeartbeats 1000000 in
theorem r14Can (x : Pla) (w : World) : Calls Try.prog 13 #[.int .i64 x.ch, spotV x.tier x.slot] w fun e w' => e = .returned (.bool (decide (GoodP x))) ∧ KeptIn (· < w.heap.size) w w' := by
  obtain ⟨ch, tier, slot⟩ := x
  unfold spotV
  simp only
  by_cases h1 : (1 : Int) ≤ ch
  · by_cases h2 : ch ≤ 1023
    · by_cases t0 : tier = 0
      · subst t0
        by_cases h4 : (0 : Int) ≤ slot
        · by_cases h5 : slot ≤ 255
          · have hg : decide (GoodP ⟨ch, 0, slot⟩) = true := decide_eq_true ⟨h1, h2, by simp, h4, h5⟩
            rw [hg]
            clear hg
            have h5' : slot < 256 := by omega
            go_enter Try.func13, Try.ntmps13
            go_wp2_with fail
            go_ret
            exact ⟨rfl, (KeptIn.refl _ _).alloc (fun _ h => h) _⟩
          · have h5' : ¬ slot < 256 := by omega
            have hg : decide (GoodP ⟨ch, 0, slot⟩) = false := decide_eq_false (fun h => by obtain ⟨g1, g2, g3, g4, g5⟩ := h; simp only at g1 g2 g3 g4 g5; omega)
            rw [hg]
            clear hg
            go_enter Try.func13, Try.ntmps13
            go_wp2_with fail
            go_ret
            exact ⟨rfl, (KeptIn.refl _ _).alloc (fun _ h => h) _⟩
        · have hg : decide (GoodP ⟨ch, 0, slot⟩) = false := decide_eq_false (fun h => by obtain ⟨g1, g2, g3, g4, g5⟩ := h; simp only at g1 g2 g3 g4 g5; omega)
          rw [hg]
          clear hg
          go_enter Try.func13, Try.ntmps13
          go_wp2_with fail
          go_ret
          exact ⟨rfl, (KeptIn.refl _ _).alloc (fun _ h => h) _⟩
      · by_cases t1 : tier = 1
        · subst t1
          by_cases h4 : (0 : Int) ≤ slot
          · by_cases h5 : slot ≤ 255
            · have hg : decide (GoodP ⟨ch, 1, slot⟩) = true := decide_eq_true ⟨h1, h2, by simp, h4, h5⟩
              rw [hg]
              clear hg
              have h5' : slot < 256 := by omega
              go_enter Try.func13, Try.ntmps13
              go_wp2_with fail
              go_ret
              exact ⟨rfl, (KeptIn.refl _ _).alloc (fun _ h => h) _⟩
            · have h5' : ¬ slot < 256 := by omega
              have hg : decide (GoodP ⟨ch, 1, slot⟩) = false := decide_eq_false (fun h => by obtain ⟨g1, g2, g3, g4, g5⟩ := h; simp only at g1 g2 g3 g4 g5; omega)
              rw [hg]
              clear hg
              go_enter Try.func13, Try.ntmps13
              go_wp2_with fail
              go_ret
              exact ⟨rfl, (KeptIn.refl _ _).alloc (fun _ h => h) _⟩
          · have hg : decide (GoodP ⟨ch, 1, slot⟩) = false := decide_eq_false (fun h => by obtain ⟨g1, g2, g3, g4, g5⟩ := h; simp only at g1 g2 g3 g4 g5; omega)
            rw [hg]
            clear hg
            go_enter Try.func13, Try.ntmps13
            go_wp2_with fail
            go_ret
            exact ⟨rfl, (KeptIn.refl _ _).alloc (fun _ h => h) _⟩
        · have b0 : (tier == 0) = false := by rw [beq_eq_false_iff_ne]; exact t0
          have b1 : (tier == 1) = false := by rw [beq_eq_false_iff_ne]; exact t1
          have hg : decide (GoodP ⟨ch, tier, slot⟩) = false := decide_eq_false (fun h => by obtain ⟨g1, g2, g3, g4, g5⟩ := h; simp only at g1 g2 g3 g4 g5; omega)
          rw [hg]
          clear hg
          go_enter Try.func13, Try.ntmps13
          go_wp2_with fail
          go_ret
          exact ⟨rfl, (KeptIn.refl _ _).alloc (fun _ h => h) _⟩
    · have hg : decide (GoodP ⟨ch, tier, slot⟩) = false := decide_eq_false (fun h => by obtain ⟨g1, g2, g3, g4, g5⟩ := h; simp only at g1 g2 g3 g4 g5; omega)
      rw [hg]
      clear hg
      go_enter Try.func13, Try.ntmps13
      go_wp2_with fail
      go_ret
      exact ⟨rfl, (KeptIn.refl _ _).alloc (fun _ h => h) _⟩
  · have hg : decide (GoodP ⟨ch, tier, slot⟩) = false := decide_eq_false (fun h => by obtain ⟨g1, g2, g3, g4, g5⟩ := h; simp only at g1 g2 g3 g4 g5; omega)
    rw [hg]
    clear hg
    go_enter Try.func13, Try.ntmps13
    go_wp2_with fail
    go_ret
    exact ⟨rfl, (KeptIn.refl _ _).alloc (fun _ h => h) _⟩

end Go.Proofs.Ytdbanlifneomgaa
