/- Volumes (layer 11): whether one can be, its pair, the volume of a pair: the program's and the document's. -/
import Derived.Test.YtlnlgapjlekehaaBx
set_option linter.unusedVariables false
namespace Go.Proofs.Ytlnlgapjlekehaa
open Go.RowKit

/-- A volume. -/
structure Vol where
  id : Int
  size : Int
  root : Int
  pin : Bool
  frm : Int
  deriving DecidableEq

def volV (v : Vol) : Value := .agg #[.int .i64 v.id, .int .i64 v.size, .int .i64 v.root, .bool v.pin, .int .i64 v.frm]
def GoodV (v : Vol) : Prop := 1 ≤ v.id ∧ v.id ≤ 16 ∧ 0 ≤ v.size ∧ v.size ≤ 64 ∧ 0 ≤ v.root ∧ v.root ≤ 511 ∧ 0 ≤ v.frm ∧ v.frm ≤ 16
instance (v : Vol) : Decidable (GoodV v) := by unfold GoodV; infer_instance


set_option maxHeartbeats 1000000 in
theorem vsGood (v : Vol) (w : World) : Calls Try.prog 22 #[volV v] w fun e w' => e = .returned (.bool (decide (GoodV v))) ∧ KeptIn (· < w.heap.size) w w' := by
  obtain ⟨id, size, root, pin, frm⟩ := v
  by_cases h1 : (1 : Int) ≤ id
  · by_cases h2 : id ≤ 16
    · by_cases h3 : (0 : Int) ≤ size
      · by_cases h4 : size ≤ 64
        · by_cases h5 : (0 : Int) ≤ root
          · by_cases h6 : root ≤ 511
            · by_cases h7 : (0 : Int) ≤ frm
              · by_cases h8 : frm ≤ 16
                · have hg : decide (GoodV ⟨id, size, root, pin, frm⟩) = true := decide_eq_true ⟨h1, h2, h3, h4, h5, h6, h7, h8⟩
                  rw [hg]
                  clear hg
                  have h6' : root < 512 := by omega
                  unfold volV
                  go_enter Try.func22, Try.ntmps22
                  go_wp2_with fail
                  go_ret
                  exact ⟨rfl, (KeptIn.refl _ _).alloc (fun _ h => h) _⟩
                · have h6' : root < 512 := by omega
                  have hg : decide (GoodV ⟨id, size, root, pin, frm⟩) = false := decide_eq_false (fun h => by obtain ⟨g1, g2, g3, g4, g5, g6, g7, g8⟩ := h; simp only at g1 g2 g3 g4 g5 g6 g7 g8; omega)
                  rw [hg]
                  clear hg
                  unfold volV
                  go_enter Try.func22, Try.ntmps22
                  go_wp2_with fail
                  go_ret
                  exact ⟨rfl, (KeptIn.refl _ _).alloc (fun _ h => h) _⟩
              · have h6' : root < 512 := by omega
                have hg : decide (GoodV ⟨id, size, root, pin, frm⟩) = false := decide_eq_false (fun h => by obtain ⟨g1, g2, g3, g4, g5, g6, g7, g8⟩ := h; simp only at g1 g2 g3 g4 g5 g6 g7 g8; omega)
                rw [hg]
                clear hg
                unfold volV
                go_enter Try.func22, Try.ntmps22
                go_wp2_with fail
                go_ret
                exact ⟨rfl, (KeptIn.refl _ _).alloc (fun _ h => h) _⟩
            · have h6' : ¬ root < 512 := by omega
              have hg : decide (GoodV ⟨id, size, root, pin, frm⟩) = false := decide_eq_false (fun h => by obtain ⟨g1, g2, g3, g4, g5, g6, g7, g8⟩ := h; simp only at g1 g2 g3 g4 g5 g6 g7 g8; omega)
              rw [hg]
              clear hg
              unfold volV
              go_enter Try.func22, Try.ntmps22
              go_wp2_with fail
              go_ret
              exact ⟨rfl, (KeptIn.refl _ _).alloc (fun _ h => h) _⟩
          · have hg : decide (GoodV ⟨id, size, root, pin, frm⟩) = false := decide_eq_false (fun h => by obtain ⟨g1, g2, g3, g4, g5, g6, g7, g8⟩ := h; simp only at g1 g2 g3 g4 g5 g6 g7 g8; omega)
            rw [hg]
            clear hg
            unfold volV
            go_enter Try.func22, Try.ntmps22
            go_wp2_with fail
            go_ret
            exact ⟨rfl, (KeptIn.refl _ _).alloc (fun _ h => h) _⟩
        · have hg : decide (GoodV ⟨id, size, root, pin, frm⟩) = false := decide_eq_false (fun h => by obtain ⟨g1, g2, g3, g4, g5, g6, g7, g8⟩ := h; simp only at g1 g2 g3 g4 g5 g6 g7 g8; omega)
          rw [hg]
          clear hg
          unfold volV
          go_enter Try.func22, Try.ntmps22
          go_wp2_with fail
          go_ret
          exact ⟨rfl, (KeptIn.refl _ _).alloc (fun _ h => h) _⟩
      · have hg : decide (GoodV ⟨id, size, root, pin, frm⟩) = false := decide_eq_false (fun h => by obtain ⟨g1, g2, g3, g4, g5, g6, g7, g8⟩ := h; simp only at g1 g2 g3 g4 g5 g6 g7 g8; omega)
        rw [hg]
        clear hg
        unfold volV
        go_enter Try.func22, Try.ntmps22
        go_wp2_with fail
        go_ret
        exact ⟨rfl, (KeptIn.refl _ _).alloc (fun _ h => h) _⟩
    · have hg : decide (GoodV ⟨id, size, root, pin, frm⟩) = false := decide_eq_false (fun h => by obtain ⟨g1, g2, g3, g4, g5, g6, g7, g8⟩ := h; simp only at g1 g2 g3 g4 g5 g6 g7 g8; omega)
      rw [hg]
      clear hg
      unfold volV
      go_enter Try.func22, Try.ntmps22
      go_wp2_with fail
      go_ret
      exact ⟨rfl, (KeptIn.refl _ _).alloc (fun _ h => h) _⟩
  · have hg : decide (GoodV ⟨id, size, root, pin, frm⟩) = false := decide_eq_false (fun h => by obtain ⟨g1, g2, g3, g4, g5, g6, g7, g8⟩ := h; simp only at g1 g2 g3 g4 g5 g6 g7 g8; omega)
    rw [hg]
    clear hg
    unfold volV
    go_enter Try.func22, Try.ntmps22
    go_wp2_with fail
    go_ret
    exact ⟨rfl, (KeptIn.refl _ _).alloc (fun _ h => h) _⟩

set_option maxHeartbeats 1000000 in
theorem r11Good (v : Vol) (w : World) : Calls Try.prog 23 #[volV v] w fun e w' => e = .returned (.bool (decide (GoodV v))) ∧ KeptIn (· < w.heap.size) w w' := by
  obtain ⟨id, size, root, pin, frm⟩ := v
  by_cases h1 : (1 : Int) ≤ id
  · by_cases h2 : id ≤ 16
    · by_cases h3 : (0 : Int) ≤ size
      · by_cases h4 : size ≤ 64
        · by_cases h5 : (0 : Int) ≤ root
          · by_cases h6 : root ≤ 511
            · by_cases h7 : (0 : Int) ≤ frm
              · by_cases h8 : frm ≤ 16
                · have hg : decide (GoodV ⟨id, size, root, pin, frm⟩) = true := decide_eq_true ⟨h1, h2, h3, h4, h5, h6, h7, h8⟩
                  rw [hg]
                  clear hg
                  have h6' : root < 512 := by omega
                  unfold volV
                  go_enter Try.func23, Try.ntmps23
                  go_wp2_with fail
                  go_ret
                  exact ⟨rfl, (KeptIn.refl _ _).alloc (fun _ h => h) _⟩
                · have h6' : root < 512 := by omega
                  have hg : decide (GoodV ⟨id, size, root, pin, frm⟩) = false := decide_eq_false (fun h => by obtain ⟨g1, g2, g3, g4, g5, g6, g7, g8⟩ := h; simp only at g1 g2 g3 g4 g5 g6 g7 g8; omega)
                  rw [hg]
                  clear hg
                  unfold volV
                  go_enter Try.func23, Try.ntmps23
                  go_wp2_with fail
                  go_ret
                  exact ⟨rfl, (KeptIn.refl _ _).alloc (fun _ h => h) _⟩
              · have h6' : root < 512 := by omega
                have hg : decide (GoodV ⟨id, size, root, pin, frm⟩) = false := decide_eq_false (fun h => by obtain ⟨g1, g2, g3, g4, g5, g6, g7, g8⟩ := h; simp only at g1 g2 g3 g4 g5 g6 g7 g8; omega)
                rw [hg]
                clear hg
                unfold volV
                go_enter Try.func23, Try.ntmps23
                go_wp2_with fail
                go_ret
                exact ⟨rfl, (KeptIn.refl _ _).alloc (fun _ h => h) _⟩
            · have h6' : ¬ root < 512 := by omega
              have hg : decide (GoodV ⟨id, size, root, pin, frm⟩) = false := decide_eq_false (fun h => by obtain ⟨g1, g2, g3, g4, g5, g6, g7, g8⟩ := h; simp only at g1 g2 g3 g4 g5 g6 g7 g8; omega)
              rw [hg]
              clear hg
              unfold volV
              go_enter Try.func23, Try.ntmps23
              go_wp2_with fail
              go_ret
              exact ⟨rfl, (KeptIn.refl _ _).alloc (fun _ h => h) _⟩
          · have hg : decide (GoodV ⟨id, size, root, pin, frm⟩) = false := decide_eq_false (fun h => by obtain ⟨g1, g2, g3, g4, g5, g6, g7, g8⟩ := h; simp only at g1 g2 g3 g4 g5 g6 g7 g8; omega)
            rw [hg]
            clear hg
            unfold volV
            go_enter Try.func23, Try.ntmps23
            go_wp2_with fail
            go_ret
            exact ⟨rfl, (KeptIn.refl _ _).alloc (fun _ h => h) _⟩
        · have hg : decide (GoodV ⟨id, size, root, pin, frm⟩) = false := decide_eq_false (fun h => by obtain ⟨g1, g2, g3, g4, g5, g6, g7, g8⟩ := h; simp only at g1 g2 g3 g4 g5 g6 g7 g8; omega)
          rw [hg]
          clear hg
          unfold volV
          go_enter Try.func23, Try.ntmps23
          go_wp2_with fail
          go_ret
          exact ⟨rfl, (KeptIn.refl _ _).alloc (fun _ h => h) _⟩
      · have hg : decide (GoodV ⟨id, size, root, pin, frm⟩) = false := decide_eq_false (fun h => by obtain ⟨g1, g2, g3, g4, g5, g6, g7, g8⟩ := h; simp only at g1 g2 g3 g4 g5 g6 g7 g8; omega)
        rw [hg]
        clear hg
        unfold volV
        go_enter Try.func23, Try.ntmps23
        go_wp2_with fail
        go_ret
        exact ⟨rfl, (KeptIn.refl _ _).alloc (fun _ h => h) _⟩
    · have hg : decide (GoodV ⟨id, size, root, pin, frm⟩) = false := decide_eq_false (fun h => by obtain ⟨g1, g2, g3, g4, g5, g6, g7, g8⟩ := h; simp only at g1 g2 g3 g4 g5 g6 g7 g8; omega)
      rw [hg]
      clear hg
      unfold volV
      go_enter Try.func23, Try.ntmps23
      go_wp2_with fail
      go_ret
      exact ⟨rfl, (KeptIn.refl _ _).alloc (fun _ h => h) _⟩
  · have hg : decide (GoodV ⟨id, size, root, pin, frm⟩) = false := decide_eq_false (fun h => by obtain ⟨g1, g2, g3, g4, g5, g6, g7, g8⟩ := h; simp only at g1 g2 g3 g4 g5 g6 g7 g8; omega)
    rw [hg]
    clear hg
    unfold volV
    go_enter Try.func23, Try.ntmps23
    go_wp2_with fail
    go_ret
    exact ⟨rfl, (KeptIn.refl _ _).alloc (fun _ h => h) _⟩

end Go.Proofs.Ytlnlgapjlekehaa
