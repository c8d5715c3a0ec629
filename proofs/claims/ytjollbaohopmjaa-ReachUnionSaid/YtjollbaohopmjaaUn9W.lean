import Derived.Test.YtjollbaohopmjaaTv8W
import Derived.Test.YtjollbaohopmjaaPz9W
import Derived.Test.YtjollbaohopmjaaKs9W
import Derived.Test.YtjollbaohopmjaaAx9W
import Derived.Test.YtjollbaohopmjaaAw9W
/- ReachUnion of layer 9: the mathematics: what several sound trees need. -/
set_option linter.unusedVariables false
namespace Go.Proofs.Ytjollbaohopmjaa
open Go.RowKit

/-- A root of a sound tree. -/
def UnT (N : List Nd) (x : Int) : Prop := ∃ root l qs g, x = ((root : Nat) : Int) ∧ TreeG N root l qs g ∧ g.Nodup
theorem UnT.app {N M : List Nd} {x : Int} (h : UnT N x) : UnT (N ++ M) x := by
  obtain ⟨root, l, qs, g, h1, h2, h3⟩ := h
  exact ⟨root, l, qs, g, h1, h2.app, h3⟩
theorem TrI.un {N : List Nd} {root f : Nat} {qs : Pairs} (h : TrI N root qs f) : UnT N (root : Int) := by
  obtain ⟨l, g, h1, h2, _⟩ := h
  exact ⟨root, l, qs, g, rfl, h1, h2⟩

/-- A page is one of the tree's at a root. -/
def UnR (N : List Nd) (x q : Int) : Prop := ∃ root l qs g, x = ((root : Nat) : Int) ∧ TreeG N root l qs g ∧ g.Nodup ∧ q ∈ ofP g
open Classical in
/-- The pages of the tree at a root. -/
noncomputable def unG (N : List Nd) (x : Int) : List Int := if h : UnT N x then ofP (Classical.choose (Classical.choose_spec (Classical.choose_spec (Classical.choose_spec h)))) else []
theorem unG_spec {N : List Nd} {x : Int} (h : UnT N x) : ∃ root l qs g, x = ((root : Nat) : Int) ∧ TreeG N root l qs g ∧ g.Nodup ∧ unG N x = ofP g := by
  have h4 := Classical.choose_spec (Classical.choose_spec (Classical.choose_spec (Classical.choose_spec h)))
  exact ⟨_, _, _, _, h4.1, h4.2.1, h4.2.2, by unfold unG; rw [dif_pos h]⟩
open Classical in
noncomputable def unP (N : List Nd) (rs : List Int) (q : Int) : Bool := decide (∃ x ∈ rs, q ∈ unG N x)
theorem unP_iff {N : List Nd} {rs : List Int} (q : Int) : unP N rs q = true ↔ ∃ x ∈ rs, q ∈ unG N x := by
  unfold unP
  rw [decide_eq_true_eq]
/-- What trees need. -/
noncomputable def unN (N : List Nd) (rs : List Int) : List Int := need9 N rs (unP N rs)
theorem mem_unN {N : List Nd} (hN : N.length ≤ 511) {rs : List Int} (h : ∀ x ∈ rs, UnT N x) {q : Int} : q ∈ unN N rs ↔ 0 ≤ q ∧ q < 512 ∧ ∃ x ∈ rs, q ∈ unG N x := by
  unfold unN need9
  rw [mem_upTo, decide_eq_true_eq, cnA_pos hN (fun r hr => unG_spec (h r hr)) unP_iff q]
  exact Iff.rfl
theorem unN_srt (N : List Nd) (rs : List Int) : (unN N rs).Pairwise (· < ·) := by unfold unN need9; exact upTo_sorted _ _
theorem unN_length (N : List Nd) (rs : List Int) : (unN N rs).length ≤ 512 := by unfold unN need9; exact upTo_length _ _
/-- It hangs on which roots they are. -/
theorem unN_same {N : List Nd} {rs rs' : List Int} (hN : N.length ≤ 511) (h : ∀ x ∈ rs, UnT N x) (h' : ∀ x ∈ rs', UnT N x) (e : ∀ x, x ∈ rs ↔ x ∈ rs') : unN N rs = unN N rs' := by
  refine sorted_eq9 ((unN_srt _ _).imp fun h => Int.le_of_lt h) ((unN_srt _ _).imp fun h => Int.le_of_lt h) ((unN_srt _ _).imp fun {a b} h e => by omega) ((unN_srt _ _).imp fun {a b} h e => by omega) fun q => ?_
  rw [mem_unN hN h, mem_unN hN h']
  refine and_congr Iff.rfl (and_congr Iff.rfl ⟨?_, ?_⟩)
  · rintro ⟨x, hx, hq⟩; exact ⟨x, (e x).1 hx, hq⟩
  · rintro ⟨x, hx, hq⟩; exact ⟨x, (e x).2 hx, hq⟩
/-- One root more. -/
theorem unN_snoc {N : List Nd} (hN : N.length ≤ 511) {rs : List Int} {x : Int} (h : ∀ y ∈ rs, UnT N y) (hx : UnT N x) {q : Int} : q ∈ unN N (rs ++ [x]) ↔ q ∈ unN N rs ∨ q ∈ unN N [x] := by
  have hx1 : ∀ y ∈ [x], UnT N y := fun y hy => by rw [List.mem_singleton] at hy; rw [hy]; exact hx
  have h2 : ∀ y ∈ rs ++ [x], UnT N y := fun y hy => by
    rcases List.mem_append.1 hy with hy | hy
    · exact h y hy
    · exact hx1 y hy
  rw [mem_unN hN h2, mem_unN hN h, mem_unN hN hx1]
  constructor
  · rintro ⟨a, b, y, hy, hq⟩
    rcases List.mem_append.1 hy with hy | hy
    · exact .inl ⟨a, b, y, hy, hq⟩
    · exact .inr ⟨a, b, y, hy, hq⟩
  · rintro (⟨a, b, y, hy, hq⟩ | ⟨a, b, y, hy, hq⟩)
    · exact ⟨a, b, y, List.mem_append.2 (.inl hy), hq⟩
    · exact ⟨a, b, y, List.mem_append.2 (.inr hy), hq⟩
theorem unN_nil {N : List Nd} (hN : N.length ≤ 511) {q : Int} : q ∉ unN N [] := fun hq => by
  obtain ⟨_, _, x, hx, _⟩ := (mem_unN hN (fun x hx => by cases hx)).1 hq
  cases hx

section
variable {w : World} {s : Nat} {N : List Nd} {D : Nat → Prop}
theorem unPages (h : IsSh w s 511 N D) {a : Option Addr} {n cap : Nat} {rs : List Int} (hr : IntsL w a rs) (hn : rs.length = n) (hrl : n ≤ 100) (hu : ∀ x ∈ rs, UnT N x) :
    Calls Try.prog 8 #[pgV s, .slice a n cap] w (PzS w (unN N rs)) := by
  subst hn
  exact rcPages (rcRefs keysOk (by have := h.len; omega) h.fits9 (fun i hi => (h.pos i hi).2) h hr hrl (fun r hr => unG_spec (hu r hr)) _ unP_iff)
end

end Go.Proofs.Ytjollbaohopmjaa
