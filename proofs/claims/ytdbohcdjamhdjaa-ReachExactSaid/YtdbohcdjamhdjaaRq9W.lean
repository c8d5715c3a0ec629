import Derived.Test.YtdbohcdjamhdjaaRo9W
/- The reference of layer 9 (tierceref09): Refs over whatever nodes. -/
set_option linter.unusedVariables false
namespace Go.Proofs.Ytdbohcdjamhdjaa
open Go.RowKit

/-- What the document's Refs answers. -/
def RsG (w : World) (L : E9) : Bool → Ending → World → Prop
  | false, e, w' => e = .returned (.tuple #[.slice none 0 0, .bool false]) ∧ KeptIn (· < w.heap.size) w w'
  | true, e, w' => ∃ v, e = .returned (.tuple #[v, .bool true]) ∧ w'.ownsRow w.heap.size 42 2 v L.length (cellsE9 L) ∧ KeptIn (· < w.heap.size) w w'
/-- How often pages are led to, behind so many roots and pages. -/
noncomputable def cnB (N : List Nd) (rs : List Int) (P : Int → Bool) : Int → Nat := fun q => cnR rs q + cnP N P q
theorem cnB_le {NA : List NdA} (hl : NA.length ≤ 511) {rs : List Int} (hr : rs.length ≤ 100) (P : Int → Bool) (q : Int) : cnB (N9 NA) rs P q ≤ 8000 := by
  have h1 := cnR_le rs q
  have h2 := cnP_le hl P q
  unfold cnB
  omega
/-- What stands in the roots' loop. -/
structure Ro9 (w : World) (NA : List NdA) (rs : List Int) (sb n1 j : Nat) (v : Value) (W : World) : Prop where
  all : ∀ r ∈ rs.take j, (tsG NA r).isSome = true
  st : Rr9 w sb n1 (fun q => inT NA (rs.take j) (q : Int)) (cnB (N9 NA) (rs.take j) (inT NA (rs.take j))) v W
/-- What stands in the pages' loop. -/
structure Rp9 (w : World) (NA : List NdA) (rs rs1 g : List Int) (sb n1 T B0 : Nat) (pv qv : Value) (qs : Pairs) (k : Nat) (v : Value) (W : World) : Prop where
  st : Rr9 w sb n1 (fun q => seP NA rs g k (q : Int)) (cnB (N9 NA) rs1 (seP NA rs g k)) v W
  lk : LkAt W T B0 pv qv g qs
section
variable {w W W' : World} {NA : List NdA} {rs rs1 g : List Int} {sb n1 T B0 k : Nat} {pv qv v v' : Value} {qs : Pairs}
theorem Rr9.sameS {n : Nat} {S S' : Nat → Bool} {C : Int → Nat} (h : Rr9 w sb n S C v W) (e : ∀ q, S q = S' q) : Rr9 w sb n S' C v W := by
  rw [← show S = S' from funext e]
  exact h
/-- A page that was seen. -/
theorem Rp9.again (h : Rp9 w NA rs rs1 g sb n1 T B0 pv qv qs k v W) (hk : k < g.length) (hs : seP NA rs g k g[k] = true) : Rp9 w NA rs rs1 g sb n1 T B0 pv qv qs (k + 1) v W := by
  have e : ∀ q, seP NA rs g k q = seP NA rs g (k + 1) q := fun q => by
    rw [seP_succ hk]
    by_cases h2 : q = g[k]
    · rw [h2, hs, Bool.true_or]
    · rw [decide_eq_false h2, Bool.or_false]
  refine ⟨(h.st.sameS fun q => e _).same fun q => ?_, h.lk⟩
  unfold cnB
  rw [cnP_congr _ e]
theorem Rp9.old (h : Rp9 w NA rs rs1 g sb n1 T B0 pv qv qs k v W) (hk : KeptIn (· < W.heap.size) W W') : Rp9 w NA rs rs1 g sb n1 T B0 pv qv qs k v W' := ⟨h.st.old hk, h.lk.old hk⟩
end

end Go.Proofs.Ytdbohcdjamhdjaa
