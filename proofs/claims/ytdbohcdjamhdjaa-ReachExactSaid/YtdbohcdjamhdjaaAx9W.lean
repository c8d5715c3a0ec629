import Derived.Test.YtdbohcdjamhdjaaGr9W
import Derived.Test.YtdbohcdjamhdjaaKs9W
import Derived.Test.YtdbohcdjamhdjaaV10
/- Layer 9's awake: sixteen keys are a root and two leaves: what they need, how often each is led to. -/
set_option linter.unusedVariables false
set_option linter.unusedSimpArgs false
namespace Go.Proofs.Ytdbohcdjamhdjaa
open Go.RowKit

theorem IsSh.fits9 {W : World} {s room : Nat} {N : List Nd} {D : Nat → Prop} (h : IsSh W s room N D) : ∀ (i : Nat) (hi : i < N.length), Fits N[i].2 := by
  intro i hi
  obtain ⟨la, cap, _, _, h2⟩ := h.mem
  obtain ⟨b, _, _, _, _, _, hn⟩ := h2 (by omega)
  obtain ⟨a, capn, _, _, hps, _⟩ := hn i hi
  exact hps.fits

/-- The pages of sixteen keys. -/
structure Sx (N : List Nd) (r a b ka kb : Nat) : Prop where
  n : N.length ≤ 511
  t : ∃ qs, TreeG N r 1 qs [r, a, b]
  nd : [r, a, b].Nodup
  nr : nodeOf N r = some (1, [(ka, a), (kb, b)])
  na : ∃ pa, nodeOf N a = some (0, pa)
  nb : ∃ pb, nodeOf N b = some (0, pb)
def sxL (r a b : Nat) : List Int := ofP [r, a, b]
def sxP (r a b : Nat) (q : Int) : Bool := decide (q ∈ sxL r a b)
def sxG (r a b : Nat) (x : Int) : List Int := if x = (r : Int) then sxL r a b else []
section
variable {N : List Nd} {r a b ka kb : Nat}
theorem Sx.pos (h : Sx N r a b ka kb) : (1 ≤ r ∧ r ≤ N.length) ∧ (1 ≤ a ∧ a ≤ N.length) ∧ (1 ≤ b ∧ b ≤ N.length) := by
  obtain ⟨_, ha⟩ := h.na
  obtain ⟨_, hb⟩ := h.nb
  exact ⟨nodeOf_le h.nr, nodeOf_le ha, nodeOf_le hb⟩
theorem Sx.ne (h : Sx N r a b ka kb) : r ≠ a ∧ r ≠ b ∧ a ≠ b := by
  have := h.nd
  simp only [List.nodup_cons, List.mem_cons, List.not_mem_nil, or_false, not_or] at this
  exact ⟨this.1.1, this.1.2, this.2.1⟩
theorem Sx.hG (h : Sx N r a b ka kb) {rs : List Int} (hr : ∀ x ∈ rs, x = (r : Int) ∨ x = 0) : ∀ x ∈ rs, ∃ root l qs g, x = ((root : Nat) : Int) ∧ TreeG N root l qs g ∧ g.Nodup ∧ sxG r a b x = ofP g := by
  intro x hx
  have hp := h.pos.1
  rcases hr x hx with rfl | rfl
  · obtain ⟨qs, ht⟩ := h.t
    exact ⟨r, 1, qs, _, rfl, ht, h.nd, by unfold sxG; rw [if_pos rfl]; rfl⟩
  · exact ⟨0, 0, [], [], rfl, .inl ⟨rfl, rfl, rfl, rfl⟩, .nil, by unfold sxG; rw [if_neg (by omega)]; rfl⟩
theorem Sx.hP (h : Sx N r a b ka kb) {rs : List Int} (hr : ∀ x ∈ rs, x = (r : Int) ∨ x = 0) (hm : (r : Int) ∈ rs) : ∀ q, sxP r a b q = true ↔ ∃ x ∈ rs, q ∈ sxG r a b x := by
  intro q
  unfold sxP
  rw [decide_eq_true_eq]
  constructor
  · exact fun hq => ⟨_, hm, by unfold sxG; rw [if_pos rfl]; exact hq⟩
  · rintro ⟨x, hx, hq⟩
    unfold sxG at hq
    split at hq
    · exact hq
    · cases hq
theorem mem_sx {q : Int} : q ∈ sxL r a b ↔ q = (r : Int) ∨ q = (a : Int) ∨ q = (b : Int) := by
  unfold sxL ofP
  simp
theorem Sx.perm (h : Sx N r a b ka kb) {rs : List Int} (hr : ∀ x ∈ rs, x = (r : Int) ∨ x = 0) (hm : (r : Int) ∈ rs) : (need9 N rs (sxP r a b)).Perm (sxL r a b) := by
  have hnd : (need9 N rs (sxP r a b)).Nodup := (upTo_sorted _ _).imp fun {x y} h e => by omega
  have hnd2 : (sxL r a b).Nodup := ofP_nodup h.nd
  refine (List.perm_ext_iff_of_nodup hnd hnd2).2 fun q => ?_
  unfold need9
  rw [mem_upTo, decide_eq_true_eq, cnA_pos h.n (h.hG hr) (h.hP hr hm)]
  have hp := h.pos
  have hn := h.n
  constructor
  · rintro ⟨_, _, x, hx, hq⟩
    unfold sxG at hq
    split at hq
    · exact hq
    · cases hq
  · intro hq
    refine ⟨?_, ?_, _, hm, by unfold sxG; rw [if_pos rfl]; exact hq⟩
    · rcases mem_sx.1 hq with rfl | rfl | rfl <;> omega
    · rcases mem_sx.1 hq with rfl | rfl | rfl <;> omega
theorem Sx.same (h : Sx N r a b ka kb) : need9 N [(r : Int)] (sxP r a b) = need9 N [(r : Int), (r : Int), 0] (sxP r a b) := by
  have h1 := h.perm (rs := [(r : Int)]) (by simp) (by simp)
  have h2 := h.perm (rs := [(r : Int), (r : Int), 0]) (by simp) (by simp)
  exact List.Perm.eq_of_pairwise (fun x y _ _ h1 h2 => Int.le_antisymm h1 h2) ((upTo_sorted _ _).imp fun h => Int.le_of_lt h) ((upTo_sorted _ _).imp fun h => Int.le_of_lt h) (h1.trans h2.symm)
theorem sum_zero9 (n : Nat) : ((List.range n).map fun _ => 0).sum = 0 := by
  induction n with
  | zero => rfl
  | succ n ih => rw [List.range_succ, List.map_append, List.sum_append, ih]; rfl
theorem mlt_leaf9 {x : Nat} {pa : Pairs} (h : nodeOf N x = some (0, pa)) {j : Nat} (e : j + 1 = x) (q : Int) : mlt N j q = 0 := by
  obtain ⟨i, e2, hi, hni⟩ := nodeOf_mlt h
  obtain rfl : i = j := by omega
  unfold mlt
  rw [hni]
  simp
theorem Sx.cp9 (h : Sx N r a b ka kb) (q : Int) : cnP N (sxP r a b) q = vls [(ka, a), (kb, b)] q := by
  obtain ⟨i, hi, hil, hni⟩ := nodeOf_mlt h.nr
  obtain ⟨pa, ha⟩ := h.na
  obtain ⟨pb, hb⟩ := h.nb
  unfold cnP
  have := sum_up (f := fun _ => 0) (g := fun j => if sxP r a b ((j + 1 : Nat) : Int) then mlt N j q else 0) (d := vls [(ka, a), (kb, b)] q) hil (by
    have hP : sxP r a b ((i + 1 : Nat) : Int) = true := by unfold sxP; rw [decide_eq_true_eq, mem_sx]; exact .inl (by omega)
    simp only [hP, if_true]
    unfold mlt
    rw [hni]
    simp) (fun j hj => by
    show (if sxP r a b ((j + 1 : Nat) : Int) then mlt N j q else 0) = 0
    split
    · rename_i hP
      unfold sxP at hP
      rw [decide_eq_true_eq, mem_sx] at hP
      rcases hP with e | e | e
      · omega
      · exact mlt_leaf9 ha (by omega) q
      · exact mlt_leaf9 hb (by omega) q
    · rfl)
  rw [sum_zero9, Nat.zero_add] at this
  exact this
theorem Sx.kv (h : Sx N r a b ka kb) : kv9 (ka, a) = (a : Int) ∧ kv9 (kb, b) = (b : Int) :=
  ⟨kv_page h.n h.pos.2.1.2, kv_page h.n h.pos.2.2.2⟩
/-- The counts. -/
theorem Sx.cn (h : Sx N r a b ka kb) : cnA N [(r : Int), (r : Int), 0] (sxP r a b) (r : Int) = 2 ∧ cnA N [(r : Int), (r : Int), 0] (sxP r a b) (a : Int) = 1 ∧ cnA N [(r : Int), (r : Int), 0] (sxP r a b) (b : Int) = 1 := by
  obtain ⟨e1, e2⟩ := h.kv
  obtain ⟨n1, n2, n3⟩ := h.ne
  have hp := h.pos
  have r0 : ¬ (r : Int) = 0 := by omega
  have ra : ¬ (r : Int) = (a : Int) := by omega
  have rb : ¬ (r : Int) = (b : Int) := by omega
  have ab : ¬ (a : Int) = (b : Int) := by omega
  have ar : ¬ (a : Int) = (r : Int) := by omega
  have br : ¬ (b : Int) = (r : Int) := by omega
  have ba : ¬ (b : Int) = (a : Int) := by omega
  have a0 : ¬ (0 : Int) = (a : Int) := by omega
  have b0 : ¬ (0 : Int) = (b : Int) := by omega
  have r1 : ¬ (0 : Int) = (r : Int) := by omega
  unfold cnA
  rw [h.cp9, h.cp9, h.cp9]
  unfold cnR vls
  have N1 : (r == a) = false := beq_eq_false_iff_ne.2 n1
  have N2 : (r == b) = false := beq_eq_false_iff_ne.2 n2
  have N3 : (a == b) = false := beq_eq_false_iff_ne.2 n3
  have N4 : (b == a) = false := beq_eq_false_iff_ne.2 (Ne.symm n3)
  have N5 : (a == r) = false := beq_eq_false_iff_ne.2 (Ne.symm n1)
  have N6 : (b == r) = false := beq_eq_false_iff_ne.2 (Ne.symm n2)
  refine ⟨?_, ?_, ?_⟩ <;> simp [List.countP_cons, e1, e2, r0, ra, rb, ab, ar, br, ba, a0, b0, r1, N1, N2, N3, N4, N5, N6, n1, n2, n3, Ne.symm n1, Ne.symm n2, Ne.symm n3, show ¬ r = 0 by omega]

/-- What awake looks at: three pages, of which one is the root, each with its count; all counts together. -/
theorem Sx.three (h : Sx N r a b ka kb) {C : Int → Nat} {L : List Int} (hC : cnA N [(r : Int), (r : Int), 0] (sxP r a b) = C) (hL : need9 N [(r : Int), (r : Int), 0] (sxP r a b) = L) :
    L.length = 3 ∧ (∀ q ∈ L, C q = if q = (r : Int) then 2 else 1) ∧ (L.map C).sum = 4 := by
  have hp := h.perm (rs := [(r : Int), (r : Int), 0]) (by simp) (by simp)
  rw [hL] at hp
  obtain ⟨c1, c2, c3⟩ := h.cn
  rw [hC] at c1 c2 c3
  obtain ⟨n1, n2, n3⟩ := h.ne
  refine ⟨hp.length_eq.trans rfl, fun q hq => ?_, ?_⟩
  · rcases mem_sx.1 (hp.mem_iff.1 hq) with rfl | rfl | rfl
    · rw [if_pos rfl, c1]
    · rw [if_neg (by omega), c2]
    · rw [if_neg (by omega), c3]
  · rw [(hp.map C).sum_nat]
    show ([C (r : Int), C (a : Int), C (b : Int)]).sum = 4
    rw [c1, c2, c3]
    rfl
end

end Go.Proofs.Ytdbohcdjamhdjaa
