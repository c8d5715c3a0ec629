import Derived.Test.YtdbohcdjamhdjaaLp9W
/- The reference's look at whatever nodes, whole; Look. -/
set_option linter.unusedVariables false
namespace Go.Proofs.Ytdbohcdjamhdjaa
open Go.RowKit

theorem fitA_ent {root : Bool} {lv lvs : Int} {lo hi : Nat} {nd : NdA} (hl : root = false → lvs = lv) (hf : Fits nd.2) (hh : root = true → hi = 18446744073709551615) :
    FitA root lvs lo hi nd ↔ EntA root lv lo nd ∧ ∀ i, i < nd.2.length → keyAt nd.2 i ≤ hi := by
  obtain ⟨L, ps⟩ := nd
  have hfi : ∀ i, i < ps.length → keyAt ps i < 18446744073709551616 := fun i hi => (Fits.at hf hi).1
  cases root with
  | true =>
    obtain rfl := hh rfl
    constructor
    · rintro ⟨l, e, h⟩
      obtain ⟨h1, h2, h3⟩ : RootFit l ps := h
      have e' : L = (l : Int) := e
      subst e'
      exact ⟨⟨h1, h2, by rw [if_pos rfl]; exact h3.imp (fun h => by show (l : Int) = 0; omega) id⟩, fun i hi => by have := hfi i hi; show keyAt ps i ≤ _; omega⟩
    · rintro ⟨⟨h1, h2, h3⟩, _⟩
      rw [if_pos rfl] at h3
      have h0 := (good_parts h1).1
      have h0' : 0 ≤ L := h0
      have e : L = (L.toNat : Int) := (Int.toNat_of_nonneg h0').symm
      refine ⟨L.toNat, e, ?_⟩
      show RootFit L.toNat ps
      refine ⟨by rw [← e]; exact h1, h2, h3.imp (fun h => ?_) id⟩
      have : L = 0 := h
      omega
  | false =>
    obtain rfl := hl rfl
    constructor
    · rintro ⟨l, e, h⟩
      obtain ⟨h1, h2, h3, h4, h5⟩ : KidFit lvs lo hi l ps := h
      have e' : L = (l : Int) := e
      subst e'
      refine ⟨⟨h1, h2, by rw [if_neg (by decide)]; exact ⟨h3, h4⟩⟩, fun i hi => ?_⟩
      have hi' : i < ps.length := hi
      show keyAt ps i ≤ _
      rcases Nat.lt_or_ge i (ps.length - 1) with h | h
      · have := rises_lt (good_rises h1) h (by omega)
        omega
      · obtain rfl : i = ps.length - 1 := by omega
        exact h5
    · rintro ⟨⟨h1, h2, h3⟩, h4⟩
      rw [if_neg (by decide)] at h3
      obtain ⟨h5, h6⟩ := h3
      have h0 := (good_parts h1).1
      have h0' : 0 ≤ L := h0
      have e : L = (L.toNat : Int) := (Int.toNat_of_nonneg h0').symm
      have h2' : 0 < ps.length := h2
      refine ⟨L.toNat, e, ?_⟩
      show KidFit lvs lo hi L.toNat ps
      exact ⟨by rw [← e]; exact h1, h2, by rw [← e]; exact h5, h6, h4 _ (by show _ < ps.length; omega)⟩

theorem r8lookG {NA : List NdA} {s H T B0 cap : Nat} {la : Option Addr} : ∀ (n : Nat) {X : Nat → Prop} {root has : Bool} {lv lvs : Int} {lo hi hig : Nat} {p : Int} {w : World} {ms : List Int}, IsShA w s H NA → H ≤ T → w.cell? ⟨s, 0, none⟩ = some (.slice la NA.length cap) → StX w T B0 X (some ms) → PrB w T X → OkM NA.length ms → hi < 18446744073709551616 → ((root = false ∧ has = true ∧ hi + 1 = hig) ∨ (has = false ∧ hi = 18446744073709551615)) → (root = true → 8 ≤ n ∧ lv = -1) → (root = false → lvs = lv ∧ 0 ≤ lv ∧ lv < (n : Int)) →
    Calls Try.prog 35 #[.pointer (some ⟨T, 0, none⟩), .slice la NA.length cap, .int .i64 p, .int .i64 lv, .int .u64 (lo : Int), .bool has, .int .u64 (hig : Int)] w (LkR w T B0 X (svG NA n root lvs lo hi p ms)) := by
  intro n
  induction n with
  | zero =>
    intro X root has lv lvs lo hi hig p w ms hsh hD hla hst hp hom hhi hhas hr hk
    cases root with
    | true => have := (hr rfl).1; omega
    | false => have := hk rfl; omega
  | succ n ih =>
    intro X root has lv lvs lo hi hig p w ms hsh hD hla hst hp hom hhi hhas hr hk
    obtain ⟨pv, qv, qs, h, hqs, hpq⟩ := hst
    have hN := hsh.len
    have hml : ms.length ≤ 511 := Nat.le_trans hom.len hN
    rw [svG]
    by_cases hin : p ∈ ms
    · rw [if_pos hin]
      have h1 := hom.2 p hin
      exact r8lookMet h hp la NA.length cap p lv lo hig has (by omega) (by omega) hin hml
    · rw [if_neg hin]
      cases hn : nodeI NA p with
      | none => exact r8lookOut h hp la NA.length cap p lv lo hig has (nodeI_no hn)
      | some nd =>
        obtain ⟨i, hi', rfl, hnd⟩ := nodeI_at hn
        simp only
        have hom2 := hom.snoc hin (by omega) (by omega)
        have hml2 : ms.length ≤ 510 := by
          have h1 := hom2.len
          rw [List.length_append, List.length_singleton] at h1
          omega
        have hfit := hsh.fits i hi'
        rw [hnd] at hfit
        have hlv : if root = true then lv = -1 else 0 ≤ lv := by
          cases root with
          | true => rw [if_pos rfl]; exact (hr rfl).2
          | false => rw [if_neg (by decide)]; exact (hk rfl).2.1
        have hFE := fitA_ent (lo := lo) (hi := hi) (nd := nd) (fun e => (hk e).1) hfit (fun e => by
          rcases hhas with h | h
          · rw [e] at h; cases h.1
          · exact h.2)
        by_cases hE : EntA root lv lo nd
        · obtain ⟨L, ps⟩ := nd
          have h0 := (good_parts hE.1).1
          have h7 := (good_parts hE.1).2.1
          have h0' : 0 ≤ L := h0
          have hN2 : ∀ i, i < ps.length → hi < keyAt ps i → ¬ FitA root lvs lo hi (L, ps) := fun i hi2 h9 hF => by
            have := (hFE.1 hF).2 i hi2
            have h10 : keyAt ps i ≤ hi := this
            omega
          by_cases hL : L = 0
          · subst hL
            refine r8lookLeaf h hqs hpq hp hsh hD hla hi' rfl hnd hin hml2 hlv hE hhas (fun ha => ?_) (fun i hi2 h9 => if_neg (hN2 i hi2 h9))
            rw [if_pos (hFE.2 ⟨hE, ha⟩), if_pos rfl]
          · refine r8lookKids h hqs hpq hp hsh hD hla hi' rfl hnd hin hml2 hlv (by omega) hE hhi hhas hom2 (fun lo' hi' q m => svG NA n false (L - 1) lo' hi' q m) (fun lo' hi' q m m' h1 h2 => svG_ok h1 h2) ?_ (fun ha => ?_) (fun i hi2 h9 => if_neg (hN2 i hi2 h9))
            · intro V X' lo' hi2 hig' has' v m h1 h2 h3 h4 h5 h6 h7' h8
              refine ih h4 hD h5 h1 h2 h3 h6 (h7'.imp (fun h => ⟨rfl, h⟩) id) (fun e => by cases e) fun _ => ⟨rfl, by omega, ?_⟩
              cases root with
              | true =>
                have h9 := (hr rfl).1
                have : L ≤ 7 := h7
                omega
              | false =>
                have h9 := (hk rfl).2.2
                have h10 := hE.2.2
                rw [if_neg (by decide)] at h10
                have h11 : L = lv := h10.1
                omega
            · rw [if_pos (hFE.2 ⟨hE, ha⟩), if_neg hL]
        · rw [if_neg (fun hF => hE (hFE.1 hF).1)]
          obtain ⟨L, ps⟩ := nd
          exact r8lookNo h hqs hpq hp hsh hD hla hi' rfl hnd hin hml2 hlv hE

/-- What Look answers. -/
def LookG (w : World) (o : Option (List Int)) (e : Ending) (w' : World) : Prop :=
  ∃ (T B0 : Nat), e = .returned (.pointer (some ⟨T, 0, none⟩)) ∧ StX w' T B0 (fun _ => False) o ∧ w.heap.size ≤ T ∧ KeptIn (· < w.heap.size) w w'

set_option maxRecDepth 100000 in
set_option maxHeartbeats 1000000 in
theorem r8LookG {NA : List NdA} {s H cap : Nat} {w : World} {la : Option Addr} (hsh : IsShA w s H NA) (hla : w.cell? ⟨s, 0, none⟩ = some (.slice la NA.length cap)) (r : Int) :
    Calls Try.prog 27 #[.slice la NA.length cap, .int .i64 r] w (LookG w (tsG NA r)) := by
  obtain ⟨W, hW⟩ : ∃ W, w.alloc (.cells #[.slice none 0 0, .slice none 0 0, .bool false] 78) = W := ⟨_, rfl⟩
  have hst := LkAt.start w
  have hk : KeptIn (· < w.heap.size) w W := by rw [← hW]; exact (KeptIn.refl _ w).alloc (fun _ h => h) _
  rw [hW] at hst
  obtain ⟨T, hT⟩ : ∃ T, w.heap.size = T := ⟨_, rfl⟩
  rw [hT] at hst
  have hlaW : W.cell? ⟨s, 0, none⟩ = some (.slice la NA.length cap) := (World.cell?_of_block (a := ⟨s, 0, none⟩) (hk.block s (Nat.lt_of_lt_of_le hsh.ds hsh.le))).trans hla
  have hshW := hsh.old hk
  have hD : H ≤ T := by rw [← hT]; exact hsh.le
  have hS0 : StX W T (T + 1) (fun _ => False) (some []) := ⟨_, _, [], hst, Nat.zero_le _, fun k h => h.elim⟩
  have HW := Lib.hid (And.intro hW hT)
  have HK := Lib.hid hk
  by_cases h0 : r = 0
  · subst h0
    have HE : Hid (LookG w (tsG NA 0) (.returned (.pointer (some ⟨T, 0, none⟩))) W) := Lib.hid ⟨T, _, rfl, by unfold tsG; rw [if_pos rfl]; exact hS0, Nat.le_of_eq hT, hk⟩
    clear hla hsh hst hk hlaW hshW hD hW hT hS0
    go_enter Try.func27, Try.ntmps27
    go_wp2_with fail
    rw [HW.out.1]
    simp only [HW.out.2]
    go_ret
    exact HE.out
  · have HC : Hid (Calls Try.prog 35 #[.pointer (some ⟨T, 0, none⟩), .slice la NA.length cap, .int .i64 r, .int .i64 (-1), .int .u64 0, .bool false, .int .u64 0] W (LkR W T (T + 1) (fun _ => False) (tsG NA r))) := Lib.hid (by
      unfold tsG
      rw [if_neg h0]
      exact r8lookG (lvs := 0) (lo := 0) (hig := 0) 8 hshW hD hlaW hS0 (fun k h => h.elim) ⟨List.nodup_nil, fun q hq => by cases hq⟩ (by decide) (.inr ⟨rfl, rfl⟩) (fun _ => ⟨Nat.le_refl _, rfl⟩) (fun e => by cases e))
    have q0 : (r == 0) = false := by rw [beq_eq_false_iff_ne]; exact h0
    clear hla hsh hst hlaW hshW hD hW hT hk hS0
    go_enter Try.func27, Try.ntmps27
    go_wp2_with fail
    rw [HW.out.1]
    simp only [HW.out.2]
    refine HC.out.mono ?_
    rintro e V ⟨rfl, hs2, hk2, -⟩
    have HE : Hid (LookG w (tsG NA r) (.returned (.pointer (some ⟨T, 0, none⟩))) V) := Lib.hid ⟨T, _, rfl, hs2, Nat.le_of_eq HW.out.2, HK.out.trans (hk2.mono fun k hk => by
      have := HW.out.2
      have := HK.out.size
      exact ⟨by omega, by omega, .inl (by omega)⟩)⟩
    clear hs2 hk2
    go_wp2_with fail
    go_ret
    exact HE.out

end Go.Proofs.Ytdbohcdjamhdjaa
