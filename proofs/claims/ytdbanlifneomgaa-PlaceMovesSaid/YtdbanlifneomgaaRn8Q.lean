import Derived.Test.YtdbanlifneomgaaRg8Q
/- Package tree's Range. -/
set_option linter.unusedVariables false
namespace Go.Proofs.Ytdbanlifneomgaa
open Go.RowKit

set_option maxRecDepth 100000 in
set_option maxHeartbeats 4000000 in
theorem trRange {N : List Nd} (hN : N.length ≤ 511) {w : World} {s room : Nat} {D : Nat → Prop} (h : IsSh w s room N D) (low high : Nat) (hlow : low < 18446744073709551616) (hhigh : high < 18446744073709551616) {root l : Nat} {qs : Pairs} {g : List Nat} (ht : TreeG N root l qs g) (hq : qs.length ≤ 1000000) :
    Calls Try.prog 23 #[pgV s, .int .i64 (root : Int), .int .u64 (low : Int), .int .u64 (high : Int)] w (RngS w (rng low high qs)) := by
  rcases ht with ⟨rfl, rfl, _⟩ | ⟨ps, g', hS, hl7, h15, _⟩
  · have HE : Hid (RngS w (rng low high []) (.returned (.tuple #[.slice none 0 0, .int .i64 0])) w) := Lib.hid ⟨_, rfl, ⟨rfl, .inl ⟨rfl, rfl⟩⟩, (fun p hp => by cases hp), KeptIn.refl _ _⟩
    unfold pgV
    clear h
    go_enter Try.func23, Try.ntmps23
    go_wp2_with fail
    go_ret2
    exact HE.out
  · obtain ⟨R, hR⟩ : ∃ R, rng low high qs = R := ⟨_, rfl⟩
    obtain ⟨ix, hix, hqi, hni⟩ := nodeOf_at hS.node
    have p0 : ((root : Int) == 0) = false := by rw [beq_eq_false_iff_ne]; omega
    have p1 : ¬ ((root : Int) = 0) := by omega
    have HB : Hid (∀ V, KeptIn (· < w.heap.size) w V → Calls Try.prog 41 #[.iface 28 (.pointer (some ⟨s, 0, none⟩)), .agg #[.int .i64 (root : Int), .bool true, .int .i64 0, .int .u64 0, .int .u64 18446744073709551615], .int .u64 (low : Int), .int .u64 (high : Int)] V (RngS V R)) := Lib.hid fun V hk => by
      have := trBetween hN s room low high hlow hhigh (h.old hk) hS hl7 h15 hq (by decide)
      rw [hR] at this
      exact this
    rw [hR]
    unfold pgV
    clear h hS hR hqi hni hix
    go_enter Try.func23, Try.ntmps23
    go_wp2_with (first
      | (go_at_call 42; refine (trToRoot root _).mono ?_; unfold leadV; rintro e V ⟨rfl, hk⟩; have HC := Lib.hid (HB.out V hk); have HK := Lib.hid hk; clear hk)
      | (go_at_call 41; refine HC.out.mono ?_; rintro e V2 ⟨v, rfl, hrow, hfit, hk2⟩; have HR := Lib.hid (And.intro hrow (And.intro hfit hk2)); clear hrow hfit hk2))
    go_ret2
    exact ⟨v, rfl, row_weaken HR.out.1 HK.out.size, HR.out.2.1, HK.out.go HR.out.2.2⟩

end Go.Proofs.Ytdbanlifneomgaa
