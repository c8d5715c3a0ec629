import Derived.Test.YtkgjmejgkffbdaaGreatDoorOm7L
/- StoreOpens of layer 7: what Open and Format leave of all bytes. -/
set_option linter.unusedVariables false
namespace Go.Proofs.YtkgjmejgkffbdaaGreatDoor
open Go.RowKit

/-- What Open leaves. -/
def OpR (w3 : World) (d m s b : Nat) (l : List UInt8) (u n : Nat) (e : Ending) (w' : World) : Prop :=
  ∃ (ps : Option Addr) (er : Int), e = .returned (.tuple #[.pointer ps, .int .i64 er]) ∧ Dv w3 d m s b 0 pw0 (secs l u) (fun _ => none) w' ∧
    ((n < 2 ∧ ps = none ∧ er = 3) ∨ (2 ≤ n ∧ (newH (nth l 0) (nth l 1)).2.2 = false ∧ ps = none ∧ er = 3) ∨
      (2 ≤ n ∧ ∃ (o : Hd) (j st pg : Nat), newH (nth l 0) (nth l 1) = (o, (j : Int), true) ∧ ps = some ⟨st, 0, none⟩ ∧ er = 0 ∧ Sv ⟨d, m, s, b, st, pg⟩ 0 pw0 (secs l u) (fun _ => none) o j (noP n) w'))

theorem opOpen {w3 V : World} {d m s b u n : Nat} {l : List UInt8} (hV : Dv w3 d m s b 0 pw0 (secs l u) (fun _ => none) V) (hT : Tab V) (hn : min (u / 16) 512 = n) :
    Calls Tryz.prog 29 #[.pointer (some ⟨d, 0, none⟩)] V (OpR w3 d m s b l u n) := by
  have hn' : min ((secs l u).length / 16) 512 = n := by rw [secs_length]; exact hn
  rcases Nat.lt_or_ge n 2 with h2 | h2
  · refine (stOpenSmall d m s b 0 _ _ V hV.isD n hn' h2).mono ?_
    intro e w' hR
    first
      | (obtain ⟨rfl, rfl⟩ := hR; exact ⟨none, 3, rfl, hV, .inl ⟨h2, rfl, rfl⟩⟩)
      | (obtain ⟨rfl, hk⟩ := hR; exact ⟨none, 3, rfl, hV.old hk, .inl ⟨h2, rfl, rfl⟩⟩)
  · have a0 := now_secs l u 0 (by omega)
    have a1 := now_secs l u 1 (by omega)
    cases hr : (newH (nth l 0) (nth l 1)).2.2 with
    | false =>
      refine (stOpenNone d m s b 0 pw0 _ _ V hV.isD hV.isP rfl hT n hn' h2 (by rw [a0, a1]; exact hr)).mono ?_
      rintro e w' ⟨rfl, hk⟩
      exact ⟨none, 3, rfl, hV.old hk, .inr (.inl ⟨h2, hr, rfl, rfl⟩)⟩
    | true =>
      obtain ⟨o, ho⟩ : ∃ o, (newH (nth l 0) (nth l 1)).1 = o := ⟨_, rfl⟩
      obtain ⟨i, hi⟩ : ∃ i, (newH (nth l 0) (nth l 1)).2.1 = i := ⟨_, rfl⟩
      have hnew : newH (nth l 0) (nth l 1) = (o, i, true) := by rw [← ho, ← hi, ← hr]
      obtain ⟨_, j, rfl, hj⟩ := newH_at _ _ _ _ hnew
      refine (stOpenSome d m s b 0 pw0 _ _ V hV.isD hV.isP rfl hT n hn' h2 o j (by rw [a0, a1]; exact hnew)).mono ?_
      rintro e w' ⟨st, pg, rfl, hsv, hk, h3, h4⟩
      exact ⟨some ⟨st, 0, none⟩, 0, rfl, hV.old hk, .inr (.inr ⟨h2, o, j, st, pg, hnew, rfl, rfl, hsv⟩)⟩

/-- A device of bytes. -/
theorem opOf {w3 V : World} {m : Nat} {l : List UInt8} (u : Nat) (hk : KeptIn (· < w3.heap.size) w3 V) (hP : IsP m pw0 V) (hm : w3.heap.size ≤ m) (hl : l.length ≤ maxLen) (hu : u = min (l.length / 16) 16384) :
    Calls Tryz.prog 28 #[.pointer (some ⟨m, 0, none⟩), .string ⟨l.toArray⟩] V fun e w' => ∃ d s b, e = .returned (.pointer (some ⟨d, 0, none⟩)) ∧ Dv w3 d m s b 0 pw0 (secs l u) (fun _ => none) w' := by
  refine (dOf m l u V hl hu).mono ?_
  rintro e w' ⟨d, s, b, rfl, h1, h2, h3, h4, h5⟩
  have hz := hk.size
  exact ⟨d, s, b, rfl, h1, hP.kept h2 hP.lt, by omega, hm, by omega, by omega, hk.trans (h2.mono fun k h => by omega)⟩

/-- What Format leaves. -/
def FmR (w3 : World) (d m s b : Nat) (l : List UInt8) (u n : Nat) (sl ft c : Int) (e : Ending) (w' : World) : Prop :=
  ∃ (ps : Option Addr) (er : Int), e = .returned (.tuple #[.pointer ps, .int .i64 er]) ∧ KeptIn (· < w3.heap.size) w3 w' ∧
    (((n < 2 ∨ goodH ⟨1, 0, sl, ft, c⟩ = false) ∧ ps = none ∧ er = 1) ∨
      (2 ≤ n ∧ goodH ⟨1, 0, sl, ft, c⟩ = true ∧ er = 0 ∧ ∃ (st pg : Nat) (p' : Pw), ps = some ⟨st, 0, none⟩ ∧ Sv ⟨d, m, s, b, st, pg⟩ 0 p' (formS (secs l u) (fun _ => none) ⟨1, 0, sl, ft, c⟩) (fun _ => none) ⟨1, 0, sl, ft, c⟩ 0 (noP n) w'))

theorem opFmt {w3 V : World} {d m s b u n : Nat} {l : List UInt8} (hV : Dv w3 d m s b 0 pw0 (secs l u) (fun _ => none) V) (hT : Tab V) (hn : min (u / 16) 512 = n) (sl ft c : Int) :
    Calls Tryz.prog 7 #[.pointer (some ⟨d, 0, none⟩), .agg #[.int .i64 sl, .int .i64 ft], .int .i64 c] V (FmR w3 d m s b l u n sl ft c) := by
  have hn' : min ((secs l u).length / 16) 512 = n := by rw [secs_length]; exact hn
  by_cases hbad : n < 2 ∨ goodH ⟨1, 0, sl, ft, c⟩ = false
  · refine (stFormatBad d m s b 0 _ _ V hV.isD hT sl ft c n hn' hbad.symm).mono ?_
    rintro e w' ⟨rfl, hk⟩
    exact ⟨none, 1, rfl, hV.kept.trans (hk.mono fun k h => Nat.lt_of_lt_of_le h hV.kept.size), .inl ⟨hbad, rfl, rfl⟩⟩
  · have h2 : 2 ≤ n := by omega
    have hg : goodH ⟨1, 0, sl, ft, c⟩ = true := by
      cases h : goodH ⟨1, 0, sl, ft, c⟩ with
      | true => rfl
      | false => exact absurd (.inr h) hbad
    refine (stFormatOk d m s b 0 pw0 _ _ V hV.isD hV.isP pw0_sure (by omega) hT sl ft c hg n hn' h2).mono ?_
    rintro e w' ⟨st, pg, p', rfl, hsv, _, hf, _, _⟩
    exact ⟨some ⟨st, 0, none⟩, 0, rfl, hf.since hV.kept hV.lm hV.ls hV.lb, .inr ⟨h2, hg, rfl, st, pg, p', rfl, hsv⟩⟩

theorem made_u8 (n : Nat) : (madeCells (Value.int .u8 0).cells (n * 1)).toList = List.replicate n (.int .u8 0) := by
  rw [Nat.mul_one, List.eq_replicate_iff]
  refine ⟨by simp [madeCells], fun b hb => ?_⟩
  unfold madeCells at hb
  rw [Array.toList_map, List.mem_map] at hb
  obtain ⟨i, _, rfl⟩ := hb
  rw [show i % ((Value.int .u8 0).cells).size = 0 from Nat.mod_one i]
  rfl
theorem made_u8_at (i : Nat) (hi : i < 16) : (madeCells (Value.int .u8 0).cells (16 * 1))[i]? = some (.int .u8 0) := by
  rw [← Array.getElem?_toList, made_u8, List.getElem?_replicate, if_pos hi]

theorem op_cnt {n : Nat} (h2 : 2 ≤ n) (h3 : n ≤ 3) : ∃ c : Nat, cntS (noP n) 0 = c ∧ (c : Int) = (n : Int) - 1 ∧ wrap64 ((n : Int) - 1) = (c : Int) ∧ IntKind.i64.wrap ((n : Int) - 1) = (c : Int) := by
  rcases Nat.lt_or_ge n 3 with h | h
  · obtain rfl : n = 2 := by omega
    exact ⟨1, by decide, by omega, by unfold wrap64; omega, by rw [IntKind.wrap_i64]; omega⟩
  · obtain rfl : n = 3 := by omega
    exact ⟨2, by decide, by omega, by unfold wrap64; omega, by rw [IntKind.wrap_i64]; omega⟩
theorem op_nums {l : List UInt8} (hl : l.length ≤ 900) : ∃ u n : Nat, u = min (l.length / 16) 16384 ∧ min (u / 16) 512 = n ∧ n ≤ 3 ∧ min ((l.length : Int) / 256) 512 = (n : Int) ∧ (2 ≤ n → 512 ≤ l.length ∧ 32 ≤ u) ∧ 256 * n ≤ l.length ∧ 16 * n ≤ u ∧ u ≤ 56 := by
  refine ⟨min (l.length / 16) 16384, min (min (l.length / 16) 16384 / 16) 512, rfl, rfl, by omega, by omega, by omega, by omega, by omega, by omega⟩

end Go.Proofs.YtkgjmejgkffbdaaGreatDoor
