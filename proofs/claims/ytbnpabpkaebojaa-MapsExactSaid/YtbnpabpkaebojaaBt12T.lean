import Derived.Test.YtbnpabpkaebojaaBm8T
import Derived.Test.YtbnpabpkaebojaaTv8T
/- A tree that is built on a Shelf with other nodes: its weight, what Build leaves of a TrN. -/
set_option linter.unusedVariables false
namespace Go.Proofs.Ytbnpabpkaebojaa
open Go.RowKit

theorem partW_full (l : Pairs) : ∀ k, 15 * k ≤ l.length → partW 15 l k = 15 * k := by
  intro k
  induction k with
  | zero => intro _; rfl
  | succ k ih =>
    intro h
    have e : ((l.drop (15 * k)).take 15).length = 15 := by rw [List.length_take, List.length_drop]; omega
    rw [partW_succ, ih (by omega), e]
    omega
theorem partW_le (l : Pairs) (h0 : 0 < l.length) : partW 15 l (partsOf 15 l.length) ≤ l.length + 7 := by
  obtain ⟨k, hk⟩ : ∃ k, partsOf 15 l.length = k + 1 := ⟨partsOf 15 l.length - 1, by unfold partsOf; omega⟩
  have h1 : 15 * k ≤ l.length ∧ l.length ≤ 15 * k + 15 ∧ 15 * k < l.length := by unfold partsOf at hk; omega
  have e : ((l.drop (15 * k)).take 15).length = l.length - 15 * k := by rw [List.length_take, List.length_drop]; omega
  rw [hk, partW_succ, partW_full l k h1.1, e]
  omega

/-- A tree of two levels that is built. -/
theorem pile_two {c : Nat} (hc : c ≤ 511) {l : Pairs} {N : List Nd} (hN : N.length ≤ 511) (h0 : 15 < l.length) (h2 : l.length ≤ 225) (hs : Srt l) (hh : ∀ q ∈ l, q.1 ≤ topH) {o : Option Nat} {N' : List Nd} (e : pileM c l.length 0 l N = (o, N')) :
    ∃ M, N' = N ++ M ∧ ∀ r, o = some r → ∃ g', TreeG N' r 1 l g' ∧ g'.Nodup ∧ phi N' g' ≤ l.length + 7 := by
  obtain ⟨f, hf⟩ : ∃ f, l.length = f + 1 := ⟨l.length - 1, by omega⟩
  rw [hf] at e
  unfold pileM at e
  rw [if_neg (by omega)] at e
  unfold nodesM at e
  have hb : Body N 0 l l [] := ⟨rfl, rfl⟩
  split at e
  · rename_i N1 heq
    split at heq
    · cases heq
    · obtain ⟨_, rfl⟩ := Prod.mk.inj heq
      obtain ⟨rfl, rfl⟩ := Prod.mk.inj e
      exact ⟨_, rfl, by intro r h; cases h⟩
  · rename_i ls N1 heq
    split at heq
    · rename_i hfit
      obtain ⟨e1, rfl⟩ := Prod.mk.inj heq
      obtain rfl := Option.some.inj e1
      obtain ⟨qa, qb, ga, gb, ga', hq, hg, h1, h2', h3, h4⟩ := nodes_ok hb (m := 15) (by omega) (by omega) _ (Nat.le_refl _)
      have hdr : l.drop (15 * partsOf 15 l.length) = [] := by
        rw [List.drop_eq_nil_iff]
        unfold partsOf; omega
      rw [hdr] at h1
      obtain ⟨rfl, rfl⟩ : qb = [] ∧ gb = [] := ⟨h1.1.symm, h1.2⟩
      obtain ⟨rfl, -⟩ := List.append_eq_nil_iff.1 hg.symm
      rw [List.append_nil] at hq
      subst hq
      rw [if_pos rfl] at h4
      have hlen1 : (N ++ nodesOf 0 15 l (partsOf 15 l.length)).length = N.length + partsOf 15 l.length := by rw [List.length_append, nodesOf_length]
      have hK : 2 ≤ partsOf 15 l.length ∧ partsOf 15 l.length ≤ 15 := by unfold partsOf; omega
      rw [if_neg (by rw [leadsOf_length]; omega)] at e
      have hfe : pileM c f (0 + 1) (leadsOf N.length 15 l (partsOf 15 l.length)) (N ++ nodesOf 0 15 l (partsOf 15 l.length)) = (o, N') := e
      obtain ⟨M, rfl, r1, r2⟩ := pile_ok hc f 1 (leadsOf N.length 15 l (partsOf 15 l.length)) l ga' _ 0 h2' (by omega) (by rw [leadsOf_length]; omega) (.inr (by rw [leadsOf_length]; omega)) (by rw [leadsOf_length]; unfold partsOf; omega) (by rw [leadsOf_length]; omega) (by omega) hs hh o N' hfe
      refine ⟨_, by rw [List.append_assoc], ?_⟩
      intro r hr'
      obtain ⟨lv', g', s1, s2, s3, s4⟩ := r2 r hr'
      obtain ⟨t1, t2, t3⟩ := s4 (by rw [leadsOf_length]; omega)
      subst t1
      refine ⟨g', s2, ?_, ?_⟩
      · have hn1 : ga'.Nodup := h3.nodup .nil fun x hx => by cases hx
        refine s3.nodup hn1 fun x hx => ?_
        exact (kids_pages (fun _ _ _ => snd_pages) h2' x hx).2
      · rw [t2]
        unfold phiB
        rw [if_neg (by omega), h4]
        exact partW_le l (by omega)
    · cases heq

theorem need_le75 (n : Nat) (h : n ≤ 75) : needM n n ≤ 6 := by
  rcases Nat.eq_zero_or_pos n with rfl | h0
  · simp [needM]
  · by_cases h15 : n ≤ 15
    · rw [need_small h0 h15]; omega
    · rw [need_big h15]
      have h1 : partsOf 15 n ≤ 5 := by unfold partsOf; omega
      have h2 : 0 < partsOf 15 n := by unfold partsOf; omega
      rw [need_small h2 (by omega)]
      omega

/-- What Build leaves of a Shelf with other nodes. -/
theorem TrI.build {N : List Nd} (hN : N.length ≤ 511) {c : Nat} (hc : c ≤ 511) (hNc : N.length ≤ c) {l : Pairs} (hl : l.length ≤ 75) (hs : Srt l) (hh : ∀ q ∈ l, q.1 ≤ topH) {o : Option Nat} {N' : List Nd} (e : pileM c l.length 0 l N = (o, N')) (hroom : N.length + 6 ≤ c) :
    ∃ M r, N' = N ++ M ∧ M.length ≤ 6 ∧ o = some r ∧ TrI N' r l (l.length + 8) := by
  have hn := need_le75 l.length hl
  obtain ⟨p1, p2⟩ := pile_need l.length 0 l N (Nat.le_refl _) o N' e hNc
  obtain ⟨p3, p4⟩ := p2 (by omega)
  obtain ⟨r, rfl⟩ := Option.isSome_iff_exists.1 p3
  rcases Nat.eq_zero_or_pos l.length with h0 | h0
  · obtain rfl : l = [] := List.length_eq_zero_iff.1 h0
    simp only [List.length_nil, pileM] at e
    obtain ⟨e1, rfl⟩ := Prod.mk.inj e
    obtain rfl := Option.some.inj e1
    exact ⟨[], 0, by simp, by simp, rfl, 0, [], .inl ⟨rfl, rfl, rfl, rfl⟩, .nil, by omega, by simp [phi]⟩
  · by_cases h15 : l.length ≤ 15
    · obtain ⟨M, rfl, m2, m3⟩ := pile_ok hc l.length 0 l l [] N 0 ⟨rfl, rfl⟩ hN h0 (.inl rfl) (Nat.le_refl _) (by omega) (by omega) hs hh (some r) N' e
      obtain ⟨lv', g', t1, t2, t3, t4⟩ := m3 r rfl
      obtain ⟨q1, q2, q3⟩ := t4 h15
      refine ⟨M, r, rfl, by omega, rfl, lv', g', t2, t3.nodup .nil (fun x hx => by cases hx), by omega, ?_⟩
      rw [q2]
      unfold phiB
      rw [if_pos rfl, if_neg (by omega)]
      omega
    · obtain ⟨M, rfl, m3⟩ := pile_two hc hN (by omega) (by omega) hs hh e
      obtain ⟨g', t1, t2, t3⟩ := m3 r rfl
      rw [List.length_append] at p4
      exact ⟨M, r, rfl, by omega, rfl, 1, g', t1, t2, by omega, by omega⟩

theorem tnBuild {w0 W : World} {s room root f : Nat} {N : List Nd} {qs : Pairs} (h : TrN w0 s room root qs f N W) (cap : Nat) (a : Option Addr) (l : Pairs) (hl : ListOk2 W s a cap l) (hl2 : l.length ≤ 75) (hr : rises l = true) (hroom : N.length + 6 ≤ min room 511) :
    Calls Try.prog 45 #[pgV s, .slice a l.length cap] W fun e w' => ∃ (r : Nat) (M : List Nd), e = .returned (.tuple #[.int .i64 (r : Int), .int .i64 0]) ∧ M.length ≤ 6 ∧ Fr8 s W w' ∧ TrN w0 s room r l (l.length + 8) (N ++ M) w' := by
  obtain ⟨D, h1, h2, h4, h5, h6⟩ := h
  refine (trBuild h1 cap a l hl (by omega) h4 hr).mono ?_
  intro e w' hR
  cases hM : pileM (min room 511) l.length 0 l N with
  | mk o N' =>
    rw [hM] at hR
    obtain ⟨⟨p, er, rfl, hm⟩, ha⟩ := hR
    replace ha : AddTo W s room D N' w' := ha
    have hfr : Fr8 s W w' := by obtain ⟨D', a1, a2, a3⟩ := ha; exact a3
    obtain ⟨M, r, rfl, m1, rfl, m2⟩ := TrI.build h1.len (c := min room 511) (by omega) h4 hl2 ((rises_srt l).1 hr) (fun q hq => by have := (hl.1.fits q hq).1; unfold topH; omega) hM hroom
    obtain ⟨rfl, rfl⟩ := hm
    exact ⟨p, M, rfl, m1, hfr, trn_add ha h5 h1.ds h6 m2 (by rw [List.length_append]; omega)⟩

end Go.Proofs.Ytbnpabpkaebojaa
