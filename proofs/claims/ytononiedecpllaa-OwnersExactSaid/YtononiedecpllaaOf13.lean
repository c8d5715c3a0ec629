/- Owners: slices.BinarySearchFunc at a row of owners; find; just. -/
import Derived.Test.YtononiedecpllaaOd13
set_option linter.unusedVariables false
namespace Go.Proofs.Ytononiedecpllaa
open Go.RowKit

theorem KeptIn.on {a b c : World} (h : KeptIn (· < a.heap.size) a b) (k : KeptIn (· < b.heap.size) b c) : KeptIn (· < a.heap.size) a c := h.trans (k.mono fun _ hk => Nat.lt_of_lt_of_le hk h.size)

/-- What the search knows of the places that it has passed. -/
def Bs13 (w : World) (x : Nat) (o : Ow) (l : List Ow) (p q : Nat) (W : World) : Prop :=
  KeptIn (· < w.heap.size) w W ∧ BoxO x o W ∧ (∀ k y, k < p → l[k]? = some y → ltO y o) ∧ ∀ k y, q ≤ k → l[k]? = some y → ¬ ltO y o

theorem bs_nums (p q n : Nat) (h : p < q) (hq : q ≤ n) (hn : n ≤ 2000) : ∃ m : Nat, ((p : Int) + (q : Int)) / 2 = (m : Int) ∧ p ≤ m ∧ m < q ∧ m < n ∧ (0 : Int) ≤ (m : Int) ∧ (m : Int) < (n : Int) :=
  ⟨(p + q) / 2, by omega, by omega, by omega, by omega, by omega, by omega⟩
theorem bs_left {l : List Ow} {o y : Ow} {m : Nat} (hs : Srt13 l) (hy : l[m]? = some y) (hlt : ltO y o) : ∀ k z, k < m + 1 → l[k]? = some z → ltO z o := fun k z hk hz => by
  rcases Nat.lt_or_ge k m with h | h
  · obtain ⟨h1, e1⟩ := List.getElem?_eq_some_iff.1 hz
    obtain ⟨h2, e2⟩ := List.getElem?_eq_some_iff.1 hy
    have := (List.pairwise_iff_getElem.1 hs) k m h1 h2 h
    rw [e1, e2] at this
    exact ltO_tr this hlt
  · obtain rfl : k = m := by omega
    rw [hz] at hy
    cases hy
    exact hlt
theorem bs_right {l : List Ow} {o y : Ow} {m : Nat} (hs : Srt13 l) (hy : l[m]? = some y) (hlt : ¬ ltO y o) : ∀ k z, m ≤ k → l[k]? = some z → ¬ ltO z o := fun k z hk hz h3 => by
  rcases Nat.lt_or_ge m k with h | h
  · obtain ⟨h1, e1⟩ := List.getElem?_eq_some_iff.1 hz
    obtain ⟨h2, e2⟩ := List.getElem?_eq_some_iff.1 hy
    have := (List.pairwise_iff_getElem.1 hs) m k h2 h1 h
    rw [e1, e2] at this
    exact hlt (ltO_tr this h3)
  · obtain rfl : k = m := by omega
    rw [hz] at hy
    cases hy
    exact hlt h3
theorem Bs13.go {w W V : World} {x : Nat} {o : Ow} {l : List Ow} {p q p' q' : Nat} (h : Bs13 w x o l p q W) (hk : KeptIn (· < W.heap.size) W V) (h1 : ∀ k y, k < p' → l[k]? = some y → ltO y o) (h2 : ∀ k y, q' ≤ k → l[k]? = some y → ¬ ltO y o) : Bs13 w x o l p' q' V :=
  ⟨h.1.trans (hk.mono fun k hk => Nat.lt_of_lt_of_le hk h.1.size), h.2.1.old hk, h1, h2⟩
/-- What the walk reads: an element's cells, and the box's. -/
theorem Bs13.cells {w W V : World} {x n cap B m : Nat} {a : Option Addr} {o y : Ow} {l : List Ow} {p q : Nat} (h : Bs13 w x o l p q W) (hr : RowO w B (.slice a n cap) l) (hy : l[m]? = some y) (hk : KeptIn (· < W.heap.size) W V) (g : Nat) (ha : a = some ⟨g, 0, none⟩) :
    V.cell? ⟨g, m * 3, none⟩ = some (.int .i64 y.vol) ∧ V.cell? ⟨g, m * 3 + 1, none⟩ = some (.int .i64 y.bir) ∧ V.cell? ⟨g, m * 3 + 2, none⟩ = some (.int .i64 y.pos) ∧ V.cell? ⟨x, 0, none⟩ = some (.int .i64 o.vol) ∧ V.cell? ⟨x, 1, none⟩ = some (.int .i64 o.bir) ∧ V.cell? ⟨x, 2, none⟩ = some (.int .i64 o.pos) := by
  have hk2 : KeptIn (· < w.heap.size) w V := h.1.trans (hk.mono fun k hk => Nat.lt_of_lt_of_le hk h.1.size)
  obtain ⟨g', e, _, c1, c2, c3⟩ := (hr.old hk2).at hy
  rw [ha] at e
  cases e
  obtain ⟨d1, d2, d3⟩ := (h.2.1.old hk).cells
  exact ⟨c1, c2, c3, d1, d2, d3⟩

set_option maxRecDepth 100000 in
theorem owBin (a : Option Addr) (cap : Nat) (l : List Ow) (o : Ow) (B : Nat) (w : World) (h : RowO w B (.slice a l.length cap) l) (hs : Srt13 l) (hl : l.length ≤ 2000) :
    Calls Try.prog 34 #[.slice a l.length cap, ownV o, .func (.func 35) #[] #[]] w fun e w' => e = .returned (.tuple #[.int .i64 (plO l o : Nat), .bool (decide (o ∈ l))]) ∧ KeptIn (· < w.heap.size) w w' := by
  have C := Lib.hid fun a b V => owCmp a b V
  obtain ⟨n, hn⟩ : ∃ n, l.length = n := ⟨_, rfl⟩
  obtain ⟨r, hr⟩ : ∃ r, plO l o = r := ⟨_, rfl⟩
  obtain ⟨t, ht⟩ : ∃ t, decide (o ∈ l) = t := ⟨_, rfl⟩
  rw [hr, ht, hn]
  rw [hn] at h hl
  have H := Lib.hid h
  have HN := Lib.hid hn
  have HR := Lib.hid (And.intro hr (And.intro ht hs))
  have hm : (n : Int) ≤ 2000 := by omega
  have HJ0 : Hid (Bs13 w w.heap.size o l 0 n (w.alloc (.cells #[.int .i64 o.vol, .int .i64 o.bir, .int .i64 o.pos] 31))) := Lib.hid ⟨(KeptIn.refl _ w).alloc (fun _ h => h) _, BoxO.new w o, fun k y hk => absurd hk (by omega), fun k y hk hy => absurd (List.getElem?_eq_some_iff.1 hy).1 (by omega)⟩
  unfold ownV
  clear h hn hr ht hs
  go_enter Try.func34, Try.ntmps34
  go_wp2_with fail
  go_loopw [9, 10] (fun i j wr => ∃ (p q : Nat) (W : World), W = wr ∧ p ≤ q ∧ q ≤ n ∧ i = .int .i64 p ∧ j = .int .i64 q ∧ Hid (Bs13 w w.heap.size o l p q W)) (fun i j _ => (RowKit.intOf j).toNat - (RowKit.intOf i).toNat)
  case atStart => exact ⟨0, n, _, rfl, Nat.zero_le _, Nat.le_refl _, rfl, rfl, HJ0⟩
  case round =>
    obtain ⟨p, q, W, rfl, hpq, hqn, rfl, rfl, HJ⟩ := hrel
    clear HJ0
    have p0 : (0 : Int) ≤ (p : Int) := by omega
    by_cases hlt : p < q
    · have d1 : (p : Int) < (q : Int) := by omega
      obtain ⟨m, hmm, hpm, hmq, hmn, d0, d2⟩ := bs_nums p q n hlt hqn hl
      have hml : m < l.length := by rw [HN.out]; exact hmn
      obtain ⟨y, hy⟩ : ∃ y, l[m]? = some y := ⟨_, List.getElem?_eq_getElem hml⟩
      obtain ⟨g, rfl, hg, _⟩ := H.out.at hy
      have HC : Hid (∀ V, KeptIn (· < W.heap.size) W V → V.cell? ⟨g, m * 3, none⟩ = some (.int .i64 y.vol) ∧ V.cell? ⟨g, m * 3 + 1, none⟩ = some (.int .i64 y.bir) ∧ V.cell? ⟨g, m * 3 + 2, none⟩ = some (.int .i64 y.pos) ∧ V.cell? ⟨w.heap.size, 0, none⟩ = some (.int .i64 o.vol) ∧ V.cell? ⟨w.heap.size, 1, none⟩ = some (.int .i64 o.bir) ∧ V.cell? ⟨w.heap.size, 2, none⟩ = some (.int .i64 o.pos)) :=
        Lib.hid fun V hk => HJ.out.cells H.out hy hk g rfl
      have k0 : KeptIn (· < W.heap.size) W W.drew := (KeptIn.refl _ _).drew
      obtain ⟨c1, c2, c3, c4, c5, c6⟩ := HC.out _ k0
      by_cases hlo : ltO y o
      · have HL := Lib.hid (bs_left HR.out.2.2 hy hlo)
        have hneg : cmpO y o < 0 := cmpO_neg.2 hlo
        obtain ⟨z, hz⟩ : ∃ z, cmpO y o = z := ⟨_, rfl⟩
        have C' := Lib.hid fun V => C.out y o V
        rw [hz] at hneg C'
        unfold ownV at C'
        clear hml hy hlo hz hg hlt
        go_wp2_with fail
        try simp only [hmm]
        clear hmm
        go_region_held3 (fun V => V.cell? ⟨g, m * 3, none⟩ = some (.int .i64 y.vol) ∧ V.cell? ⟨g, m * 3 + 1, none⟩ = some (.int .i64 y.bir) ∧ V.cell? ⟨g, m * 3 + 2, none⟩ = some (.int .i64 y.pos) ∧ V.cell? ⟨w.heap.size, 0, none⟩ = some (.int .i64 o.vol) ∧ V.cell? ⟨w.heap.size, 1, none⟩ = some (.int .i64 o.bir) ∧ V.cell? ⟨w.heap.size, 2, none⟩ = some (.int .i64 o.pos))
          (first | exact ⟨c1, c2, c3, c4, c5, c6⟩ | exact HC.out _ (k0.on hk) | go_keep)
          (first | (go_at_call 35; refine (C'.out _).mono ?_; rintro e V ⟨rfl, hk⟩))
        have HX := Lib.hid (HJ.out.go (k0.on hk) HL.out HJ.out.2.2.2)
        clear HJ HC C' c1 c2 c3 c4 c5 c6
        go_wp2_with fail
        go_roundw
        case rel => exact ⟨m + 1, q, _, rfl, by omega, hqn, by go_num, rfl, HX⟩
        case measure => simp [RowKit.intOf]; omega
      · have HL := Lib.hid (bs_right HR.out.2.2 hy hlo)
        have hneg : 0 ≤ cmpO y o := by
          by_cases h : cmpO y o < 0
          · exact absurd (cmpO_neg.1 h) hlo
          · omega
        obtain ⟨z, hz⟩ : ∃ z, cmpO y o = z := ⟨_, rfl⟩
        have C' := Lib.hid fun V => C.out y o V
        rw [hz] at hneg C'
        unfold ownV at C'
        clear hml hy hlo hz hg hlt
        go_wp2_with fail
        try simp only [hmm]
        clear hmm
        go_region_held3 (fun V => V.cell? ⟨g, m * 3, none⟩ = some (.int .i64 y.vol) ∧ V.cell? ⟨g, m * 3 + 1, none⟩ = some (.int .i64 y.bir) ∧ V.cell? ⟨g, m * 3 + 2, none⟩ = some (.int .i64 y.pos) ∧ V.cell? ⟨w.heap.size, 0, none⟩ = some (.int .i64 o.vol) ∧ V.cell? ⟨w.heap.size, 1, none⟩ = some (.int .i64 o.bir) ∧ V.cell? ⟨w.heap.size, 2, none⟩ = some (.int .i64 o.pos))
          (first | exact ⟨c1, c2, c3, c4, c5, c6⟩ | exact HC.out _ (k0.on hk) | go_keep)
          (first | (go_at_call 35; refine (C'.out _).mono ?_; rintro e V ⟨rfl, hk⟩))
        have HX := Lib.hid (HJ.out.go (k0.on hk) HJ.out.2.2.1 HL.out)
        clear HJ HC C' c1 c2 c3 c4 c5 c6
        go_wp2_with fail
        go_roundw
        case rel => exact ⟨p, m, _, rfl, hpm, by omega, rfl, by first | rfl | go_num, HX⟩
        case measure => simp [RowKit.intOf]; omega
    · obtain rfl : p = q := by omega
      have hpl : plO l o = p := plO_is (by rw [HN.out]; exact hqn) HJ.out.2.2.1 fun x hx => HJ.out.2.2.2 p x (Nat.le_refl _) hx
      have hrp : r = p := by rw [← HR.out.1, hpl]
      subst hrp
      have HP := Lib.hid hpl
      clear hpl
      by_cases hrn : r < n
      · have d2 : (r : Int) < (n : Int) := by omega
        have hrl : r < l.length := by rw [HN.out]; exact hrn
        obtain ⟨y, hy⟩ : ∃ y, l[r]? = some y := ⟨_, List.getElem?_eq_getElem hrl⟩
        obtain ⟨g, rfl, hg, _⟩ := H.out.at hy
        have HC : Hid (∀ V, KeptIn (· < W.heap.size) W V → V.cell? ⟨g, r * 3, none⟩ = some (.int .i64 y.vol) ∧ V.cell? ⟨g, r * 3 + 1, none⟩ = some (.int .i64 y.bir) ∧ V.cell? ⟨g, r * 3 + 2, none⟩ = some (.int .i64 y.pos) ∧ V.cell? ⟨w.heap.size, 0, none⟩ = some (.int .i64 o.vol) ∧ V.cell? ⟨w.heap.size, 1, none⟩ = some (.int .i64 o.bir) ∧ V.cell? ⟨w.heap.size, 2, none⟩ = some (.int .i64 o.pos)) :=
          Lib.hid fun V hk => HJ.out.cells H.out hy hk g rfl
        have k0 : KeptIn (· < W.heap.size) W W.drew := (KeptIn.refl _ _).drew
        obtain ⟨c1, c2, c3, c4, c5, c6⟩ := HC.out _ k0
        have htz : t = decide (cmpO y o = 0) := by
          rw [← HR.out.2.1]
          have e1 := plO_mem (o := o) HR.out.2.2
          rw [HP.out, hy, Option.some.injEq] at e1
          exact decide_eq_decide.2 (e1.trans cmpO_zero.symm)
        obtain ⟨z, hz⟩ : ∃ z, cmpO y o = z := ⟨_, rfl⟩
        have C' := Lib.hid fun V => C.out y o V
        rw [hz] at htz C'
        unfold ownV at C'
        have HT := Lib.hid htz
        have HK := Lib.hid HJ.out.1
        clear hrl hy hz hg hlt htz HJ hpq hqn
        go_wp2_with fail
        go_region_held3 (fun V => V.cell? ⟨g, r * 3, none⟩ = some (.int .i64 y.vol) ∧ V.cell? ⟨g, r * 3 + 1, none⟩ = some (.int .i64 y.bir) ∧ V.cell? ⟨g, r * 3 + 2, none⟩ = some (.int .i64 y.pos) ∧ V.cell? ⟨w.heap.size, 0, none⟩ = some (.int .i64 o.vol) ∧ V.cell? ⟨w.heap.size, 1, none⟩ = some (.int .i64 o.bir) ∧ V.cell? ⟨w.heap.size, 2, none⟩ = some (.int .i64 o.pos))
          (first | exact ⟨c1, c2, c3, c4, c5, c6⟩ | exact HC.out _ (k0.on hk) | go_keep)
          (first | (go_at_call 35; refine (C'.out _).mono ?_; rintro e V ⟨rfl, hk⟩))
        clear HC C' c1 c2 c3 c4 c5 c6
        go_wp2_with fail
        go_ret2
        refine ⟨?_, HK.out.trans ((k0.on hk).mono fun k h => Nat.lt_of_lt_of_le h HK.out.size)⟩
        rw [HT.out]
        rfl
      · have d2 : ¬ (r : Int) < (n : Int) := by omega
        have d3 : decide ((r : Int) < (n : Int)) = false := decide_eq_false d2
        have d4 : decide (r < n) = false := decide_eq_false hrn
        obtain rfl : t = false := by
          rw [← HR.out.2.1, decide_eq_false_iff_not, plO_mem HR.out.2.2, HP.out]
          intro h
          have := (List.getElem?_eq_some_iff.1 h).1
          rw [HN.out] at this
          exact hrn this
        have HK := Lib.hid HJ.out.1
        clear HJ hlt hpq hqn
        go_wp2_with fail
        go_quiet (fail)
        go_wp2_with fail
        go_ret2
        exact ⟨rfl, HK.out.drewN _⟩

end Go.Proofs.Ytononiedecpllaa
