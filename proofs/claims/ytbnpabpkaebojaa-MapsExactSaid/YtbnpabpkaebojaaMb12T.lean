import Derived.Test.YtbnpabpkaebojaaMa12T
/- Package maps: countBelow, pairsOf, Good; Get, Set, Clear. -/
set_option linter.unusedVariables false
namespace Go.Proofs.Ytbnpabpkaebojaa
open Go.RowKit

/-- How many entries of a rising list are below a size. -/
theorem maBelow (a : Option Addr) (cap : Nat) (qs : Pairs) (hs : Srt qs) (z : Int) (zn : Nat) (hz : ∀ k : Nat, k < 64 → ((k : Int) < z ↔ k < zn)) (hg : GoodM qs) (w : World) (h : IsEs w a (esOf qs)) (hl : qs.length ≤ 1000) :
    Calls Try.prog 44 #[.slice a qs.length cap, .int .i64 z] w fun e w' => e = .returned (.int .i64 (belowK qs zn : Nat)) ∧ w' = w := by
  obtain ⟨n, hn⟩ : ∃ n, qs.length = n := ⟨_, rfl⟩
  have hnI : (n : Int) ≤ 1000 := by omega
  have H := Lib.hid h
  have HN := Lib.hid hn
  obtain ⟨r, hr⟩ : ∃ r, belowK qs zn = r := ⟨_, rfl⟩
  have HR := Lib.hid hr
  have HG := Lib.hid (And.intro hs (And.intro hg hz))
  rw [hn, hr]
  clear h hn hl hr hs hg hz
  go_enter Try.func44, Try.ntmps44
  go_wp2_with fail
  go_loopw [5] (fun i wr => ∃ (j : Nat) (W : World), W = wr ∧ wr = w ∧ j ≤ n ∧ i = .int .i64 (j : Int) ∧ Hid (∀ i, i < j → keyAt qs i < zn)) (fun i _ => n - (intOf i).toNat)
  case atStart => exact ⟨0, _, rfl, by trivial, Nat.zero_le _, rfl, Lib.hid fun i hi => absurd hi (by omega)⟩
  case round =>
    obtain ⟨j, W, rfl, rfl, hj, rfl, HJ⟩ := hrel
    have d0 : (0 : Int) ≤ (j : Int) := by omega
    by_cases hlt : j < n
    · have d1 : (j : Int) < (n : Int) := by omega
      have hjl : j < qs.length := by rw [HN.out]; exact hlt
      obtain ⟨b, off, rfl, hb, hc⟩ := H.out.cells (by rw [esOf_length]; omega)
      have c1 := (hc j (by rw [esOf_length]; exact hjl)).1
      rw [esOf_at hjl] at c1
      simp only at c1
      have hk64 := (HG.out.2.1.at hjl).1
      have hzz := HG.out.2.2 _ hk64
      obtain ⟨kk, hkk⟩ : ∃ kk, keyAt qs j = kk := ⟨_, rfl⟩
      rw [hkk] at c1 hzz
      have HK := Lib.hid hkk
      clear hc hkk hk64 hb
      by_cases h1 : (kk : Int) < z
      · have HJ2 : Hid (∀ i, i < j + 1 → keyAt qs i < zn) := Lib.hid fun i hi => by
          rcases Nat.lt_or_ge i j with h | h
          · exact HJ.out i h
          · obtain rfl : i = j := by omega
            rw [HK.out]; exact hzz.1 h1
        clear HJ hzz hjl
        go_wp2_with fail
        go_roundw
        case rel => exact ⟨j + 1, _, rfl, by trivial, by omega, by go_num, HJ2⟩
        case measure => simp only [intOf]; omega
      · have h2 : decide ((kk : Int) < z) = false := decide_eq_false h1
        have HE : Hid (r = j) := Lib.hid (by
          rw [← HR.out]
          refine below_at ((rises_srt qs).2 HG.out.1) (by omega) HJ.out fun _ => ?_
          rw [HK.out]
          have := fun h => h1 (hzz.2 h)
          omega)
        clear HJ hzz hjl
        go_wp2_with fail
        go_ret
        exact ⟨by rw [HE.out]; rfl, rfl⟩
    · have d1 : ¬ (j : Int) < (n : Int) := by omega
      have d2 : decide ((j : Int) < (n : Int)) = false := decide_eq_false d1
      have HE : Hid (r = j) := Lib.hid (by
        rw [← HR.out]
        refine below_at ((rises_srt qs).2 HG.out.1) (by rw [HN.out]; omega) HJ.out fun h => ?_
        rw [HN.out] at h
        omega)
      clear HJ
      go_wp2_with fail
      go_ret
      exact ⟨by rw [HE.out]; rfl, rfl⟩

theorem take_snoc12 (qs : Pairs) (j : Nat) (h : j < qs.length) : qs.take (j + 1) = qs.take j ++ [(keyAt qs j, valAt qs j)] := by
  rw [List.take_add_one, List.getElem?_eq_getElem h, keyAt_get h, valAt_get h]
  rfl
theorem vm2_new (V : World) (o p : Obj) : ((V.alloc o).alloc p).heap[V.heap.size + 1]? = some p := by
  have := heap_alloc_new (V.alloc o) p
  rwa [World.size_alloc] at this

theorem row_weakenE {W : World} {B B' n s : Nat} {T : TypeId} {v : Value} {xs : List Value} (h : W.ownsRow B T s v n xs) (hB : B' ≤ B) : W.ownsRow B' T s v n xs := by
  refine ⟨h.1, ?_⟩
  rcases h.2 with h1 | ⟨g, cap, cur, e, hg, r⟩
  · exact .inl h1
  · exact .inr ⟨g, cap, cur, e, Nat.le_trans hB hg, r⟩

/-- The pairs of entries. -/
def PfS (w : World) (qs : Pairs) (e : Ending) (w' : World) : Prop :=
  ∃ v, e = .returned v ∧ w'.ownsRow w.heap.size 77 2 v qs.length (cellsP qs) ∧ KeptIn (· < w.heap.size) w w'
def PfJ (B : Nat) (V : World) (out : Pairs) (v : Value) (W : World) : Prop := W.ownsRow B 77 2 v out.length (cellsP out) ∧ KeptIn (· < B) V W
theorem PfJ.next {B : Nat} {V W w8 : World} {out : Pairs} {v v' : Value} {u : Nat × Nat} {o p : Obj} (h : PfJ B V out v W) (hB : V.heap.size = B) (hown : w8.ownsRow B 77 2 v' (out.length + 1) (cellsP out ++ [.int .u64 (u.1 : Int), .int .u64 (u.2 : Int)]))
    (hgrow : ((W.alloc p).alloc o).grownBy w8 v.ownBlock) : PfJ B V (out ++ [u]) v' w8 := by
  refine ⟨?_, ?_⟩
  · rw [List.length_append, cellsP_append]; exact hown
  · exact (h.2.trans ((((KeptIn.refl _ W).alloc (fun _ h => h) _).alloc (fun _ h => h) _).mono fun k hk => Nat.lt_of_lt_of_le (by rw [hB]; exact hk) h.2.size)).grown (fun k hk => by rw [hB]; exact hk) hgrow (fun g e => Nat.not_lt.2 (rowS_lt h.1 g e).1)

set_option maxHeartbeats 2000000 in
theorem maPairs (a : Option Addr) (cap : Nat) (qs : Pairs) (hg : GoodM qs) (w : World) (h : IsEs w a (esOf qs)) (hl : qs.length ≤ 1000) :
    Calls Try.prog 46 #[.slice a qs.length cap] w (PfS w qs) := by
  obtain ⟨n, hn⟩ : ∃ n, qs.length = n := ⟨_, rfl⟩
  have hnI : (n : Int) ≤ 1000 := by omega
  have H := Lib.hid h
  have HN := Lib.hid hn
  have HG := Lib.hid hg
  rw [hn]
  obtain ⟨B, hB⟩ : ∃ B, w.heap.size = B := ⟨_, rfl⟩
  have HB := Lib.hid hB
  have HJ0 : Hid (PfJ B w (qs.take 0) (.slice none 0 0) w) := Lib.hid ⟨World.ownsRow_nil _ _ _ _, KeptIn.refl _ w⟩
  obtain ⟨ii, hii, hz0, hz1, hz2⟩ := info_parts infoPair
  clear h hn hl hg hB
  go_enter Try.func46, Try.ntmps46
  go_wp2_with fail
  go_loopw [3, 5, 8] (fun v _ i wr => ∃ (j : Nat) (W : World) (v0 : Value), W = wr ∧ v0 = v ∧ j ≤ n ∧ i = .int .i64 (j : Int) ∧ Hid (PfJ B w (qs.take j) v0 W)) (fun _ _ i _ => n - (intOf i).toNat)
  case atStart => exact ⟨0, _, _, rfl, rfl, Nat.zero_le _, rfl, HJ0⟩
  case round =>
    obtain ⟨j, W, v0, rfl, rfl, hj, rfl, HJ⟩ := hrel
    clear HJ0
    by_cases hlt : j < n
    · have d0 : (0 : Int) ≤ (j : Int) := by omega
      have d1 : (j : Int) < (n : Int) := by omega
      have hjl : j < qs.length := by rw [HN.out]; exact hlt
      have hes := H.out.old (HJ.out.2.mono fun k hk => by rw [← HB.out]; exact hk)
      obtain ⟨b, off, rfl, hb, hc⟩ := hes.cells (by rw [esOf_length]; omega)
      obtain ⟨c1, c2⟩ := hc j (by rw [esOf_length]; exact hjl)
      rw [esOf_at hjl] at c1 c2
      simp only at c1 c2
      obtain ⟨m1, m2, m3⟩ := HG.out.at hjl
      have HT := Lib.hid (take_snoc12 qs j hjl)
      obtain ⟨kk, hkk⟩ : ∃ kk, keyAt qs j = kk := ⟨_, rfl⟩
      obtain ⟨vv, hvv⟩ : ∃ vv, valAt qs j = vv := ⟨_, rfl⟩
      rw [hkk] at c1 HT m1
      rw [hvv] at c2 HT m2 m3
      have k0 : (0 : Int) ≤ (kk : Int) := by omega
      have k1 : (kk : Int) < 64 := by omega
      have k2 : (0 : Int) ≤ (vv : Int) := by omega
      have k3 : (vv : Int) ≤ 1023 := by omega
      have hw1 : IntKind.u64.wrap (kk : Int) = (kk : Int) := by rw [IntKind.wrap_u64]; omega
      have hw2 : IntKind.u64.wrap (vv : Int) = (vv : Int) := by rw [IntKind.wrap_u64]; omega
      have hlen : (qs.take j).length = j := by rw [List.length_take]; omega
      obtain ⟨hb1, hb2⟩ := ef_bnd j (by omega)
      have hBW : B ≤ W.heap.size := by have := HJ.out.2.size; rw [HB.out] at this; exact this
      have hrow := HJ.out.1
      rw [hlen] at hrow
      have HRW := Lib.hid hrow
      have HLN := Lib.hid hlen
      have HNB := Lib.hid (vm2_new W (.cells #[.int .i64 (kk : Int), .int .i64 (vv : Int)] 74) (.cells #[.int .u64 (kk : Int), .int .u64 (vv : Int)] 77))
      clear hc hkk hvv hjl hes hb hlen hrow m1 m2 m3
      go_wp2_with (first
        | (at_builtin; refine wpList_append_own _ rfl _ _ 25 rfl B 77 ii _ 2 16 Try.underlying25 hii hz0 hz1 hz2 rfl (by decide) _ _ _ rfl ((HRW.out.alloc _).alloc _) ⟨W.heap.size + 1, 0, none⟩ 1 1 [.int .u64 (kk : Int), .int .u64 (vv : Int)] rfl rfl (World.news_of_block (cs := #[.int .u64 (kk : Int), .int .u64 (vv : Int)]) (t := 77) (fr := (0, 0)) HNB.out) (by simp [Value.oneCell']) hb1 hb2 (by rw [World.size_alloc, World.size_alloc]; exact Nat.le_succ_of_le (Nat.le_succ_of_le hBW)) ?_))
      intro v' w8 hown hgrow _
      have HJ2 : Hid (PfJ B w (qs.take (j + 1)) v' w8) := Lib.hid (by
        rw [HT.out]
        exact HJ.out.next (u := (kk, vv)) HB.out (by rw [HLN.out]; exact hown) hgrow)
      clear hown hgrow HJ hb1 hb2 c1 c2 hBW HRW HNB
      go_wp2_with fail
      go_roundw
      case rel => exact ⟨j + 1, _, _, rfl, rfl, by omega, by go_num, HJ2⟩
      case measure => simp only [intOf]; omega
    · have d1 : ¬ (j : Int) < (n : Int) := by omega
      have HE : Hid (PfS w qs (.returned v0) W) := Lib.hid (by
        have h1 := HJ.out
        rw [List.take_of_length_le (by rw [HN.out]; omega)] at h1
        exact ⟨v0, rfl, by rw [HB.out]; exact h1.1, by rw [HB.out]; exact h1.2⟩)
      clear HJ
      go_wp2_with fail
      go_ret
      exact HE.out

end Go.Proofs.Ytbnpabpkaebojaa
