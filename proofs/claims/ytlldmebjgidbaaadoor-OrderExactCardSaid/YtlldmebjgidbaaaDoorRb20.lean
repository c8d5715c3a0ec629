/- The document's answers for orders: Bytes. -/
import Derived.Test.YtlldmebjgidbaaaDoorRr20
set_option linter.unusedVariables false
set_option linter.unusedSimpArgs false
namespace Go.Proofs.YtlldmebjgidbaaaDoor
open Go.RowKit

theorem tri_snoc (x y z : UInt8) : ∀ a : List UInt8, a.length % 3 = 0 → tri (a ++ [x, y, z]) = tri a ++ [UInt8.ofNat ((64 * ((y.toNat + 96) % 256) + z.toNat + 128) % 256)]
  | [], _ => rfl
  | [_], h => by simp at h
  | [_, _], h => by simp at h
  | a :: b :: c :: m, h => by
    have := tri_snoc x y z m (by simp at h; omega)
    simp only [List.cons_append, tri, this]
theorem tri_len : ∀ a : List UInt8, a.length % 3 = 0 → (tri a).length = a.length / 3
  | [], _ => rfl
  | [_], h => by simp at h
  | [_, _], h => by simp at h
  | a :: b :: c :: m, h => by
    have := tri_len m (by simp at h; omega)
    simp only [tri, List.length_cons, this]
    omega
theorem tri_take (l : List UInt8) (i : Nat) (x y z : UInt8) (h0 : i % 3 = 0) (hx : l[i]? = some x) (hy : l[i + 1]? = some y) (hz : l[i + 2]? = some z) :
    tri (l.take (i + 3)) = tri (l.take i) ++ [UInt8.ofNat ((64 * ((y.toNat + 96) % 256) + z.toNat + 128) % 256)] := by
  have hl := (List.getElem?_eq_some_iff.1 hz).1
  have : l.take (i + 3) = l.take i ++ [x, y, z] := by
    rw [List.take_add_one (i := i + 2), List.take_add_one (i := i + 1), List.take_add_one (i := i), hx, hy, hz]
    simp
  rw [this, tri_snoc _ _ _ _ (by rw [List.length_take]; omega)]
theorem by_num (y z : UInt8) : IntKind.u8.wrap (IntKind.u8.wrap (IntKind.u8.wrap (64 * IntKind.u8.wrap ((y.toNat : Int) - 160)) + (z.toNat : Int)) - 128) = (((UInt8.ofNat ((64 * ((y.toNat + 96) % 256) + z.toNat + 128) % 256)).toNat : Nat) : Int) := by
  have h1 := b8_lt y
  have h2 := b8_lt z
  have e : (UInt8.ofNat ((64 * ((y.toNat + 96) % 256) + z.toNat + 128) % 256)).toNat = (64 * ((y.toNat + 96) % 256) + z.toNat + 128) % 256 := by simp
  rw [e]
  simp only [IntKind.wrap_u8]
  omega
theorem mod3 (n : Nat) (h : n ≤ 100000) : (n : Int).tmod 3 = ((n % 3 : Nat) : Int) := by
  rw [Int.tmod_eq_emod_of_nonneg (by omega)]
  omega

theorem i64_one (j : Nat) (h : j ≤ 1000000) : IntKind.i64.wrap ((j : Int) + 1) = (j : Int) + 1 := by rw [IntKind.wrap_i64]; omega
theorem i64_two (j : Nat) (h : j ≤ 1000000) : IntKind.i64.wrap ((j : Int) + 2) = (j : Int) + 2 := by rw [IntKind.wrap_i64]; omega
theorem wrap_tri (j : Nat) (h : j ≤ 1000000) : wrap64 ((j : Int) + 3) = ((j + 3 : Nat) : Int) := by unfold wrap64; omega
theorem BoJ.old {B : Nat} {V W W' : World} {v : Value} {l : List UInt8} (h : BoJ B V l v W) (hk : KeptIn (· < W.heap.size) W W') : BoJ B V l v W' := by
  refine ⟨⟨h.1.1, ?_⟩, h.2.1.trans (hk.mono fun k hk' => Nat.lt_of_lt_of_le hk' h.2.2), Nat.le_trans h.2.2 hk.size⟩
  rcases h.1.2 with h1 | ⟨g, cap, cur, rfl, h1, h2, h3⟩
  · exact .inl h1
  · exact .inr ⟨g, cap, cur, rfl, h1, by rw [hk.block g (Array.getElem?_eq_some_iff.1 h2).1]; exact h2, h3⟩
theorem conv_tr {B : Nat} {V W : World} {v : Value} {l tr : List UInt8} (h : BoJ B V (tri l) v W) (e : tri l = tr) : ∀ W', KeptIn (· < W.heap.size) W W' → (convert 98 9 v).run Tryd.prog W' = .ok (.string ⟨tr.toArray⟩) W' := by
  intro W' hk
  rw [e] at h
  by_cases h0 : tr = []
  · subst h0
    rcases h.1.2 with ⟨rfl, _⟩ | ⟨g, cap, cur, rfl, _⟩
    · kernel_rfl
    · exact run_convert_bytes_back (P := Tryd.prog) W' 98 9 5 ⟨g, 0, none⟩ cap [] (by kernel_rfl) (by kernel_rfl) (by kernel_rfl) (fun j hj => absurd hj (by simp))
  · exact (h.old hk).conv h0

set_option maxRecDepth 1000000 in
set_option maxHeartbeats 4000000 in
theorem rBytes0 (l : List UInt8) (hbig : l.length ≤ 100000) (w : World) :
    Calls Tryd.prog 36 #[.string ⟨l.toArray⟩] w fun e w' => e = .returned (.tuple #[.string ⟨(bvS (bytR l)).toArray⟩, .bool (bytR l).isSome]) ∧ KeptIn (· < w.heap.size) w w' := by
  obtain ⟨rr, hr⟩ : ∃ rr, bytR l = rr := ⟨_, rfl⟩
  rw [hr]
  by_cases h45 : l = [45]
  · subst h45
    have hres : rr = some [] := by rw [← hr]; rfl
    subst hres
    go_enter Tryd.func36, Tryd.ntmps36
    go_wp2_with fail
    go_ret2
    exact ⟨rfl, .refl _ _⟩
  · by_cases h0 : l = []
    · subst h0
      have hres : rr = none := by rw [← hr]; rfl
      subst hres
      go_enter Tryd.func36, Tryd.ntmps36
      go_wp2_with fail
      go_ret2
      exact ⟨rfl, .refl _ _⟩
    · have hb45 : (l == [45]) = false := beq_eq_false_iff_ne.2 h45
      have hb0 : (l == []) = false := beq_eq_false_iff_ne.2 h0
      have hb1 : l.isEmpty = false := by cases l with | nil => exact absurd rfl h0 | cons a b => rfl
      have hm3 := mod3 l.length hbig
      have hposl : 0 < l.length := by cases l with | nil => exact absurd rfl h0 | cons a b => simp
      by_cases h3 : l.length % 3 = 0
      · have hrr : Hid (rr = if runesOf (tri l) = l then some (tri l) else none) := Lib.hid (by
          rw [← hr]
          unfold bytR
          rw [if_neg h45, if_neg (by rintro (q | q); exact h0 q; exact q h3)])
        have m1 : ((l.length : Int).tmod 3 == 0) = true := beq_iff_eq.2 (by omega)
        have m2 : ((l.length : Int).tmod 3 != 0) = false := by simp [hm3, h3]
        have m3 : (((l.length : Int) % 3) == 0) = true := beq_iff_eq.2 (by omega)
        have m4 : (((l.length : Int) % 3) != 0) = false := by
          rw [bne_eq_false_iff_eq]
          omega
        have m5 : (l.length : Int) % 3 = 0 := by omega
        clear hr hm3
        go_enter Tryd.func36, Tryd.ntmps36
        go_wp2_with fail
        clear m1 m2 m3 m4 m5
        replace h3 := Lib.hid h3
        go_loopw [4, 5] (fun v i wr => ∃ (j : Nat) (V : World) (v0 : Value), V = wr ∧ v0 = v ∧ i = .int .i64 (j : Int) ∧ Hid (j ≤ l.length ∧ j % 3 = 0 ∧ BoJ w.heap.size w (tri (l.take j)) v0 V)) (fun _ i _ => l.length - (RowKit.intOf i).toNat)
        case atStart => exact ⟨0, _, _, rfl, rfl, rfl, Nat.zero_le _, rfl, BoJ.zero w⟩
        case round =>
          obtain ⟨j, V, v0, rfl, rfl, rfl, H⟩ := hrel
          obtain ⟨hj, hj3, hB⟩ := H.out
          clear H
          by_cases hp : j < l.length
          · have hp2 : j + 2 < l.length := by have := h3.out; omega
            obtain ⟨x, hx⟩ : ∃ c, l[j]? = some c := ⟨_, List.getElem?_eq_getElem hp⟩
            obtain ⟨y, hy⟩ : ∃ c, l[j + 1]? = some c := ⟨_, List.getElem?_eq_getElem (by omega)⟩
            obtain ⟨z, hz⟩ : ∃ c, l[j + 2]? = some c := ⟨_, List.getElem?_eq_getElem hp2⟩
            have hby := str_byte l (j + 1) y hy
            have hbz := str_byte l (j + 2) z hz
            have hbz2 := str_byte l ((j : Int) + 2).toNat z (by rw [show ((j : Int) + 2).toNat = j + 2 by omega]; exact hz)
            have hby2 := str_byte l ((j : Int) + 1).toNat y (by rw [show ((j : Int) + 1).toNat = j + 1 by omega]; exact hy)
            have d1 : decide ((j : Int) < (l.length : Int)) = true := decide_eq_true (by omega)
            have d2 : (j : Int) < (l.length : Int) := by omega
            have d3 : (0 : Int) ≤ (j : Int) := by omega
            have d4 : decide (j < l.length) = true := decide_eq_true hp
            have d5 : (j : Int) + 1 < (l.length : Int) := by omega
            have d6 : (j : Int) + 2 < (l.length : Int) := by omega
            have d7 : (0 : Int) ≤ (j : Int) + 1 := by omega
            have d8 : (0 : Int) ≤ (j : Int) + 2 := by omega
            have hw1 := wrap_succ j (by omega)
            have hw2 := wrap_two j (by omega)
            have hw3 := wrap_tri j (by omega)
            have hv1 := i64_one j (by omega)
            have hv2 := i64_two j (by omega)
            have hlen : (tri (l.take j)).length = j / 3 := by rw [tri_len _ (by rw [List.length_take]; omega), List.length_take]; congr 1; omega
            obtain ⟨a, cap, rfl⟩ := hB.form
            rw [hlen]
            rw [hlen] at hB
            obtain ⟨m, hm⟩ : ∃ m, j / 3 = m := ⟨_, rfl⟩
            rw [hm] at hlen hB ⊢
            have hmb : m ≤ 100000 := by omega
            have n1 := by_num y z
            have htt := tri_take l j x y z hj3 hx hy hz
            obtain ⟨u, hu⟩ : ∃ u, UInt8.ofNat ((64 * ((y.toNat + 96) % 256) + z.toNat + 128) % 256) = u := ⟨_, rfl⟩
            rw [hu] at n1 htt
            have hrow : V.ownsRow w.heap.size 5 1 (.slice a m cap) m (Lib.byteCells (tri (l.take j))) := by have := hB.1; rw [hlen] at this; exact this
            have hnx : Hid (tri (l.take (j + 3)) = tri (l.take j) ++ [u] ∧ (tri (l.take j) ++ [u]).length = m + 1) := Lib.hid ⟨htt, by rw [List.length_append, hlen]; rfl⟩
            have hBs := hB.2.2
            obtain ⟨ip, hip, hp0, hp1, hp2'⟩ := info_parts infoByte20
            replace hB := Lib.hid hB
            replace hp := Lib.hid hp2
            have hj4 := Lib.hid hj3
            clear hlen hj hx hy hz hm hu htt hj3 hp2
            go_wp2_with fail
            go_region_law (first
              | (refine step_append_lies _ (by rfl) _ _ 98 (by rfl) w.heap.size 5 ip _ 1 1 Tryd.underlying98 hip hp0 hp1 hp2' rfl (by omega) (.slice a m cap) m _ (by rfl) (hrow.alloc _) ⟨V.heap.size, 0, none⟩ 1 1 [.int .u8 u.toNat] (by rfl) (by rfl) (World.news_of_block (cs := #[.int .u8 u.toNat]) (t := 5) (fr := (0, 0)) (heap_alloc_new V _)) (by simp [Value.oneCell']) (by omega) (by unfold maxLen; omega) (by omega) (by simp; omega) (V.heap.size + 1) (by simp) ?_; intro gg cap' w1 hown1 hgrow hat hlt1))
            all_goals
              have hB3 : Hid (BoJ w.heap.size w (tri (l.take (j + 3))) (.slice (some ⟨gg, 0, none⟩) (m + 1) cap') w1) := Lib.hid (by
                rw [hnx.out.1]
                exact hB.out.next (fun _ h => h) hnx.out.2 hown1 (by first | exact hgrow | exact undrew hgrow))
              clear hown1 hgrow hat hlt1 hB hrow
              go_wp2_with fail
              go_roundw
              case rel => exact ⟨j + 3, _, _, rfl, rfl, by first | rfl | exact congrArg (Value.int .i64) hw3, by have := hp.out; omega, by have := hj4.out; omega, hB3.out⟩
              case measure => first | exact ms_step3 hp.out rfl | exact ms_step3 hp.out hw3
          · obtain rfl : j = l.length := by omega
            have d1 : decide ((l.length : Int) < (l.length : Int)) = false := decide_eq_false (by omega)
            rw [List.take_length] at hB
            have htl := tri_len l h3.out
            have hcv := hB.conv (fun e => by rw [e] at htl; simp at htl; omega)
            have hK := hB.2.1
            have C := rRunes (tri l) (by omega) V
            obtain ⟨tr, htr⟩ : ∃ tr, tri l = tr := ⟨_, rfl⟩
            rw [htr] at hcv C hrr
            have hcv2 := conv_tr hB htr
            obtain ⟨ru, hru⟩ : ∃ ru, runesOf tr = ru := ⟨_, rfl⟩
            rw [hru] at C hrr
            replace C := Lib.hid C
            replace hB := Lib.hid hB
            replace hK := Lib.hid hK
            clear hj hj3 hp htl
            by_cases heq : ru = l
            · have hres : Hid (rr = some tr) := Lib.hid (by rw [hrr.out, if_pos heq])
              have q1 : (ru == l) = true := beq_iff_eq.2 heq
              replace heq := Lib.hid heq
              clear hrr
              go_wp2_with fail
              refine C.out.mono ?_
              rintro e W2 ⟨rfl, hK2⟩
              have hcv3 := hcv2 W2 hK2
              have HK2 := Lib.hid (hK.out.trans (hK2.mono fun k hk => Nat.lt_of_lt_of_le hk hB.out.2.2))
              clear hcv hcv2 C hK2
              go_wp2_with fail
              go_ret2
              rw [hres.out]
              exact ⟨rfl, HK2.out⟩
            · have hres : Hid (rr = none) := Lib.hid (by rw [hrr.out, if_neg heq])
              have q1 : (ru == l) = false := beq_eq_false_iff_ne.2 heq
              replace heq := Lib.hid heq
              clear hrr
              go_wp2_with fail
              refine C.out.mono ?_
              rintro e W2 ⟨rfl, hK2⟩
              have HK2 := Lib.hid (hK.out.trans (hK2.mono fun k hk => Nat.lt_of_lt_of_le hk hB.out.2.2))
              clear hcv hcv2 C hK2
              go_wp2_with fail
              go_ret2
              rw [hres.out]
              exact ⟨rfl, HK2.out⟩
      · have hres : Hid (rr = none) := Lib.hid (by
          rw [← hr]
          unfold bytR
          rw [if_neg h45, if_pos (Or.inr h3)])
        have m1 : ((l.length : Int).tmod 3 == 0) = false := beq_eq_false_iff_ne.2 (by omega)
        have m2 : ((l.length : Int).tmod 3 != 0) = true := bne_iff_ne.2 (by omega)
        have m3 : (((l.length : Int) % 3) == 0) = false := beq_eq_false_iff_ne.2 (by omega)
        have m4 : (((l.length : Int) % 3) != 0) = true := bne_iff_ne.2 (by omega)
        clear hr hm3
        go_enter Tryd.func36, Tryd.ntmps36
        go_wp2_with fail
        go_ret2
        rw [hres.out]
        exact ⟨rfl, .refl _ _⟩

/-- Bytes, of the document. -/
theorem rBytes (l : List UInt8) (hbig : l.length ≤ 100000) (w : World) :
    Calls Tryd.prog 36 #[.string ⟨l.toArray⟩] w fun e w' => e = .returned (.tuple #[.string ⟨(bvS (bytS l)).toArray⟩, .bool (bytS l).isSome]) ∧ KeptIn (· < w.heap.size) w w' := by
  have := rBytes0 l hbig w
  rw [bytR_eq] at this
  exact this

end Go.Proofs.YtlldmebjgidbaaaDoor
