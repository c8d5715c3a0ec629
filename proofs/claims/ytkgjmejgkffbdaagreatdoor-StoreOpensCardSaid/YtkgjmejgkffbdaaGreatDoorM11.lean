import Derived.Test.YtkgjmejgkffbdaaGreatDoorRow5L
import Derived.Test.YtkgjmejgkffbdaaGreatDoorM9
import Derived.Test.YtkgjmejgkffbdaaGreatDoorConvL
/- Package leaf's parse. -/
set_option linter.unusedVariables false
namespace Go.Proofs.YtkgjmejgkffbdaaGreatDoor
open Go.RowKit

/-- One pair read off a reader. -/
def rdP (st : List UInt8 × Bool) : (Nat × Nat) × (List UInt8 × Bool) :=
  ((numLE (takeR 8 st.1 st.2).1, numLE (takeR 8 (takeR 8 st.1 st.2).2.1 (takeR 8 st.1 st.2).2.2).1), ((takeR 8 (takeR 8 st.1 st.2).2.1 (takeR 8 st.1 st.2).2.2).2.1, (takeR 8 (takeR 8 st.1 st.2).2.1 (takeR 8 st.1 st.2).2.2).2.2))
/-- So many pairs, and what is left behind them. -/
def rdN (st : List UInt8 × Bool) : Nat → Pairs × (List UInt8 × Bool)
  | 0 => ([], st)
  | j + 1 => ((rdN st j).1 ++ [(rdP (rdN st j).2).1], (rdP (rdN st j).2).2)

theorem rdN_length (st : List UInt8 × Bool) (j : Nat) : (rdN st j).1.length = j := by
  induction j with
  | zero => rfl
  | succ j ih => rw [rdN, List.length_append, ih]; rfl

theorem num_takeR (l : List UInt8) (sh : Bool) : numLE (takeR 8 l sh).1 < 18446744073709551616 := by
  have h1 := numLE_lt (takeR 8 l sh).1
  have h3 := takeR_le 8 l sh 8 (by omega)
  have h2 : 2 ^ (8 * (takeR 8 l sh).1.length) ≤ 2 ^ 64 := Nat.pow_le_pow_right (by decide) (by omega)
  omega

theorem rdN_fits (st : List UInt8 × Bool) (j : Nat) : Fits (rdN st j).1 := by
  induction j with
  | zero => intro p hp; cases hp
  | succ j ih =>
    intro p hp
    rcases List.mem_append.1 hp with h | h
    · exact ih p h
    · have : p = (rdP (rdN st j).2).1 := by simpa using h
      rw [this]
      exact ⟨num_takeR _ _, num_takeR _ _⟩

theorem takeR_long (l : List UInt8) (sh : Bool) (h : 8 ≤ l.length) : takeR 8 l sh = (l.take 8, l.drop 8, sh) := by
  unfold takeR
  rw [if_neg (by omega), if_neg (by omega)]
  rfl

theorem rdP_long (l : List UInt8) (sh : Bool) (h : 16 ≤ l.length) : rdP (l, sh) = (pairIn l, (l.drop 16, sh)) := by
  unfold rdP pairIn
  simp only []
  rw [takeR_long l sh (by omega)]
  simp only []
  rw [takeR_long _ sh (by rw [List.length_drop]; omega)]
  simp

theorem rdN_long (u : List UInt8) (j : Nat) (h : 16 * j ≤ u.length) : rdN (u, false) j = (pairsIn j u, (u.drop (16 * j), false)) := by
  induction j with
  | zero => rfl
  | succ j ih =>
    rw [rdN, ih (by omega), rdP_long _ _ (by rw [List.length_drop]; omega), pairsIn_snoc, List.drop_drop]
    rfl

theorem rdN_short (u : List UInt8) (hu : u.length = 248) : ∀ j, 16 ≤ j → (rdN (u, false) j).2 = ([], true) := by
  intro j hj
  induction j with
  | zero => omega
  | succ j ih =>
    rcases Nat.lt_or_ge j 16 with h | h
    · obtain rfl : j = 15 := by omega
      rw [rdN, rdN_long u 15 (by omega)]
      have hd : (u.drop (16 * 15)).length = 8 := by rw [List.length_drop]; omega
      unfold rdP
      simp only []
      rw [takeR_long _ false (by omega)]
      simp only []
      have h0 : (u.drop (16 * 15)).drop 8 = [] := List.eq_nil_of_length_eq_zero (by rw [List.length_drop]; omega)
      rw [h0]
      rfl
    · rw [rdN, ih h]
      rfl

theorem rdN_left (u : List UInt8) (hu : u.length = 248) (j : Nat) : (rdN (u, false) j).2.1.length ≤ 248 := by
  rcases Nat.lt_or_ge j 16 with h | h
  · rw [rdN_long u j (by omega)]
    show (u.drop _).length ≤ _
    rw [List.length_drop]; omega
  · rw [rdN_short u hu j h]
    exact Nat.zero_le _

section
variable {w W V w1 : World} {B r x gg cap cap' : Nat} {lv : Int} {a : Option Addr} {qs : Pairs} {l : List UInt8} {sh : Bool}
/-- Where all but the reader's block stands. -/
theorem At5.get (h : At5 w B x lv a cap qs W) (hr : IsR r l sh W) (hBr : B < r) (hk : KeptIn (fun k => k < W.heap.size ∧ k ≠ r) W V) : At5 w B x lv a cap qs V := by
  have hb : W.heap[r]? = _ := hr
  have hxr : x ≠ r := fun e => by
    have hx : W.heap[x]? = _ := h.box
    rw [e, hb] at hx
    simp only [Option.some.injEq, Obj.cells.injEq] at hx
    exact absurd hx.2.1 (by decide)
  exact ⟨h.kept.trans (hk.mono fun k hk => ⟨Nat.lt_trans hk h.res.lt, by omega⟩), h.res.kept hk ⟨h.res.lt, by omega⟩, h.box.kept hk ⟨h.box.lt, hxr⟩,
    rowS_block h.row fun g e => hk.block g ⟨(rowS_lt h.row g e).2, fun e2 => rowS_ne h.row hb (by decide) (by rw [e, e2])⟩, h.lt⟩

theorem IsR.app (hr : IsR r l sh W) (h : At5 w B x lv a cap qs W) (hV : KeptIn (· < W.heap.size) W V) (hg : V.grownBy w1 (Value.slice a qs.length cap).ownBlock) (v : Value) : IsR r l sh (w1.setCell ⟨x, 1, none⟩ v) := by
  have hb : W.heap[r]? = _ := hr
  have hxr : r ≠ x := fun e => by
    have hx : W.heap[x]? = _ := h.box
    rw [← e, hb] at hx
    simp only [Option.some.injEq, Obj.cells.injEq] at hx
    exact absurd hx.2.1 (by decide)
  have h1 : V.heap[r]? = _ := (hV.block r hr.lt).trans hb
  have hne := rowS_ne (rowS_block h.row fun g e => hV.block g (rowS_lt h.row g e).2) h1 (by decide)
  exact (heap_setCell_other _ _ _ _ hxr).trans ((hg.block r (Nat.lt_of_lt_of_le hr.lt hV.size) fun e => hne e.symm).trans h1)
end

/-- A reader's Get, where what is asked is little. -/
theorem getK (r : Nat) (l : List UInt8) (sh : Bool) (size : Int) (w : World) (h : IsR r l sh w) (hl : l.length ≤ 65536) (k : Int) (hk : min (max size 1) 8 = k) :
    Calls Tryz.prog 110 #[.pointer (some ⟨r, 0, none⟩), .int .i64 size] w fun e w' => e = .returned (.int .u64 (numLE (takeR k l sh).1)) ∧ IsR r (takeR k l sh).2.1 (takeR k l sh).2.2 w' ∧ KeptIn (fun k => k < w.heap.size ∧ k ≠ r) w w' := by
  have := getW (fun k => k < w.heap.size ∧ k ≠ r) r l sh size w h (fun h => h.2 rfl) (fun k h => h.1) (by omega)
  rwa [hk] at this

/-- One byte. -/
theorem get1 (r : Nat) (b : UInt8) (l : List UInt8) (sh : Bool) (w : World) (h : IsR r (b :: l) sh w) (hl : l.length ≤ 65535) :
    Calls Tryz.prog 110 #[.pointer (some ⟨r, 0, none⟩), .int .i64 1] w fun e w' => e = .returned (.int .u64 b.toNat) ∧ IsR r l sh w' ∧ KeptIn (fun k => k < w.heap.size ∧ k ≠ r) w w' := by
  have := getK r (b :: l) sh 1 w h (by simp only [List.length_cons]; omega) 1 (by decide)
  rwa [show takeR 1 (b :: l) sh = ([b], l, sh) by unfold takeR; rw [if_neg (by omega), if_neg (by simp only [List.length_cons]; omega)]; rfl, show numLE [b] = b.toNat by simp [numLE]] at this

/-- Ahead of the node's variable. -/
structure Pre5 (w : World) (B r : Nat) (l : List UInt8) (W : World) : Prop where
  rd : IsR r l false W
  res : BoxL B 0 none 0 0 W
  kept : KeptIn (· < B) w W
theorem Pre5.get {w : World} {B r : Nat} {l l' : List UInt8} {W V : World} (h : Pre5 w B r l W) (hBr : B < r) (hr : IsR r l' false V) (hk : KeptIn (fun k => k < W.heap.size ∧ k ≠ r) W V) : Pre5 w B r l' V :=
  ⟨hr, h.res.kept hk ⟨h.res.lt, by omega⟩, h.kept.trans (hk.mono fun k hk => ⟨Nat.lt_trans hk h.res.lt, by omega⟩)⟩

set_option maxHeartbeats 2000000 in
set_option maxRecDepth 100000 in
theorem lfParse (t : List UInt8) (w : World) (ht : t.length = 252) :
    Calls Tryz.prog 83 #[.string ⟨t.toArray⟩] w fun e w' => ∃ lv a cap ps, e = .returned (.tuple #[leafV lv a ps.length cap, .bool (parseOk t)]) ∧ w'.ownsRow w.heap.size 100 2 (.slice a ps.length cap) ps.length (cellsP ps) ∧ Fits ps ∧
      KeptIn (· < w.heap.size) w w' ∧ (parseOk t = true → lv = lvIn t ∧ ps = pairsIn (cntIn t) (t.drop 4)) := by
  obtain ⟨ip, hip, hp0, hp1, hp2⟩ := info_parts infoPair
  obtain ⟨t0, t1, t2, t3, u, rfl⟩ : ∃ t0 t1 t2 t3 u, t = t0 :: t1 :: t2 :: t3 :: u := ⟨_, _, _, _, _, list4 t (by omega)⟩
  have hu : u.length = 248 := by simpa using ht
  have hpo : parseOk (t0 :: t1 :: t2 :: t3 :: u) = (decide (t0 = 76) && decide (t3 = 0) && decide (t2.toNat ≤ 15) && (u.drop (16 * t2.toNat)).all (· == 0)) := by
    unfold parseOk
    rw [show 4 + 16 * cntIn (t0 :: t1 :: t2 :: t3 :: u) = 16 * t2.toNat + 1 + 1 + 1 + 1 by show 4 + 16 * t2.toNat = _; omega]
    rfl
  have hlv : lvIn (t0 :: t1 :: t2 :: t3 :: u) = t1.toNat := rfl
  have hcn : cntIn (t0 :: t1 :: t2 :: t3 :: u) = t2.toNat := rfl
  have hdr : (t0 :: t1 :: t2 :: t3 :: u).drop 4 = u := rfl
  rw [hpo, hlv, hcn, hdr]
  clear hpo hlv hcn hdr ht
  obtain ⟨n0, hn0⟩ : ∃ n, t0.toNat = n := ⟨_, rfl⟩
  obtain ⟨n1, hn1⟩ : ∃ n, t1.toNat = n := ⟨_, rfl⟩
  obtain ⟨n2, hn2⟩ : ∃ n, t2.toNat = n := ⟨_, rfl⟩
  obtain ⟨n3, hn3⟩ : ∃ n, t3.toNat = n := ⟨_, rfl⟩
  have b1 : (n1 : Int) ≤ 255 := by have := t1.toNat_lt; omega
  have b2 : (n2 : Int) ≤ 255 := by have := t2.toNat_lt; omega
  have e0 : decide (t0 = 76) = decide (n0 = 76) := by
    rw [← hn0, decide_eq_decide]
    exact ⟨fun h => by rw [h]; rfl, fun h => UInt8.toNat_inj.1 h⟩
  have e3 : decide (t3 = 0) = decide (n3 = 0) := by
    rw [← hn3, decide_eq_decide]
    exact ⟨fun h => by rw [h]; rfl, fun h => UInt8.toNat_inj.1 h⟩
  obtain ⟨ok, hok⟩ : ∃ ok, (decide (t0 = 76) && decide (t3 = 0) && decide (t2.toNat ≤ 15) && (u.drop (16 * t2.toNat)).all (· == 0)) = ok := ⟨_, rfl⟩
  rw [hn2] at hok
  rw [hn1, hn2, hok]
  rw [e0, e3] at hok
  have HOK := Lib.hid hok
  have HN := Lib.hid (And.intro hn0 (And.intro hn1 (And.intro hn2 hn3)))
  clear e0 e3 hok hn0 hn1 hn2 hn3
  obtain ⟨B, hB⟩ : ∃ B, w.heap.size = B := ⟨_, rfl⟩
  rw [hB]
  have HB := Lib.hid hB
  have hx0 := BoxL.new w 0 none 0 0
  rw [hB] at hx0
  have hk0 : KeptIn (· < B) w (w.alloc (.cells #[.int .i64 0, .slice none 0 0] 47)) := (KeptIn.refl _ w).alloc (fun k hk => by rw [hB]; exact hk) _
  obtain ⟨W0, hW0⟩ : ∃ W0, w.alloc (.cells #[.int .i64 0, .slice none 0 0] 47) = W0 := ⟨_, rfl⟩
  rw [hW0] at hx0 hk0
  have H0 := Lib.hid (And.intro hx0 hk0)
  have HW0 := Lib.hid hW0
  have HU := Lib.hid hu
  clear hx0 hk0 hW0 hu
  go_enter Tryz.func83, Tryz.ntmps83
  go_wp2_with (go_at_call 108; rw [HW0.out]; refine (ofW _ W0).mono ?_; rintro e W1 ⟨rfl, hr1, hk1⟩)
  clear hB
  obtain ⟨r, hr⟩ : ∃ r, W0.heap.size = r := ⟨_, rfl⟩
  rw [hr] at hr1 ⊢
  replace hr1 : IsR r (t0 :: t1 :: t2 :: t3 :: u) false W1 := hr1
  have hBr : B < r := by rw [← hr]; exact H0.out.1.lt
  have HBR := Lib.hid hBr
  have H1 : Hid (Pre5 w B r (t0 :: t1 :: t2 :: t3 :: u) W1) := Lib.hid ⟨hr1, H0.out.1.kept hk1 H0.out.1.lt, H0.out.2.trans (hk1.mono fun k hk => Nat.lt_trans hk H0.out.1.lt)⟩
  clear hr1 hk1 hr hBr H0
  have C1 := Lib.hid (get1 r t0 (t1 :: t2 :: t3 :: u) false W1 H1.out.rd (by simp only [List.length_cons]; have := HU.out; omega))
  simp only [HN.out.1] at C1
  go_wp2_with (go_at_call 110; refine C1.out.mono ?_; rintro e W2 ⟨rfl, hr2, hk2⟩)
  have H2 : Hid (Pre5 w B r (t1 :: t2 :: t3 :: u) W2) := Lib.hid (H1.out.get HBR.out hr2 hk2)
  clear hr2 hk2 C1 H1
  have C1 := Lib.hid (get1 r t1 (t2 :: t3 :: u) false W2 H2.out.rd (by simp only [List.length_cons]; have := HU.out; omega))
  simp only [HN.out.2.1] at C1
  go_wp2_with (go_at_call 110; refine C1.out.mono ?_; rintro e W3 ⟨rfl, hr2, hk2⟩)
  obtain ⟨x, hx⟩ : ∃ x, W3.heap.size = x := ⟨_, rfl⟩
  obtain ⟨W4, hW4⟩ : ∃ W4, W3.alloc (.cells #[.int .i64 n1, .slice none 0 0] 47) = W4 := ⟨_, rfl⟩
  have h3 : Pre5 w B r (t2 :: t3 :: u) W3 := H2.out.get HBR.out hr2 hk2
  have h4 : At5 w B x n1 none 0 [] W4 := by
    rw [← hW4, ← hx]
    exact ⟨h3.kept.alloc (fun k hk => by rw [HB.out]; exact hk) _, h3.res.kept ((KeptIn.refl (· < W3.heap.size) _).alloc (fun _ h => h) _) h3.res.lt, BoxL.new W3 n1 none 0 0, ⟨rfl, .inl ⟨rfl, rfl⟩⟩, h3.res.lt⟩
  have hr4 : IsR r (t2 :: t3 :: u) false W4 := by
    rw [← hW4]
    exact h3.rd.kept ((KeptIn.refl (· < W3.heap.size) _).alloc (fun _ h => h) _) h3.rd.lt
  have H4 := Lib.hid (And.intro h4 hr4)
  have HX := Lib.hid (And.intro hx hW4)
  clear hr2 hk2 C1 H2 hx hW4 h3 h4 hr4
  rw [HX.out.2, HX.out.1]
  refine (get1 r t2 (t3 :: u) false W4 H4.out.2 (by simp only [List.length_cons]; have := HU.out; omega)).mono ?_
  rintro e W5 ⟨rfl, hr2, hk2⟩
  have H5 : Hid (At5 w B x n1 none 0 [] W5 ∧ IsR r (t3 :: u) false W5) := Lib.hid ⟨H4.out.1.get H4.out.2 HBR.out hk2, hr2⟩
  rw [HN.out.2.2.1]
  clear hr2 hk2 H4 HX
  go_wp2_with fail
  refine (get1 r t3 u false W5 H5.out.2 (by have := HU.out; omega)).mono ?_
  rintro e W6 ⟨rfl, hr2, hk2⟩
  have H6 : Hid (At5 w B x n1 none 0 [] W6 ∧ IsR r u false W6) := Lib.hid ⟨H5.out.1.get H5.out.2 HBR.out hk2, hr2⟩
  rw [HN.out.2.2.2]
  clear hr2 hk2 H5
  by_cases h0 : n0 = 76
  · by_cases h3 : n3 = 0
    · have HOK2 : Hid ((decide (n2 ≤ 15) && (u.drop (16 * n2)).all (· == 0)) = ok) := Lib.hid (by have := HOK.out; rw [decide_eq_true h0, decide_eq_true h3] at this; exact this)
      subst h0 h3
      clear HOK HN HW0
      have HJ0 : Hid (∃ a cap, At5 w B x n1 a cap (rdN (u, false) 0).1 W6 ∧ IsR r (rdN (u, false) 0).2.1 (rdN (u, false) 0).2.2 W6) := Lib.hid ⟨none, 0, H6.out.1, H6.out.2⟩
      clear H6
      go_wp2_with fail
      go_loopw [31] (fun c wr => ∃ (j : Nat) (W : World), W = wr ∧ j ≤ n2 ∧ c = .int .i64 j ∧ Hid (∃ a cap, At5 w B x n1 a cap (rdN (u, false) j).1 W ∧ IsR r (rdN (u, false) j).2.1 (rdN (u, false) j).2.2 W)) (fun c _ => n2 - (RowKit.intOf c).toNat)
      case atStart => exact ⟨0, _, rfl, Nat.zero_le _, rfl, HJ0⟩
      case round =>
        obtain ⟨j, W, rfl, hj, rfl, HJ⟩ := hrel
        clear HJ0
        have d0 : (0 : Int) ≤ (j : Int) := by omega
        have hll := rdN_left u HU.out j
        have hqj := rdN_length (u, false) j
        by_cases hlt : j < n2
        · have d1 : (j : Int) < (n2 : Int) := by omega
          have hnx : rdN (u, false) (j + 1) = ((rdN (u, false) j).1 ++ [(rdP (rdN (u, false) j).2).1], (rdP (rdN (u, false) j).2).2) := rfl
          obtain ⟨a, cap, h5, hr5⟩ := HJ.out
          generalize rdN (u, false) j = st at *
          obtain ⟨qs, l, sh⟩ := st
          simp only [] at hll hqj h5 hr5 hnx
          have hr5' := hr5
          have CG := Lib.hid (getK r l sh 8 W hr5 (by omega) 8 (by decide))
          have H5 := Lib.hid (And.intro h5 hr5)
          have HQ := Lib.hid hqj
          have HNX := Lib.hid hnx
          clear h5 hr5 hr5' hnx HJ
          go_upto_region 11 with (go_at_call 110; refine CG.out.mono ?_; rintro e W7 ⟨rfl, hr7, hk7⟩)
          have h7 := H5.out.1.get H5.out.2 HBR.out hk7
          have l7 : (takeR 8 l sh).2.1.length ≤ 65536 := by
            unfold takeR
            split
            · simp at *
            · split
              · simp
              · simp; omega
          have hfin : rdP (l, sh) = ((numLE (takeR 8 l sh).1, numLE (takeR 8 (takeR 8 l sh).2.1 (takeR 8 l sh).2.2).1), ((takeR 8 (takeR 8 l sh).2.1 (takeR 8 l sh).2.2).2.1, (takeR 8 (takeR 8 l sh).2.1 (takeR 8 l sh).2.2).2.2)) := rfl
          obtain ⟨kx, hkx⟩ : ∃ k, numLE (takeR 8 l sh).1 = k := ⟨_, rfl⟩
          rw [hkx] at hfin
          generalize (takeR 8 l sh).2.1 = l1 at *
          generalize (takeR 8 l sh).2.2 = sh1 at *
          rw [hkx]
          have CG2 := getK r l1 sh1 8 W7.drew hr7 l7 8 (by decide)
          obtain ⟨vx, hvx⟩ : ∃ k, numLE (takeR 8 l1 sh1).1 = k := ⟨_, rfl⟩
          rw [hvx] at hfin CG2
          generalize (takeR 8 l1 sh1).2.1 = l2 at *
          generalize (takeR 8 l1 sh1).2.2 = sh2 at *
          have HCG2 := Lib.hid CG2
          have HFIN := Lib.hid hfin
          have hW7 := h7.res.lt
          have hbx7 := h7.box
          rw [hqj] at hbx7
          have c7 := hbx7.c1
          have H7 := Lib.hid (And.intro h7 hr7)
          have HG : Hid (∀ W8, KeptIn (fun k => k < W7.drew.heap.size ∧ k ≠ r) W7.drew W8 → At5 w B x n1 a cap qs W8 ∧ W8.cell? ⟨x, 1, none⟩ = some (.slice a j cap) ∧ W8.frozen? ⟨x, 1, none⟩ = false ∧ (W8.alloc (.cells #[.int .u64 kx, .int .u64 vx] 100)).cell? ⟨x, 1, none⟩ = some (.slice a j cap) ∧
              W8.ownsRow B 100 2 (.slice a j cap) j (cellsP qs) ∧ B < W8.heap.size ∧ ∀ w1, (W8.alloc (.cells #[.int .u64 kx, .int .u64 vx] 100)).grownBy w1 (Value.slice a j cap).ownBlock → w1.cell? ⟨x, 1, none⟩ = some (.slice a j cap) ∧ w1.frozen? ⟨x, 1, none⟩ = false) := Lib.hid fun W8 hk8 => by
            have h8 : At5 w B x n1 a cap qs W8 := (H7.out.1.get (V := W8) H7.out.2 HBR.out ⟨hk8.os, hk8.tape, hk8.output, hk8.size, hk8.block⟩)
            have hb8 := h8.box
            have hr8 := h8.row
            rw [HQ.out] at hb8 hr8
            have hn := rowS_ne hr8 hb8 (by decide)
            refine ⟨h8, hb8.c1, hb8.f1, (World.cell?_of_block (a := ⟨x, 1, none⟩) (Lib.alloc_old W8 _ _ hb8.lt)).trans hb8.c1, hr8, h8.res.lt, fun w1 hg => ?_⟩
            have h1 : w1.heap[x]? = W8.heap[x]? := (hg.block _ (by have := hb8.lt; simp; omega) (fun e => hn e.symm)).trans (Lib.alloc_old W8 _ _ hb8.lt)
            exact ⟨(World.cell?_of_block (a := ⟨x, 1, none⟩) h1).trans hb8.c1, (World.frozen?_of_block (a := ⟨x, 1, none⟩) h1).trans hb8.f1⟩
          have hj255 : j ≤ 255 := by omega
          clear CG2 hfin h7 hr7 hk7 hbx7 hkx hvx l7 hll CG
          go_region_law (first
            | (refine step_append_lies _ (by rfl) _ _ 45 (by rfl) B 100 ip _ 2 16 Tryz.underlying45 hip hp0 hp1 hp2 rfl (by omega) (.slice a j cap) j _ (by rfl) (hrow8.alloc _) ⟨W8.heap.size, 0, none⟩ 1 1 [.int .u64 kx, .int .u64 vx] (by rfl) (by rfl) (World.news_of_block (cs := #[.int .u64 kx, .int .u64 vx]) (t := 100) (fr := (0, 0)) (heap_alloc_new W8 _)) (by simp [Value.oneCell']) (by omega) (by unfold maxLen; omega) (by omega) (by simp; omega) (W8.heap.size + 1) (by simp) ?_; intro gg cap' w1 hown1 hgrow hat hlt1; obtain ⟨d0', df⟩ := hgr8 w1 hgrow)
            | (go_simp; go_at_call 110; refine HCG2.out.mono ?_; rintro e W8 ⟨rfl, hr8, hk8⟩; obtain ⟨h8, c8, f8, cc8, hrow8, hsz8, hgr8⟩ := HG.out W8 hk8))
          all_goals
            have h9 := h8.app ((KeptIn.refl _ W8).alloc (fun _ h => h) _) (kx, vx) (by rw [HQ.out]; exact hgrow) (by rw [HQ.out]; exact hown1)
            rw [HQ.out] at h9
            have hr9 := hr8.app h8 ((KeptIn.refl _ W8).alloc (fun _ h => h) _) (by rw [HQ.out]; exact hgrow) (.slice (some ⟨gg, 0, none⟩) (j + 1) cap')
            have HJ2 : Hid (∃ a cap, At5 w B x n1 a cap (rdN (u, false) (j + 1)).1 (w1.setCell ⟨x, 1, none⟩ (.slice (some ⟨gg, 0, none⟩) (j + 1) cap')) ∧ IsR r (rdN (u, false) (j + 1)).2.1 (rdN (u, false) (j + 1)).2.2 (w1.setCell ⟨x, 1, none⟩ (.slice (some ⟨gg, 0, none⟩) (j + 1) cap'))) := Lib.hid (by
              rw [HNX.out, HFIN.out]
              exact ⟨_, _, h9, hr9⟩)
            clear hown1 hgrow hat hlt1 d0' df h8 c8 f8 cc8 hrow8 hsz8 hgr8 hr8 hk8 h9 hr9 HG H7 HCG2 HFIN HNX c7 hW7
            go_wp2_with fail
            go_roundw
            case rel => exact ⟨j + 1, _, rfl, by omega, by go_num, HJ2⟩
            case measure => simp [RowKit.intOf]; omega
        · obtain rfl : j = n2 := by omega
          obtain ⟨a, cap, h5, hr5⟩ := HJ.out
          have hzz : ((rdN (u, false) j).2.1.all (· == 0) && !(rdN (u, false) j).2.2) = ok := by
            rw [← HOK2.out]
            rcases Nat.lt_or_ge j 16 with h | h
            · rw [rdN_long u j (by have := HU.out; omega), decide_eq_true (by omega : j ≤ 15)]; simp
            · rw [rdN_short u HU.out j h, decide_eq_false (by omega : ¬ j ≤ 15)]; simp
          have hps : ok = true → (rdN (u, false) j).1 = pairsIn j u := fun h => by
            rw [← HOK2.out] at h
            have h2 : j ≤ 15 := by
              by_cases h3 : j ≤ 15
              · exact h3
              · rw [decide_eq_false h3] at h
                cases h
            rw [rdN_long u j (by have := HU.out; omega)]
          have hfit := rdN_fits (u, false) j
          generalize rdN (u, false) j = st at *
          obtain ⟨qs, l, sh⟩ := st
          simp only [] at hll hqj h5 hr5 hzz hps hfit
          obtain ⟨z, hz⟩ : ∃ z, l.all (· == 0) = z := ⟨_, rfl⟩
          rw [hz] at hzz
          have CZ := zerosW r l sh W.drew hr5
          rw [hz] at CZ
          have HCZ := Lib.hid CZ
          have H5 := Lib.hid (And.intro h5 hr5)
          have HQ := Lib.hid hqj
          have HFP := Lib.hid (And.intro hfit hps)
          have HZ : Hid (∀ W8, KeptIn (· ≠ r) W.drew W8 → At5 w B x n1 a cap qs W8 ∧ W8.cell? ⟨x, 0, none⟩ = some (.int .i64 n1) ∧ W8.cell? ⟨x, 1, none⟩ = some (.slice a j cap) ∧ W8.cell? ⟨B, 0, none⟩ = some (.int .i64 0) ∧ W8.cell? ⟨B, 1, none⟩ = some (.slice none 0 0) ∧ W8.frozen? ⟨B, 0, none⟩ = false ∧ W8.frozen? ⟨B, 1, none⟩ = false) := Lib.hid fun W8 hk8 => by
            have h8 : At5 w B x n1 a cap qs W8 := H5.out.1.get (V := W8) H5.out.2 HBR.out ⟨hk8.os, hk8.tape, hk8.output, hk8.size, fun k hk => hk8.block k hk.2⟩
            have hb8 := h8.box
            rw [HQ.out] at hb8
            exact ⟨h8, hb8.c0, hb8.c1, h8.res.c0, h8.res.c1, h8.res.f0, h8.res.f1⟩
          have hbx := h5.box
          rw [hqj] at hbx
          have c0 := hbx.c0; have c1 := hbx.c1
          have HEND : Hid (∀ W8, At5 w B x n1 a cap qs W8 → BoxL B n1 a j cap ((W8.setCell ⟨B, 0, none⟩ (.int .i64 n1)).setCell ⟨B, 1, none⟩ (.slice a j cap)) ∧ ((W8.setCell ⟨B, 0, none⟩ (.int .i64 n1)).setCell ⟨B, 1, none⟩ (.slice a j cap)).ownsRow B 100 2 (.slice a qs.length cap) qs.length (cellsP qs) ∧
              KeptIn (· < B) w ((W8.setCell ⟨B, 0, none⟩ (.int .i64 n1)).setCell ⟨B, 1, none⟩ (.slice a j cap))) := Lib.hid fun W8 h8 => by
            have hne : ∀ g, (Value.slice a qs.length cap).ownBlock = some g → g ≠ B := fun g e e2 => rowS_ne h8.row h8.res (by decide) (by rw [e, e2])
            exact ⟨h8.res.set, rowS_block h8.row fun g e => (heap_setCell_other _ _ _ _ (hne g e)).trans (heap_setCell_other _ _ _ _ (hne g e)), (h8.kept.setCell (p := ⟨B, 0, none⟩) (Nat.lt_irrefl B) _).setCell (p := ⟨B, 1, none⟩) (Nat.lt_irrefl B) _⟩
          have p0 := h5.res.c0; have p1 := h5.res.c1; have o0 := h5.res.f0; have o1 := h5.res.f1
          have HS : Hid (∀ W8, At5 w B x n1 a cap qs W8 → ((W8.setCell ⟨B, 0, none⟩ (.int .i64 n1)).setCell ⟨B, 1, none⟩ (.slice a j cap)).cell? ⟨x, 0, none⟩ = some (.int .i64 n1) ∧ ((W8.setCell ⟨B, 0, none⟩ (.int .i64 n1)).setCell ⟨B, 1, none⟩ (.slice a j cap)).cell? ⟨x, 1, none⟩ = some (.slice a j cap) ∧
              ((W8.setCell ⟨B, 0, none⟩ (.int .i64 n1)).setCell ⟨B, 1, none⟩ (.slice a j cap)).cell? ⟨B, 0, none⟩ = some (cellOf ((W8.setCell ⟨B, 0, none⟩ (.int .i64 n1)).setCell ⟨B, 1, none⟩ (.slice a j cap)) ⟨B, 0, none⟩) ∧ ((W8.setCell ⟨B, 0, none⟩ (.int .i64 n1)).setCell ⟨B, 1, none⟩ (.slice a j cap)).cell? ⟨B, 1, none⟩ = some (cellOf ((W8.setCell ⟨B, 0, none⟩ (.int .i64 n1)).setCell ⟨B, 1, none⟩ (.slice a j cap)) ⟨B, 1, none⟩) ∧
              ((W8.setCell ⟨B, 0, none⟩ (.int .i64 n1)).setCell ⟨B, 1, none⟩ (.slice a j cap)).frozen? ⟨B, 0, none⟩ = false ∧ ((W8.setCell ⟨B, 0, none⟩ (.int .i64 n1)).setCell ⟨B, 1, none⟩ (.slice a j cap)).frozen? ⟨B, 1, none⟩ = false) := Lib.hid fun W8 h8 => by
            have hs : BoxL B n1 a j cap ((W8.setCell ⟨B, 0, none⟩ (.int .i64 n1)).setCell ⟨B, 1, none⟩ (.slice a j cap)) := h8.res.set
            have hxB : x ≠ B := by have := h8.lt; omega
            have hb8 := h8.box
            rw [HQ.out] at hb8
            have hx : BoxL x n1 a j cap ((W8.setCell ⟨B, 0, none⟩ (.int .i64 n1)).setCell ⟨B, 1, none⟩ (.slice a j cap)) := (heap_setCell_other _ _ _ _ hxB).trans ((heap_setCell_other _ _ _ _ hxB).trans hb8)
            exact ⟨hx.c0, hx.c1, cellOf_eq hs.c0, cellOf_eq hs.c1, hs.f0, hs.f1⟩
          have HE := Lib.hid fun W8 (h : IsR r [] sh W8) => endW r [] sh W8 h
          have HOKZ := Lib.hid hzz
          clear h5 hr5 hzz hps hfit hz CZ hqj hbx HJ HOK2 hll
          cases z
          · obtain rfl : ok = false := by rw [← HOKZ.out]; rfl
            go_wp2_with fail
            first
              | go_region_law (first
                  | (go_simp; go_at_call 112; refine HCZ.out.mono ?_; rintro e W8 ⟨rfl, hr8, hk8⟩; obtain ⟨h8, c80, c81, p80, p81, o80, o81⟩ := HZ.out W8 hk8))
              | fail
            all_goals
              obtain ⟨e1, e2, e3⟩ := HEND.out _ h8
              go_wp2_with fail
              try simp only [Exit.inBlock, Exit.then]
              refine bodyPost_ret (results_leaf rfl _ _ B n1 a j cap rfl e1) rfl ?_
              refine ⟨n1, a, cap, qs, by rw [HQ.out]; rfl, e2, HFP.out.1, e3, ?_⟩
              first
                | exact ⟨rfl, HFP.out.2 trivial⟩
                | exact ⟨rfl, HFP.out.2 rfl⟩
                | exact fun _ => ⟨rfl, HFP.out.2 rfl⟩
                | exact fun h => by cases h
                | trivial
          · cases sh
            · obtain rfl : ok = true := by rw [← HOKZ.out]; rfl
              simp only [show endOf [] false = 0 from rfl] at HE
              go_wp2_with fail
              go_region_law (first
                | (go_simp; go_at_call 112; refine HCZ.out.mono ?_; rintro e W8 ⟨rfl, hr8, hk8⟩; obtain ⟨h8, c80, c81, p80, p81, o80, o81⟩ := HZ.out W8 hk8)
                | (go_simp; go_at_call 111; refine (HE.out _ hr8).mono ?_; rintro e _ ⟨rfl, rfl⟩))
              all_goals
                obtain ⟨e1, e2, e3⟩ := HEND.out _ h8
                go_wp2_with fail
                try simp only [Exit.inBlock, Exit.then]
                refine bodyPost_ret (results_leaf rfl _ _ B n1 a j cap rfl e1) rfl ?_
                refine ⟨n1, a, cap, qs, by rw [HQ.out]; rfl, e2, HFP.out.1, e3, ?_⟩
                first
                  | exact ⟨rfl, HFP.out.2 trivial⟩
                  | exact ⟨rfl, HFP.out.2 rfl⟩
                  | exact fun _ => ⟨rfl, HFP.out.2 rfl⟩
                  | exact fun h => by cases h
                  | trivial
            · obtain rfl : ok = false := by rw [← HOKZ.out]; rfl
              simp only [show endOf [] true = 3 from rfl] at HE
              go_wp2_with fail
              go_region_law (first
                | (go_simp; go_at_call 112; refine HCZ.out.mono ?_; rintro e W8 ⟨rfl, hr8, hk8⟩; obtain ⟨h8, c80, c81, p80, p81, o80, o81⟩ := HZ.out W8 hk8)
                | (go_simp; go_at_call 111; refine (HE.out _ hr8).mono ?_; rintro e _ ⟨rfl, rfl⟩))
              all_goals
                obtain ⟨e1, e2, e3⟩ := HEND.out _ h8
                go_wp2_with fail
                try simp only [Exit.inBlock, Exit.then]
                refine bodyPost_ret (results_leaf rfl _ _ B n1 a j cap rfl e1) rfl ?_
                refine ⟨n1, a, cap, qs, by rw [HQ.out]; rfl, e2, HFP.out.1, e3, ?_⟩
                first
                  | exact ⟨rfl, HFP.out.2 trivial⟩
                  | exact ⟨rfl, HFP.out.2 rfl⟩
                  | exact fun _ => ⟨rfl, HFP.out.2 rfl⟩
                  | exact fun h => by cases h
                  | trivial
    · have hok : ok = false := by rw [← HOK.out, decide_eq_false h3]; simp
      subst hok
      have q1 : ((n3 : Int) == 0) = false := by rw [beq_eq_false_iff_ne]; omega
      have q2 : (n3 == 0) = false := by rw [beq_eq_false_iff_ne]; exact h3
      have p0 := H6.out.1.res.c0; have p1 := H6.out.1.res.c1; have o0 := H6.out.1.res.f0; have o1 := H6.out.1.res.f1
      subst h0
      clear h3
      go_wp2_with fail
      try simp only [Exit.inBlock, Exit.then]
      refine bodyPost_ret (results_leaf rfl _ _ B 0 none 0 0 rfl H6.out.1.res.set) rfl ?_
      exact ⟨0, none, 0, [], rfl, ⟨rfl, .inl ⟨rfl, rfl⟩⟩, (fun p hp => by cases hp), (H6.out.1.kept.setCell (p := ⟨B, 0, none⟩) (Nat.lt_irrefl B) _).setCell (p := ⟨B, 1, none⟩) (Nat.lt_irrefl B) _, fun h => by cases h⟩
  · have hok : ok = false := by rw [← HOK.out, decide_eq_false h0]; simp
    subst hok
    have q1 : ((n0 : Int) == 76) = false := by rw [beq_eq_false_iff_ne]; omega
    have q2 : (n0 == 76) = false := by rw [beq_eq_false_iff_ne]; exact h0
    have p0 := H6.out.1.res.c0; have p1 := H6.out.1.res.c1; have o0 := H6.out.1.res.f0; have o1 := H6.out.1.res.f1
    clear h0
    go_wp2_with fail
    try simp only [Exit.inBlock, Exit.then]
    refine bodyPost_ret (results_leaf rfl _ _ B 0 none 0 0 rfl H6.out.1.res.set) rfl ?_
    exact ⟨0, none, 0, [], rfl, ⟨rfl, .inl ⟨rfl, rfl⟩⟩, (fun p hp => by cases hp), (H6.out.1.kept.setCell (p := ⟨B, 0, none⟩) (Nat.lt_irrefl B) _).setCell (p := ⟨B, 1, none⟩) (Nat.lt_irrefl B) _, fun h => by cases h⟩

end Go.Proofs.YtkgjmejgkffbdaaGreatDoor
/- Package leaf's Read. -/
set_option linter.unusedVariables false
namespace Go.Proofs.YtkgjmejgkffbdaaGreatDoor
open Go.RowKit

theorem not_isN {s : List UInt8} (h : isN s = false) : lvR s = 0 ∧ psR s = [] := by rw [lvR, psR, h]; exact ⟨rfl, rfl⟩
theorem is_isN {s : List UInt8} (h : isN s = true) : lvR s = lvIn s ∧ psR s = psIn s := by rw [lvR, psR, h]; exact ⟨rfl, rfl⟩

theorem take_parts (s : List UInt8) (h : s.length = 256) : lvIn (s.take 252) = lvIn s ∧ cntIn (s.take 252) = cntIn s ∧ (cntIn s ≤ 15 → pairsIn (cntIn s) ((s.take 252).drop 4) = pairsIn (cntIn s) (s.drop 4)) := by
  refine ⟨by unfold lvIn; rw [take_getD _ _ _ (by decide)], by unfold cntIn; rw [take_getD _ _ _ (by decide)], fun hc => ?_⟩
  have e : s.drop 4 = (s.take 252).drop 4 ++ s.drop 252 := by
    conv => lhs; rw [← List.take_append_drop 252 s]
    rw [List.drop_append_of_le_length (by rw [List.length_take]; omega)]
  rw [e, pairsIn_append _ _ _ (by rw [List.length_drop, List.length_take]; omega)]

theorem parseOk_cnt {t : List UInt8} (h : parseOk t = true) : cntIn t ≤ 15 := by
  simp only [parseOk, Bool.and_eq_true, decide_eq_true_eq] at h
  exact h.1.2

/-- What Read hands back. -/
def ReadL (B : Nat) (w : World) (s : List UInt8) (er : Int) (e : Ending) (w' : World) : Prop :=
  ∃ a cap, e = .returned (.tuple #[leafV (lvR s) a (psR s).length cap, .int .i64 er]) ∧ IsPs w' a (psR s) ∧ KeptIn (· < B) w w'

set_option maxHeartbeats 2000000 in
set_option maxRecDepth 100000 in
theorem lfRead (s : List UInt8) (w : World) (hT : Tab w) (hs : s.length ≤ 65536) :
    Calls Tryz.prog 49 #[.string ⟨s.toArray⟩] w (ReadL w.heap.size w s (if isN s then 0 else 3)) := by
  obtain ⟨er, her⟩ : ∃ er : Int, (if isN s then 0 else 3) = er := ⟨_, rfl⟩
  rw [her]
  have HER := Lib.hid her
  clear her
  obtain ⟨B, hB⟩ : ∃ B, w.heap.size = B := ⟨_, rfl⟩
  have hx0 := BoxL.new w 0 none 0 0
  rw [hB] at hx0 ⊢
  have hk0 : KeptIn (· < B) w (w.alloc (.cells #[.int .i64 0, .slice none 0 0] 47)) := (KeptIn.refl _ w).alloc (fun k hk => by rw [hB]; exact hk) _
  have hT0 : Tab (w.alloc (.cells #[.int .i64 0, .slice none 0 0] 47)) := hT.kept hk0 (by rw [← hB]; exact hT.lt)
  obtain ⟨W0, hW0⟩ : ∃ W0, w.alloc (.cells #[.int .i64 0, .slice none 0 0] 47) = W0 := ⟨_, rfl⟩
  rw [hW0] at hx0 hk0 hT0
  have HSET : Hid (∀ W, BoxL B 0 none 0 0 W → KeptIn (· < B) w W → BoxL B 0 none 0 0 ((W.setCell ⟨B, 0, none⟩ (.int .i64 0)).setCell ⟨B, 1, none⟩ (.slice none 0 0)) ∧ KeptIn (· < B) w ((W.setCell ⟨B, 0, none⟩ (.int .i64 0)).setCell ⟨B, 1, none⟩ (.slice none 0 0))) :=
    Lib.hid fun W h1 h2 => ⟨h1.set, (h2.setCell (p := ⟨B, 0, none⟩) (Nat.lt_irrefl B) _).setCell (p := ⟨B, 1, none⟩) (Nat.lt_irrefl B) _⟩
  have HQ : Hid (∀ W, KeptIn (· < W0.heap.size) W0 W → W.cell? ⟨B, 0, none⟩ = some (.int .i64 0) ∧ W.cell? ⟨B, 1, none⟩ = some (.slice none 0 0) ∧ W.frozen? ⟨B, 0, none⟩ = false ∧ W.frozen? ⟨B, 1, none⟩ = false) := Lib.hid fun W hk => by
    have h1 := hx0.kept hk hx0.lt
    exact ⟨h1.c0, h1.c1, h1.f0, h1.f1⟩
  by_cases h256 : s.length = 256
  · have hl : (s.length : Int) = 256 := by omega
    obtain ⟨ht1, ht2, ht3⟩ := take_parts s h256
    have hiff := parse_iff s h256
    have htl : (s.take 252).length = 252 := by rw [List.length_take]; omega
    have hop : openIs s = true → openOf s = s.take 252 := fun h => by rw [openOf, h, if_pos rfl, h256]
    have CO := castleOpen s W0 hT0 (by omega)
    have H0 := Lib.hid (And.intro hx0 hk0)
    have HP := Lib.hid (And.intro ht1 (And.intro ht2 (And.intro ht3 (And.intro hiff htl))))
    clear hT0 hT hs hx0 hk0 ht1 ht2 ht3 hiff htl
    cases ho : openIs s with
    | false =>
      have hN : isN s = false := by rw [← HP.out.2.2.2.1 (lvIn s) (pairsIn (cntIn s) (s.drop 4)) rfl (fun _ => rfl), ho]; rfl
      simp only [ho] at CO
      have HCO := Lib.hid CO
      have HN := Lib.hid hN
      obtain rfl : er = 3 := by rw [← HER.out, hN]; rfl
      clear CO ho hop hN h256
      go_enter Tryz.func49, Tryz.ntmps49
      go_wp2_with (go_at_call 82; refine HCO.out.mono ?_; rintro e W1 ⟨rfl, k1⟩; obtain ⟨p0, p1, o0, o1⟩ := HQ.out W1 k1)
      have hset := HSET.out W1 (H0.out.1.kept k1 H0.out.1.lt) (H0.out.2.trans (k1.mono fun k hk => Nat.lt_trans hk H0.out.1.lt))
      have hN := HN.out
      have HR := Lib.hid (And.intro hN (not_isN hN))
      have HS := Lib.hid hset
      clear hN hset
      try simp only [Exit.inBlock, Exit.then]
      refine bodyPost_ret (results_leaf rfl _ _ B 0 none 0 0 rfl HS.out.1) rfl ?_
      unfold ReadL
      exact ⟨none, 0, by rw [HR.out.2.1, HR.out.2.2]; rfl, by rw [HR.out.2.2]; exact IsPs.none _ _, HS.out.2⟩
    | true =>
      have hop' := hop ho
      simp only [ho, hop'] at CO
      obtain ⟨t, htt⟩ : ∃ t, s.take 252 = t := ⟨_, rfl⟩
      rw [htt] at CO
      simp only [htt] at HP
      have HCO := Lib.hid CO
      have HO := Lib.hid ho
      have CP := Lib.hid fun V => lfParse t V HP.out.2.2.2.2
      clear CO ho hop hop' h256 htt
      go_enter Tryz.func49, Tryz.ntmps49
      go_wp2_with (go_at_call 82; refine HCO.out.mono ?_; rintro e W1 ⟨rfl, k1⟩; obtain ⟨p0, p1, o0, o1⟩ := HQ.out W1 k1)
      have h1 := H0.out.1.kept k1 H0.out.1.lt
      have H1 : Hid (BoxL B 0 none 0 0 W1 ∧ KeptIn (· < B) w W1) := Lib.hid ⟨h1, H0.out.2.trans (k1.mono fun k hk => Nat.lt_trans hk H0.out.1.lt)⟩
      have K1 := Lib.hid k1
      clear k1 h1
      clear CP
      have CP := lfParse t W1 HP.out.2.2.2.2
      have hBW : B < W1.heap.size := H1.out.1.lt
      cases hp : parseOk t with
      | false =>
        have hN : isN s = false := by rw [← HP.out.2.2.2.1 (lvIn s) (pairsIn (cntIn s) (s.drop 4)) rfl (fun _ => rfl), hp]; simp
        simp only [hp] at CP
        have HCP := Lib.hid CP
        have HN := Lib.hid hN
        obtain rfl : er = 3 := by rw [← HER.out, hN]; rfl
        clear CP hN hp
        refine HCP.out.mono ?_
        rintro e W2 ⟨lv, a, cap, ps, rfl, _, _, hk2, _⟩
        have k3 : KeptIn (· < W0.heap.size) W0 (W2.alloc (.cells #[.int .i64 lv, .slice a ps.length cap] 47)) := K1.out.trans ((hk2.mono fun k hk => Nat.lt_of_lt_of_le hk K1.out.size).alloc (fun k hk => Nat.lt_of_lt_of_le hk K1.out.size) _)
        obtain ⟨p0', p1', o0', o1'⟩ := HQ.out _ k3
        have K3 := Lib.hid k3
        clear k3 hk2 p0 p1 o0 o1 HCP
        generalize ps.length = n at *
        unfold leafV
        go_wp2_with fail
        have hset := HSET.out _ (H0.out.1.kept K3.out H0.out.1.lt) (H0.out.2.trans (K3.out.mono fun k hk => Nat.lt_trans hk H0.out.1.lt))
        have hN := HN.out
        have HR := Lib.hid (And.intro hN (not_isN hN))
        have HS := Lib.hid hset
        clear hN hset
        try simp only [Exit.inBlock, Exit.then]
        refine bodyPost_ret (results_leaf rfl _ _ B 0 none 0 0 rfl HS.out.1) rfl ?_
        unfold ReadL
        exact ⟨none, 0, by rw [HR.out.2.1, HR.out.2.2]; rfl, by rw [HR.out.2.2]; exact IsPs.none _ _, HS.out.2⟩
      | true =>
        have hcnt : cntIn s ≤ 15 := by have := parseOk_cnt hp; rw [HP.out.2.1] at this; exact this
        have hgd := HP.out.2.2.2.1 (lvIn s) (pairsIn (cntIn s) (s.drop 4)) rfl (fun _ => rfl)
        rw [HO.out, hp, decide_eq_true hcnt] at hgd
        simp only [Bool.true_and] at hgd
        have hpsI : psIn s = pairsIn (cntIn s) (s.drop 4) := by rw [psIn, Nat.min_eq_left hcnt]
        simp only [hp] at CP
        have HCP := Lib.hid CP
        have HGD := Lib.hid (And.intro hgd (And.intro hpsI hcnt))
        clear CP hgd hpsI hcnt hp
        refine HCP.out.mono ?_
        rintro e W2 ⟨lv, a, cap, ps, rfl, hrow, hfit, hk2, hlp⟩
        obtain ⟨hlv, hps⟩ := hlp trivial
        rw [HP.out.1] at hlv
        rw [HP.out.2.1, HP.out.2.2.1 HGD.out.2.2, ← HGD.out.2.1] at hps
        subst hlv hps
        have hgd := HGD.out.1
        rw [← HGD.out.2.1] at hgd
        have hrow3 := hrow.alloc (.cells #[.int .i64 (lvIn s), .slice a (psIn s).length cap] 47)
        have k3 : KeptIn (· < W0.heap.size) W0 (W2.alloc (.cells #[.int .i64 (lvIn s), .slice a (psIn s).length cap] 47)) := K1.out.trans ((hk2.mono fun k hk => Nat.lt_of_lt_of_le hk K1.out.size).alloc (fun k hk => Nat.lt_of_lt_of_le hk K1.out.size) _)
        have hbx := BoxL.new W2 (lvIn s) a (psIn s).length cap
        obtain ⟨x, hx⟩ : ∃ x, W2.heap.size = x := ⟨_, rfl⟩
        obtain ⟨W3, hW3⟩ : ∃ W3, W2.alloc (.cells #[.int .i64 (lvIn s), .slice a (psIn s).length cap] 47) = W3 := ⟨_, rfl⟩
        rw [hW3] at hrow3 k3 hbx
        rw [hx] at hbx
        have HRW := Lib.hid (And.intro hrow3 (And.intro hfit k3))
        have HBX := Lib.hid hbx
        have HGO := Lib.hid fun V (hk : KeptIn (· < W3.heap.size) W3 V) => lfGood (lvIn s) a cap (psIn s) V ((row_IsPs HRW.out.1 HRW.out.2.1).old hk)
        simp only [hgd] at HGO
        have HBW := Lib.hid hBW
        obtain ⟨n, hn⟩ : ∃ n, (psIn s).length = n := ⟨_, rfl⟩
        obtain ⟨L, hL⟩ : ∃ L, lvIn s = L := ⟨_, rfl⟩
        rw [hn, hL] at HGO HBX hW3 ⊢
        unfold leafV at HGO ⊢
        rw [hn] at HRW
        have HN := Lib.hid (And.intro hn hL)
        clear hgd hrow3 k3 hbx hrow hfit hk2 hlp HCP p0 p1 o0 o1 hn hL hBW
        cases his : isN s with
        | false =>
          simp only [his] at HGO
          obtain rfl : er = 3 := by rw [← HER.out, his]; rfl
          have HIS := Lib.hid his
          clear his
          have c0 := HBX.out.c0; have c1 := HBX.out.c1
          go_wp2_with (go_at_call 74; refine (HGO.out W3 (KeptIn.refl _ _)).mono ?_; rintro e W4 ⟨rfl, k4⟩; obtain ⟨p0, p1, o0, o1⟩ := HQ.out W4 (HRW.out.2.2.trans (k4.mono fun k hk => Nat.lt_of_lt_of_le hk HRW.out.2.2.size)))
          have hset := HSET.out W4 (H0.out.1.kept (HRW.out.2.2.trans (k4.mono fun k hk => Nat.lt_of_lt_of_le hk HRW.out.2.2.size)) H0.out.1.lt) (H0.out.2.trans ((HRW.out.2.2.trans (k4.mono fun k hk => Nat.lt_of_lt_of_le hk HRW.out.2.2.size)).mono fun k hk => Nat.lt_trans hk H0.out.1.lt))
          have hN := HIS.out
          have HR := Lib.hid (And.intro hN (not_isN hN))
          have HS := Lib.hid hset
          clear hN hset
          try simp only [Exit.inBlock, Exit.then]
          refine bodyPost_ret (results_leaf rfl _ _ B 0 none 0 0 rfl HS.out.1) rfl ?_
          unfold ReadL
          exact ⟨none, 0, by rw [HR.out.2.1, HR.out.2.2]; rfl, by rw [HR.out.2.2]; exact IsPs.none _ _, HS.out.2⟩
        | true =>
          simp only [his] at HGO
          obtain rfl : er = 0 := by rw [← HER.out, his]; rfl
          have HIS := Lib.hid his
          clear his
          have c0 := HBX.out.c0; have c1 := HBX.out.c1
          have HB4 : Hid (∀ W4, KeptIn (· < W3.heap.size) W3 W4 → (W4.cell? ⟨x, 0, none⟩ = some (.int .i64 L) ∧ W4.cell? ⟨x, 1, none⟩ = some (.slice a n cap)) ∧ W4.cell? ⟨B, 0, none⟩ = some (.int .i64 0) ∧ W4.cell? ⟨B, 1, none⟩ = some (.slice none 0 0) ∧ W4.frozen? ⟨B, 0, none⟩ = false ∧ W4.frozen? ⟨B, 1, none⟩ = false) := Lib.hid fun W4 k4 =>
            ⟨⟨(HBX.out.kept k4 HBX.out.lt).c0, (HBX.out.kept k4 HBX.out.lt).c1⟩, HQ.out W4 (HRW.out.2.2.trans (k4.mono fun k hk => Nat.lt_of_lt_of_le hk HRW.out.2.2.size))⟩
          go_wp2_with (go_at_call 74; refine (HGO.out W3 (KeptIn.refl _ _)).mono ?_; rintro e W4 ⟨rfl, k4⟩; obtain ⟨⟨x0, x1⟩, p0, p1, o0, o1⟩ := HB4.out W4 k4)
          have k5 := HRW.out.2.2.trans (k4.mono fun k hk => Nat.lt_of_lt_of_le hk HRW.out.2.2.size)
          have hb5 := H0.out.1.kept k5 H0.out.1.lt
          have hrow4 := rowS_block HRW.out.1 fun g e => k4.block g (rowS_lt HRW.out.1 g e).2
          have hne : ∀ g, (Value.slice a n cap).ownBlock = some g → g ≠ B := fun g e => by
            have := (rowS_lt hrow4 g e).1
            have := HBW.out
            have := K1.out.size
            omega
          have hs5 : BoxL B L a n cap ((W4.setCell ⟨B, 0, none⟩ (.int .i64 L)).setCell ⟨B, 1, none⟩ (.slice a n cap)) := hb5.set
          have hr5 := rowS_block (w' := (W4.setCell ⟨B, 0, none⟩ (.int .i64 L)).setCell ⟨B, 1, none⟩ (.slice a n cap)) hrow4 fun g e => (heap_setCell_other _ _ _ _ (hne g e)).trans (heap_setCell_other _ _ _ _ (hne g e))
          have hps5 : IsPs ((W4.setCell ⟨B, 0, none⟩ (.int .i64 L)).setCell ⟨B, 1, none⟩ (.slice a n cap)) a (psIn s) := by
            obtain ⟨W5, hW5⟩ : ∃ W5, (W4.setCell ⟨B, 0, none⟩ (.int .i64 L)).setCell ⟨B, 1, none⟩ (.slice a n cap) = W5 := ⟨_, rfl⟩
            rw [hW5] at hr5 ⊢
            rw [← HN.out.1] at hr5
            exact row_IsPs hr5 HRW.out.2.1
          have hk5 : KeptIn (· < B) w ((W4.setCell ⟨B, 0, none⟩ (.int .i64 L)).setCell ⟨B, 1, none⟩ (.slice a n cap)) := ((H0.out.2.trans (k5.mono fun k hk => Nat.lt_trans hk H0.out.1.lt)).setCell (p := ⟨B, 0, none⟩) (Nat.lt_irrefl B) _).setCell (p := ⟨B, 1, none⟩) (Nat.lt_irrefl B) _
          have HF := Lib.hid (And.intro hs5 (And.intro hps5 hk5))
          clear hs5 hr5 hps5 hk5 hne hrow4 hb5 k5
          try simp only [Exit.inBlock, Exit.then]
          refine bodyPost_ret (results_leaf rfl _ _ B L a n cap rfl HF.out.1) rfl ?_
          unfold ReadL
          exact ⟨a, cap, by rw [(is_isN HIS.out).1, (is_isN HIS.out).2, HN.out.1, HN.out.2]; rfl, by rw [(is_isN HIS.out).2]; exact HF.out.2.1, HF.out.2.2⟩
  · have hl : ((s.length : Int) == 256) = false := by rw [beq_eq_false_iff_ne]; omega
    have hl2 : (s.length == 256) = false := by rw [beq_eq_false_iff_ne]; exact h256
    have hm : (s.length : Int) ≤ 65536 := by omega
    have hN : isN s = false := by rw [isN, decide_eq_false h256]; rfl
    obtain rfl : er = 3 := by rw [← HER.out, hN]; rfl
    have p0 := hx0.c0; have p1 := hx0.c1; have o0 := hx0.f0; have o1 := hx0.f1
    have HN := Lib.hid hN
    have HST := Lib.hid (And.intro hx0 hk0)
    clear hT0 hT hs hx0 hk0 h256 hN
    go_enter Tryz.func49, Tryz.ntmps49
    go_wp2_with fail
    have hset := HSET.out _ HST.out.1 HST.out.2
    have hN := HN.out
    have HR := Lib.hid (And.intro hN (not_isN hN))
    have HS := Lib.hid hset
    clear hN hset
    try simp only [Exit.inBlock, Exit.then]
    refine bodyPost_ret (results_leaf rfl _ _ B 0 none 0 0 rfl HS.out.1) rfl ?_
    unfold ReadL
    exact ⟨none, 0, by rw [HR.out.2.1, HR.out.2.2]; rfl, by rw [HR.out.2.2]; exact IsPs.none _ _, HS.out.2⟩

end Go.Proofs.YtkgjmejgkffbdaaGreatDoor
