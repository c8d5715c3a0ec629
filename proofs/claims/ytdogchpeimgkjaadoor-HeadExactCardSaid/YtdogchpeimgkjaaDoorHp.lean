/- Package head's parse. -/
import Derived.Test.YtdogchpeimgkjaaDoorHx
set_option linter.unusedVariables false
namespace Go.Proofs.YtdogchpeimgkjaaDoor
open Go.RowKit

/-! ### What a reader's calls leave -/
theorem step_left (k : Int) (l : List UInt8) (sh : Bool) (h1 : 1 ≤ k) {q l' : List UInt8} {sh' : Bool} (e : takeR k l sh = (q, l', sh')) :
    (sh' = true ∨ sh' = sh ∧ l'.length + k.toNat = l.length) ∧ q.length ≤ k.toNat ∧ l'.length ≤ l.length ∧ (sh = true → sh' = true) := by
  unfold takeR at e
  rw [if_neg (by omega)] at e
  split at e
  · simp only [Prod.mk.injEq] at e
    obtain ⟨rfl, rfl, rfl⟩ := e
    exact ⟨.inl rfl, Nat.zero_le _, Nat.zero_le _, fun _ => rfl⟩
  · simp only [Prod.mk.injEq] at e
    obtain ⟨rfl, rfl, rfl⟩ := e
    refine ⟨.inr ⟨rfl, ?_⟩, ?_, ?_, id⟩ <;> simp <;> omega

theorem step_take (k : Nat) (l : List UInt8) (h1 : 1 ≤ k) (h : k ≤ l.length) : takeR (k : Int) l false = (l.take k, l.drop k, false) := by
  unfold takeR
  rw [if_neg (by omega), if_neg (by omega), Int.toNat_natCast]

/-- Whether a text tells a head, whether one can have that or not. -/
def parseH (t : List UInt8) : Bool := decide (t.length = 12) && decide (t.getD 0 0 = 84)

theorem chain (t : List UInt8) {q0 q1 q2 q3 q4 q5 l1 l2 l3 l4 l5 l6 : List UInt8} {s1 s2 s3 s4 s5 s6 : Bool} (e0 : takeR 1 t false = (q0, l1, s1)) (e1 : takeR 1 l1 s1 = (q1, l2, s2)) (e2 : takeR 2 l2 s2 = (q2, l3, s3))
    (e3 : takeR 2 l3 s3 = (q3, l4, s4)) (e4 : takeR 4 l4 s4 = (q4, l5, s5)) (e5 : takeR 2 l5 s5 = (q5, l6, s6)) :
    (endOf l6 s6 = if t.length = 12 then 0 else 3) ∧ (t.length = 12 → numLE q0 = (t.getD 0 0).toNat ∧ (⟨numLE q4, numLE q5, numLE q2, numLE q3, numLE q1⟩ : Hd) = headIn t) := by
  rcases Nat.lt_or_ge t.length 12 with h | h
  · have a0 := step_left 1 t false (by decide) e0
    have a1 := step_left 1 l1 s1 (by decide) e1
    have a2 := step_left 2 l2 s2 (by decide) e2
    have a3 := step_left 2 l3 s3 (by decide) e3
    have a4 := step_left 4 l4 s4 (by decide) e4
    have a5 := step_left 2 l5 s5 (by decide) e5
    have hs : s6 = true := by
      have b0 := a0.1; have b1 := a1.1; have b2 := a2.1; have b3 := a3.1; have b4 := a4.1; have b5 := a5.1
      have c1 := a1.2.2.2; have c2 := a2.2.2.2; have c3 := a3.2.2.2; have c4 := a4.2.2.2; have c5 := a5.2.2.2
      have n1 : (1 : Int).toNat = 1 := rfl
      have n2 : (2 : Int).toNat = 2 := rfl
      have n4 : (4 : Int).toNat = 4 := rfl
      rw [n1] at b0 b1; rw [n2] at b2 b3 b5; rw [n4] at b4
      cases s6 with
      | true => rfl
      | false =>
        exfalso
        cases s5 with
        | true => exact absurd (c5 rfl) (by decide)
        | false => cases s4 with
          | true => exact absurd (c4 rfl) (by decide)
          | false => cases s3 with
            | true => exact absurd (c3 rfl) (by decide)
            | false => cases s2 with
              | true => exact absurd (c2 rfl) (by decide)
              | false => cases s1 with
                | true => exact absurd (c1 rfl) (by decide)
                | false => simp at b0 b1 b2 b3 b4 b5; omega
    subst hs
    rw [if_neg (by omega)]
    exact ⟨rfl, fun h12 => absurd h12 (by omega)⟩
  · obtain ⟨a, b, c, d, e, f, g, i, j, k, l, m, r, rfl⟩ := take12 t h
    have t1 : ∀ (x : UInt8) (y : List UInt8), takeR 1 (x :: y) false = ([x], y, false) := fun x y => step_take 1 (x :: y) (by decide) (by simp)
    have t2 : ∀ (x x' : UInt8) (y : List UInt8), takeR 2 (x :: x' :: y) false = ([x, x'], y, false) := fun x x' y => step_take 2 (x :: x' :: y) (by decide) (by simp)
    have t4 : ∀ (x x' u u' : UInt8) (y : List UInt8), takeR 4 (x :: x' :: u :: u' :: y) false = ([x, x', u, u'], y, false) := fun x x' u u' y => step_take 4 (x :: x' :: u :: u' :: y) (by decide) (by simp)
    rw [t1] at e0
    simp only [Prod.mk.injEq] at e0
    obtain ⟨rfl, rfl, rfl⟩ := e0
    rw [t1] at e1
    simp only [Prod.mk.injEq] at e1
    obtain ⟨rfl, rfl, rfl⟩ := e1
    rw [t2] at e2
    simp only [Prod.mk.injEq] at e2
    obtain ⟨rfl, rfl, rfl⟩ := e2
    rw [t2] at e3
    simp only [Prod.mk.injEq] at e3
    obtain ⟨rfl, rfl, rfl⟩ := e3
    rw [t4] at e4
    simp only [Prod.mk.injEq] at e4
    obtain ⟨rfl, rfl, rfl⟩ := e4
    rw [t2] at e5
    simp only [Prod.mk.injEq] at e5
    obtain ⟨rfl, rfl, rfl⟩ := e5
    constructor
    · cases r with
      | nil => rfl
      | cons x r =>
        rw [if_neg (by simp)]
        rfl
    · intro _
      exact ⟨by simp [numLE], by simp [headIn, numLE]⟩

/-- What parse hands back. -/
def ParseH (B : Nat) (w : World) (t : List UInt8) (ok : Bool) (e : Ending) (w' : World) : Prop :=
  ∃ h, e = .returned (.tuple #[headV h, .bool ok]) ∧ KeptIn (· < B) w w' ∧ (ok = true → h = headIn t)

/-- One reading. -/
theorem rget (r : Nat) (size k : Int) (hk : min (max size 1) 8 = k) {l q l' : List UInt8} {sh sh' : Bool} (e : takeR k l sh = (q, l', sh')) (hl : l.length ≤ 65536) (w : World) (h : IsR r l sh w) :
    Calls Tryd.prog 34 #[.pointer (some ⟨r, 0, none⟩), .int .i64 size] w fun en w' => en = .returned (.int .u64 (numLE q)) ∧ IsR r l' sh' w' ∧ KeptIn (fun k => k < w.heap.size ∧ k ≠ r) w w' := by
  have := getW (fun k => k < w.heap.size ∧ k ≠ r) r l sh size w h (fun h => h.2 rfl) (fun k h => h.1) (by omega)
  rw [hk, e] at this
  exact this

theorem num_le (q : List UInt8) (k : Nat) (h : q.length ≤ k) : numLE q < 2 ^ (8 * k) := Nat.lt_of_lt_of_le (numLE_lt q) (Nat.pow_le_pow_right (by decide) (by omega))

/-- parse's variables: the result's at B, the head's at x, the reader at r. -/
structure P6 (w : World) (B x r : Nat) (h : Hd) (l : List UInt8) (sh : Bool) (W : World) : Prop where
  rd : IsR r l sh W
  res : BoxH B noH W
  box : BoxH x h W
  kept : KeptIn (· < B) w W
  bx : B < x
  xr : x < r
section
variable {w W V : World} {B x r : Nat} {h : Hd} {l l' : List UInt8} {sh sh' : Bool}
theorem P6.get (p : P6 w B x r h l sh W) (hr : IsR r l' sh' V) (hk : KeptIn (fun k => k < W.heap.size ∧ k ≠ r) W V) : P6 w B x r h l' sh' V :=
  ⟨hr, p.res.kept hk ⟨p.res.lt, by have := p.bx; have := p.xr; omega⟩, p.box.kept hk ⟨p.box.lt, by have := p.xr; omega⟩,
    p.kept.trans (hk.mono fun k hk => ⟨Nat.lt_trans hk p.res.lt, by have := p.bx; have := p.xr; omega⟩), p.bx, p.xr⟩
theorem P6.store (p : P6 w B x r h l sh W) (i : Nat) (v : Value) {h' : Hd} (hb : BoxH x h' (W.setCell ⟨x, i, none⟩ v)) : P6 w B x r h' l sh (W.setCell ⟨x, i, none⟩ v) :=
  ⟨(heap_setCell_other _ _ _ _ (by have := p.xr; simp; omega)).trans p.rd, (heap_setCell_other _ _ _ _ (by have := p.bx; simp; omega)).trans p.res, hb,
    p.kept.setCell (p := ⟨x, i, none⟩) (by have := p.bx; simp; omega) v, p.bx, p.xr⟩
end

set_option maxHeartbeats 2000000 in
set_option maxRecDepth 100000 in
theorem hdParse (t : List UInt8) (w : World) (ht : t.length ≤ 65536) :
    Calls Tryd.prog 22 #[.string ⟨t.toArray⟩] w (ParseH w.heap.size w t (parseH t)) := by
  obtain ⟨⟨q0, l1, s1⟩, e0⟩ : ∃ q, takeR 1 t false = q := ⟨_, rfl⟩
  obtain ⟨⟨q1, l2, s2⟩, e1⟩ : ∃ q, takeR 1 l1 s1 = q := ⟨_, rfl⟩
  obtain ⟨⟨q2, l3, s3⟩, e2⟩ : ∃ q, takeR 2 l2 s2 = q := ⟨_, rfl⟩
  obtain ⟨⟨q3, l4, s4⟩, e3⟩ : ∃ q, takeR 2 l3 s3 = q := ⟨_, rfl⟩
  obtain ⟨⟨q4, l5, s5⟩, e4⟩ : ∃ q, takeR 4 l4 s4 = q := ⟨_, rfl⟩
  obtain ⟨⟨q5, l6, s6⟩, e5⟩ : ∃ q, takeR 2 l5 s5 = q := ⟨_, rfl⟩
  obtain ⟨_, b0, m1, _⟩ := step_left 1 t false (by decide) e0
  obtain ⟨_, b1, m2, _⟩ := step_left 1 l1 s1 (by decide) e1
  obtain ⟨_, b2, m3, _⟩ := step_left 2 l2 s2 (by decide) e2
  obtain ⟨_, b3, m4, _⟩ := step_left 2 l3 s3 (by decide) e3
  obtain ⟨_, b4, m5, _⟩ := step_left 4 l4 s4 (by decide) e4
  obtain ⟨_, b5, m6, _⟩ := step_left 2 l5 s5 (by decide) e5
  have hch := chain t e0 e1 e2 e3 e4 e5
  have C0 := fun r W h => rget r 1 1 (by decide) e0 ht W h
  have C1 := fun r W h => rget r 1 1 (by decide) e1 (by omega) W h
  have C2 := fun r W h => rget r 2 2 (by decide) e2 (by omega) W h
  have C3 := fun r W h => rget r 2 2 (by decide) e3 (by omega) W h
  have C4 := fun r W h => rget r 4 4 (by decide) e4 (by omega) W h
  have C5 := fun r W h => rget r 2 2 (by decide) e5 (by omega) W h
  have u0 := num_le q0 1 b0
  have u1 := num_le q1 1 b1
  have u2 := num_le q2 2 b2
  have u3 := num_le q3 2 b3
  have u4 := num_le q4 4 b4
  have u5 := num_le q5 2 b5
  simp only [Nat.reduceMul, Nat.reducePow] at u0 u1 u2 u3 u4 u5
  obtain ⟨v0, hv0⟩ : ∃ v, numLE q0 = v := ⟨_, rfl⟩
  obtain ⟨v1, hv1⟩ : ∃ v, numLE q1 = v := ⟨_, rfl⟩
  obtain ⟨v2, hv2⟩ : ∃ v, numLE q2 = v := ⟨_, rfl⟩
  obtain ⟨v3, hv3⟩ : ∃ v, numLE q3 = v := ⟨_, rfl⟩
  obtain ⟨v4, hv4⟩ : ∃ v, numLE q4 = v := ⟨_, rfl⟩
  obtain ⟨v5, hv5⟩ : ∃ v, numLE q5 = v := ⟨_, rfl⟩
  simp only [hv0, hv1, hv2, hv3, hv4, hv5] at C0 C1 C2 C3 C4 C5 u0 u1 u2 u3 u4 u5 hch
  clear e0 e1 e2 e3 e4 e5 m1 m2 m3 m4 m5 m6 b0 b1 b2 b3 b4 b5 hv0 hv1 hv2 hv3 hv4 hv5
  -- what comes out
  obtain ⟨ok, hok⟩ : ∃ ok, parseH t = ok := ⟨_, rfl⟩
  obtain ⟨en, hen⟩ : ∃ en, endOf l6 s6 = en := ⟨_, rfl⟩
  rw [hen] at hch
  rw [hok]
  have HOK : Hid ((v0 = 84 ∧ en = 0 → ok = true) ∧ (¬ (v0 = 84 ∧ en = 0) → ok = false) ∧ (ok = true → (⟨v4, v5, v2, v3, v1⟩ : Hd) = headIn t)) := Lib.hid (by
    unfold parseH at hok
    have hb : ∀ b : UInt8, b.toNat = 84 ↔ b = 84 := fun b => ⟨fun h => UInt8.toNat_inj.1 h, fun h => by rw [h]; rfl⟩
    by_cases h12 : t.length = 12
    · have h1 := hch.1
      rw [if_pos h12] at h1
      obtain ⟨h2, h3⟩ := hch.2 h12
      rw [decide_eq_true h12, Bool.true_and] at hok
      refine ⟨fun h => ?_, fun h => ?_, fun _ => h3⟩
      · rw [← hok]; exact decide_eq_true ((hb _).1 (h2.symm.trans h.1))
      · rw [← hok]; exact decide_eq_false fun h4 => h ⟨h2.trans ((hb _).2 h4), h1⟩
    · have h1 := hch.1
      rw [if_neg h12] at h1
      rw [decide_eq_false h12, Bool.false_and] at hok
      refine ⟨fun h => absurd h.2 (by omega), fun _ => hok.symm, fun h => by rw [← hok] at h; cases h⟩)
  have hen3 : en = 0 ∨ en = 3 := by
    have := hch.1
    by_cases h : t.length = 12
    · rw [if_pos h] at this; exact .inl this
    · rw [if_neg h] at this; exact .inr this
  have HEN := Lib.hid hen
  have HE3 := Lib.hid hen3
  have H0 := Lib.hid C0; have H1 := Lib.hid C1; have H2 := Lib.hid C2; have H3 := Lib.hid C3; have H4 := Lib.hid C4; have H5 := Lib.hid C5
  have i0 : (v0 : Int) ≤ 255 := by omega
  have i1 : (v1 : Int) ≤ 255 := by omega
  have i2 : (v2 : Int) ≤ 65535 := by omega
  have i3 : (v3 : Int) ≤ 65535 := by omega
  have i5 : (v5 : Int) ≤ 65535 := by omega
  have j1 : (0 : Int) ≤ (v1 : Int) := by omega
  have j2 : (0 : Int) ≤ (v2 : Int) := by omega
  have j3 : (0 : Int) ≤ (v3 : Int) := by omega
  have j5 : (0 : Int) ≤ (v5 : Int) := by omega
  clear C0 C1 C2 C3 C4 C5 u0 u1 u2 u3 u4 u5 hch hok hen hen3
  -- the world behind the variables
  obtain ⟨B, hB⟩ : ∃ B, w.heap.size = B := ⟨_, rfl⟩
  obtain ⟨W0, hW0⟩ : ∃ W0, (w.alloc (.cells #[.int .u64 0, .int .i64 0, .int .i64 0, .int .i64 0, .int .i64 0] 25)).alloc (.cells #[.int .u64 0, .int .i64 0, .int .i64 0, .int .i64 0, .int .i64 0] 25) = W0 := ⟨_, rfl⟩
  have hres : BoxH B noH W0 := by
    rw [← hW0]
    rw [← hB]
    exact (Lib.alloc_old (w.alloc (.cells #[.int .u64 0, .int .i64 0, .int .i64 0, .int .i64 0, .int .i64 0] 25)) _ w.heap.size (by simp)).trans (heap_alloc_new w _)
  have hbox : BoxH (B + 1) noH W0 := by
    rw [← hW0, ← hB]
    have := heap_alloc_new (w.alloc (.cells #[.int .u64 0, .int .i64 0, .int .i64 0, .int .i64 0, .int .i64 0] 25)) (.cells #[.int .u64 0, .int .i64 0, .int .i64 0, .int .i64 0, .int .i64 0] 25)
    rw [World.size_alloc] at this
    exact this
  have hk0 : KeptIn (· < B) w W0 := by
    rw [← hW0, ← hB]
    exact ((KeptIn.refl _ w).alloc (fun _ h => h) _).alloc (fun _ h => h) _
  have hsz : W0.heap.size = B + 2 := by rw [← hW0, ← hB]; simp
  have HW0 := Lib.hid hW0
  have HA := Lib.hid (And.intro hres (And.intro hbox (And.intro hk0 hsz)))
  have HB := Lib.hid hB
  rw [hB]
  clear hres hbox hk0 hsz hW0 hB ht
  go_enter Tryd.func22, Tryd.ntmps22
  go_wp2_with (go_at_call 32; rw [HW0.out]; refine (ofW _ W0).mono ?_; rw [HA.out.2.2.2]; rintro e W1 ⟨rfl, hr1, hk1⟩)
  have P1 : Hid (P6 w B (B + 1) (B + 2) noH t false W1) := Lib.hid ⟨hr1, HA.out.1.kept hk1 (by omega), HA.out.2.1.kept hk1 (by omega), HA.out.2.2.1.trans (hk1.mono fun k hk => by omega), by omega, by omega⟩
  clear hr1 hk1 HA HW0
  rw [HB.out]
  refine (H0.out (B + 2) W1 P1.out.rd).mono ?_
  rintro e V2 ⟨rfl, hr, hk⟩
  have P2 := Lib.hid (P1.out.get hr hk)
  clear hr hk P1
  go_wp2_with fail
  refine (H1.out (B + 2) V2 P2.out.rd).mono ?_
  rintro e V3 ⟨rfl, hr, hk⟩
  have p3 := P2.out.get hr hk
  have cc : V3.cell? ⟨B + 1, 4, none⟩ = some (.int .i64 0) := p3.box.c4
  have ff := p3.box.fz 4
  have p4 := p3.store 4 _ (p3.box.set4 v1)
  obtain ⟨V3', hV⟩ : ∃ V, V3.setCell ⟨B + 1, 4, none⟩ (.int .i64 v1) = V := ⟨_, rfl⟩
  rw [hV] at p4
  have HV := Lib.hid hV
  have P3 := Lib.hid p4
  clear hr hk p3 p4 hV P2
  go_wp2_with fail
  rw [HV.out]
  clear cc ff HV
  refine (H2.out (B + 2) V3' P3.out.rd).mono ?_
  rintro e V4 ⟨rfl, hr, hk⟩
  have p3 := P3.out.get hr hk
  have cc : V4.cell? ⟨B + 1, 2, none⟩ = some (.int .i64 0) := p3.box.c2
  have ff := p3.box.fz 2
  have p4 := p3.store 2 _ (p3.box.set2 v2)
  obtain ⟨V4', hV⟩ : ∃ V, V4.setCell ⟨B + 1, 2, none⟩ (.int .i64 v2) = V := ⟨_, rfl⟩
  rw [hV] at p4
  have HV := Lib.hid hV
  have P4 := Lib.hid p4
  clear hr hk p3 p4 hV P3
  go_wp2_with fail
  rw [HV.out]
  clear cc ff HV
  refine (H3.out (B + 2) V4' P4.out.rd).mono ?_
  rintro e V5 ⟨rfl, hr, hk⟩
  have p3 := P4.out.get hr hk
  have cc : V5.cell? ⟨B + 1, 3, none⟩ = some (.int .i64 0) := p3.box.c3
  have ff := p3.box.fz 3
  have p4 := p3.store 3 _ (p3.box.set3 v3)
  obtain ⟨V5', hV⟩ : ∃ V, V5.setCell ⟨B + 1, 3, none⟩ (.int .i64 v3) = V := ⟨_, rfl⟩
  rw [hV] at p4
  have HV := Lib.hid hV
  have P5 := Lib.hid p4
  clear hr hk p3 p4 hV P4
  go_wp2_with fail
  rw [HV.out]
  clear cc ff HV
  refine (H4.out (B + 2) V5' P5.out.rd).mono ?_
  rintro e V6 ⟨rfl, hr, hk⟩
  have p3 := P5.out.get hr hk
  have cc : V6.cell? ⟨B + 1, 0, none⟩ = some (.int .u64 0) := p3.box.c0
  have ff := p3.box.fz 0
  have p4 := p3.store 0 _ (p3.box.set0 v4)
  obtain ⟨V6', hV⟩ : ∃ V, V6.setCell ⟨B + 1, 0, none⟩ (.int .u64 v4) = V := ⟨_, rfl⟩
  rw [hV] at p4
  have HV := Lib.hid hV
  have P6' := Lib.hid p4
  clear hr hk p3 p4 hV P5
  go_wp2_with fail
  rw [HV.out]
  clear cc ff HV
  by_cases h84 : v0 = 84
  · have HO2 : Hid ((en = 0 → ok = true) ∧ (en = 3 → ok = false)) := Lib.hid ⟨fun h => HOK.out.1 ⟨h84, h⟩, fun h => HOK.out.2.1 fun h2 => by omega⟩
    have HO3 := Lib.hid HOK.out.2.2
    clear HOK
    subst h84
    refine (H5.out (B + 2) V6' P6'.out.rd).mono ?_
    rintro e V7 ⟨rfl, hr, hk⟩
    have p3 := P6'.out.get hr hk
    have cc : V7.cell? ⟨B + 1, 1, none⟩ = some (.int .i64 0) := p3.box.c1
    have ff := p3.box.fz 1
    have p4 := p3.store 1 _ (p3.box.set1 v5)
    obtain ⟨V7', hV⟩ : ∃ V, V7.setCell ⟨B + 1, 1, none⟩ (.int .i64 v5) = V := ⟨_, rfl⟩
    rw [hV] at p4
    have HV := Lib.hid hV
    have P7 := Lib.hid p4
    clear hr hk p3 p4 hV P6'
    go_wp2_with fail
    rw [HV.out]
    clear cc ff HV
    have CE := endW (B + 2) l6 s6 V7' P7.out.rd
    rw [HEN.out] at CE
    obtain ⟨⟨z0, z1, z2, z3, z4⟩, f0, f1, f2, f3, f4⟩ := P7.out.res.zero
    have c0 : V7'.cell? ⟨B + 1, 0, none⟩ = some (.int .u64 v4) := P7.out.box.c0
    have c1 : V7'.cell? ⟨B + 1, 1, none⟩ = some (.int .i64 v5) := P7.out.box.c1
    have c2 : V7'.cell? ⟨B + 1, 2, none⟩ = some (.int .i64 v2) := P7.out.box.c2
    have c3 : V7'.cell? ⟨B + 1, 3, none⟩ = some (.int .i64 v3) := P7.out.box.c3
    have c4 : V7'.cell? ⟨B + 1, 4, none⟩ = some (.int .i64 v1) := P7.out.box.c4
    rcases HE3.out with h | h
    · obtain rfl : ok = true := HO2.out.1 h
      subst h
      refine CE.mono ?_
      clear CE HO2
      rintro e _ ⟨rfl, rfl⟩
      go_wp2_with fail
      have HFIN : true = true → (⟨v4, v5, v2, v3, v1⟩ : Hd) = headIn t := fun _ => HO3.out (by trivial)
      have hpt := P7.out.res.put ⟨v4, v5, v2, v3, v1⟩
      have hkt := P7.out.kept.put (Nat.lt_irrefl B) ⟨v4, v5, v2, v3, v1⟩
      have HPT := Lib.hid hpt
      have HKT := Lib.hid hkt
      clear hpt hkt
      try simp only [Exit.inBlock, Exit.then]
      refine bodyPost_ret (results_head rfl _ _ B ⟨v4, v5, v2, v3, v1⟩ rfl HPT.out) rfl ?_
      unfold ParseH
      exact ⟨_, rfl, HKT.out, HFIN⟩
    · obtain rfl : ok = false := HO2.out.2 h
      subst h
      refine CE.mono ?_
      clear CE HO2 HO3
      rintro e _ ⟨rfl, rfl⟩
      go_wp2_with fail
      have HFIN : false = true → noH = headIn t := fun h => by cases h
      have hpt := P7.out.res.put0
      have hkt := P7.out.kept.put0 (Nat.lt_irrefl B)
      have HPT := Lib.hid hpt
      have HKT := Lib.hid hkt
      clear hpt hkt
      try simp only [Exit.inBlock, Exit.then]
      refine bodyPost_ret (results_head rfl _ _ B noH rfl HPT.out) rfl ?_
      unfold ParseH
      exact ⟨_, rfl, HKT.out, HFIN⟩
  · obtain rfl : ok = false := HOK.out.2.1 fun h => h84 h.1
    have n84 : ¬ (v0 : Int) = 84 := by omega
    clear h84 HOK
    refine (H5.out (B + 2) V6' P6'.out.rd).mono ?_
    rintro e V7 ⟨rfl, hr, hk⟩
    have p3 := P6'.out.get hr hk
    have cc : V7.cell? ⟨B + 1, 1, none⟩ = some (.int .i64 0) := p3.box.c1
    have ff := p3.box.fz 1
    have p4 := p3.store 1 _ (p3.box.set1 v5)
    obtain ⟨⟨z0, z1, z2, z3, z4⟩, f0, f1, f2, f3, f4⟩ := p4.res.zero
    have P7 := Lib.hid p4
    clear hr hk p3 p4 P6'
    go_wp2_with fail
    have HFIN : false = true → noH = headIn t := fun h => by cases h
    have hpt := P7.out.res.put0
    have hkt := P7.out.kept.put0 (Nat.lt_irrefl B)
    have HPT := Lib.hid hpt
    have HKT := Lib.hid hkt
    clear hpt hkt
    try simp only [Exit.inBlock, Exit.then]
    refine bodyPost_ret (results_head rfl _ _ B noH rfl HPT.out) rfl ?_
    unfold ParseH
    exact ⟨_, rfl, HKT.out, HFIN⟩

end Go.Proofs.YtdogchpeimgkjaaDoor
