/- For DiscExact: a device, its power and the document's, side by side. -/
import Derived.Test.YtbgkfeikfkbfmaaDv
import Derived.Test.YtbgkfeikfkbfmaaFl4
import Derived.Test.YtbgkfeikfkbfmaaRef4d
set_option linter.unusedVariables false
namespace Go.Proofs.Ytbgkfeikfkbfmaa
open Go.RowKit

/-! ### rows of sectors, as they are now; which are loose -/
def looseL (S : List (List UInt8)) (M : Int → Option (List UInt8)) : List Bool := (List.range S.length).map fun i : Nat => (M (i : Int)).isSome

section
variable {S : List (List UInt8)} {M : Int → Option (List UInt8)}

theorem flushed_length : (flushed S M).length = S.length := by simp [flushed]
theorem looseL_length : (looseL S M).length = S.length := by simp [looseL]

theorem flushed_at (i : Nat) (h : i < S.length) : (flushed S M)[i]? = some (now S M i) := by
  simp [flushed, h]
theorem looseL_at (i : Nat) (h : i < S.length) : (looseL S M)[i]? = some (M (i : Int)).isSome := by
  simp [looseL, h]

theorem flushed_none : flushed S (fun _ => none) = S := by
  apply List.ext_getElem?
  intro i
  by_cases h : i < S.length
  · rw [flushed_at i h, List.getElem?_eq_getElem h]
    simp [now, List.getD_eq_getElem?_getD, h]
  · rw [List.getElem?_eq_none (by rw [flushed_length]; omega), List.getElem?_eq_none (by omega)]

theorem looseL_none : looseL S (fun _ => none) = List.replicate S.length false := by
  apply List.ext_getElem?
  intro i
  by_cases h : i < S.length
  · rw [looseL_at i h]
    simp [h]
  · rw [List.getElem?_eq_none (by rw [looseL_length]; omega), List.getElem?_eq_none (by simp; omega)]

theorem flushed_put (a : Nat) (l : List UInt8) : (flushed S M).set a l = flushed S (putAt M (a : Int) l) := by
  apply List.ext_getElem?
  intro i
  by_cases h : i < S.length
  · rw [flushed_at i h]
    by_cases e : i = a
    · subst e
      rw [List.getElem?_set_self (by rw [flushed_length]; exact h)]
      simp [now, putAt]
    · rw [List.getElem?_set_ne (fun e' => e e'.symm), flushed_at i h]
      have : ¬ ((i : Int) = (a : Int)) := by omega
      simp [now, putAt, this]
  · rw [List.getElem?_eq_none (by rw [List.length_set, flushed_length]; omega), List.getElem?_eq_none (by rw [flushed_length]; omega)]

theorem looseL_put (a : Nat) (l : List UInt8) : (looseL S M).set a true = looseL S (putAt M (a : Int) l) := by
  apply List.ext_getElem?
  intro i
  by_cases h : i < S.length
  · rw [looseL_at i h]
    by_cases e : i = a
    · subst e
      rw [List.getElem?_set_self (by rw [looseL_length]; exact h)]
      simp [putAt]
    · rw [List.getElem?_set_ne (fun e' => e e'.symm), looseL_at i h]
      have : ¬ ((i : Int) = (a : Int)) := by omega
      simp [putAt, this]
  · rw [List.getElem?_eq_none (by rw [List.length_set, looseL_length]; omega), List.getElem?_eq_none (by rw [looseL_length]; omega)]

theorem nows_slice (a n : Nat) (h : a + n ≤ S.length) : nows S M a n = (((flushed S M).drop a).take n).flatten := by
  unfold nows
  congr 1
  apply List.ext_getElem?
  intro i
  by_cases hi : i < n
  · rw [List.getElem?_take, if_pos hi, List.getElem?_drop, flushed_at _ (by omega)]
    simp [hi]
  · rw [List.getElem?_eq_none (by simp; omega), List.getElem?_eq_none (by simp; omega)]

/-! ### what is loose, one behind the other -/
theorem places_succ (j : Nat) : places (j + 1) M = if (M (j : Int)).isSome then places j M ++ [(j : Int)] else places j M := by
  unfold places
  rw [List.range_succ, List.filter_append]
  cases h : (M (j : Int)).isSome with
  | true =>
    have e : ([j].filter fun i : Nat => (M (i : Int)).isSome) = [j] := by rw [List.filter_cons, if_pos h, List.filter_nil]
    rw [e, List.map_append]
    rfl
  | false =>
    have e : ([j].filter fun i : Nat => (M (i : Int)).isSome) = [] := by rw [List.filter_cons, if_neg (by rw [h]; simp), List.filter_nil]
    rw [e, List.append_nil]
    rfl

theorem looseL_getD (i : Nat) (h : i < S.length) : (looseL S M).getD i false = (M (i : Int)).isSome := by
  rw [List.getD_eq_getElem?_getD, looseL_at i h]
  rfl

theorem trues_places (j : Nat) (h : j ≤ S.length) : trues (looseL S M) j = places j M := by
  unfold trues places
  congr 1
  refine List.filter_congr fun i hi => ?_
  rw [List.mem_range] at hi
  exact looseL_getD i (by omega)

theorem settle_append (keep : List UInt8) (k : Int) : ∀ (ks : List Int) (c : Nat) (S : List (List UInt8)), settle keep M (ks ++ [k]) c S = if keepBit keep (c + ks.length) then (settle keep M ks c S).set k.toNat ((M k).getD []) else settle keep M ks c S
  | [], c, S => by simp [settle]
  | a :: r, c, S => by
    rw [List.cons_append, settle, settle_append keep k r (c + 1), List.length_cons, show c + 1 + r.length = c + (r.length + 1) by omega]
    rfl

theorem settle_at (keep : List UInt8) (i : Nat) (hi : i < S.length) : ∀ j, (settle keep M (places j M) 0 S)[i]? = if i < j ∧ (M (i : Int)).isSome = true ∧ keepBit keep (places i M).length = true then some (now S M i) else S[i]?
  | 0 => by
    rw [if_neg (by omega)]
    rfl
  | j + 1 => by
    have ih := settle_at keep i hi j
    rw [places_succ]
    cases hj : (M (j : Int)).isSome with
    | false =>
      rw [if_neg (by simp), ih]
      by_cases e : i = j
      · subst e
        rw [if_neg (by omega), if_neg (by rw [hj]; simp)]
      · by_cases h : i < j ∧ (M (i : Int)).isSome = true ∧ keepBit keep (places i M).length = true
        · rw [if_pos h, if_pos ⟨by omega, h.2⟩]
        · rw [if_neg h, if_neg (fun h2 => h ⟨by omega, h2.2⟩)]
    | true =>
      rw [if_pos rfl, settle_append, Nat.zero_add]
      by_cases e : i = j
      · subst e
        cases hk : keepBit keep (places i M).length with
        | true =>
          rw [if_pos rfl, if_pos ⟨by omega, hj, rfl⟩, show ((i : Int)).toNat = i by omega, List.getElem?_set_self (by rw [settle_length]; exact hi)]
          obtain ⟨x, hx⟩ := Option.isSome_iff_exists.1 hj
          simp [now, hx]
        | false =>
          rw [if_neg (by simp), ih, if_neg (by omega), if_neg (by simp)]
      · have h1 : (if keepBit keep (places j M).length = true then (settle keep M (places j M) 0 S).set ((j : Int)).toNat ((M (j : Int)).getD []) else settle keep M (places j M) 0 S)[i]? = (settle keep M (places j M) 0 S)[i]? := by
          split
          · rw [List.getElem?_set_ne (by omega)]
          · rfl
        rw [h1, ih]
        by_cases h : i < j ∧ (M (i : Int)).isSome = true ∧ keepBit keep (places i M).length = true
        · rw [if_pos h, if_pos ⟨by omega, h.2⟩]
        · rw [if_neg h, if_neg (fun h2 => h ⟨by omega, h2.2⟩)]

theorem settle_fin (keep : List UInt8) (i : Nat) (hi : i < S.length) : (settle keep M (places S.length M) 0 S)[i]? = if (looseL S M).getD i false = true then (if keepBit keep (trues (looseL S M) i).length = true then (flushed S M)[i]? else S[i]?) else S[i]? := by
  rw [settle_at keep i hi, looseL_getD i hi, trues_places i (by omega), flushed_at i hi]
  cases h1 : (M (i : Int)).isSome with
  | false => rw [if_neg (by simp), if_neg (by simp)]
  | true =>
    cases h2 : keepBit keep (places i M).length with
    | false => rw [if_neg (by simp), if_pos rfl, if_neg (by simp)]
    | true => rw [if_pos ⟨hi, rfl, rfl⟩, if_pos rfl, if_pos rfl]

theorem settle_same (i : Nat) (hi : i < S.length) (h : (looseL S M).getD i false = false) : (flushed S M)[i]? = S[i]? := by
  rw [looseL_getD i hi] at h
  rw [flushed_at i hi, List.getElem?_eq_getElem hi]
  have h2 : M (i : Int) = none := by simpa using h
  simp [now, h2, List.getD_eq_getElem?_getD, hi]

end

/-! ### power, use by use -/
theorem go_uses (n : Nat) : ∀ p : Pw, ((Pw.go n p).2.uses - p.uses - (Pw.go n p).1) % 18446744073709551616 = 0 := by
  induction n with
  | zero => intro p; simp [Pw.go]
  | succ n ih =>
    intro p
    cases hc : p.can with
    | false =>
      simp only [Pw.go, hc, Bool.false_eq_true, if_false, Pw.use]
      omega
    | true =>
      have h := ih p.use
      have hu : p.use.uses = wrap64 (p.uses + 1) := by simp [Pw.use, hc]
      simp only [Pw.go, hc, if_true]
      rw [hu] at h
      unfold wrap64 at h
      omega

theorem go_le (n : Nat) : ∀ p : Pw, (Pw.go n p).1 ≤ n := by
  induction n with
  | zero => intro p; simp [Pw.go]
  | succ n ih =>
    intro p
    cases hc : p.can with
    | false => simp [Pw.go, hc]
    | true => have := ih p.use; simp only [Pw.go, hc, if_true]; omega

theorem go_off (n : Nat) : ∀ p : Pw, (Pw.go n p).1 ≠ n → (Pw.go n p).2.on = false := by
  induction n with
  | zero => intro p h; exact absurd rfl h
  | succ n ih =>
    intro p h
    cases hc : p.can with
    | false => simp [Pw.go, hc, Pw.use]
    | true =>
      simp only [Pw.go, hc, if_true] at h ⊢
      exact ih p.use (by omega)

theorem go_diff (n : Nat) (p : Pw) (hn : n ≤ 5) : wrap64 ((Pw.go n p).2.uses - p.uses) = ((Pw.go n p).1 : Int) := by
  have h1 := go_uses n p
  have h2 := go_le n p
  generalize (Pw.go n p).2.uses = a at h1 ⊢
  generalize (Pw.go n p).1 = k at h1 h2 ⊢
  generalize p.uses = b at h1 ⊢
  unfold wrap64
  omega

/-! ### sectors of rising bytes -/
def zs (x : UInt8) (n : Nat) : List (List UInt8) := (List.range n).map fun i => solid (x + UInt8.ofNat i)

theorem zs_succ (x : UInt8) (n : Nat) : (zs x (n + 1)).flatten = (zs x n).flatten ++ solid (x + UInt8.ofNat n) := by
  simp [zs, List.range_succ]
theorem zs_len (x : UInt8) (n : Nat) : ∀ y ∈ zs x n, y.length = 16 := by
  intro y hy
  simp only [zs, List.mem_map] at hy
  obtain ⟨i, _, rfl⟩ := hy
  exact solid_length _
theorem zs_length (x : UInt8) (n : Nat) : (zs x n).length = n := by simp [zs]
theorem zs_flat (x : UInt8) (n : Nat) : (zs x n).flatten.length = 16 * n := by rw [flat_length _ (zs_len x n), zs_length]
theorem zs_nth (x : UInt8) (n i : Nat) (h : i < n) : nth (zs x n).flatten i = solid (x + UInt8.ofNat i) := by
  rw [nth_flat _ i (by rw [zs_length]; exact h) (zs_len x n)]
  simp [zs]

theorem byte_add (x : UInt8) (i : Nat) (h : i < 256) : IntKind.u8.wrap ((x.toNat : Int) + (i : Int)) = ((x + UInt8.ofNat i).toNat : Int) := by
  rw [UInt8.toNat_add, UInt8.toNat_ofNat', IntKind.wrap_u8]
  have := UInt8.toNat_lt x
  omega

/-! ### side by side -/
/-- A device with its power, and the document's, laid since the world w. -/
structure Bth (w : World) (d m s b u N : Nat) (vn vs vl : Value) (p : Pw) (S : List (List UInt8)) (M : Int → Option (List UInt8)) (Nw Sf : List (List UInt8)) (Ls : List Bool) (W : World) : Prop where
  dv : Dv w d m s b N p S M W
  iu : IsU w.heap.size u vn vs vl Nw Sf Ls W

section
variable {w : World} {d m s b u N : Nat} {vn vs vl : Value} {p : Pw} {S : List (List UInt8)} {M : Int → Option (List UInt8)} {Nw Sf : List (List UInt8)} {Ls : List Bool} {W W' : World}

theorem Bth.rows_ne (h : Bth w d m s b u N vn vs vl p S M Nw Sf Ls W) : Not3 vn vs vl d ∧ Not3 vn vs vl m ∧ Not3 vn vs vl s ∧ Not3 vn vs vl b := by
  have hm : W.heap[m]? = _ := h.dv.isP.1
  have nb : ∀ v n T xs, W.ownsRow w.heap.size T 1 v n xs → v.ownBlock ≠ some b := by
    intro v n T xs hr e
    rcases hr.2 with ⟨rfl, _⟩ | ⟨g, cap, cur, rfl, hg, hb, _⟩
    · cases e
    · have e1 : g = b := by simpa [Value.ownBlock] using e
      exact h.dv.isD.map.ne hb e1
  exact ⟨⟨row_ne h.iu.rn h.dv.isD.hd (by decide), row_ne h.iu.rs h.dv.isD.hd (by decide), row_ne h.iu.rl h.dv.isD.hd (by decide)⟩,
    ⟨row_ne h.iu.rn hm (by decide), row_ne h.iu.rs hm (by decide), row_ne h.iu.rl hm (by decide)⟩,
    ⟨row_ne h.iu.rn h.dv.isD.hs (by decide), row_ne h.iu.rs h.dv.isD.hs (by decide), row_ne h.iu.rl h.dv.isD.hs (by decide)⟩,
    ⟨nb _ _ _ _ h.iu.rn, nb _ _ _ _ h.iu.rs, nb _ _ _ _ h.iu.rl⟩⟩

/-- What the document's device does plays no part for the device. -/
theorem Bth.dvOf (h : Bth w d m s b u N vn vs vl p S M Nw Sf Ls W) (hk : KeptIn (Not3 vn vs vl) W W') : Dv w d m s b N p S M W' := by
  obtain ⟨h1, h2, h3, h4⟩ := h.rows_ne
  refine ⟨h.dv.isD.kept hk h1 h3 h4, h.dv.isP.kept hk h2, h.dv.ld, h.dv.lm, h.dv.ls, h.dv.lb, h.dv.kept.trans (hk.mono fun k hk => ⟨fun e => ?_, fun e => ?_, fun e => ?_⟩)⟩
  · have := (h.iu.rn.lt k e).1; omega
  · have := (h.iu.rs.lt k e).1; omega
  · have := (h.iu.rl.lt k e).1; omega

/-- What the device does plays no part for the document's. -/
theorem Bth.iuOf (h : Bth w d m s b u N vn vs vl p S M Nw Sf Ls W) (hk : KeptIn (fun k => k < W.heap.size ∧ k ≠ m ∧ k ≠ s ∧ k ≠ b) W W') : IsU w.heap.size u vn vs vl Nw Sf Ls W' := by
  obtain ⟨h1, h2, h3, h4⟩ := h.rows_ne
  have hm : W.heap[m]? = _ := h.dv.isP.1
  have um : u ≠ m := fun e => by
    have := h.iu.hu; rw [e, hm] at this
    simp only [Option.some.injEq, Obj.cells.injEq] at this
    exact absurd this.2.1 (by decide)
  have us : u ≠ s := fun e => by
    have := h.iu.hu; rw [e, h.dv.isD.hs] at this
    simp only [Option.some.injEq, Obj.cells.injEq] at this
    exact absurd this.2.1 (by decide)
  have ub : u ≠ b := h.dv.isD.map.ne h.iu.hu
  refine ⟨(hk.block u ⟨h.iu.lt, um, us, ub⟩).trans h.iu.hu, h.iu.hB, row_block h.iu.rn fun g e => hk.block g ⟨(h.iu.rn.lt g e).2, ?_, ?_, ?_⟩, row_block h.iu.rs fun g e => hk.block g ⟨(h.iu.rs.lt g e).2, ?_, ?_, ?_⟩, row_block h.iu.rl fun g e => hk.block g ⟨(h.iu.rl.lt g e).2, ?_, ?_, ?_⟩, h.iu.ls, h.iu.ll, h.iu.ne⟩
  · rintro rfl; exact h2.1 e
  · rintro rfl; exact h3.1 e
  · rintro rfl; exact h4.1 e
  · rintro rfl; exact h2.2.1 e
  · rintro rfl; exact h3.2.1 e
  · rintro rfl; exact h4.2.1 e
  · rintro rfl; exact h2.2.2 e
  · rintro rfl; exact h3.2.2 e
  · rintro rfl; exact h4.2.2 e

theorem Bth.old (h : Bth w d m s b u N vn vs vl p S M Nw Sf Ls W) (hk : KeptIn (· < W.heap.size) W W') : Bth w d m s b u N vn vs vl p S M Nw Sf Ls W' :=
  ⟨h.dv.old hk, h.iuOf (hk.mono fun k hk => hk.1)⟩

theorem Bth.step {N' : Nat} {p' : Pw} {S' : List (List UInt8)} {M' : Int → Option (List UInt8)} (h : Bth w d m s b u N vn vs vl p S M Nw Sf Ls W) (hk : KeptIn (fun k => k < W.heap.size ∧ k ≠ m ∧ k ≠ s ∧ k ≠ b) W W')
    (hD : IsD d m s b N' S' M' W') (hP : IsP m p' W') : Bth w d m s b u N' vn vs vl p' S' M' Nw Sf Ls W' :=
  ⟨⟨hD, hP, h.dv.ld, h.dv.lm, h.dv.ls, h.dv.lb, h.dv.kept.trans (hk.mono fun k hk => by have := h.dv.lm; have := h.dv.ls; have := h.dv.lb; have := h.dv.kept.size; exact ⟨by omega, by omega, by omega, by omega⟩)⟩, h.iuOf hk⟩

/-- What was made since stands. -/
theorem Bth.fresh {W0 : World} {o : Obj} (h : Bth w d m s b u N vn vs vl p S M Nw Sf Ls W) (h0 : Bth w d m s b u N vn vs vl p S M Nw Sf Ls (W.alloc o)) (hk : KeptIn (fun k => k < (W.alloc o).heap.size ∧ k ≠ m ∧ k ≠ s ∧ k ≠ b) (W.alloc o) W0) : W0.heap[W.heap.size]? = some o := by
  refine (hk.block _ ⟨by simp, ?_, ?_, ?_⟩).trans (heap_alloc_new W o)
  · have := h.dv.isP.lt; omega
  · have := h.dv.isD.lts; omega
  · have := h.dv.isD.ltb; omega

/-! ### the device's methods -/
theorem bWrite (h : Bth w d m s b u N vn vs vl p S M Nw Sf Ls W) (x : Int) (l : List UInt8) (n : Nat) (hl : l.length ≤ maxLen) (hn : l.length = 16 * n) (hf : fits S.length x n = true) (hN : N + n < maxLen) :
    Calls Try.prog 19 #[.pointer (some ⟨d, 0, none⟩), .int .i64 x, .string ⟨l.toArray⟩] W fun e w' => e = .returned (.int .i64 (if (Pw.go n p).1 = n then 0 else 4)) ∧ Bth w d m s b u (N + n) vn vs vl (Pw.go n p).2 S (putN M x l (Pw.go n p).1) Nw Sf Ls w' ∧ KeptIn (fun k => k < W.heap.size ∧ k ≠ m ∧ k ≠ s ∧ k ≠ b) W w' := by
  refine (dWrite d m s b N p S M x l n W h.dv.isD h.dv.isP hl hn hf hN).mono ?_
  rintro e w' ⟨rfl, h1, h2, h3⟩
  have hk := h3.mono (Y := fun k => k < W.heap.size ∧ k ≠ m ∧ k ≠ s ∧ k ≠ b) fun k hk => ⟨hk.1, hk.2.1, hk.2.2.2⟩
  exact ⟨rfl, h.step hk h1 h2, hk⟩

theorem bFlushOn (h : Bth w d m s b u N vn vs vl p S M Nw Sf Ls W) (hc : p.can = true) :
    Calls Try.prog 20 #[.pointer (some ⟨d, 0, none⟩)] W fun e w' => e = .returned (.int .i64 0) ∧ Bth w d m s b u 0 vn vs vl p.use (flushed S M) (fun _ => none) Nw Sf Ls w' := by
  refine (dFlushOn d m s b N p S M W h.dv.isD h.dv.isP hc).mono ?_
  rintro e w' ⟨rfl, h1, h2, h3⟩
  exact ⟨rfl, h.step h3 h1 h2⟩

theorem bFlushOff (h : Bth w d m s b u N vn vs vl p S M Nw Sf Ls W) (hc : p.can = false) :
    Calls Try.prog 20 #[.pointer (some ⟨d, 0, none⟩)] W fun e w' => e = .returned (.int .i64 4) ∧ Bth w d m s b u N vn vs vl p.use S M Nw Sf Ls w' := by
  refine (dFlushOff d m s b N p S M W h.dv.isD h.dv.isP hc).mono ?_
  rintro e w' ⟨rfl, h1, h2⟩
  obtain ⟨n1, n2, n3⟩ := h.dv.isP.1.ne h.dv.isD
  exact ⟨rfl, h.step (h2.mono fun k hk => hk.2.1) (h.dv.isD.kept h2 n1.symm n2.symm n3.symm) h1⟩

theorem bSettle (h : Bth w d m s b u N vn vs vl p S M Nw Sf Ls W) (hoff : p.on = false) (l : List UInt8) (hl : l.length ≤ maxLen) :
    Calls Try.prog 21 #[.pointer (some ⟨d, 0, none⟩), .string ⟨l.toArray⟩] W fun e w' => e = .returned (.int .i64 0) ∧ Bth w d m s b u 0 vn vs vl p (settle l M (places S.length M) 0 S) (fun _ => none) Nw Sf Ls w' ∧ KeptIn (fun k => k < W.heap.size ∧ k ≠ m ∧ k ≠ s ∧ k ≠ b) W w' := by
  refine (dSettle d m s b N p S M l W h.dv.isD h.dv.isP hoff hl).mono ?_
  rintro e w' ⟨rfl, h1, h2⟩
  obtain ⟨n1, n2, n3⟩ := h.dv.isP.1.ne h.dv.isD
  have hk := h2.mono (Y := fun k => k < W.heap.size ∧ k ≠ m ∧ k ≠ s ∧ k ≠ b) fun k hk => ⟨hk.1, hk.2.2.1, hk.2.2.2⟩
  exact ⟨rfl, h.step hk h1 (h.dv.isP.kept h2 ⟨h.dv.isP.lt, n2, n3⟩), hk⟩

theorem bPower {f : FuncId} {args : Array Value} {v : Value} {p' : Pw} (h : Bth w d m s b u N vn vs vl p S M Nw Sf Ls W)
    (hc : Calls Try.prog f args W fun e w' => e = .returned v ∧ IsP m p' w' ∧ KeptIn (· ≠ m) W w') : Calls Try.prog f args W fun e w' => e = .returned v ∧ Bth w d m s b u N vn vs vl p' S M Nw Sf Ls w' := by
  refine hc.mono ?_
  rintro e w' ⟨rfl, h1, h2⟩
  obtain ⟨n1, n2, n3⟩ := h.dv.isP.1.ne h.dv.isD
  exact ⟨rfl, h.step (h2.mono fun k hk => hk.2.1) (h.dv.isD.kept h2 n1.symm n2.symm n3.symm) h1⟩

theorem bCut (h : Bth w d m s b u N vn vs vl p S M Nw Sf Ls W) :
    Calls Try.prog 23 #[.pointer (some ⟨m, 0, none⟩)] W fun e w' => e = .returned (.tuple #[]) ∧ Bth w d m s b u N vn vs vl p.cut S M Nw Sf Ls w' := by
  refine bPower h ((mCut m _ _ _ _ W h.dv.isP.1).mono ?_)
  rintro e w' ⟨rfl, h1, h2⟩
  exact ⟨rfl, ⟨h1, h.dv.isP.2⟩, h2⟩

theorem bFuse (h : Bth w d m s b u N vn vs vl p S M Nw Sf Ls W) (n : Int) (hn : n ≤ 9223372036854775807) :
    Calls Try.prog 31 #[.pointer (some ⟨m, 0, none⟩), .int .i64 n] W fun e w' => e = .returned (.tuple #[]) ∧ Bth w d m s b u N vn vs vl ⟨p.on, p.lives, p.uses, n⟩ S M Nw Sf Ls w' := by
  refine bPower h ((mFuse m _ _ _ _ n W h.dv.isP.1).mono ?_)
  rintro e w' ⟨rfl, h1, h2⟩
  exact ⟨rfl, ⟨h1, hn⟩, h2⟩

theorem bCome (h : Bth w d m s b u N vn vs vl p S M Nw Sf Ls W) :
    Calls Try.prog 24 #[.pointer (some ⟨m, 0, none⟩)] W fun e w' => e = .returned (.tuple #[]) ∧ Bth w d m s b u N vn vs vl p.come S M Nw Sf Ls w' := by
  cases hon : p.on with
  | true =>
    have hp := h.dv.isP.1
    rw [hon] at hp
    refine (mComeOn m _ _ _ W hp).mono ?_
    rintro e w' ⟨rfl, rfl⟩
    exact ⟨rfl, by simpa [Pw.come, hon] using h⟩
  | false =>
    have hp := h.dv.isP.1
    rw [hon] at hp
    refine bPower h ((mComeOff m _ _ _ W hp).mono ?_)
    rintro e w' ⟨rfl, h1, h2⟩
    exact ⟨rfl, by simp only [Pw.come, hon]; exact ⟨h1, by show (-1 : Int) ≤ 9223372036854775807; decide⟩, h2⟩

/-! ### the document's -/
theorem bR4Flush (h : Bth w d m s b u N vn vs vl p (flushed S M) (fun _ => none) (flushed S M) Sf Ls W) :
    Calls Try.prog 29 #[.pointer (some ⟨u, 0, none⟩)] W fun e w' => e = .returned (.tuple #[]) ∧ Bth w d m s b u N vn vs vl p (flushed S M) (fun _ => none) (flushed S M) (flushed S M) (List.replicate (flushed S M).length false) w' := by
  refine (r4Flush w.heap.size u vn vs vl _ _ _ W h.iu h.dv.isD.max).mono ?_
  rintro e w' ⟨rfl, h1, h2⟩
  exact ⟨rfl, h.dvOf h2, h1⟩

theorem bR4Settle {F : List (List UInt8)} (h : Bth w d m s b u N vn vs vl p F (fun _ => none) (flushed S M) S (looseL S M) W) (l : List UInt8) (hl : l.length ≤ maxLen) (hF : F = settle l M (places S.length M) 0 S) :
    Calls Try.prog 30 #[.pointer (some ⟨u, 0, none⟩), .string ⟨l.toArray⟩] W fun e w' => e = .returned (.tuple #[]) ∧ Bth w d m s b u N vn vs vl p F (fun _ => none) F F (List.replicate F.length false) w' := by
  have hFl : F.length = S.length := by rw [hF, settle_length]
  have hm := h.dv.isD.max
  rw [hFl] at hm
  refine (r4Settle w.heap.size u vn vs vl (flushed S M) S F (looseL S M) l W h.iu (by rw [flushed_length]; exact hm) (by rw [hFl, flushed_length]) hl (fun i hi => ?_) (fun i hi => ?_)).mono ?_
  · rw [flushed_length] at hi
    rw [hF]
    exact settle_fin l i hi
  · rw [flushed_length] at hi
    exact settle_same i hi
  · rintro e w' ⟨rfl, h1, h2⟩
    rw [flushed_length, ← hFl] at h1
    exact ⟨rfl, h.dvOf h2, h1⟩

end

end Go.Proofs.Ytbgkfeikfkbfmaa
