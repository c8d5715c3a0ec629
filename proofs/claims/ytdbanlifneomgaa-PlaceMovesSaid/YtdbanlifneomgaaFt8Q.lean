import Derived.Test.YtdbanlifneomgaaLd8Q
/- Package tree's leads: fits, where a node keeps to what it must. -/
set_option linter.unusedVariables false
namespace Go.Proofs.Ytdbanlifneomgaa
open Go.RowKit

/-- What a root keeps to. -/
def RootFit (nlv : Nat) (ps : Pairs) : Prop := goodN (nlv : Int) ps = true ∧ 0 < ps.length ∧ (nlv = 0 ∨ 1 < ps.length)
/-- What any other node keeps to. -/
def KidFit (lv : Int) (low high : Nat) (nlv : Nat) (ps : Pairs) : Prop := goodN (nlv : Int) ps = true ∧ 0 < ps.length ∧ (nlv : Int) = lv ∧ keyAt ps 0 = low ∧ keyAt ps (ps.length - 1) ≤ high
/-- What a lead asks of its node. -/
def FitOk (root : Bool) (lv : Int) (low high : Nat) (nlv : Nat) (ps : Pairs) : Prop := if root then RootFit nlv ps else KidFit lv low high nlv ps


theorem ft_len (n : Nat) (h0 : 0 < n) : ¬ ((n : Int) = 0) ∧ ((n : Int) == 0) = false ∧ ¬ (n = 0) := by
  refine ⟨by omega, ?_, by omega⟩
  rw [beq_eq_false_iff_ne]; omega

set_option maxRecDepth 100000 in
theorem trFitsRoot (page : Nat) (lv : Int) (low high nlv : Nat) (a : Option Addr) (cap : Nat) (ps : Pairs) (w : World) (h : IsPs w a ps) (hf : RootFit nlv ps) :
    Calls Try.prog 65 #[leadV page true lv low high, leafV (nlv : Int) a ps.length cap] w fun e w' => e = .returned (.bool true) ∧ KeptIn (· < w.heap.size) w w' := by
  obtain ⟨h1, h2, h3⟩ := hf
  have HG := Lib.hid fun V (hk : KeptIn (· < w.heap.size) w V) => lfGood (nlv : Int) a cap ps V (h.old hk)
  simp only [h1] at HG
  have hm : (ps.length : Int) ≤ 9223372036854775807 := by have := h.len; unfold maxLen at this; omega
  obtain ⟨n, hn⟩ : ∃ n, ps.length = n := ⟨_, rfl⟩
  unfold leafV leadV at *
  rw [hn] at h2 h3 hm HG ⊢
  obtain ⟨z1, z2, z3⟩ := ft_len n h2
  obtain ⟨L, hL⟩ : ∃ L : Int, (nlv : Int) = L := ⟨_, rfl⟩
  have h3' : (L == 0) = true ∨ (L == 0) = false ∧ (1 : Int) < (n : Int) := by
    rcases h3 with h3 | h3
    · exact .inl (by rw [← hL, h3]; rfl)
    · cases hb : (L == 0)
      · exact .inr ⟨rfl, by omega⟩
      · exact .inl rfl
  rw [hL] at HG ⊢
  clear h h1 hn h3 hL
  obtain ⟨W, hW⟩ : ∃ W, (w.alloc (.cells #[.int .i64 (page : Int), .bool true, .int .i64 lv, .int .u64 (low : Int), .int .u64 (high : Int)] 118)).alloc (.cells #[.int .i64 L, .slice a n cap] 27) = W := ⟨_, rfl⟩
  have hkW : KeptIn (· < w.heap.size) w W := by rw [← hW]; exact ((KeptIn.refl _ w).alloc (fun _ h => h) _).alloc (fun _ h => h) _
  obtain ⟨x, hx⟩ : ∃ x, w.heap.size = x := ⟨_, rfl⟩
  have hbd : BoxD x page true lv low high W := by
    rw [← hW, ← hx]
    exact (BoxD.new w page true lv low high).kept ((KeptIn.refl _ _).alloc (fun _ h => h) _) (by simp)
  have hbl : BoxL (x + 1) L a n cap W := by
    rw [← hW, ← hx, show w.heap.size + 1 = (w.alloc (.cells #[.int .i64 (page : Int), .bool true, .int .i64 lv, .int .u64 (low : Int), .int .u64 (high : Int)] 118)).heap.size by simp]
    exact heap_alloc_new _ _
  have CG := Lib.hid (HG.out W hkW)
  have c0 := hbl.c0
  have c1 := hbl.c1
  have HWB := Lib.hid (And.intro hkW (And.intro hbd hbl))
  clear hkW hbd hbl HG
  rcases h3' with h3 | ⟨h3, h4⟩
  · go_enter Try.func65, Try.ntmps65
    go_wp2_with (go_at_call 87; refine CG.out.mono ?_)
    rintro e V ⟨rfl, hk⟩
    have hbl := HWB.out.2.2.kept hk HWB.out.2.2.lt
    have hbd := HWB.out.2.1.kept hk HWB.out.2.1.lt
    have q0 := hbl.c0
    have q1 := hbl.c1
    have p1 := hbd.c1
    have HK := Lib.hid (HWB.out.1.go hk)
    clear hbl hbd hk CG HWB c0 c1
    go_wp2_with fail
    go_ret
    exact ⟨rfl, HK.out⟩
  · go_enter Try.func65, Try.ntmps65
    go_wp2_with (go_at_call 87; refine CG.out.mono ?_)
    rintro e V ⟨rfl, hk⟩
    have hbl := HWB.out.2.2.kept hk HWB.out.2.2.lt
    have hbd := HWB.out.2.1.kept hk HWB.out.2.1.lt
    have q0 := hbl.c0
    have q1 := hbl.c1
    have p1 := hbd.c1
    have HK := Lib.hid (HWB.out.1.go hk)
    clear hbl hbd hk CG HWB c0 c1
    go_wp2_with fail
    go_ret
    exact ⟨rfl, HK.out⟩

theorem ft_last (n j : Nat) (h0 : 0 < n) (hn : n ≤ 1000) (hj : n - 1 = j) : wrap64 ((n : Int) - 1) = (j : Int) ∧ IntKind.i64.wrap ((n : Int) - 1) = (j : Int) ∧ (0 : Int) ≤ (j : Int) ∧ (j : Int) < (n : Int) ∧ (0 : Int) < (n : Int) := by
  refine ⟨by unfold wrap64; omega, by rw [IntKind.wrap_i64]; omega, by omega, by omega, by omega⟩

set_option maxRecDepth 100000 in
theorem trFitsKid (page : Nat) (lv : Int) (low high nlv : Nat) (a : Option Addr) (cap : Nat) (ps : Pairs) (w : World) (h : IsPs w a ps) (hf : KidFit lv low high nlv ps) :
    Calls Try.prog 65 #[leadV page false lv low high, leafV (nlv : Int) a ps.length cap] w fun e w' => e = .returned (.bool true) ∧ KeptIn (· < w.heap.size) w w' := by
  obtain ⟨h1, h2, h3, h4, h5⟩ := hf
  have hl15 := (good_parts h1).2.2
  have HG := Lib.hid fun V (hk : KeptIn (· < w.heap.size) w V) => lfGood (nlv : Int) a cap ps V (h.old hk)
  simp only [h1] at HG
  obtain ⟨b, off, rfl, hb, hc⟩ := h.cells h2
  obtain ⟨n, hn⟩ : ∃ n, ps.length = n := ⟨_, rfl⟩
  obtain ⟨j, hj⟩ : ∃ j, n - 1 = j := ⟨_, rfl⟩
  obtain ⟨s1, s2, s3, s4, s5⟩ := ft_last n j (by rw [← hn]; exact h2) (by rw [← hn]; exact Nat.le_trans hl15 (by decide)) hj
  obtain ⟨e0, _⟩ := hc 0 h2
  obtain ⟨e1, _⟩ := hc j (by rw [hn]; rw [hn] at h2; exact hj ▸ Nat.sub_lt h2 Nat.one_pos)
  rw [hn, hj] at h5
  obtain ⟨k, hk⟩ : ∃ k, keyAt ps j = k := ⟨_, rfl⟩
  rw [hk] at h5 e1
  rw [h4] at e0
  have t1 : (k : Int) ≤ (high : Int) := Int.ofNat_le.2 h5
  have hm : (ps.length : Int) ≤ 9223372036854775807 := by have := h.len; unfold maxLen at this; omega
  unfold leafV leadV at *
  rw [h3] at HG ⊢
  rw [hn] at h2 hm HG ⊢
  obtain ⟨z1, z2, z3⟩ := ft_len n h2
  have HE := Lib.hid (And.intro e0 (And.intro e1 hb))
  clear h h1 hn h3 h4 h5 hc hk hl15 hj e0 e1 hb h2
  obtain ⟨W, hW⟩ : ∃ W, (w.alloc (.cells #[.int .i64 (page : Int), .bool false, .int .i64 lv, .int .u64 (low : Int), .int .u64 (high : Int)] 118)).alloc (.cells #[.int .i64 lv, .slice (some ⟨b, off, none⟩) n cap] 27) = W := ⟨_, rfl⟩
  have hkW : KeptIn (· < w.heap.size) w W := by rw [← hW]; exact ((KeptIn.refl _ w).alloc (fun _ h => h) _).alloc (fun _ h => h) _
  obtain ⟨x, hx⟩ : ∃ x, w.heap.size = x := ⟨_, rfl⟩
  have hbd : BoxD x page false lv low high W := by
    rw [← hW, ← hx]
    exact (BoxD.new w page false lv low high).kept ((KeptIn.refl _ _).alloc (fun _ h => h) _) (by simp)
  have hbl : BoxL (x + 1) lv (some ⟨b, off, none⟩) n cap W := by
    rw [← hW, ← hx, show w.heap.size + 1 = (w.alloc (.cells #[.int .i64 (page : Int), .bool false, .int .i64 lv, .int .u64 (low : Int), .int .u64 (high : Int)] 118)).heap.size by simp]
    exact heap_alloc_new _ _
  have CG := Lib.hid (HG.out W hkW)
  have c0 := hbl.c0
  have c1 := hbl.c1
  have HWB := Lib.hid (And.intro hkW (And.intro hbd hbl))
  clear hkW hbd hbl HG
  go_enter Try.func65, Try.ntmps65
  go_wp2_with (go_at_call 87; refine CG.out.mono ?_)
  rintro e V ⟨rfl, hk⟩
  have hbl := HWB.out.2.2.kept hk HWB.out.2.2.lt
  have hbd := HWB.out.2.1.kept hk HWB.out.2.1.lt
  have hkw := HWB.out.1.go hk
  have hbV := hkw.block b HE.out.2.2
  have q0 := hbl.c0
  have q1 := hbl.c1
  have p1 := hbd.c1
  have p2 := hbd.c2
  have p3 := hbd.c3
  have p4 := hbd.c4
  have e0 := (World.cell?_of_block (a := ⟨b, off + 0 * 2, none⟩) hbV).trans HE.out.1
  rw [Nat.zero_mul, Nat.add_zero] at e0
  have e1 := (World.cell?_of_block (a := ⟨b, off + j * 2, none⟩) hbV).trans HE.out.2.1
  have HK := Lib.hid hkw
  clear hbl hbd hk CG HWB c0 c1 hkw hbV
  go_wp2_with fail
  go_quiet (fail)
  go_wp2_with fail
  go_ret
  exact ⟨rfl, HK.out.drewN _⟩

end Go.Proofs.Ytdbanlifneomgaa
