import Derived.Test.YtdbohcdjamhdjaaV5
import Derived.Test.YtdbohcdjamhdjaaV6
import Derived.Test.YtdbohcdjamhdjaaV8
import Derived.Deep.Cut
import Derived.Deep.RegionHeld3
/- Package tree's leads: fits, where a node doesn't keep to what it must. -/
set_option linter.unusedVariables false
namespace Go.Proofs.Ytdbohcdjamhdjaa
open Go.RowKit

/-- What a lead asks of its node, whatever the node's level. -/
def FitA (root : Bool) (lv : Int) (low high : Nat) (nd : NdA) : Prop := ∃ l : Nat, nd.1 = (l : Int) ∧ FitOk root lv low high l nd.2
theorem FitA.good {root : Bool} {lv : Int} {low high : Nat} {nd : NdA} (h : FitA root lv low high nd) : gdA nd := by
  obtain ⟨l, e, h⟩ := h
  obtain ⟨h1, h2⟩ := fit_good' h
  exact ⟨by rw [e]; exact h1, h2⟩

/-- A lead as a value, whatever the page. -/
def leadI (p : Int) (root : Bool) (lv : Int) (low high : Nat) : Value := .agg #[.int .i64 p, .bool root, .int .i64 lv, .int .u64 (low : Int), .int .u64 (high : Int)]
def BoxI (x : Nat) (p : Int) (root : Bool) (lv : Int) (low high : Nat) (W : World) : Prop := W.heap[x]? = some (.cells #[.int .i64 p, .bool root, .int .i64 lv, .int .u64 (low : Int), .int .u64 (high : Int)] 111 (0, 0))
section
variable {x : Nat} {p lv : Int} {root : Bool} {low high : Nat} {W W' : World}
theorem BoxI.c0 (h : BoxI x p root lv low high W) : W.cell? ⟨x, 0, none⟩ = some (.int .i64 p) := by simp [World.cell?, show W.heap[x]? = _ from h]
theorem BoxI.c1 (h : BoxI x p root lv low high W) : W.cell? ⟨x, 1, none⟩ = some (.bool root) := by simp [World.cell?, show W.heap[x]? = _ from h]
theorem BoxI.c2 (h : BoxI x p root lv low high W) : W.cell? ⟨x, 2, none⟩ = some (.int .i64 lv) := by simp [World.cell?, show W.heap[x]? = _ from h]
theorem BoxI.c3 (h : BoxI x p root lv low high W) : W.cell? ⟨x, 3, none⟩ = some (.int .u64 (low : Int)) := by simp [World.cell?, show W.heap[x]? = _ from h]
theorem BoxI.c4 (h : BoxI x p root lv low high W) : W.cell? ⟨x, 4, none⟩ = some (.int .u64 (high : Int)) := by simp [World.cell?, show W.heap[x]? = _ from h]
theorem BoxI.lt (h : BoxI x p root lv low high W) : x < W.heap.size := (Array.getElem?_eq_some_iff.1 h).1
theorem BoxI.kept {X : Nat → Prop} (h : BoxI x p root lv low high W) (hk : KeptIn X W W') (hX : X x) : BoxI x p root lv low high W' := (hk.block x hX).trans h
theorem BoxI.new (w : World) (p : Int) (root : Bool) (lv : Int) (low high : Nat) : BoxI w.heap.size p root lv low high (w.alloc (.cells #[.int .i64 p, .bool root, .int .i64 lv, .int .u64 (low : Int), .int .u64 (high : Int)] 111)) := heap_alloc_new w _
end


def NoS (w : World) (e : Ending) (w' : World) : Prop := e = .returned (.bool false) ∧ KeptIn (· < w.heap.size) w w'

set_option maxRecDepth 100000 in
theorem trFitsNo (page : Int) (root : Bool) (lv : Int) (low high : Nat) (L : Int) (a : Option Addr) (cap : Nat) (ps : Pairs) (w : World) (h : IsPs w a ps) (hf : ¬ FitA root lv low high (L, ps)) :
    Calls Try.prog 70 #[leadI page root lv low high, leafV L a ps.length cap] w fun e w' => e = .returned (.bool false) ∧ KeptIn (· < w.heap.size) w w' := by
  have HG := Lib.hid fun V (hk : KeptIn (· < w.heap.size) w V) => lfGood L a cap ps V (h.old hk)
  have hm : (ps.length : Int) ≤ 9223372036854775807 := by have := h.len; unfold maxLen at this; omega
  by_cases hg : goodN L ps = true
  · simp only [hg] at HG
    obtain ⟨g1, g2, g3⟩ := good_parts hg
    obtain ⟨l, rfl⟩ := Int.eq_ofNat_of_zero_le g1
    by_cases h0 : ps.length = 0
    · unfold leafV leadI at *
      rw [h0] at HG ⊢
      clear h hf hg g1 g2 g3 hm
      obtain ⟨L, hL⟩ : ∃ L : Int, (l : Int) = L := ⟨_, rfl⟩
      rw [hL] at HG ⊢
      clear hL
      obtain ⟨W, hW⟩ : ∃ W, (w.alloc (.cells #[.int .i64 page, .bool root, .int .i64 lv, .int .u64 (low : Int), .int .u64 (high : Int)] 111)).alloc (.cells #[.int .i64 L, .slice a 0 cap] 27) = W := ⟨_, rfl⟩
      have hkW : KeptIn (· < w.heap.size) w W := by rw [← hW]; exact ((KeptIn.refl _ w).alloc (fun _ h => h) _).alloc (fun _ h => h) _
      obtain ⟨x, hx⟩ : ∃ x, w.heap.size = x := ⟨_, rfl⟩
      have hbd : BoxI x page root lv low high W := by
        rw [← hW, ← hx]
        exact (BoxI.new w page root lv low high).kept ((KeptIn.refl _ _).alloc (fun _ h => h) _) (by simp)
      have hbl : BoxL (x + 1) L a 0 cap W := by
        rw [← hW, ← hx, show w.heap.size + 1 = (w.alloc (.cells #[.int .i64 page, .bool root, .int .i64 lv, .int .u64 (low : Int), .int .u64 (high : Int)] 111)).heap.size by simp]
        exact heap_alloc_new _ _
      have CG := Lib.hid (HG.out W hkW)
      have c0 := hbl.c0
      have c1 := hbl.c1
      have HWB := Lib.hid (And.intro hkW (And.intro hbd hbl))
      clear hkW hbd hbl HG
      go_enter Try.func70, Try.ntmps70
      go_wp2_with (go_at_call 88; refine CG.out.mono ?_; rintro e V ⟨rfl, hk⟩; have hbl := HWB.out.2.2.kept hk HWB.out.2.2.lt; have hbd := HWB.out.2.1.kept hk HWB.out.2.1.lt; have q0 := hbl.c0; have q1 := hbl.c1; have p1 := hbd.c1; have HK := Lib.hid (HWB.out.1.go hk); clear hbl hbd hk CG HWB c0 c1)
      go_ret
      exact ⟨rfl, HK.out⟩
    · cases root with
      | true =>
        have h3 : l ≠ 0 ∧ ¬ 1 < ps.length := by
          refine ⟨fun e => hf ⟨l, rfl, hg, Nat.pos_of_ne_zero h0, .inl e⟩, fun e => hf ⟨l, rfl, hg, Nat.pos_of_ne_zero h0, .inr e⟩⟩
        obtain ⟨n, hn⟩ : ∃ n, ps.length = n := ⟨_, rfl⟩
        unfold leafV leadI at *
        rw [hn] at h0 h3 hm HG ⊢
        obtain ⟨z1, z2, z3⟩ := ft_len n (by omega)
        obtain ⟨L, hL⟩ : ∃ L : Int, (l : Int) = L := ⟨_, rfl⟩
        have h4 : (L == 0) = false := by rw [beq_eq_false_iff_ne]; omega
        have h5 : ¬ (1 : Int) < (n : Int) := by omega
        have h6 : decide ((1 : Int) < (n : Int)) = false := decide_eq_false h5
        have h7 : ¬ L = 0 := by omega
        rw [hL] at HG ⊢
        clear h hg hn h3 hL hf g1 g2 g3 h0
        obtain ⟨W, hW⟩ : ∃ W, (w.alloc (.cells #[.int .i64 page, .bool true, .int .i64 lv, .int .u64 (low : Int), .int .u64 (high : Int)] 111)).alloc (.cells #[.int .i64 L, .slice a n cap] 27) = W := ⟨_, rfl⟩
        have hkW : KeptIn (· < w.heap.size) w W := by rw [← hW]; exact ((KeptIn.refl _ w).alloc (fun _ h => h) _).alloc (fun _ h => h) _
        obtain ⟨x, hx⟩ : ∃ x, w.heap.size = x := ⟨_, rfl⟩
        have hbd : BoxI x page true lv low high W := by
          rw [← hW, ← hx]
          exact (BoxI.new w page true lv low high).kept ((KeptIn.refl _ _).alloc (fun _ h => h) _) (by simp)
        have hbl : BoxL (x + 1) L a n cap W := by
          rw [← hW, ← hx, show w.heap.size + 1 = (w.alloc (.cells #[.int .i64 page, .bool true, .int .i64 lv, .int .u64 (low : Int), .int .u64 (high : Int)] 111)).heap.size by simp]
          exact heap_alloc_new _ _
        have CG := Lib.hid (HG.out W hkW)
        have c0 := hbl.c0
        have c1 := hbl.c1
        have HWB := Lib.hid (And.intro hkW (And.intro hbd hbl))
        clear hkW hbd hbl HG
        go_enter Try.func70, Try.ntmps70
        go_wp2_with (go_at_call 88; refine CG.out.mono ?_; rintro e V ⟨rfl, hk⟩; have hbl := HWB.out.2.2.kept hk HWB.out.2.2.lt; have hbd := HWB.out.2.1.kept hk HWB.out.2.1.lt; have q0 := hbl.c0; have q1 := hbl.c1; have p1 := hbd.c1; have HK := Lib.hid (HWB.out.1.go hk); clear hbl hbd hk CG HWB c0 c1)
        go_ret
        exact ⟨rfl, HK.out⟩
      | false =>
        obtain ⟨b, off, rfl, hb, hc⟩ := h.cells (by omega)
        obtain ⟨n, hn⟩ : ∃ n, ps.length = n := ⟨_, rfl⟩
        obtain ⟨j, hj⟩ : ∃ j, n - 1 = j := ⟨_, rfl⟩
        obtain ⟨s1, s2, s3, s4, s5⟩ := ft_last n j (by omega) (by omega) hj
        obtain ⟨e0, _⟩ := hc 0 (by omega)
        obtain ⟨e1, _⟩ := hc j (by omega)
        obtain ⟨k0, hk0⟩ : ∃ k, keyAt ps 0 = k := ⟨_, rfl⟩
        obtain ⟨k1, hk1⟩ : ∃ k, keyAt ps j = k := ⟨_, rfl⟩
        have hno : ¬ ((l : Int) = lv ∧ k0 = low ∧ k1 ≤ high) := fun ⟨q1, q2, q3⟩ => hf ⟨l, rfl, hg, Nat.pos_of_ne_zero h0, q1, by rw [hk0]; exact q2, by rw [hn, hj, hk1]; exact q3⟩
        rw [hk0] at e0
        rw [hk1] at e1
        unfold leafV leadI at *
        rw [hn] at h0 hm HG ⊢
        obtain ⟨z1, z2, z3⟩ := ft_len n (by omega)
        obtain ⟨L, hL⟩ : ∃ L : Int, (l : Int) = L := ⟨_, rfl⟩
        rw [hL] at HG hno ⊢
        have HE := Lib.hid (And.intro e0 (And.intro e1 hb))
        clear h hg hn hc hk0 hk1 g1 g2 g3 hj e0 e1 hb hf hL h0
        obtain ⟨W, hW⟩ : ∃ W, (w.alloc (.cells #[.int .i64 page, .bool false, .int .i64 lv, .int .u64 (low : Int), .int .u64 (high : Int)] 111)).alloc (.cells #[.int .i64 L, .slice (some ⟨b, off, none⟩) n cap] 27) = W := ⟨_, rfl⟩
        have hkW : KeptIn (· < w.heap.size) w W := by rw [← hW]; exact ((KeptIn.refl _ w).alloc (fun _ h => h) _).alloc (fun _ h => h) _
        obtain ⟨x, hx⟩ : ∃ x, w.heap.size = x := ⟨_, rfl⟩
        have hbd : BoxI x page false lv low high W := by
          rw [← hW, ← hx]
          exact (BoxI.new w page false lv low high).kept ((KeptIn.refl _ _).alloc (fun _ h => h) _) (by simp)
        have hbl : BoxL (x + 1) L (some ⟨b, off, none⟩) n cap W := by
          rw [← hW, ← hx, show w.heap.size + 1 = (w.alloc (.cells #[.int .i64 page, .bool false, .int .i64 lv, .int .u64 (low : Int), .int .u64 (high : Int)] 111)).heap.size by simp]
          exact heap_alloc_new _ _
        have CG := Lib.hid (HG.out W hkW)
        have c0 := hbl.c0
        have c1 := hbl.c1
        have HWB := Lib.hid (And.intro hkW (And.intro hbd hbl))
        clear hkW hbd hbl HG
        go_enter Try.func70, Try.ntmps70
        go_wp2_with (go_at_call 88; refine CG.out.mono ?_)
        rintro e V ⟨rfl, hk⟩
        have hbl := HWB.out.2.2.kept hk HWB.out.2.2.lt
        have hbd := HWB.out.2.1.kept hk HWB.out.2.1.lt
        have hkw := HWB.out.1.go hk
        have hbV := hkw.block b HE.out.2.2
        have q0 := hbl.c0
        have q1 := hbl.c1
        have p1 := hbd.c1
        have p2 := hbd.c2
        have p3 := hbd.c3
        have p4 := hbd.c4
        have e0 := (World.cell?_of_block (a := ⟨b, off + 0 * 2, none⟩) hbV).trans HE.out.1
        rw [Nat.zero_mul, Nat.add_zero] at e0
        have e1 := (World.cell?_of_block (a := ⟨b, off + j * 2, none⟩) hbV).trans HE.out.2.1
        have HK := Lib.hid hkw
        clear hbl hbd hk CG HWB c0 c1 hkw hbV
        by_cases t1 : L = lv
        · subst t1
          by_cases t2 : k0 = low
          · subst t2
            have t3 : ¬ (k1 : Int) ≤ (high : Int) := fun e => hno ⟨rfl, rfl, by omega⟩
            have t4 : decide ((k1 : Int) ≤ (high : Int)) = false := decide_eq_false t3
            have t5 : decide (k1 ≤ high) = false := decide_eq_false (by omega)
            clear hno
            go_wp2_with fail
            go_quiet (fail)
            clear e0 e1
            go_wp2_with fail
            go_ret
            exact ⟨rfl, HK.out.drewN _⟩
          · have t3 : ((k0 : Int) == (low : Int)) = false := by rw [beq_eq_false_iff_ne]; omega
            have t4 : (k0 == low) = false := by rw [beq_eq_false_iff_ne]; exact t2
            clear hno
            go_wp2_with fail
            go_quiet (fail)
            clear e0 e1
            go_wp2_with fail
            go_ret
            exact ⟨rfl, HK.out.drewN _⟩
        · have t3 : (L == lv) = false := by rw [beq_eq_false_iff_ne]; exact t1
          clear hno
          go_wp2_with fail
          go_quiet (fail)
          clear e0 e1
          go_wp2_with fail
          go_ret
          exact ⟨rfl, HK.out.drewN _⟩
  · have hg2 : goodN L ps = false := by simpa using hg
    simp only [hg2] at HG
    obtain ⟨n, hn⟩ : ∃ n, ps.length = n := ⟨_, rfl⟩
    unfold leafV leadI at *
    rw [hn] at hm HG ⊢
    clear h hf hg hg2 hn
    obtain ⟨W, hW⟩ : ∃ W, (w.alloc (.cells #[.int .i64 page, .bool root, .int .i64 lv, .int .u64 (low : Int), .int .u64 (high : Int)] 111)).alloc (.cells #[.int .i64 L, .slice a n cap] 27) = W := ⟨_, rfl⟩
    have hkW : KeptIn (· < w.heap.size) w W := by rw [← hW]; exact ((KeptIn.refl _ w).alloc (fun _ h => h) _).alloc (fun _ h => h) _
    obtain ⟨x, hx⟩ : ∃ x, w.heap.size = x := ⟨_, rfl⟩
    have hbd : BoxI x page root lv low high W := by
      rw [← hW, ← hx]
      exact (BoxI.new w page root lv low high).kept ((KeptIn.refl _ _).alloc (fun _ h => h) _) (by simp)
    have hbl : BoxL (x + 1) L a n cap W := by
      rw [← hW, ← hx, show w.heap.size + 1 = (w.alloc (.cells #[.int .i64 page, .bool root, .int .i64 lv, .int .u64 (low : Int), .int .u64 (high : Int)] 111)).heap.size by simp]
      exact heap_alloc_new _ _
    have CG := Lib.hid (HG.out W hkW)
    have c0 := hbl.c0
    have c1 := hbl.c1
    have HWB := Lib.hid (And.intro hkW (And.intro hbd hbl))
    clear hkW hbd hbl HG
    go_enter Try.func70, Try.ntmps70
    go_wp2_with (go_at_call 88; refine CG.out.mono ?_; rintro e V ⟨rfl, hk⟩; have hbl := HWB.out.2.2.kept hk HWB.out.2.2.lt; have hbd := HWB.out.2.1.kept hk HWB.out.2.1.lt; have q0 := hbl.c0; have q1 := hbl.c1; have p1 := hbd.c1; have HK := Lib.hid (HWB.out.1.go hk); clear hbl hbd hk CG HWB c0 c1)
    go_ret
    exact ⟨rfl, HK.out⟩

end Go.Proofs.Ytdbohcdjamhdjaa
/- Package tree's lead.read of a memo of a Shelf with whatever nodes. -/
set_option linter.unusedVariables false
namespace Go.Proofs.Ytdbohcdjamhdjaa
open Go.RowKit

set_option maxHeartbeats 2000000 in
set_option maxRecDepth 100000 in
theorem trLeadG {w : World} {s H c k : Nat} {NA : List NdA} {N : List Nd} (hNA : N9 NA = N) {M : Int → Option (Option Lf9)} (h : IsMm w k c N M) (hS : IsShA w s H NA) (hc : c < 100000) (i : Nat) (hi : i < N.length) (hgd : GdAt NA i) (hfi : Fits N[i].2) (root : Bool) (lv : Int) (low high : Nat) (hf : FitOk root lv low high N[i].1 N[i].2) :
    Calls Try.prog 47 #[leadV (i + 1) root lv low high, mmI s k] w (MmR w k c N M ((i + 1 : Nat) : Int) (N[i].1 : Int) N[i].2) := by
  obtain ⟨p, hp⟩ : ∃ p, i + 1 = p := ⟨_, rfl⟩
  obtain ⟨W, hW⟩ : ∃ W, (w.alloc (.cells #[.int .i64 (p : Int), .bool root, .int .i64 lv, .int .u64 (low : Int), .int .u64 (high : Int)] 111)).alloc (.cells #[.int .i64 0, .slice none 0 0] 27) = W := ⟨_, rfl⟩
  have hkW : KeptIn (· < w.heap.size) w W := by rw [← hW]; exact ((KeptIn.refl _ w).alloc (fun _ h => h) _).alloc (fun _ h => h) _
  have C := trReadG hNA (h.old hkW) (hS.old hkW) hc i hi hgd hfi
  obtain ⟨nlv, hlv⟩ : ∃ nlv, N[i].1 = nlv := ⟨_, rfl⟩
  obtain ⟨ps, hpe⟩ : ∃ ps, N[i].2 = ps := ⟨_, rfl⟩
  have HE := Lib.hid hpe
  have HP9 := Lib.hid hp
  rw [hlv, hpe] at hf
  rw [hp, hlv, hpe] at C
  rw [hp, hlv, hpe]
  obtain ⟨x, hx⟩ : ∃ x, w.heap.size = x := ⟨_, rfl⟩
  have hbd : BoxD x p root lv low high W := by
    rw [← hW, ← hx]
    exact (BoxD.new w p root lv low high).kept ((KeptIn.refl _ _).alloc (fun _ h => h) _) (by simp)
  have hbl : BoxL (x + 1) 0 none 0 0 W := by
    rw [← hW, ← hx, show w.heap.size + 1 = (w.alloc (.cells #[.int .i64 (p : Int), .bool root, .int .i64 lv, .int .u64 (low : Int), .int .u64 (high : Int)] 111)).heap.size by simp]
    exact heap_alloc_new _ _
  have p0 := hbd.c0
  have HKL := Lib.hid (And.intro h.lt hx)
  have HC := Lib.hid C
  have HFIT := Lib.hid hf
  have HWB := Lib.hid (And.intro hkW (And.intro hbd hbl))
  obtain ⟨m, hm⟩ : ∃ m, ps.length = m := ⟨_, rfl⟩
  have HM := Lib.hid hm
  unfold leadV mmI mmV pgV at *
  clear C hf hkW hbd hbl h hlv hpe hp hfi hm hS hgd hNA
  go_enter Try.func47, Try.ntmps47
  go_wp2_with (go_at_call 69; refine HC.out.mono ?_)
  rintro e V hR
  unfold MmR at hR
  obtain ⟨g, cg, c', M', rfl, hmm, hMp, hq, hcc, kV⟩ := hR
  have hxk : x ≠ k := fun e => by have := HKL.out.1; have := HKL.out.2; omega
  have hxk1 : x + 1 ≠ k := fun e => by have := HKL.out.1; have := HKL.out.2; omega
  rw [HM.out]
  unfold leafV
  have hps : IsPs V (some ⟨g, 0, none⟩) ps := by
    obtain ⟨i9, hi9, g9, cap9, q1, q2, q3, q4⟩ := hmm.node _ _ hMp
    simp only [Option.some.injEq, Prod.mk.injEq] at q2
    obtain ⟨_, rfl, q5, _⟩ := q2
    have hi0 : i9 = i := by have := HP9.out; omega
    subst hi0
    rw [← HE.out]
    exact q3
  obtain ⟨U, hU⟩ : ∃ U, V.alloc (.cells #[.int .i64 (nlv : Int), .slice (some ⟨g, 0, none⟩) m cg] 27) = U := ⟨_, rfl⟩
  obtain ⟨y, hy⟩ : ∃ y, V.heap.size = y := ⟨_, rfl⟩
  have hkU : KeptIn (· < V.heap.size) V U := by rw [← hU]; exact (KeptIn.refl _ V).alloc (fun _ h => h) _
  have hby : BoxL y (nlv : Int) (some ⟨g, 0, none⟩) m cg U := by rw [← hU, ← hy]; exact BoxL.new V _ _ _ _
  have hbdU := (HWB.out.2.1.kept kV ⟨HWB.out.2.1.lt, hxk⟩).kept hkU (HWB.out.2.1.kept kV ⟨HWB.out.2.1.lt, hxk⟩).lt
  have hblU := (HWB.out.2.2.kept kV ⟨HWB.out.2.2.lt, hxk1⟩).kept hkU (HWB.out.2.2.kept kV ⟨HWB.out.2.2.lt, hxk1⟩).lt
  have hpsU := hps.old hkU
  have hmU := hmm.old hkU
  have hkw : KeptIn (fun j => j < w.heap.size ∧ j ≠ k) w U := ((HWB.out.1.mono fun j h => h.1).trans (kV.mono fun j h => ⟨Nat.lt_of_lt_of_le h.1 HWB.out.1.size, h.2⟩)).trans (hkU.mono fun j h => Nat.lt_of_lt_of_le h.1 (Nat.le_trans HWB.out.1.size kV.size))
  have CF := trFits p root lv low high nlv (some ⟨g, 0, none⟩) cg ps U hpsU HFIT.out
  unfold leafV leadV at CF
  rw [HM.out] at CF
  have q0 := hby.c0; have q1 := hby.c1
  have d0 := hbdU.c0; have d1 := hbdU.c1; have d2 := hbdU.c2; have d3 := hbdU.c3; have d4 := hbdU.c4
  have HCF := Lib.hid CF
  have HQ := Lib.hid (And.intro hby (And.intro hblU (And.intro hmU (And.intro hkw (And.intro hMp (And.intro hq hcc))))))
  clear hps kV hkU hby hpsU hbdU hblU CF hmm hMp hq hcc hmU hkw hxk hxk1
  go_wp2_with (go_at_call 70; refine HCF.out.mono ?_)
  rintro e V2 ⟨rfl, hk2⟩
  have hb2 := HQ.out.1.kept hk2 HQ.out.1.lt
  have hr2 := HQ.out.2.1.kept hk2 HQ.out.2.1.lt
  have r0 := hb2.c0; have r1 := hb2.c1; have r2 := hr2.c0; have r3 := hr2.f0; have r4 := hr2.c1; have r5 := hr2.f1
  have HR := Lib.hid (And.intro hr2 (And.intro (HQ.out.2.2.1.old hk2) (HQ.out.2.2.2.1.trans (hk2.mono fun j h => Nat.lt_of_lt_of_le h.1 HQ.out.2.2.2.1.size))))
  clear hb2 hr2 hk2
  go_wp2_with fail
  have hset := HR.out.1.set (lv' := (nlv : Int)) (a' := some ⟨g, 0, none⟩) (n' := m) (cap' := cg)
  have hs0 : BoxL (x + 1) (nlv : Int) none 0 0 (V2.setCell ⟨x + 1, 0, none⟩ (.int .i64 (nlv : Int))) := (heap_setCell_same _ _ _ _ _ _ HR.out.1).trans rfl
  have hm5 := (HR.out.2.1.set HR.out.1 0 (.int .i64 (nlv : Int))).set hs0 1 (.slice (some ⟨g, 0, none⟩) m cg)
  have hwx := HKL.out.2
  have hkx := (HR.out.2.2.setCell (p := ⟨x + 1, 0, none⟩) (by intro h; have h1 : x + 1 < w.heap.size := h.1; omega) (.int .i64 (nlv : Int))).setCell (p := ⟨x + 1, 1, none⟩) (by intro h; have h1 : x + 1 < w.heap.size := h.1; omega) (.slice (some ⟨g, 0, none⟩) m cg)
  refine bodyPost_ret (results_leaf rfl _ _ (x + 1) _ _ _ _ rfl hset) rfl ?_
  exact ⟨g, cg, c', M', by rw [HM.out]; rfl, hm5, HQ.out.2.2.2.2.1, HQ.out.2.2.2.2.2.1, HQ.out.2.2.2.2.2.2, hkx⟩

set_option maxHeartbeats 2000000 in
set_option maxRecDepth 100000 in
theorem trLeadBadG {w : World} {s H c k : Nat} {NA : List NdA} {N : List Nd} (hNA : N9 NA = N) {M : Int → Option (Option Lf9)} (h : IsMm w k c N M) (hS : IsShA w s H NA) (p : Int) (hpw : (Lit.int .i64 p).wf = true) (hb : p < 1 ∨ (N.length : Int) < p) (root : Bool) (lv : Int) (low high : Nat) :
    Calls Try.prog 47 #[leadI p root lv low high, mmI s k] w (BadE 9 w) := by
  obtain ⟨W, hW⟩ : ∃ W, (w.alloc (.cells #[.int .i64 p, .bool root, .int .i64 lv, .int .u64 (low : Int), .int .u64 (high : Int)] 111)).alloc (.cells #[.int .i64 0, .slice none 0 0] 27) = W := ⟨_, rfl⟩
  have hkW : KeptIn (· < w.heap.size) w W := by rw [← hW]; exact ((KeptIn.refl _ w).alloc (fun _ h => h) _).alloc (fun _ h => h) _
  have HC := Lib.hid (trBadG hNA (h.old hkW) (hS.old hkW) p hpw hb)
  obtain ⟨x, hx⟩ : ∃ x, w.heap.size = x := ⟨_, rfl⟩
  have hbd : BoxI x p root lv low high W := by
    rw [← hW, ← hx]
    exact (BoxI.new w p root lv low high).kept ((KeptIn.refl _ _).alloc (fun _ h => h) _) (by simp)
  have hbl : BoxL (x + 1) 0 none 0 0 W := by
    rw [← hW, ← hx, show w.heap.size + 1 = (w.alloc (.cells #[.int .i64 p, .bool root, .int .i64 lv, .int .u64 (low : Int), .int .u64 (high : Int)] 111)).heap.size by simp]
    exact heap_alloc_new _ _
  have p0 := hbd.c0
  have HWB := Lib.hid (And.intro hkW (And.intro hbl hx))
  unfold leadI mmI mmV pgV at *
  clear hkW hbd hbl h hpw hb hS hNA
  go_enter Try.func47, Try.ntmps47
  go_wp2_with (go_at_call 69; refine HC.out.mono ?_)
  rintro e V ⟨rfl, kV⟩
  unfold leafV
  obtain ⟨U, hU⟩ : ∃ U, V.alloc (.cells #[.int .i64 0, .slice none 0 0] 27) = U := ⟨_, rfl⟩
  have hkU : KeptIn (· < V.heap.size) V U := by rw [← hU]; exact (KeptIn.refl _ V).alloc (fun _ h => h) _
  have hbl := (HWB.out.2.1.kept kV HWB.out.2.1.lt).kept hkU (HWB.out.2.1.kept kV HWB.out.2.1.lt).lt
  have hkw : KeptIn (· < w.heap.size) w U := (HWB.out.1.trans (kV.mono fun j h => Nat.lt_of_lt_of_le h HWB.out.1.size)).trans (hkU.mono fun j h => Nat.lt_of_lt_of_le h (Nat.le_trans HWB.out.1.size kV.size))
  have HU := Lib.hid hU
  have HQ := Lib.hid (And.intro hbl hkw)
  have z0 := hbl.c0; have z1 := hbl.c1; have f0 := hbl.f0; have f1 := hbl.f1
  clear hkU hbl hkw kV hU
  go_upto_region 2 with fail
  rw [HU.out]
  have hset := BoxL.set (lv' := (0 : Int)) (a' := none) (n' := 0) (cap' := 0) HQ.out.1
  have hkk := (HQ.out.2.setCell (p := ⟨x + 1, 0, none⟩) (by simp [HWB.out.2.2]) (.int .i64 0)).setCell (p := ⟨x + 1, 1, none⟩) (by simp [HWB.out.2.2]) (.slice none 0 0)
  have HS := Lib.hid (And.intro hset hkk)
  clear hset hkk
  go_wp2_with fail
  try simp only [Exit.inBlock, Exit.then]
  refine bodyPost_ret (results_leaf rfl _ _ (x + 1) _ _ _ _ rfl HS.out.1) rfl ?_
  exact ⟨rfl, HS.out.2⟩


/-- No node is answered, though memo may keep one more: an error. -/
def BadW (ev : Int) (w : World) (x : Nat) (e : Ending) (w' : World) : Prop := e = .returned (.tuple #[leafV 0 none 0 0, .int .i64 ev]) ∧ KeptIn (fun j => j < w.heap.size ∧ j ≠ x) w w'

set_option maxHeartbeats 2000000 in
set_option maxRecDepth 100000 in
theorem trLeadNo {w : World} {s H c k : Nat} {NA : List NdA} {N : List Nd} (hNA : N9 NA = N) {M : Int → Option (Option Lf9)} (h : IsMm w k c N M) (hS : IsShA w s H NA) (hc : c < 100000) (i : Nat) (hi : i < NA.length) (root : Bool) (lv : Int) (low high : Nat) (hf : ¬ FitA root lv low high NA[i]) :
    Calls Try.prog 47 #[leadI ((i + 1 : Nat) : Int) root lv low high, mmI s k] w (BadW 3 w k) := by
  obtain ⟨p, hp⟩ : ∃ p : Int, ((i + 1 : Nat) : Int) = p := ⟨_, rfl⟩
  obtain ⟨W, hW⟩ : ∃ W, (w.alloc (.cells #[.int .i64 p, .bool root, .int .i64 lv, .int .u64 (low : Int), .int .u64 (high : Int)] 111)).alloc (.cells #[.int .i64 0, .slice none 0 0] 27) = W := ⟨_, rfl⟩
  have hkW : KeptIn (· < w.heap.size) w W := by rw [← hW]; exact ((KeptIn.refl _ w).alloc (fun _ h => h) _).alloc (fun _ h => h) _
  have C := trReadW hNA (h.old hkW) (hS.old hkW) hc i hi
  obtain ⟨nlv, hlv⟩ : ∃ nlv, NA[i].1 = nlv := ⟨_, rfl⟩
  obtain ⟨ps, hpe⟩ : ∃ ps, NA[i].2 = ps := ⟨_, rfl⟩
  have hf2 : ¬ FitA root lv low high (nlv, ps) := by rw [← hlv, ← hpe]; exact hf
  rw [hp, hlv, hpe] at C
  rw [hp]
  obtain ⟨x, hx⟩ : ∃ x, w.heap.size = x := ⟨_, rfl⟩
  have hbd : BoxI x p root lv low high W := by
    rw [← hW, ← hx]
    exact (BoxI.new w p root lv low high).kept ((KeptIn.refl _ _).alloc (fun _ h => h) _) (by simp)
  have hbl : BoxL (x + 1) 0 none 0 0 W := by
    rw [← hW, ← hx, show w.heap.size + 1 = (w.alloc (.cells #[.int .i64 p, .bool root, .int .i64 lv, .int .u64 (low : Int), .int .u64 (high : Int)] 111)).heap.size by simp]
    exact heap_alloc_new _ _
  have p0 := hbd.c0
  have HKL := Lib.hid (And.intro h.lt hx)
  have HC := Lib.hid C
  have HFIT := Lib.hid hf2
  have HWB := Lib.hid (And.intro hkW (And.intro hbd hbl))
  obtain ⟨m, hm⟩ : ∃ m, ps.length = m := ⟨_, rfl⟩
  have HM := Lib.hid hm
  unfold leadI mmI mmV pgV at *
  clear C hf hf2 hkW hbd hbl h hlv hpe hp hm hS hNA
  go_enter Try.func47, Try.ntmps47
  go_wp2_with (go_at_call 69; refine HC.out.mono ?_)
  rintro e V hR
  unfold RdW at hR
  obtain ⟨g, cg, rfl, hps, kV⟩ := hR
  have hxk : x ≠ k := fun e => by have := HKL.out.1; have := HKL.out.2; omega
  have hxk1 : x + 1 ≠ k := fun e => by have := HKL.out.1; have := HKL.out.2; omega
  rw [HM.out]
  unfold leafV
  obtain ⟨U, hU⟩ : ∃ U, V.alloc (.cells #[.int .i64 nlv, .slice g m cg] 27) = U := ⟨_, rfl⟩
  obtain ⟨y, hy⟩ : ∃ y, V.heap.size = y := ⟨_, rfl⟩
  have hkU : KeptIn (· < V.heap.size) V U := by rw [← hU]; exact (KeptIn.refl _ V).alloc (fun _ h => h) _
  have hby : BoxL y nlv g m cg U := by rw [← hU, ← hy]; exact BoxL.new V _ _ _ _
  have hbdU := (HWB.out.2.1.kept kV ⟨HWB.out.2.1.lt, hxk⟩).kept hkU (HWB.out.2.1.kept kV ⟨HWB.out.2.1.lt, hxk⟩).lt
  have hblU := (HWB.out.2.2.kept kV ⟨HWB.out.2.2.lt, hxk1⟩).kept hkU (HWB.out.2.2.kept kV ⟨HWB.out.2.2.lt, hxk1⟩).lt
  have hpsU := hps.old hkU
  have hkw : KeptIn (fun j => j < w.heap.size ∧ j ≠ k) w U := ((HWB.out.1.mono fun j h => h.1).trans (kV.mono fun j h => ⟨Nat.lt_of_lt_of_le h.1 HWB.out.1.size, h.2⟩)).trans (hkU.mono fun j h => Nat.lt_of_lt_of_le h.1 (Nat.le_trans HWB.out.1.size kV.size))
  have CF := trFitsNo p root lv low high nlv g cg ps U hpsU HFIT.out
  unfold leafV leadI at CF
  rw [HM.out] at CF
  have q0 := hby.c0; have q1 := hby.c1
  have d0 := hbdU.c0; have d1 := hbdU.c1; have d2 := hbdU.c2; have d3 := hbdU.c3; have d4 := hbdU.c4
  have HCF := Lib.hid CF
  have HQ := Lib.hid (And.intro hblU hkw)
  clear hps kV hkU hby hpsU hbdU hblU CF hkw hxk hxk1
  go_wp2_with (go_at_call 70; refine HCF.out.mono ?_; rintro e V2 ⟨rfl, hk2⟩; have hr2 := HQ.out.1.kept hk2 HQ.out.1.lt; have r2 := hr2.c0; have r3 := hr2.f0; have r4 := hr2.c1; have r5 := hr2.f1; have HR := Lib.hid (And.intro hr2 (HQ.out.2.trans (hk2.mono fun j h => Nat.lt_of_lt_of_le h.1 HQ.out.2.size))); clear hr2 hk2)
  have hset := HR.out.1.set (lv' := (0 : Int)) (a' := none) (n' := 0) (cap' := 0)
  have hwx := HKL.out.2
  have hkx := (HR.out.2.setCell (p := ⟨x + 1, 0, none⟩) (by intro h; have h1 : x + 1 < w.heap.size := h.1; omega) (.int .i64 0)).setCell (p := ⟨x + 1, 1, none⟩) (by intro h; have h1 : x + 1 < w.heap.size := h.1; omega) (.slice none 0 0)
  try simp only [Exit.inBlock, Exit.then]
  refine bodyPost_ret (results_leaf rfl _ _ (x + 1) _ _ _ _ rfl hset) rfl ?_
  exact ⟨rfl, hkx⟩

end Go.Proofs.Ytdbohcdjamhdjaa
/- Package tree's survey over a memo of a Shelf with whatever nodes: what stands at each step. -/
set_option linter.unusedVariables false
namespace Go.Proofs.Ytdbohcdjamhdjaa
open Go.RowKit

theorem sdz_shA {V V' : World} {S B0 x s H : Nat} {u v : Value} {ms : List Int} {NA : List NdA} (h : SvU V S u B0 v ms) (hsh : IsShA V s H NA) (hD : H ≤ S ∧ H ≤ x) (hk : KeptIn (SdZ V S B0 x) V V') : IsShA V' s H NA :=
  hsh.kept (hk.mono fun k hk => by
    have h1 := hsh.le
    have h2 := h.lt
    exact ⟨⟨by omega, by omega, .inl (by omega)⟩, by omega⟩)

/-- What stands behind the append to the pages met. -/
def SoMG (w : World) (S s B0 xm c y : Nat) (p : Int) (H : Nat) (NA : List NdA) (N : List Nd) (M : Int → Option (Option Lf9)) (root : Bool) (lv : Int) (lo hi : Nat) (ms : List Int) (V : World) : Prop :=
  ∃ v, SvU V S (mmI s xm) B0 v ms ∧ BoxI y p root lv lo hi V ∧ IsShA V s H NA ∧ (H ≤ S ∧ H ≤ xm) ∧ KeptIn (SdZ w S B0 xm) w V ∧ w.heap.size ≤ y ∧ IsMm V xm c N M

theorem so_metG {w V w1 : World} {S s B0 xm c y H m cap gg cap' : Nat} {p : Int} {NA : List NdA} {N : List Nd} {M : Int → Option (Option Lf9)} {root : Bool} {lv : Int} {lo hi : Nat} {ms : List Int} {a : Option Addr} {o : Obj}
    (hsv : SvU V S (mmI s xm) B0 (.slice a m cap) ms) (hb : BoxI y p root lv lo hi V) (hsh : IsShA V s H NA) (hD : H ≤ S ∧ H ≤ xm) (hk : KeptIn (SdZ w S B0 xm) w V) (hx : w.heap.size ≤ y) (hmm : IsMm V xm c N M) (hm : ms.length = m)
    (hg : (V.alloc o).grownBy w1 (Value.slice a m cap).ownBlock) (hown : w1.ownsRow B0 3 1 (.slice (some ⟨gg, 0, none⟩) (m + 1) cap') (m + 1) (cellsI ms ++ [.int .i64 p])) :
    SoMG w S s B0 xm c y p H NA N M root lv lo hi (ms ++ [p]) (w1.setCell ⟨S, 1, none⟩ (.slice (some ⟨gg, 0, none⟩) (m + 1) cap')) := by
  have h1 : KeptIn (SdX V S (.slice a m cap)) V (w1.setCell ⟨S, 1, none⟩ (.slice (some ⟨gg, 0, none⟩) (m + 1) cap')) := sd_kept (m := m) (S := S) (v := .slice a m cap) hg
  have hz : KeptIn (SdZ V S B0 xm) V (w1.setCell ⟨S, 1, none⟩ (.slice (some ⟨gg, 0, none⟩) (m + 1) cap')) := h1.mono fun k hk => sdx_z hsv hk
  exact ⟨_, sdu_at hsv hm hg hown, hb.kept hz (sdz_cells hsv hmm hb (by decide) (by decide)), sdz_shA hsv hsh hD hz, hD, sdz_trans hk hz, hx, hmm.met hsv h1⟩

/-- What stands at the loop over a node's kids. -/
structure SoFG (w : World) (S s B0 xm c z y p g n cg : Nat) (H : Nat) (NA : List NdA) (N : List Nd) (M : Int → Option (Option Lf9)) (qs : List Int) (root : Bool) (lv : Int) (lo hi : Nat) (L : Int) (ps : Pairs) (v : Value) (ms : List Int) (V : World) : Prop where
  sv : SvU V S (mmI s xm) B0 v ms
  lead : BoxD z p root lv lo hi V
  leaf : BoxL y L (some ⟨g, 0, none⟩) n cg V
  isps : IsPs V (some ⟨g, 0, none⟩) ps
  ty : TyP V g
  sh : IsShA V s H NA
  dS : H ≤ S ∧ H ≤ xm
  kept : KeptIn (SdZ w S B0 xm) w V
  len : ps.length = n
  mm : MmS V xm c N M qs
theorem SoFG.go {w V V' : World} {S s B0 xm c z y p g n cg H : Nat} {NA : List NdA} {N : List Nd} {M : Int → Option (Option Lf9)} {qs qs' : List Int} {root : Bool} {lv : Int} {lo hi : Nat} {L : Int} {ps : Pairs} {v v' : Value} {ms ms' : List Int} (h : SoFG w S s B0 xm c z y p g n cg H NA N M qs root lv lo hi L ps v ms V) (hk : KeptIn (SdZ V S B0 xm) V V') (hv : SvU V' S (mmI s xm) B0 v' ms') (hq : MmS V' xm c N M qs') : SoFG w S s B0 xm c z y p g n cg H NA N M qs' root lv lo hi L ps v' ms' V' := by
  obtain ⟨c', M', hm, _, _⟩ := h.mm
  obtain ⟨cs, fr, hb⟩ := h.ty
  have hg : SdZ V S B0 xm g := sdz_cells h.sv hm hb (by decide) (by decide)
  exact ⟨hv, h.lead.kept hk (sdz_cells h.sv hm h.lead (by decide) (by decide)), h.leaf.kept hk (sdz_cells h.sv hm h.leaf (by decide) (by decide)), psAt h.isps hk (fun p e => by cases e; exact hg),
    ⟨cs, fr, (hk.block g hg).trans hb⟩, sdz_shA h.sv h.sh h.dS hk, h.dS, sdz_trans h.kept hk, h.len, hq⟩
theorem SoFG.old {w V V' : World} {S s B0 xm c z y p g n cg H : Nat} {NA : List NdA} {N : List Nd} {M : Int → Option (Option Lf9)} {qs : List Int} {root : Bool} {lv : Int} {lo hi : Nat} {L : Int} {ps : Pairs} {v : Value} {ms : List Int} (h : SoFG w S s B0 xm c z y p g n cg H NA N M qs root lv lo hi L ps v ms V) (hk : KeptIn (· < V.heap.size) V V') : SoFG w S s B0 xm c z y p g n cg H NA N M qs root lv lo hi L ps v ms V' := h.go (sdz_old hk) (h.sv.old hk) (h.mm.old hk)

theorem so_readG {w wc V0 V : World} {S s B0 xm c c' z y g n cg H i : Nat} {NA : List NdA} {N : List Nd} {M M' : Int → Option (Option Lf9)} {root : Bool} {lv : Int} {lo hi : Nat} {L : Int} {ms : List Int}
    (h : SoMG w S s B0 xm c z ((i + 1 : Nat) : Int) H NA N M root lv lo hi ms wc) (hix : i < N.length) (hk0 : KeptIn (· < wc.heap.size) wc V0) (hy : y = wc.heap.size) (hy0 : BoxL y 0 none 0 0 V0) (hk : KeptIn (fun j => j < V0.heap.size ∧ j ≠ xm) V0 V)
    (hm : IsMm V xm c' N M') (hz : M' ((i + 1 : Nat) : Int) = some (some (L, g, n, cg))) (hq : ∀ q, q ≠ ((i + 1 : Nat) : Int) → M' q = M q) (hc : c' ≤ c + 1) (hn : N[i].2.length = n) :
    ∃ v, SoFG w S s B0 xm c z y (i + 1) g n cg H NA N M [((i + 1 : Nat) : Int)] root lv lo hi L N[i].2 v ms ((V.setCell ⟨y, 0, none⟩ (.int .i64 L)).setCell ⟨y, 1, none⟩ (.slice (some ⟨g, 0, none⟩) n cg)) := by
  obtain ⟨v, h1, h2, h3, h4, h5, h6, h7⟩ := h
  obtain ⟨hps, hty⟩ := hm.at hix hz
  have h70 := h7.old hk0
  have hb := hy0.kept hk ⟨hy0.lt, h70.map.ne hy0⟩
  have hset := hb.set (lv' := L) (a' := some ⟨g, 0, none⟩) (n' := n) (cap' := cg)
  have hgy : g ≠ y := fun e => by
    obtain ⟨cs, fr, h8⟩ := hty
    rw [e, show V.heap[y]? = _ from hb] at h8
    simp only [Option.some.injEq, Obj.cells.injEq] at h8
    exact absurd h8.2.1 (by decide)
  have hkr : KeptIn (fun j => j < wc.heap.size ∧ j ≠ xm) wc V := (hk0.mono fun j h => h.1).trans (hk.mono fun j h => ⟨Nat.lt_of_lt_of_le h.1 hk0.size, h.2⟩)
  have hkf : KeptIn (fun j => j < wc.heap.size ∧ j ≠ xm) wc ((V.setCell ⟨y, 0, none⟩ (.int .i64 L)).setCell ⟨y, 1, none⟩ (.slice (some ⟨g, 0, none⟩) n cg)) := (hkr.setCell (p := ⟨y, 0, none⟩) (by simp; omega) _).setCell (p := ⟨y, 1, none⟩) (by simp; omega) _
  have hs0 : BoxL y L none 0 0 (V.setCell ⟨y, 0, none⟩ (.int .i64 L)) := (heap_setCell_same _ _ _ _ _ _ hb).trans rfl
  refine ⟨v, h1.read h7 hkf, h2.kept hkf ⟨h2.lt, h7.map.ne h2⟩, hset, ?_, ?_, sdz_shA h1 h3 h4 (sdz_read hkf), h4, sdz_trans h5 (sdz_read hkf), hn, c', M', (hm.set hb 0 _).set hs0 1 _, by simpa using hc, ?_⟩
  · exact psSet (psSet hps ⟨y, 0, none⟩ _ (fun p e => by cases e; exact hgy)) ⟨y, 1, none⟩ _ (fun p e => by cases e; exact hgy)
  · obtain ⟨cs, fr, hb⟩ := hty
    exact ⟨cs, fr, (heap_setCell_other _ _ _ _ hgy).trans ((heap_setCell_other _ _ _ _ hgy).trans hb)⟩
  · exact (Mmo.refl M).add hz hq

theorem so_readG2 {w wc V : World} {S s B0 xm c c' z g n cg H i : Nat} {NA : List NdA} {N : List Nd} {M M' : Int → Option (Option Lf9)} {root : Bool} {lv : Int} {lo hi : Nat} {L : Int} {ms : List Int}
    (h : SoMG w S s B0 xm c z ((i + 1 : Nat) : Int) H NA N M root lv lo hi ms wc) (hix : i < N.length) (hk : KeptIn (fun j => j < wc.heap.size ∧ j ≠ xm) wc V)
    (hm : IsMm V xm c' N M') (hz : M' ((i + 1 : Nat) : Int) = some (some (L, g, n, cg))) (hq : ∀ q, q ≠ ((i + 1 : Nat) : Int) → M' q = M q) (hc : c' ≤ c + 1) (hn : N[i].2.length = n) :
    ∃ v, SoFG w S s B0 xm c z V.heap.size (i + 1) g n cg H NA N M [((i + 1 : Nat) : Int)] root lv lo hi L N[i].2 v ms (V.alloc (.cells #[.int .i64 L, .slice (some ⟨g, 0, none⟩) n cg] 27)) := by
  obtain ⟨v, h1, h2, h3, h4, h5, h6, h7⟩ := h
  obtain ⟨hps, hty⟩ := hm.at hix hz
  have hka : KeptIn (· < V.heap.size) V (V.alloc (.cells #[.int .i64 L, .slice (some ⟨g, 0, none⟩) n cg] 27)) := (KeptIn.refl _ V).alloc (fun _ h => h) _
  have hkf : KeptIn (fun j => j < wc.heap.size ∧ j ≠ xm) wc (V.alloc (.cells #[.int .i64 L, .slice (some ⟨g, 0, none⟩) n cg] 27)) := hk.trans (hka.mono fun j h => Nat.lt_of_lt_of_le h.1 hk.size)
  exact ⟨v, h1.read h7 hkf, h2.kept hkf ⟨h2.lt, h7.map.ne h2⟩, BoxL.new V _ _ _ _, hps.old hka, hty.old hka, sdz_shA h1 h3 h4 (sdz_read hkf), h4, sdz_trans h5 (sdz_read hkf), hn, c', M', hm.old hka, by simpa using hc, (Mmo.refl M).add hz hq⟩

theorem so_readGp {w wc V0 V : World} {S s B0 xm c c' z y p g n cg H i : Nat} {NA : List NdA} {N : List Nd} {M M' : Int → Option (Option Lf9)} {root : Bool} {lv : Int} {lo hi : Nat} {L : Int} {ps : Pairs} {ms : List Int}
    (h : SoMG w S s B0 xm c z (p : Int) H NA N M root lv lo hi ms wc) (hix : i < N.length) (hp : i + 1 = p) (he : N[i].2 = ps) (hk0 : KeptIn (· < wc.heap.size) wc V0) (hy : y = wc.heap.size) (hy0 : BoxL y 0 none 0 0 V0) (hk : KeptIn (fun j => j < V0.heap.size ∧ j ≠ xm) V0 V)
    (hm : IsMm V xm c' N M') (hz : M' (p : Int) = some (some (L, g, n, cg))) (hq : ∀ q, q ≠ (p : Int) → M' q = M q) (hc : c' ≤ c + 1) (hn : ps.length = n) :
    ∃ v, SoFG w S s B0 xm c z y p g n cg H NA N M [(p : Int)] root lv lo hi L ps v ms ((V.setCell ⟨y, 0, none⟩ (.int .i64 L)).setCell ⟨y, 1, none⟩ (.slice (some ⟨g, 0, none⟩) n cg)) := by
  subst hp he
  exact so_readG h hix hk0 hy hy0 hk hm hz hq hc hn
theorem so_readG2p {w wc V : World} {S s B0 xm c c' z p g n cg H i : Nat} {NA : List NdA} {N : List Nd} {M M' : Int → Option (Option Lf9)} {root : Bool} {lv : Int} {lo hi : Nat} {L : Int} {ps : Pairs} {ms : List Int}
    (h : SoMG w S s B0 xm c z (p : Int) H NA N M root lv lo hi ms wc) (hix : i < N.length) (hp : i + 1 = p) (he : N[i].2 = ps) (hk : KeptIn (fun j => j < wc.heap.size ∧ j ≠ xm) wc V)
    (hm : IsMm V xm c' N M') (hz : M' (p : Int) = some (some (L, g, n, cg))) (hq : ∀ q, q ≠ (p : Int) → M' q = M q) (hc : c' ≤ c + 1) (hn : ps.length = n) :
    ∃ v, SoFG w S s B0 xm c z V.heap.size p g n cg H NA N M [(p : Int)] root lv lo hi L ps v ms (V.alloc (.cells #[.int .i64 L, .slice (some ⟨g, 0, none⟩) n cg] 27)) := by
  subst hp he
  exact so_readG2 h hix hk hm hz hq hc hn

theorem SoMG.facts {w V V' : World} {S s B0 xm c z H : Nat} {p : Int} {NA : List NdA} {N : List Nd} {M : Int → Option (Option Lf9)} {root : Bool} {lv : Int} {lo hi : Nat} {ms : List Int} (h : SoMG w S s B0 xm c z p H NA N M root lv lo hi ms V) (hk : KeptIn (fun j => j < V.heap.size ∧ j ≠ xm) V V') :
    V'.cell? ⟨S, 0, none⟩ = some (mmI s xm) ∧ V'.cell? ⟨z, 0, none⟩ = some (.int .i64 p) ∧ V'.cell? ⟨z, 1, none⟩ = some (.bool root) ∧ V'.cell? ⟨z, 2, none⟩ = some (.int .i64 lv) ∧ V'.cell? ⟨z, 3, none⟩ = some (.int .u64 (lo : Int)) ∧ V'.cell? ⟨z, 4, none⟩ = some (.int .u64 (hi : Int)) := by
  obtain ⟨v, h1, h2, _, _, _, _, h7⟩ := h
  have hs := (h1.read h7 hk).box
  have hb := h2.kept hk ⟨h2.lt, h7.map.ne h2⟩
  exact ⟨(cell_of_row _ _ 0 _ _ _ hs).trans rfl, hb.c0, hb.c1, hb.c2, hb.c3, hb.c4⟩

end Go.Proofs.Ytdbohcdjamhdjaa
/- Package tree's survey over a memo of a Shelf with whatever nodes: what it comes to; where it ends at once. -/
set_option linter.unusedVariables false
namespace Go.Proofs.Ytdbohcdjamhdjaa
open Go.RowKit

/-- The node of a page. -/
def nodeI (NA : List NdA) (p : Int) : Option NdA := if 1 ≤ p then NA[(p - 1).toNat]? else none
theorem nodeI_at {NA : List NdA} {p : Int} {nd : NdA} (h : nodeI NA p = some nd) : ∃ (i : Nat) (hi : i < NA.length), p = ((i + 1 : Nat) : Int) ∧ NA[i] = nd := by
  unfold nodeI at h
  split at h
  · rename_i h1
    obtain ⟨h2, h3⟩ := List.getElem?_eq_some_iff.1 h
    exact ⟨_, h2, by omega, h3⟩
  · cases h
theorem nodeI_no {NA : List NdA} {p : Int} (h : nodeI NA p = none) : p < 1 ∨ (NA.length : Int) < p := by
  unfold nodeI at h
  split at h
  · have := List.getElem?_eq_none_iff.1 h
    omega
  · omega
/-- What a survey comes to behind so many of a node's kids. -/
def kidsTo (f : Nat → Nat → Int → List Int → Option (List Int)) (ps : Pairs) (hi : Nat) : Nat → List Int → Option (List Int)
  | 0, ms => some ms
  | j + 1, ms => (kidsTo f ps hi j ms).bind fun m => f (keyAt ps j) (highOf ps j hi) ((valAt ps j : Nat) : Int) m
theorem kidsTo_none {f : Nat → Nat → Int → List Int → Option (List Int)} {ps : Pairs} {hi j n : Nat} {ms : List Int} (h : kidsTo f ps hi j ms = none) (hj : j ≤ n) : kidsTo f ps hi n ms = none := by
  induction n with
  | zero => obtain rfl : j = 0 := by omega
            exact h
  | succ n ih =>
    by_cases e : j = n + 1
    · rw [← e]; exact h
    · rw [kidsTo, ih (by omega)]; rfl
open Classical in
/-- What a survey of whatever nodes comes to, by so many levels at most: the pages that are met; none: it isn't sound. -/
noncomputable def svG (NA : List NdA) : Nat → Bool → Int → Nat → Nat → Int → List Int → Option (List Int)
  | 0, _, _, _, _, _, _ => none
  | n + 1, root, lv, lo, hi, p, ms =>
    if p ∈ ms then none else match nodeI NA p with
    | none => none
    | some nd => if FitA root lv lo hi nd then (if nd.1 = 0 then some (ms ++ [p]) else kidsTo (fun lo' hi' q m => svG NA n false (nd.1 - 1) lo' hi' q m) nd.2 hi nd.2.length (ms ++ [p])) else none

/-- Pages, each once, of these nodes. -/
def OkM (n : Nat) (ms : List Int) : Prop := ms.Nodup ∧ ∀ q ∈ ms, 1 ≤ q ∧ q ≤ (n : Int)
theorem OkM.len {n : Nat} {ms : List Int} (h : OkM n ms) : ms.length ≤ n := by
  have h1 : (ms.map Int.toNat).Nodup := by
    unfold List.Nodup
    rw [List.pairwise_map]
    refine h.1.imp_of_mem fun ha hb hab e => hab ?_
    have := h.2 _ ha
    have := h.2 _ hb
    omega
  have := nodup_le n (ms.map Int.toNat) h1 fun x hx => by
    obtain ⟨q, hq, rfl⟩ := List.mem_map.1 hx
    have := h.2 q hq
    omega
  rw [List.length_map] at this
  exact this
theorem OkM.snoc {n : Nat} {ms : List Int} {p : Int} (h : OkM n ms) (hp : p ∉ ms) (h1 : 1 ≤ p) (h2 : p ≤ (n : Int)) : OkM n (ms ++ [p]) := by
  refine ⟨?_, fun q hq => ?_⟩
  · rw [List.nodup_append]
    refine ⟨h.1, by simp, fun a ha b hb e => ?_⟩
    rw [List.mem_singleton] at hb
    subst hb e
    exact hp ha
  · rcases List.mem_append.1 hq with hq | hq
    · exact h.2 q hq
    · rw [List.mem_singleton.1 hq]; exact ⟨h1, h2⟩
theorem kidsTo_ok {f : Nat → Nat → Int → List Int → Option (List Int)} {ps : Pairs} {hi n : Nat} (hf : ∀ lo' hi' q m m', f lo' hi' q m = some m' → OkM n m → OkM n m' ∧ ∃ qs, m' = m ++ qs) {j : Nat} : ∀ {ms ms' : List Int}, kidsTo f ps hi j ms = some ms' → OkM n ms → OkM n ms' ∧ ∃ qs, ms' = ms ++ qs := by
  induction j with
  | zero =>
    intro ms ms' h ho
    cases h
    exact ⟨ho, [], by simp⟩
  | succ j ih =>
    intro ms ms' h ho
    rw [kidsTo] at h
    cases hk : kidsTo f ps hi j ms with
    | none => rw [hk] at h; cases h
    | some m =>
      rw [hk] at h
      obtain ⟨h1, qs, rfl⟩ := ih hk ho
      obtain ⟨h2, qs2, e⟩ := hf _ _ _ _ _ h h1
      exact ⟨h2, qs ++ qs2, by rw [e, List.append_assoc]⟩
theorem svG_ok {NA : List NdA} : ∀ {n : Nat} {root : Bool} {lv : Int} {lo hi : Nat} {p : Int} {ms ms' : List Int}, svG NA n root lv lo hi p ms = some ms' → OkM NA.length ms → OkM NA.length ms' ∧ ∃ qs, ms' = ms ++ qs := by
  intro n
  induction n with
  | zero => intro root lv lo hi p ms ms' h; cases h
  | succ n ih =>
    intro root lv lo hi p ms ms' h ho
    rw [svG] at h
    split at h
    · cases h
    · rename_i hp
      cases hn : nodeI NA p with
      | none => rw [hn] at h; cases h
      | some nd =>
        rw [hn] at h
        simp only at h
        obtain ⟨i, hi', e, _⟩ := nodeI_at hn
        have ho2 := ho.snoc hp (by omega) (by omega)
        split at h
        · split at h
          · cases h
            exact ⟨ho2, [p], rfl⟩
          · obtain ⟨h1, qs, e2⟩ := kidsTo_ok (fun lo' hi' q m m' h1 h2 => ih h1 h2) h ho2
            exact ⟨h1, p :: qs, by rw [e2, List.append_assoc]; rfl⟩
        · cases h

theorem bw_new {wc V : World} {x : Nat} (hk : KeptIn (fun j => j < wc.drew.heap.size ∧ j ≠ x) wc.drew V) {o : Obj} : KeptIn (fun j => j < wc.heap.size ∧ j ≠ x) wc (V.alloc o) :=
  (((KeptIn.refl _ wc).drew).trans hk).alloc (fun _ h => h.1) _
theorem bw_old {wc V : World} {x : Nat} {o : Obj} (hk : KeptIn (fun j => j < (wc.alloc o).drew.heap.size ∧ j ≠ x) (wc.alloc o).drew V) {a b : Value} : KeptIn (fun j => j < wc.heap.size ∧ j ≠ x) wc ((V.setCell ⟨wc.heap.size, 0, none⟩ a).setCell ⟨wc.heap.size, 1, none⟩ b) := by
  have h1 : KeptIn (fun j => j < wc.heap.size ∧ j ≠ x) wc V := (((KeptIn.refl _ wc).alloc (fun _ h => h.1) _).drew).trans (hk.mono fun k h => ⟨Nat.lt_of_lt_of_le h.1 (((KeptIn.refl (· < wc.heap.size) wc).alloc (fun _ h => h) o).drew).size, h.2⟩)
  exact (h1.setCell (p := ⟨wc.heap.size, 0, none⟩) (by simp) _).setCell (p := ⟨wc.heap.size, 1, none⟩) (by simp) _

set_option maxRecDepth 100000 in
set_option maxHeartbeats 4000000 in
theorem trSoundMet {s xm : Nat} {root : Bool} {lv : Int} {lo hi : Nat} {p : Int} {w : World} {S B0 : Nat} {v : Value} {ms : List Int} (h : SvU w S (mmI s xm) B0 v ms) (hp : p ∈ ms) (hml : ms.length ≤ 511) :
    Calls Try.prog 57 #[.pointer (some ⟨S, 0, none⟩), leadI p root lv lo hi] w (SoX w S B0 xm) := by
  obtain ⟨a, cap, rfl⟩ := row_sliceI h.row
  obtain ⟨m, hm⟩ : ∃ m, ms.length = m := ⟨_, rfl⟩
  rw [hm] at h hml
  obtain ⟨W, hW⟩ : ∃ W, w.alloc (.cells #[.int .i64 p, .bool root, .int .i64 lv, .int .u64 (lo : Int), .int .u64 (hi : Int)] 111) = W := ⟨_, rfl⟩
  have hkW : KeptIn (· < w.heap.size) w W := by rw [← hW]; exact (KeptIn.refl _ w).alloc (fun _ h => h) _
  have hbd : BoxI w.heap.size p root lv lo hi W := by rw [← hW]; exact BoxI.new w p root lv lo hi
  have hsv := h.old hkW
  have hSW : W.heap[S]? = some (.cells #[mmI s xm, .slice a m cap, .int .i64 0] 125 (0, 0)) := hsv.box
  have c1 : W.cell? ⟨S, 1, none⟩ = some (.slice a m cap) := (cell_of_row _ _ 1 _ _ _ hSW).trans rfl
  have hI : IntsL W a ms := by
    have h1 := hsv.row
    rw [hm] at h1
    rw [← hm] at h1
    exact rowIntsL h1 (by unfold maxLen; omega)
  have HQ := Lib.hid fun n => iContQ hI (x := p) (cap := cap) hm (decide_eq_true hp) n
  have d0 := hbd.c0
  have HKW := Lib.hid hkW
  unfold mmI mmV pgV leadI at *
  clear hsv hkW hbd hp hI hSW h hm hml
  go_enter Try.func57, Try.ntmps57
  go_wp2_with fail
  go_quiet ((go_at_call 79; exact Calls.quiet_of_same (HQ.out _)))
  go_wp2_with fail
  go_ret
  exact ⟨rfl, sdz_old (HKW.out.drewN _)⟩

set_option maxRecDepth 100000 in
set_option maxHeartbeats 4000000 in
theorem trSoundErr {ev : Int} (hev : ev = 3 ∨ ev = 9) {NA : List NdA} {N : List Nd} {s H xm : Nat} {root : Bool} {lv : Int} {lo hi : Nat} {p : Int} {w : World} {S B0 c : Nat} {v : Value} {ms : List Int} {M : Int → Option (Option Lf9)} (hsh : IsShA w s H NA) (hD : H ≤ S ∧ H ≤ xm) (h : SvU w S (mmI s xm) B0 v ms) (hmm0 : IsMm w xm c N M)
    (hrd : ∀ V, IsMm V xm c N M → IsShA V s H NA → Calls Try.prog 47 #[leadI p root lv lo hi, mmI s xm] V (BadW ev V xm)) (hp : p ∉ ms) (hml : ms.length ≤ 511) :
    Calls Try.prog 57 #[.pointer (some ⟨S, 0, none⟩), leadI p root lv lo hi] w (SoX w S B0 xm) := by
  obtain ⟨a, cap, rfl⟩ := row_sliceI h.row
  obtain ⟨m, hm⟩ : ∃ m, ms.length = m := ⟨_, rfl⟩
  rw [hm] at h hml
  obtain ⟨W, hW⟩ : ∃ W, w.alloc (.cells #[.int .i64 p, .bool root, .int .i64 lv, .int .u64 (lo : Int), .int .u64 (hi : Int)] 111) = W := ⟨_, rfl⟩
  have hkW : KeptIn (· < w.heap.size) w W := by rw [← hW]; exact (KeptIn.refl _ w).alloc (fun _ h => h) _
  have hbd : BoxI w.heap.size p root lv lo hi W := by rw [← hW]; exact BoxI.new w p root lv lo hi
  have hsv := h.old hkW
  have hmm := hmm0.old hkW
  have hshW := hsh.old hkW
  have hSW : W.heap[S]? = some (.cells #[mmI s xm, .slice a m cap, .int .i64 0] 125 (0, 0)) := hsv.box
  have c0 : W.cell? ⟨S, 0, none⟩ = some (mmI s xm) := (cell_of_row _ _ 0 _ _ _ hSW).trans rfl
  have c1 : W.cell? ⟨S, 1, none⟩ = some (.slice a m cap) := (cell_of_row _ _ 1 _ _ _ hSW).trans rfl
  have hrowW : W.ownsRow B0 3 1 (.slice a m cap) m (cellsI ms) := by have := hsv.row; rw [hm] at this; exact this
  have hI : IntsL W a ms := by
    have h1 := hrowW
    rw [← hm] at h1
    exact rowIntsL h1 (by unfold maxLen; omega)
  have HQ := Lib.hid fun n => iContQ hI (x := p) (cap := cap) hm (decide_eq_false hp) n
  have d0 := hbd.c0
  have d1 := hbd.c1
  have d2 := hbd.c2
  have d3 := hbd.c3
  have d4 := hbd.c4
  obtain ⟨x, hx⟩ : ∃ x, w.heap.size = x := ⟨_, rfl⟩
  have HG : Hid (∀ (nq : Nat) (w1 : World), (((W.drewN nq).drew).alloc (.cells #[.int .i64 p] 3)).grownBy w1 (Value.slice a m cap).ownBlock → w1.cell? ⟨S, 1, none⟩ = some (.slice a m cap) ∧ w1.frozen? ⟨S, 1, none⟩ = false) := Lib.hid fun nq w1 hg => by
    have hSlt : S < W.heap.size := Nat.lt_of_lt_of_le hsv.lt hsv.le
    have hn := rowS_ne hrowW hSW (by decide)
    have h1 : w1.heap[S]? = W.heap[S]? := (hg.block _ (by simp; exact Nat.lt_succ_of_lt hSlt) (fun e => hn e.symm)).trans (Lib.alloc_old ((W.drewN nq).drew) _ _ hSlt)
    exact ⟨(World.cell?_of_block (a := ⟨S, 1, none⟩) h1).trans ((cell_of_row _ _ 1 _ _ _ hSW).trans rfl), (World.frozen?_of_block (a := ⟨S, 1, none⟩) h1).trans (by simp [World.frozen?, hSW])⟩
  have HM : Hid (∀ (nq : Nat) (w1 : World) (gg cap' : Nat), (((W.drewN nq).drew).alloc (.cells #[.int .i64 p] 3)).grownBy w1 (Value.slice a m cap).ownBlock → w1.ownsRow B0 3 1 (.slice (some ⟨gg, 0, none⟩) (m + 1) cap') (m + 1) (cellsI ms ++ [.int .i64 p]) →
      SoMG w S s B0 xm c x p H NA N M root lv lo hi (ms ++ [p]) (w1.setCell ⟨S, 1, none⟩ (.slice (some ⟨gg, 0, none⟩) (m + 1) cap'))) := Lib.hid fun nq w1 gg cap' hg hown => by
    refine so_metG (V := (W.drewN nq).drew) ⟨hsv.box, hsv.row, hsv.lt, hsv.le⟩ ?_ (hshW.old ((KeptIn.refl _ W).drewN nq).drew) hD (sdz_old (hkW.drewN nq).drew) (Nat.le_of_eq hx) (hmm.old ((KeptIn.refl _ W).drewN nq).drew) hm hg hown
    rw [hx] at hbd
    exact hbd
  have hB0 : B0 ≤ W.heap.size := hsv.le
  have hS0 : S < B0 := hsv.lt
  have HROW := Lib.hid hrowW
  have hSx : S ≠ x := by rw [← hx]; have := h.lt; have := h.le; omega
  have HRD := Lib.hid hrd
  have HXM := Lib.hid hmm0.lt
  obtain ⟨ip, hip, hp0, hp1, hp2⟩ := info_parts infoInt8
  clear hrowW hshW hsv hkW hbd hp hI hSW h hsh hD hm hmm hmm0 hrd
  unfold mmI mmV pgV leadI at *
  rw [hx] at d0 d1 d2 d3 d4
  go_enter Try.func57, Try.ntmps57
  go_wp2_with fail
  go_quiet ((go_at_call 79; exact Calls.quiet_of_same (HQ.out _)))
  go_upto_region 3 with fail
  go_cut [] from 8 (fun wx => Hid (SoMG w S s B0 xm c x p H NA N M root lv lo hi (ms ++ [p]) wx))
  case first =>
    go_wp2_with fail
    have c1' : ((W.drewN nq).drew).cell? ⟨S, 1, none⟩ = some (.slice a m cap) := c1
    have x0' : ((W.drewN nq).drew).cell? ⟨x, 0, none⟩ = some (.int .i64 p) := d0
    have hrow8 : ((W.drewN nq).drew).ownsRow B0 3 1 (.slice a m cap) m (cellsI ms) := HROW.out
    have hsz8 : B0 ≤ ((W.drewN nq).drew).heap.size := hB0
    have hSV : S < ((W.drewN nq).drew).heap.size := Nat.lt_of_lt_of_le hS0 hB0
    have cc8 : (((W.drewN nq).drew).alloc (.cells #[.int .i64 p] 3)).cell? ⟨S, 1, none⟩ = some (.slice a m cap) := (World.cell?_of_block (a := ⟨S, 1, none⟩) (Lib.alloc_old ((W.drewN nq).drew) _ _ hSV)).trans c1
    have hgr8 := HG.out nq
    have hme8 := HM.out nq
    obtain ⟨V, hV⟩ : ∃ V, (W.drewN nq).drew = V := ⟨_, rfl⟩
    rw [hV] at c1' x0' hrow8 hsz8 hgr8 cc8 hme8
    clear hSV
    go_region_law (first
      | (refine step_append_lies _ (by rfl) _ _ 23 (by rfl) B0 3 ip _ 1 8 Try.underlying23 hip hp0 hp1 hp2 rfl (by omega) (.slice a m cap) m _ (by rfl) (hrow8.alloc _) ⟨V.heap.size, 0, none⟩ 1 1 [.int .i64 p] (by rfl) (by rfl) (World.news_of_block (cs := #[.int .i64 p]) (t := 3) (fr := (0, 0)) (heap_alloc_new V _)) (by simp [Value.oneCell']) (by omega) (by unfold maxLen; omega) (by omega) (by simp; omega) (V.heap.size + 1) (by simp) ?_; intro gg cap' w1 hown1 hgrow hat hlt1; obtain ⟨e0', ef⟩ := hgr8 w1 hgrow; have hmm := hme8 w1 gg cap' hgrow hown1))
    all_goals
      clear hgr8 hme8 hrow8
      go_wp2_with fail
      go_meet
      case rel => exact Lib.hid hmm
  case rest =>
    have HC := hcut
    clear hcut HM HG HQ HROW c0 c1 d0 d1 d2 d3 d4
    have HF := Lib.hid fun V (hk : KeptIn (fun j => j < wc.heap.size ∧ j ≠ xm) wc V) => HC.out.facts hk
    obtain ⟨c0, d0, d1, d2, d3, d4⟩ := HC.out.facts (KeptIn.refl _ wc)
    have HRC : Hid (∀ V, KeptIn (· < wc.heap.size) wc V → _) := Lib.hid fun V hk => HRD.out V (HC.out.choose_spec.2.2.2.2.2.2.old hk) (HC.out.choose_spec.2.2.1.old hk)
    have HKW : Hid (∀ V, KeptIn (fun j => j < wc.heap.size ∧ j ≠ xm) wc V → KeptIn (SdZ w S B0 xm) w V) := Lib.hid fun V hk => sdz_trans HC.out.choose_spec.2.2.2.2.1 (sdz_read hk)
    have HXW : Hid (xm < wc.heap.size) := Lib.hid HC.out.choose_spec.2.2.2.2.2.2.lt
    unfold mmI mmV pgV at HF c0
    clear HC
    go_upto_region 4 with fail
    go_cut [5, 6] from 8 (fun s5 s6 wx => s6 = .int .i64 ev ∧ Hid (KeptIn (SdZ w S B0 xm) w wx))
    case first =>
      go_wp2_with fail
      go_region_held3 (fun w' => w'.cell? ⟨S, 0, none⟩ = some (.iface 66 (.agg #[.iface 28 (.pointer (some ⟨s, 0, none⟩)), .map (some xm)])) ∧ w'.cell? ⟨x, 0, none⟩ = some (.int .i64 p) ∧ w'.cell? ⟨x, 1, none⟩ = some (.bool root) ∧ w'.cell? ⟨x, 2, none⟩ = some (.int .i64 lv) ∧ w'.cell? ⟨x, 3, none⟩ = some (.int .u64 (lo : Int)) ∧ w'.cell? ⟨x, 4, none⟩ = some (.int .u64 (hi : Int)))
        (first | exact ⟨c0, d0, d1, d2, d3, d4⟩ | exact HF.out _ (KeptIn.refl _ _).drew | exact HF.out _ (((KeptIn.refl _ _).alloc (fun _ h => h.1) _).drew) | exact HF.out _ (z_go (KeptIn.refl _ _).drew hk) | exact HF.out _ (z_go (((KeptIn.refl _ _).alloc (fun _ h => h) _).drew) hk) | exact HF.out _ ((z_go (KeptIn.refl _ _).drew hk).alloc (fun _ h => h.1) _) | exact HF.out _ (((z_go (KeptIn.refl _ _).drew hk).alloc (fun _ h => h.1) _).setCell (fun h => Nat.not_lt.2 hk.size h.1) _) | exact HF.out _ ((((z_go (KeptIn.refl _ _).drew hk).alloc (fun _ h => h.1) _).setCell (fun h => Nat.not_lt.2 hk.size h.1) _).setCell (fun h => Nat.not_lt.2 hk.size h.1) _) | exact HF.out _ (((z_go (((KeptIn.refl _ _).alloc (fun _ h => h) _).drew) hk).setCell (by simp) _).setCell (by simp) _))
        (first | (go_at_call 47; first | (refine (HRC.out wc.drew (KeptIn.refl _ _).drew).mono ?_; rintro e V ⟨rfl, hk⟩; unfold leafV) | (refine (HRC.out (wc.alloc (.cells #[.int .i64 0, .slice none 0 0] 27)).drew (((KeptIn.refl _ _).alloc (fun _ h => h) _).drew)).mono ?_; rintro e V ⟨rfl, hk⟩; have hb9 := (show BoxL wc.heap.size 0 none 0 0 (wc.alloc (.cells #[.int .i64 0, .slice none 0 0] 27)).drew from heap_alloc_new wc _).kept (W' := V) hk ⟨Nat.lt_of_lt_of_le (Nat.lt_succ_self _) (Nat.le_of_eq (World.size_alloc _ _).symm), Nat.ne_of_gt HXW.out⟩; have e0 := hb9.c0; have e1 := hb9.c1; have g0 := hb9.f0; have g1 := hb9.f1; unfold leafV)))
      · go_wp2_with fail
        go_meet
        case rel =>
          exact ⟨rfl, Lib.hid (HKW.out _ (bw_new hk))⟩
      · go_wp2_with fail
        go_meet
        case rel =>
          exact ⟨rfl, Lib.hid (HKW.out _ (bw_old hk))⟩
    case rest =>
      obtain ⟨rfl, hq⟩ := hcut
      clear HF HRC HKW c0 d0 d1 d2 d3 d4 HRD
      rcases hev with rfl | rfl
      · go_wp2_with fail
        go_ret
        exact ⟨rfl, hq.out⟩
      · go_wp2_with fail
        go_ret
        exact ⟨rfl, hq.out⟩

end Go.Proofs.Ytdbohcdjamhdjaa
/- Package tree's mayBeSound over a memo of a Shelf with whatever nodes: the walk. -/
set_option linter.unusedVariables false
namespace Go.Proofs.Ytdbohcdjamhdjaa
open Go.RowKit

/-- What a survey leaves. -/
def SoG (w : World) (S s B0 x c : Nat) (N : List Nd) (M : Int → Option (Option Lf9)) (ms : List Int) : Option (List Int) → Ending → World → Prop
  | none, e, w' => SoX w S B0 x e w'
  | some ms', e, w' => ∃ v qs, ms' = ms ++ qs ∧ e = .returned (.bool true) ∧ SvU w' S (mmI s x) B0 v ms' ∧ MmS w' x c N M qs ∧ KeptIn (SdZ w S B0 x) w w'
/-- What stands in the loop over a node's kids. -/
def SoKG (w : World) (S s B0 xm c z y p g n cg H : Nat) (NA : List NdA) (N : List Nd) (M : Int → Option (Option Lf9)) (root : Bool) (lv : Int) (lo hi : Nat) (L : Int) (ps : Pairs) (f : Nat → Nat → Int → List Int → Option (List Int)) (ms : List Int) (j : Nat) (W : World) : Prop :=
  ∃ v qs ms2, kidsTo f ps hi j (ms ++ [(p : Int)]) = some ms2 ∧ ms2 = ms ++ qs ∧ j ≤ n ∧ OkM NA.length ms2 ∧ SoFG w S s B0 xm c z y p g n cg H NA N M qs root lv lo hi L ps v ms2 W


set_option maxRecDepth 100000 in
set_option maxHeartbeats 4000000 in
theorem trSoundFit {NA : List NdA} {N : List Nd} (hNA : N9 NA = N) {s H xm ix p l : Nat} (hix : ix < N.length) (hqi : ix + 1 = p) {ps : Pairs} (hni : N[ix] = (l, ps)) (hgd : GdAt NA ix) (hfit : Fits ps) {root : Bool} {lv : Int} {lo hi : Nat} (hS : FitOk root lv lo hi l ps) (hhi : hi < 18446744073709551616)
    {w : World} {S B0 c : Nat} {v : Value} {ms : List Int} {M : Int → Option (Option Lf9)} (hsh : IsShA w s H NA) (hD : H ≤ S ∧ H ≤ xm) (h : SvU w S (mmI s xm) B0 v ms) (hmm0 : IsMm w xm c N M) (hom : OkM NA.length ms) (hml : ms.length ≤ 511) (hp : (p : Int) ∉ ms) (hcb : c + 1000 ≤ 90000 + ms.length)
    (f : Nat → Nat → Int → List Int → Option (List Int)) (hfo : ∀ lo' hi' q m m', f lo' hi' q m = some m' → OkM NA.length m → OkM NA.length m' ∧ ∃ qs, m' = m ++ qs)
    (ihK : 0 < l → ∀ (lo' hi' q : Nat) (V : World) (c' : Nat) (v' : Value) (ms' : List Int) (M' : Int → Option (Option Lf9)), IsShA V s H NA → SvU V S (mmI s xm) B0 v' ms' → IsMm V xm c' N M' → OkM NA.length ms' → c' + 1000 ≤ 90000 + ms'.length → hi' < 18446744073709551616 → q ≤ 511 →
      Calls Try.prog 57 #[.pointer (some ⟨S, 0, none⟩), leadI (q : Int) false ((l : Int) - 1) lo' hi'] V (SoG V S s B0 xm c' N M' ms' (f lo' hi' (q : Int) ms'))) :
    Calls Try.prog 57 #[.pointer (some ⟨S, 0, none⟩), leadI (p : Int) root lv lo hi] w (SoG w S s B0 xm c N M ms (if (l : Int) = 0 then some (ms ++ [(p : Int)]) else kidsTo f ps hi ps.length (ms ++ [(p : Int)]))) := by
  have hgood := (fit_good' hS).1
  obtain ⟨-, hl7, h15⟩ := good_parts hgood
  cases l with
  | zero =>
    rw [if_pos (show ((0 : Nat) : Int) = 0 from rfl)]
    unfold SoG
    clear ihK
    obtain ⟨a, cap, rfl⟩ := row_sliceI h.row
    obtain ⟨m, hm⟩ : ∃ m, ms.length = m := ⟨_, rfl⟩
    rw [hm] at h hml
    obtain ⟨W, hW⟩ : ∃ W, w.alloc (.cells #[.int .i64 (p : Int), .bool root, .int .i64 lv, .int .u64 (lo : Int), .int .u64 (hi : Int)] 111) = W := ⟨_, rfl⟩
    have hkW : KeptIn (· < w.heap.size) w W := by rw [← hW]; exact (KeptIn.refl _ w).alloc (fun _ h => h) _
    have hbd : BoxI w.heap.size (p : Int) root lv lo hi W := by rw [← hW]; exact BoxI.new w (p : Int) root lv lo hi
    have hsv := h.old hkW
    have hmm := hmm0.old hkW
    have hshW := hsh.old hkW
    have hSW : W.heap[S]? = some (.cells #[mmI s xm, .slice a m cap, .int .i64 0] 125 (0, 0)) := hsv.box
    have c0 : W.cell? ⟨S, 0, none⟩ = some (mmI s xm) := (cell_of_row _ _ 0 _ _ _ hSW).trans rfl
    have c1 : W.cell? ⟨S, 1, none⟩ = some (.slice a m cap) := (cell_of_row _ _ 1 _ _ _ hSW).trans rfl
    have hrowW : W.ownsRow B0 3 1 (.slice a m cap) m (cellsI ms) := by have := hsv.row; rw [hm] at this; exact this
    have hI : IntsL W a ms := by
      have h1 := hrowW
      rw [← hm] at h1
      exact rowIntsL h1 (by unfold maxLen; omega)
    have HQ := Lib.hid fun n => iContQ hI (x := (p : Int)) (cap := cap) hm (decide_eq_false hp) n
    have d0 := hbd.c0
    have d1 := hbd.c1
    have d2 := hbd.c2
    have d3 := hbd.c3
    have d4 := hbd.c4
    obtain ⟨x, hx⟩ : ∃ x, w.heap.size = x := ⟨_, rfl⟩
    have HG : Hid (∀ (nq : Nat) (w1 : World), (((W.drewN nq).drew).alloc (.cells #[.int .i64 (p : Int)] 3)).grownBy w1 (Value.slice a m cap).ownBlock → w1.cell? ⟨S, 1, none⟩ = some (.slice a m cap) ∧ w1.frozen? ⟨S, 1, none⟩ = false) := Lib.hid fun nq w1 hg => by
      have hSlt : S < W.heap.size := Nat.lt_of_lt_of_le hsv.lt hsv.le
      have hn := rowS_ne hrowW hSW (by decide)
      have h1 : w1.heap[S]? = W.heap[S]? := (hg.block _ (by simp; exact Nat.lt_succ_of_lt hSlt) (fun e => hn e.symm)).trans (Lib.alloc_old ((W.drewN nq).drew) _ _ hSlt)
      exact ⟨(World.cell?_of_block (a := ⟨S, 1, none⟩) h1).trans ((cell_of_row _ _ 1 _ _ _ hSW).trans rfl), (World.frozen?_of_block (a := ⟨S, 1, none⟩) h1).trans (by simp [World.frozen?, hSW])⟩
    have HM : Hid (∀ (nq : Nat) (w1 : World) (gg cap' : Nat), (((W.drewN nq).drew).alloc (.cells #[.int .i64 (p : Int)] 3)).grownBy w1 (Value.slice a m cap).ownBlock → w1.ownsRow B0 3 1 (.slice (some ⟨gg, 0, none⟩) (m + 1) cap') (m + 1) (cellsI ms ++ [.int .i64 (p : Int)]) →
        SoMG w S s B0 xm c x (p : Int) H NA N M root lv lo hi (ms ++ [(p : Int)]) (w1.setCell ⟨S, 1, none⟩ (.slice (some ⟨gg, 0, none⟩) (m + 1) cap'))) := Lib.hid fun nq w1 gg cap' hg hown => by
      refine so_metG (V := (W.drewN nq).drew) ⟨hsv.box, hsv.row, hsv.lt, hsv.le⟩ ?_ (hshW.old ((KeptIn.refl _ W).drewN nq).drew) hD (sdz_old (hkW.drewN nq).drew) (Nat.le_of_eq hx) (hmm.old ((KeptIn.refl _ W).drewN nq).drew) hm hg hown
      rw [hx] at hbd
      exact hbd
    have hB0 : B0 ≤ W.heap.size := hsv.le
    have hS0 : S < B0 := hsv.lt
    have HROW := Lib.hid hrowW
    have hSx : S ≠ x := by rw [← hx]; have := h.lt; have := h.le; omega
    have HRD : Hid (∀ V, IsMm V xm c N M → IsShA V s H NA → Calls Try.prog 47 #[leadV p root lv lo hi, mmI s xm] V (MmR V xm c N M (p : Int) (0 : Int) ps)) := Lib.hid fun V hV hV2 => by
      have := trLeadG hNA hV hV2 (by omega) ix hix hgd (by rw [hni]; exact hfit) root lv lo hi (by rw [hni]; exact hS)
      rw [hqi, hni] at this
      try rw [hLV] at this
      exact this
    have HIX : Hid (∃ (i : Nat) (h : i < N.length), i + 1 = p ∧ N[i].2 = ps) := Lib.hid ⟨ix, hix, hqi, by rw [hni]⟩
    obtain ⟨ip, hip, hp0, hp1, hp2⟩ := info_parts infoInt8
    obtain ⟨n, hn⟩ : ∃ n, ps.length = n := ⟨_, rfl⟩
    have HN := Lib.hid hn
    have HML := Lib.hid hm
    have HH := Lib.hid (And.intro hom (And.intro hcb hp))
    clear hrowW hshW hsv hkW hbd hp hI hSW h hsh hD hS hix hqi hni hn hm hmm hmm0 hcb hom hgd hNA hfit
    unfold mmI mmV pgV leadV leadI at *
    rw [hx] at d0 d1 d2 d3 d4
    go_enter Try.func57, Try.ntmps57
    go_wp2_with fail
    go_quiet ((go_at_call 79; exact Calls.quiet_of_same (HQ.out _)))
    go_upto_region 3 with fail
    go_cut [] from 8 (fun wx => Hid (SoMG w S s B0 xm c x (p : Int) H NA N M root lv lo hi (ms ++ [(p : Int)]) wx))
    case first =>
      go_wp2_with fail
      have c1' : ((W.drewN nq).drew).cell? ⟨S, 1, none⟩ = some (.slice a m cap) := c1
      have x0' : ((W.drewN nq).drew).cell? ⟨x, 0, none⟩ = some (.int .i64 (p : Int)) := d0
      have hrow8 : ((W.drewN nq).drew).ownsRow B0 3 1 (.slice a m cap) m (cellsI ms) := HROW.out
      have hsz8 : B0 ≤ ((W.drewN nq).drew).heap.size := hB0
      have hSV : S < ((W.drewN nq).drew).heap.size := Nat.lt_of_lt_of_le hS0 hB0
      have cc8 : (((W.drewN nq).drew).alloc (.cells #[.int .i64 (p : Int)] 3)).cell? ⟨S, 1, none⟩ = some (.slice a m cap) := (World.cell?_of_block (a := ⟨S, 1, none⟩) (Lib.alloc_old ((W.drewN nq).drew) _ _ hSV)).trans c1
      have hgr8 := HG.out nq
      have hme8 := HM.out nq
      obtain ⟨V, hV⟩ : ∃ V, (W.drewN nq).drew = V := ⟨_, rfl⟩
      rw [hV] at c1' x0' hrow8 hsz8 hgr8 cc8 hme8
      clear hSV
      go_region_law (first
        | (refine step_append_lies _ (by rfl) _ _ 23 (by rfl) B0 3 ip _ 1 8 Try.underlying23 hip hp0 hp1 hp2 rfl (by omega) (.slice a m cap) m _ (by rfl) (hrow8.alloc _) ⟨V.heap.size, 0, none⟩ 1 1 [.int .i64 (p : Int)] (by rfl) (by rfl) (World.news_of_block (cs := #[.int .i64 (p : Int)]) (t := 3) (fr := (0, 0)) (heap_alloc_new V _)) (by simp [Value.oneCell']) (by omega) (by unfold maxLen; omega) (by omega) (by simp; omega) (V.heap.size + 1) (by simp) ?_; intro gg cap' w1 hown1 hgrow hat hlt1; obtain ⟨e0', ef⟩ := hgr8 w1 hgrow; have hmm := hme8 w1 gg cap' hgrow hown1))
      all_goals
        clear hgr8 hme8 hrow8
        go_wp2_with fail
        go_meet
        case rel => exact Lib.hid hmm
    case rest =>
      have HC := hcut
      clear hcut HM HG HQ HROW c0 c1 d0 d1 d2 d3 d4
      have HF := Lib.hid fun V (hk : KeptIn (fun j => j < wc.heap.size ∧ j ≠ xm) wc V) => HC.out.facts hk
      obtain ⟨c0, d0, d1, d2, d3, d4⟩ := HC.out.facts (KeptIn.refl _ wc)
      have HRC : Hid (∀ V, KeptIn (· < wc.heap.size) wc V → _) := Lib.hid fun V hk => HRD.out V (HC.out.choose_spec.2.2.2.2.2.2.old hk) (HC.out.choose_spec.2.2.1.old hk)
      have HXW : Hid (xm < wc.heap.size) := Lib.hid HC.out.choose_spec.2.2.2.2.2.2.lt
      unfold mmI mmV pgV at HF c0
      go_upto_region 4 with fail
      go_cut [5, 6] from 8 (fun s5 s6 wx => ∃ y g cg : Nat, s5 = .pointer (some ⟨y, 0, none⟩) ∧ s6 = .int .i64 0 ∧ Hid (∃ v, SoFG w S s B0 xm c x y p g n cg H NA N M [(p : Int)] root lv lo hi 0 ps v (ms ++ [(p : Int)]) wx))
      case first =>
        go_wp2_with fail
        go_region_held3 (fun w' => w'.cell? ⟨S, 0, none⟩ = some (.iface 66 (.agg #[.iface 28 (.pointer (some ⟨s, 0, none⟩)), .map (some xm)])) ∧ w'.cell? ⟨x, 0, none⟩ = some (.int .i64 (p : Int)) ∧ w'.cell? ⟨x, 1, none⟩ = some (.bool root) ∧ w'.cell? ⟨x, 2, none⟩ = some (.int .i64 lv) ∧ w'.cell? ⟨x, 3, none⟩ = some (.int .u64 (lo : Int)) ∧ w'.cell? ⟨x, 4, none⟩ = some (.int .u64 (hi : Int)))
          (first | exact ⟨c0, d0, d1, d2, d3, d4⟩ | exact HF.out _ (KeptIn.refl _ _).drew | exact HF.out _ (((KeptIn.refl _ _).alloc (fun _ h => h.1) _).drew) | exact HF.out _ (z_go (KeptIn.refl _ _).drew hk) | exact HF.out _ (z_go (((KeptIn.refl _ _).alloc (fun _ h => h) _).drew) hk) | exact HF.out _ ((z_go (KeptIn.refl _ _).drew hk).alloc (fun _ h => h.1) _) | exact HF.out _ (((z_go (KeptIn.refl _ _).drew hk).alloc (fun _ h => h.1) _).setCell (fun h => Nat.not_lt.2 hk.size h.1) _) | exact HF.out _ ((((z_go (KeptIn.refl _ _).drew hk).alloc (fun _ h => h.1) _).setCell (fun h => Nat.not_lt.2 hk.size h.1) _).setCell (fun h => Nat.not_lt.2 hk.size h.1) _) | exact HF.out _ (((z_go (((KeptIn.refl _ _).alloc (fun _ h => h) _).drew) hk).setCell (by simp) _).setCell (by simp) _))
          (first | (go_at_call 47; first | (refine (HRC.out wc.drew (KeptIn.refl _ _).drew).mono ?_; rintro e V ⟨g, cg, c', M', rfl, hmr, hz, hq, hcc, hk⟩; rw [HN.out]; rw [HN.out] at hz; unfold leafV) | (refine (HRC.out (wc.alloc (.cells #[.int .i64 0, .slice none 0 0] 27)).drew (((KeptIn.refl _ _).alloc (fun _ h => h) _).drew)).mono ?_; rintro e V ⟨g, cg, c', M', rfl, hmr, hz, hq, hcc, hk⟩; have hb9 := (show BoxL wc.heap.size 0 none 0 0 (wc.alloc (.cells #[.int .i64 0, .slice none 0 0] 27)).drew from heap_alloc_new wc _).kept (W' := V) hk ⟨Nat.lt_of_lt_of_le (Nat.lt_succ_self _) (Nat.le_of_eq (World.size_alloc _ _).symm), Nat.ne_of_gt HXW.out⟩; have e0 := hb9.c0; have e1 := hb9.c1; have g0 := hb9.f0; have g1 := hb9.f1; rw [HN.out]; rw [HN.out] at hz; unfold leafV)))
        · go_wp2_with fail
          go_meet
          case rel =>
            obtain ⟨i9, hi9, hp9, he9⟩ := HIX.out
            exact ⟨_, _, _, rfl, rfl, Lib.hid (so_readG2p HC.out hi9 hp9 he9 (z_go (KeptIn.refl _ wc).drew hk) hmr hz hq hcc HN.out)⟩
        · go_wp2_with fail
          go_meet
          case rel =>
            obtain ⟨i9, hi9, hp9, he9⟩ := HIX.out
            exact ⟨_, _, _, rfl, rfl, Lib.hid (so_readGp HC.out hi9 hp9 he9 (((KeptIn.refl _ wc).alloc (fun _ h => h) _).drew) rfl (show BoxL wc.heap.size 0 none 0 0 (wc.alloc (.cells #[.int .i64 0, .slice none 0 0] 27)).drew from heap_alloc_new wc _) hk hmr hz hq hcc HN.out)⟩
      case rest =>
        obtain ⟨y, g, cg, rfl, rfl, hq⟩ := hcut
        have HQ := hq
        clear hq HC HF HRC HXW HIX c0 d0 d1 d2 d3 d4 HRD
        obtain ⟨v2, hF⟩ := HQ.out
        have y0 := hF.leaf.c0
        have y1 := hF.leaf.c1
        have HF := Lib.hid hF
        clear HQ hF
        go_wp2_with fail
        go_ret
        exact ⟨v2, [(p : Int)], rfl, rfl, HF.out.sv, HF.out.mm, HF.out.kept⟩
  | succ l =>
    rw [if_neg (by omega)]
    have hval := good_vals hgood (by omega)
    have CT : ∀ (j g cg : Nat) (W : World), j < ps.length → IsPs W (some ⟨g, 0, none⟩) ps → Calls Try.prog 50 #[leafV ((l + 1 : Nat) : Int) (some ⟨g, 0, none⟩) ps.length cg, .int .i64 (j : Int), .int .u64 (hi : Int)] W fun e w' => e = .returned (leadV (valAt ps j) false (l : Int) (keyAt ps j) (highOf ps j hi)) ∧ KeptIn (· < W.heap.size) W w' := by
      intro j g cg W hj hp
      have := trToChild (l + 1) (some ⟨g, 0, none⟩) cg ps j hi W hp (good_rises hgood) hj (by omega) ⟨by omega, by omega⟩ (hval j hj).2
      rw [show ((l + 1 : Nat) : Int) - 1 = (l : Int) by omega] at this
      exact this
    replace ihK := ihK (Nat.succ_pos l)
    rw [show ((l + 1 : Nat) : Int) - 1 = (l : Int) by omega] at ihK
    have z0 : (((l + 1 : Nat) : Int) == 0) = false := by rw [beq_eq_false_iff_ne]; omega
    have z1 : ¬ ((l + 1 : Nat) : Int) = 0 := by omega
    obtain ⟨LV, hLV⟩ : ∃ LV : Int, ((l + 1 : Nat) : Int) = LV := ⟨_, rfl⟩
    rw [hLV] at z0 z1 CT
    have HCT := Lib.hid CT
    have HX := Lib.hid (And.intro h15 hhi)
    have HV := Lib.hid (And.intro hval (And.intro hfit hNA))
    have HI := Lib.hid ihK
    have HFO := Lib.hid hfo
    have HRG : Hid ((p : Int) ∉ ms ∧ 1 ≤ (p : Int) ∧ (p : Int) ≤ (NA.length : Int)) := Lib.hid ⟨hp, by omega, by rw [← hNA, N9, List.length_map] at hix; omega⟩
    obtain ⟨R, hR⟩ : ∃ R, kidsTo f ps hi ps.length (ms ++ [(p : Int)]) = R := ⟨_, rfl⟩
    have HR := Lib.hid hR
    rw [hR]
    clear CT hgood hval ihK hfo hR
    unfold leafV at HCT
    obtain ⟨a, cap, rfl⟩ := row_sliceI h.row
    obtain ⟨m, hm⟩ : ∃ m, ms.length = m := ⟨_, rfl⟩
    rw [hm] at h hml
    obtain ⟨W, hW⟩ : ∃ W, w.alloc (.cells #[.int .i64 (p : Int), .bool root, .int .i64 lv, .int .u64 (lo : Int), .int .u64 (hi : Int)] 111) = W := ⟨_, rfl⟩
    have hkW : KeptIn (· < w.heap.size) w W := by rw [← hW]; exact (KeptIn.refl _ w).alloc (fun _ h => h) _
    have hbd : BoxI w.heap.size (p : Int) root lv lo hi W := by rw [← hW]; exact BoxI.new w (p : Int) root lv lo hi
    have hsv := h.old hkW
    have hmm := hmm0.old hkW
    have hshW := hsh.old hkW
    have hSW : W.heap[S]? = some (.cells #[mmI s xm, .slice a m cap, .int .i64 0] 125 (0, 0)) := hsv.box
    have c0 : W.cell? ⟨S, 0, none⟩ = some (mmI s xm) := (cell_of_row _ _ 0 _ _ _ hSW).trans rfl
    have c1 : W.cell? ⟨S, 1, none⟩ = some (.slice a m cap) := (cell_of_row _ _ 1 _ _ _ hSW).trans rfl
    have hrowW : W.ownsRow B0 3 1 (.slice a m cap) m (cellsI ms) := by have := hsv.row; rw [hm] at this; exact this
    have hI : IntsL W a ms := by
      have h1 := hrowW
      rw [← hm] at h1
      exact rowIntsL h1 (by unfold maxLen; omega)
    have HQ := Lib.hid fun n => iContQ hI (x := (p : Int)) (cap := cap) hm (decide_eq_false hp) n
    have d0 := hbd.c0
    have d1 := hbd.c1
    have d2 := hbd.c2
    have d3 := hbd.c3
    have d4 := hbd.c4
    obtain ⟨x, hx⟩ : ∃ x, w.heap.size = x := ⟨_, rfl⟩
    have HG : Hid (∀ (nq : Nat) (w1 : World), (((W.drewN nq).drew).alloc (.cells #[.int .i64 (p : Int)] 3)).grownBy w1 (Value.slice a m cap).ownBlock → w1.cell? ⟨S, 1, none⟩ = some (.slice a m cap) ∧ w1.frozen? ⟨S, 1, none⟩ = false) := Lib.hid fun nq w1 hg => by
      have hSlt : S < W.heap.size := Nat.lt_of_lt_of_le hsv.lt hsv.le
      have hn := rowS_ne hrowW hSW (by decide)
      have h1 : w1.heap[S]? = W.heap[S]? := (hg.block _ (by simp; exact Nat.lt_succ_of_lt hSlt) (fun e => hn e.symm)).trans (Lib.alloc_old ((W.drewN nq).drew) _ _ hSlt)
      exact ⟨(World.cell?_of_block (a := ⟨S, 1, none⟩) h1).trans ((cell_of_row _ _ 1 _ _ _ hSW).trans rfl), (World.frozen?_of_block (a := ⟨S, 1, none⟩) h1).trans (by simp [World.frozen?, hSW])⟩
    have HM : Hid (∀ (nq : Nat) (w1 : World) (gg cap' : Nat), (((W.drewN nq).drew).alloc (.cells #[.int .i64 (p : Int)] 3)).grownBy w1 (Value.slice a m cap).ownBlock → w1.ownsRow B0 3 1 (.slice (some ⟨gg, 0, none⟩) (m + 1) cap') (m + 1) (cellsI ms ++ [.int .i64 (p : Int)]) →
        SoMG w S s B0 xm c x (p : Int) H NA N M root lv lo hi (ms ++ [(p : Int)]) (w1.setCell ⟨S, 1, none⟩ (.slice (some ⟨gg, 0, none⟩) (m + 1) cap'))) := Lib.hid fun nq w1 gg cap' hg hown => by
      refine so_metG (V := (W.drewN nq).drew) ⟨hsv.box, hsv.row, hsv.lt, hsv.le⟩ ?_ (hshW.old ((KeptIn.refl _ W).drewN nq).drew) hD (sdz_old (hkW.drewN nq).drew) (Nat.le_of_eq hx) (hmm.old ((KeptIn.refl _ W).drewN nq).drew) hm hg hown
      rw [hx] at hbd
      exact hbd
    have hB0 : B0 ≤ W.heap.size := hsv.le
    have hS0 : S < B0 := hsv.lt
    have HROW := Lib.hid hrowW
    have hSx : S ≠ x := by rw [← hx]; have := h.lt; have := h.le; omega
    have HRD : Hid (∀ V, IsMm V xm c N M → IsShA V s H NA → Calls Try.prog 47 #[leadV p root lv lo hi, mmI s xm] V (MmR V xm c N M (p : Int) (LV : Int) ps)) := Lib.hid fun V hV hV2 => by
      have := trLeadG hNA hV hV2 (by omega) ix hix hgd (by rw [hni]; exact hfit) root lv lo hi (by rw [hni]; exact hS)
      rw [hqi, hni] at this
      try rw [hLV] at this
      exact this
    have HIX : Hid (∃ (i : Nat) (h : i < N.length), i + 1 = p ∧ N[i].2 = ps) := Lib.hid ⟨ix, hix, hqi, by rw [hni]⟩
    obtain ⟨ip, hip, hp0, hp1, hp2⟩ := info_parts infoInt8
    obtain ⟨n, hn⟩ : ∃ n, ps.length = n := ⟨_, rfl⟩
    have HN := Lib.hid hn
    have HML := Lib.hid hm
    have HH := Lib.hid (And.intro hom (And.intro hcb hp))
    clear hrowW hshW hsv hkW hbd hp hI hSW h hsh hD hS hix hqi hni hn hm hmm hmm0 hcb hom hgd hNA hfit
    unfold mmI mmV pgV leadV leadI at *
    rw [hx] at d0 d1 d2 d3 d4
    go_enter Try.func57, Try.ntmps57
    go_wp2_with fail
    go_quiet ((go_at_call 79; exact Calls.quiet_of_same (HQ.out _)))
    go_upto_region 3 with fail
    go_cut [] from 8 (fun wx => Hid (SoMG w S s B0 xm c x (p : Int) H NA N M root lv lo hi (ms ++ [(p : Int)]) wx))
    case first =>
      go_wp2_with fail
      have c1' : ((W.drewN nq).drew).cell? ⟨S, 1, none⟩ = some (.slice a m cap) := c1
      have x0' : ((W.drewN nq).drew).cell? ⟨x, 0, none⟩ = some (.int .i64 (p : Int)) := d0
      have hrow8 : ((W.drewN nq).drew).ownsRow B0 3 1 (.slice a m cap) m (cellsI ms) := HROW.out
      have hsz8 : B0 ≤ ((W.drewN nq).drew).heap.size := hB0
      have hSV : S < ((W.drewN nq).drew).heap.size := Nat.lt_of_lt_of_le hS0 hB0
      have cc8 : (((W.drewN nq).drew).alloc (.cells #[.int .i64 (p : Int)] 3)).cell? ⟨S, 1, none⟩ = some (.slice a m cap) := (World.cell?_of_block (a := ⟨S, 1, none⟩) (Lib.alloc_old ((W.drewN nq).drew) _ _ hSV)).trans c1
      have hgr8 := HG.out nq
      have hme8 := HM.out nq
      obtain ⟨V, hV⟩ : ∃ V, (W.drewN nq).drew = V := ⟨_, rfl⟩
      rw [hV] at c1' x0' hrow8 hsz8 hgr8 cc8 hme8
      clear hSV
      go_region_law (first
        | (refine step_append_lies _ (by rfl) _ _ 23 (by rfl) B0 3 ip _ 1 8 Try.underlying23 hip hp0 hp1 hp2 rfl (by omega) (.slice a m cap) m _ (by rfl) (hrow8.alloc _) ⟨V.heap.size, 0, none⟩ 1 1 [.int .i64 (p : Int)] (by rfl) (by rfl) (World.news_of_block (cs := #[.int .i64 (p : Int)]) (t := 3) (fr := (0, 0)) (heap_alloc_new V _)) (by simp [Value.oneCell']) (by omega) (by unfold maxLen; omega) (by omega) (by simp; omega) (V.heap.size + 1) (by simp) ?_; intro gg cap' w1 hown1 hgrow hat hlt1; obtain ⟨e0', ef⟩ := hgr8 w1 hgrow; have hmm := hme8 w1 gg cap' hgrow hown1))
      all_goals
        clear hgr8 hme8 hrow8
        go_wp2_with fail
        go_meet
        case rel => exact Lib.hid hmm
    case rest =>
      have HC := hcut
      clear hcut HM HG HQ HROW c0 c1 d0 d1 d2 d3 d4
      have HF := Lib.hid fun V (hk : KeptIn (fun j => j < wc.heap.size ∧ j ≠ xm) wc V) => HC.out.facts hk
      obtain ⟨c0, d0, d1, d2, d3, d4⟩ := HC.out.facts (KeptIn.refl _ wc)
      have HRC : Hid (∀ V, KeptIn (· < wc.heap.size) wc V → _) := Lib.hid fun V hk => HRD.out V (HC.out.choose_spec.2.2.2.2.2.2.old hk) (HC.out.choose_spec.2.2.1.old hk)
      have HXW : Hid (xm < wc.heap.size) := Lib.hid HC.out.choose_spec.2.2.2.2.2.2.lt
      unfold mmI mmV pgV at HF c0
      go_upto_region 4 with fail
      go_cut [5, 6] from 8 (fun s5 s6 wx => ∃ y g cg : Nat, s5 = .pointer (some ⟨y, 0, none⟩) ∧ s6 = .int .i64 0 ∧ Hid (∃ v, SoFG w S s B0 xm c x y p g n cg H NA N M [(p : Int)] root lv lo hi LV ps v (ms ++ [(p : Int)]) wx))
      case first =>
        go_wp2_with fail
        go_region_held3 (fun w' => w'.cell? ⟨S, 0, none⟩ = some (.iface 66 (.agg #[.iface 28 (.pointer (some ⟨s, 0, none⟩)), .map (some xm)])) ∧ w'.cell? ⟨x, 0, none⟩ = some (.int .i64 (p : Int)) ∧ w'.cell? ⟨x, 1, none⟩ = some (.bool root) ∧ w'.cell? ⟨x, 2, none⟩ = some (.int .i64 lv) ∧ w'.cell? ⟨x, 3, none⟩ = some (.int .u64 (lo : Int)) ∧ w'.cell? ⟨x, 4, none⟩ = some (.int .u64 (hi : Int)))
          (first | exact ⟨c0, d0, d1, d2, d3, d4⟩ | exact HF.out _ (KeptIn.refl _ _).drew | exact HF.out _ (((KeptIn.refl _ _).alloc (fun _ h => h.1) _).drew) | exact HF.out _ (z_go (KeptIn.refl _ _).drew hk) | exact HF.out _ (z_go (((KeptIn.refl _ _).alloc (fun _ h => h) _).drew) hk) | exact HF.out _ ((z_go (KeptIn.refl _ _).drew hk).alloc (fun _ h => h.1) _) | exact HF.out _ (((z_go (KeptIn.refl _ _).drew hk).alloc (fun _ h => h.1) _).setCell (fun h => Nat.not_lt.2 hk.size h.1) _) | exact HF.out _ ((((z_go (KeptIn.refl _ _).drew hk).alloc (fun _ h => h.1) _).setCell (fun h => Nat.not_lt.2 hk.size h.1) _).setCell (fun h => Nat.not_lt.2 hk.size h.1) _) | exact HF.out _ (((z_go (((KeptIn.refl _ _).alloc (fun _ h => h) _).drew) hk).setCell (by simp) _).setCell (by simp) _))
          (first | (go_at_call 47; first | (refine (HRC.out wc.drew (KeptIn.refl _ _).drew).mono ?_; rintro e V ⟨g, cg, c', M', rfl, hmr, hz, hq, hcc, hk⟩; rw [HN.out]; rw [HN.out] at hz; unfold leafV) | (refine (HRC.out (wc.alloc (.cells #[.int .i64 0, .slice none 0 0] 27)).drew (((KeptIn.refl _ _).alloc (fun _ h => h) _).drew)).mono ?_; rintro e V ⟨g, cg, c', M', rfl, hmr, hz, hq, hcc, hk⟩; have hb9 := (show BoxL wc.heap.size 0 none 0 0 (wc.alloc (.cells #[.int .i64 0, .slice none 0 0] 27)).drew from heap_alloc_new wc _).kept (W' := V) hk ⟨Nat.lt_of_lt_of_le (Nat.lt_succ_self _) (Nat.le_of_eq (World.size_alloc _ _).symm), Nat.ne_of_gt HXW.out⟩; have e0 := hb9.c0; have e1 := hb9.c1; have g0 := hb9.f0; have g1 := hb9.f1; rw [HN.out]; rw [HN.out] at hz; unfold leafV)))
        · go_wp2_with fail
          go_meet
          case rel =>
            obtain ⟨i9, hi9, hp9, he9⟩ := HIX.out
            exact ⟨_, _, _, rfl, rfl, Lib.hid (so_readG2p HC.out hi9 hp9 he9 (z_go (KeptIn.refl _ wc).drew hk) hmr hz hq hcc HN.out)⟩
        · go_wp2_with fail
          go_meet
          case rel =>
            obtain ⟨i9, hi9, hp9, he9⟩ := HIX.out
            exact ⟨_, _, _, rfl, rfl, Lib.hid (so_readGp HC.out hi9 hp9 he9 (((KeptIn.refl _ wc).alloc (fun _ h => h) _).drew) rfl (show BoxL wc.heap.size 0 none 0 0 (wc.alloc (.cells #[.int .i64 0, .slice none 0 0] 27)).drew from heap_alloc_new wc _) hk hmr hz hq hcc HN.out)⟩
      case rest =>
        obtain ⟨y, g, cg, rfl, rfl, hq⟩ := hcut
        have HQ := hq
        clear hq HC HF HRC HXW HIX c0 d0 d1 d2 d3 d4 HRD
        obtain ⟨v2, hF⟩ := HQ.out
        have y0 := hF.leaf.c0
        have y1 := hF.leaf.c1
        have HF := Lib.hid hF
        clear HQ hF
        have HI0 : Hid (SoKG w S s B0 xm c x y p g n cg H NA N M root lv lo hi LV ps f ms 0 wc) := Lib.hid ⟨v2, [(p : Int)], _, rfl, rfl, Nat.zero_le _, HH.out.1.snoc HRG.out.1 HRG.out.2.1 HRG.out.2.2, HF.out⟩
        have hn15 : n ≤ 15 := by rw [← HN.out]; exact HX.out.1
        go_wp2_with fail
        go_loopw [7, 53] (fun _ i wr => ∃ (j : Nat) (W : World), W = wr ∧ i = .int .i64 (j : Int) ∧ Hid (SoKG w S s B0 xm c x y p g n cg H NA N M root lv lo hi LV ps f ms j W)) (fun _ i _ => n - (intOf i).toNat)
        case atStart => exact ⟨0, _, rfl, rfl, HI0⟩
        case round =>
          obtain ⟨j, W, rfl, rfl, HJ⟩ := hrel
          clear HI0 y0 y1 HF
          by_cases hlt : j < n
          · obtain ⟨t1, t2, t3, t4⟩ := rg_idx j n hlt (by omega)
            clear t3
            obtain ⟨v3, qs3, ms3, hk3, e3, hjn, ho3, hF⟩ := HJ.out
            obtain ⟨c2, M2, hmk, hcq, hmo⟩ := hF.mm
            have hhi2 := highOf_lt ps j hi hF.isps.fits HX.out.2
            have y0 := hF.leaf.c0
            have y1 := hF.leaf.c1
            have y2 := hF.lead.c4
            have HCH := Lib.hid (HCT.out j g cg W (by rw [HN.out]; exact hlt) hF.isps)
            rw [HN.out] at HCH
            have hcc : c2 + 1000 ≤ 90000 + ms3.length := by
              have h1 := HH.out.2.1
              rw [e3, List.length_append]
              omega
            have HG : Hid (∀ V, KeptIn (· < W.heap.size) W V → Calls Try.prog 57 #[.pointer (some ⟨S, 0, none⟩), .agg #[.int .i64 (valAt ps j : Int), .bool false, .int .i64 (l : Int), .int .u64 (keyAt ps j : Int), .int .u64 (highOf ps j hi : Int)]] V (SoG V S s B0 xm c2 N M2 ms3 (f (keyAt ps j) (highOf ps j hi) ((valAt ps j : Nat) : Int) ms3))) := Lib.hid fun V hk => by
              have hV := hF.old hk
              exact HI.out _ _ _ V c2 v3 ms3 M2 hV.sh hV.sv (hmk.old hk) ho3 hcc hhi2 (HV.out.1 j (by rw [HN.out]; exact hlt)).2
            have hst : kidsTo f ps hi (j + 1) (ms ++ [(p : Int)]) = f (keyAt ps j) (highOf ps j hi) ((valAt ps j : Nat) : Int) ms3 := by rw [kidsTo, hk3]; rfl
            have HKD : Hid (∀ V, KeptIn (· < W.heap.size) W V → ∀ W', KeptIn (SdZ V S B0 xm) V W' → KeptIn (SdZ w S B0 xm) w W') := Lib.hid fun V hk W' hk2 => sdz_trans (hF.old hk).kept hk2
            obtain ⟨F, hFF⟩ : ∃ F, f (keyAt ps j) (highOf ps j hi) ((valAt ps j : Nat) : Int) ms3 = F := ⟨_, rfl⟩
            rw [hFF] at HG hst
            have hof : ∀ m4, F = some m4 → OkM NA.length m4 := fun m4 e => (HFO.out _ _ _ _ _ (hFF.trans e) ho3).1
            have HST := Lib.hid (And.intro hst (And.intro hof e3))
            have HNX : Hid (∀ V W' v' qs4, F = some (ms3 ++ qs4) → KeptIn (· < W.heap.size) W V → SvU W' S (mmI s xm) B0 v' (ms3 ++ qs4) → MmS W' xm c2 N M2 qs4 → KeptIn (SdZ V S B0 xm) V W' → SoKG w S s B0 xm c x y p g n cg H NA N M root lv lo hi LV ps f ms (j + 1) W') := Lib.hid fun V W' v' qs4 h0 h1 h2 h4 h3 => ⟨v', qs3 ++ qs4, ms3 ++ qs4, hst.trans h0, by rw [e3, List.append_assoc], by omega, hof _ h0, (hF.old h1).go h3 h2 (MmS.trans hcq hmo h4)⟩
            clear hhi2 hF HJ hmk hcq hmo hk3 e3 ho3 hcc hst hFF hof hjn
            obtain ⟨kk, hkk⟩ : ∃ kk, keyAt ps j = kk := ⟨_, rfl⟩
            obtain ⟨vv, hvv⟩ : ∃ vv, valAt ps j = vv := ⟨_, rfl⟩
            obtain ⟨hh, hhe⟩ : ∃ hh, highOf ps j hi = hh := ⟨_, rfl⟩
            rw [hkk, hvv, hhe] at HG HCH
            clear hkk hvv hhe
            cases F with
            | none =>
              unfold SoG SoX at HG
              go_wp2_with (first
                | (go_at_call 50; refine HCH.out.mono ?_; rintro e V2 ⟨rfl, hk2⟩; have HCB := Lib.hid (HG.out V2 hk2); have HK2 := Lib.hid hk2; clear hk2)
                | (go_at_call 57; refine HCB.out.mono ?_; rintro e V3 ⟨rfl, hk4⟩; have HO := Lib.hid (HKD.out V2 HK2.out V3 hk4); clear hk4))
              go_ret
              have hRn : R = none := by rw [← HR.out]; exact kidsTo_none HST.out.1 (by rw [HN.out]; exact hlt)
              rw [hRn]
              exact ⟨rfl, HO.out⟩
            | some m4 =>
              unfold SoG at HG
              go_wp2_with (first
                | (go_at_call 50; refine HCH.out.mono ?_; rintro e V2 ⟨rfl, hk2⟩; have HCB := Lib.hid (HG.out V2 hk2); have HK2 := Lib.hid hk2; clear hk2)
                | (go_at_call 57; refine HCB.out.mono ?_; rintro e V3 ⟨v4, qs4, rfl, rfl, hs4, hm4, hk4⟩; have HO := Lib.hid (HNX.out V2 V3 v4 qs4 rfl HK2.out hs4 hm4 hk4); clear hs4 hm4 hk4))
              go_roundw
              case rel => exact ⟨j + 1, _, rfl, congrArg (Value.int .i64) (rg_succ j), HO⟩
              case measure => simp only [intOf]; exact rg_meas j n hlt
          · obtain ⟨u1, u2⟩ := rg_ge hlt
            have HE : Hid (SoG w S s B0 xm c N M ms R (.returned (.bool true)) W) := Lib.hid (by
              obtain ⟨v3, qs3, ms3, hk3, e3, hjn, ho3, hF⟩ := HJ.out
              obtain rfl : j = n := by omega
              have hRs : R = some ms3 := by rw [← HR.out, HN.out]; exact hk3
              rw [hRs]
              exact ⟨v3, qs3, e3, rfl, hF.sv, hF.mm, hF.kept⟩)
            clear HJ
            go_wp2_with fail
            go_ret
            exact HE.out

end Go.Proofs.Ytdbohcdjamhdjaa
/- Package tree's mayBeSound, Reach, Check over a memo of a Shelf with whatever nodes. -/
set_option linter.unusedVariables false
namespace Go.Proofs.Ytdbohcdjamhdjaa
open Go.RowKit

theorem IsShA.fits {W : World} {s H : Nat} {NA : List NdA} (h : IsShA W s H NA) (i : Nat) (hi : i < NA.length) : Fits NA[i].2 := by
  obtain ⟨la, cap, _, h2⟩ := h.mem
  obtain ⟨b, off, _, _, hn⟩ := h2 (by omega)
  obtain ⟨a, cp, _, _, h3, _⟩ := hn i hi
  exact h3.fits

theorem trSoundG {NA : List NdA} {N : List Nd} (hNA : N9 NA = N) {s H xm : Nat} : ∀ (n : Nat) {root : Bool} {lv : Int} {lo hi : Nat} {p : Int} {w : World} {S B0 c : Nat} {v : Value} {ms : List Int} {M : Int → Option (Option Lf9)}, IsShA w s H NA → (H ≤ S ∧ H ≤ xm) → SvU w S (mmI s xm) B0 v ms → IsMm w xm c N M → OkM NA.length ms → c + 1000 ≤ 90000 + ms.length → hi < 18446744073709551616 → (Lit.int .i64 p).wf = true → (root = true → 8 ≤ n) → (root = false → 0 ≤ lv ∧ lv < (n : Int)) →
    Calls Try.prog 57 #[.pointer (some ⟨S, 0, none⟩), leadI p root lv lo hi] w (SoG w S s B0 xm c N M ms (svG NA n root lv lo hi p ms)) := by
  intro n
  induction n with
  | zero =>
    intro root lv lo hi p w S B0 c v ms M hsh hD hsv hm hom hc hhi hp hr hk
    cases root with
    | true => have := hr rfl; omega
    | false => have := hk rfl; omega
  | succ n ih =>
    intro root lv lo hi p w S B0 c v ms M hsh hD hsv hm hom hc hhi hp hr hk
    have hl511 : ms.length ≤ 511 := Nat.le_trans hom.len hsh.len
    rw [svG]
    by_cases hin : p ∈ ms
    · rw [if_pos hin]
      exact trSoundMet hsv hin hl511
    · rw [if_neg hin]
      cases hn : nodeI NA p with
      | none =>
        exact trSoundErr (.inr rfl) hsh hD hsv hm (fun V hV hS => (trLeadBadG hNA hV hS p hp (by
          have := nodeI_no hn
          rw [← hNA, N9, List.length_map]
          exact this) root lv lo hi).mono fun e w' ⟨h1, h2⟩ => ⟨h1, h2.mono fun j hj => hj.1⟩) hin hl511
      | some nd =>
        obtain ⟨i, hi', rfl, hnd⟩ := nodeI_at hn
        simp only
        by_cases hf : FitA root lv lo hi nd
        · rw [if_pos hf]
          obtain ⟨l, e1, hfk⟩ := hf
          have hg : gdA NA[i] := by rw [hnd]; exact FitA.good ⟨l, e1, hfk⟩
          have hgd : GdAt NA i := ⟨NA[i], List.getElem?_eq_getElem hi', hg⟩
          have hix : i < N.length := by rw [← hNA, N9, List.length_map]; exact hi'
          have hni : N[i] = (l, nd.2) := by
            obtain ⟨h1, e⟩ := n9_at hNA hix
            rw [e]
            unfold toNd
            rw [if_pos hg, hnd, e1]
            simp
          have hfit := hsh.fits i hi'
          rw [hnd] at hfit
          rw [e1]
          have hl7 := (good_parts (fit_good' hfk).1).2.1
          refine trSoundFit hNA hix rfl hni hgd hfit hfk hhi hsh hD hsv hm hom hl511 hin hc (fun lo' hi' q m => svG NA n false ((l : Int) - 1) lo' hi' q m) (fun lo' hi' q m m' h1 h2 => svG_ok h1 h2) ?_
          intro hl0 lo' hi2 q V c' v' ms' M' h1 h2 h3 h4 h5 h6 h7
          refine ih h1 hD h2 h3 h4 h5 h6 (by simp [Lit.wf, IntKind.min, IntKind.max, IntKind.signed, IntKind.bits]; omega) (fun e => by cases e) fun _ => ⟨by omega, ?_⟩
          cases root with
          | true => have := hr rfl; omega
          | false =>
            have h8 := (hk rfl).2
            have h9 : (l : Int) = lv := hfk.2.2.1
            omega
        · rw [if_neg hf]
          refine trSoundErr (.inl rfl) hsh hD hsv hm (fun V hV hS => trLeadNo hNA hV hS (by omega) i hi' root lv lo hi (by rw [hnd]; exact hf)) hin hl511

/-- What a root's tree has: its pages; none: it isn't sound. -/
noncomputable def tsG (NA : List NdA) (r : Int) : Option (List Int) := if r = 0 then some [] else svG NA 8 true 0 0 18446744073709551615 r []
theorem tsG_ok {NA : List NdA} {r : Int} {g : List Int} (h : tsG NA r = some g) : OkM NA.length g := by
  unfold tsG at h
  have h0 : OkM NA.length [] := ⟨List.nodup_nil, fun q hq => by cases hq⟩
  split at h
  · cases h; exact h0
  · exact (svG_ok h h0).1

theorem trToRootI (p : Int) (w : World) : Calls Try.prog 46 #[.int .i64 p] w fun e w' => e = .returned (leadI p true 0 0 18446744073709551615) ∧ KeptIn (· < w.heap.size) w w' := by
  have res : ∀ (fn : Func) (q : Tmp), fn.results = #[.cell q 111] → ∀ (tmps : Array Value) (w : World) (x : Nat), tmps.getD q undef = .pointer (some ⟨x, 0, none⟩) → BoxI x p true 0 0 18446744073709551615 w → (results fn tmps).run Try.prog w = .ok (leadI p true 0 0 18446744073709551615) w := by
    intro fn q h tmps w x hp hb
    have c0 := hb.c0
    have c1 := hb.c1
    have c2 := hb.c2
    have c3 := hb.c3
    have c4 := hb.c4
    have hp' : tmps[q]?.getD undef = .pointer (some ⟨x, 0, none⟩) := by simpa using hp
    simp [results, h, hp', asAddr, c0, c1, c2, c3, c4, leadI, go_sem]
  go_enter Try.func46, Try.ntmps46
  go_wp2_with fail
  refine bodyPost_ret (res _ _ rfl _ _ w.heap.size rfl (heap_alloc_new _ _)) rfl ?_
  exact ⟨rfl, (KeptIn.refl _ w).alloc (fun _ h => h) _⟩

/-- What Reach answers. -/
def RchG (w : World) (x c : Nat) (N : List Nd) (M : Int → Option (Option Lf9)) : Option (List Int) → Ending → World → Prop
  | none, e, w' => e = .returned (.tuple #[.slice none 0 0, .int .i64 3]) ∧ KeptIn (fun j => j < w.heap.size ∧ j ≠ x) w w'
  | some ks, e, w' => RchM w x c N M ks e w'
theorem so_endG {w W V V2 : World} {S B0 x : Nat} (hkW : KeptIn (· < w.heap.size) w W) (hk : KeptIn (· < W.heap.size) W V) (hS : w.heap.size = S) (hB : S < B0) (h2 : KeptIn (SdZ V S B0 x) V V2) : KeptIn (fun j => j < w.heap.size ∧ j ≠ x) w V2 :=
  ((hkW.go hk).mono fun j h => h.1).trans (h2.mono fun k hk2 => by
    have hz : w.heap.size ≤ V.heap.size := (hkW.go hk).size
    exact ⟨⟨by have := hk2.1; omega, by have := hk2.1; omega, .inl (by have := hk2.1; omega)⟩, hk2.2⟩)


set_option maxRecDepth 100000 in
set_option maxHeartbeats 4000000 in
theorem trReachG {NA : List NdA} {N : List Nd} (hNA : N9 NA = N) {w : World} {s H x c : Nat} {M : Int → Option (Option Lf9)} (h : IsShA w s H NA) (hD : H ≤ x) (hm : IsMm w x c N M) (hc : c ≤ 89000) (p : Int) (hp : (Lit.int .i64 p).wf = true) :
    Calls Try.prog 41 #[mmI s x, .int .i64 p] w (RchG w x c N M (tsG NA p)) := by
  unfold tsG
  by_cases h0 : p = 0
  · rw [if_pos h0]
    have HE : Hid (RchG w x c N M (some []) (.returned (.tuple #[.slice none 0 0, .int .i64 0])) w) := Lib.hid ⟨_, rfl, MmS.zero hm, KeptIn.refl _ _⟩
    subst h0
    unfold mmI mmV pgV
    clear h hm hD
    go_enter Try.func41, Try.ntmps41
    go_wp2_with fail
    go_ret2
    exact HE.out
  · rw [if_neg h0]
    have p0 : (p == 0) = false := by rw [beq_eq_false_iff_ne]; exact h0
    obtain ⟨W, hW⟩ : ∃ W, w.alloc (.cells #[mmI s x, .slice none 0 0, .int .i64 0] 125) = W := ⟨_, rfl⟩
    have hkW : KeptIn (· < w.heap.size) w W := by rw [← hW]; exact (KeptIn.refl _ w).alloc (fun _ h => h) _
    have hbx : W.heap[w.heap.size]? = some (.cells #[mmI s x, .slice none 0 0, .int .i64 0] 125 (0, 0)) := by rw [← hW]; exact heap_alloc_new w _
    have hWs : W.heap.size = w.heap.size + 1 := by rw [← hW]; simp
    obtain ⟨S, hSe⟩ : ∃ S, w.heap.size = S := ⟨_, rfl⟩
    obtain ⟨B0, hB0⟩ : ∃ B0, W.heap.size = B0 := ⟨_, rfl⟩
    have hSB : S < B0 := by omega
    have HM : Hid (∀ V, KeptIn (· < W.heap.size) W V → Calls Try.prog 57 #[.pointer (some ⟨S, 0, none⟩), leadI p true 0 0 18446744073709551615] V (SoG V S s B0 x c N M [] (svG NA 8 true 0 0 18446744073709551615 p []))) := Lib.hid fun V hk => by
      have hsv0 : SvU W S (mmI s x) B0 (.slice none 0 0) [] := ⟨by rw [← hSe]; exact hbx, ⟨rfl, .inl ⟨rfl, rfl⟩⟩, hSB, Nat.le_of_eq hB0.symm⟩
      exact trSoundG hNA 8 ((h.old hkW).old hk) ⟨by rw [← hSe]; exact h.le, hD⟩ (hsv0.old hk) ((hm.old hkW).old hk) ⟨List.nodup_nil, fun q hq => by cases hq⟩ (by simp; omega) (by decide) hp (fun _ => Nat.le_refl _) (fun e => by cases e)
    have HT := Lib.hid fun V => trToRootI p V
    have HW := Lib.hid hW
    have HSE := Lib.hid hSe
    have HE0 : Hid (∀ V V2, KeptIn (· < W.heap.size) W V → KeptIn (SdZ V S B0 x) V V2 → KeptIn (fun j => j < w.heap.size ∧ j ≠ x) w V2) := Lib.hid fun V V2 h1 h2 => so_endG hkW h1 hSe hSB h2
    have HE : Hid (∀ V V2 v ks, KeptIn (· < W.heap.size) W V → MmS V2 x c N M ks → KeptIn (SdZ V S B0 x) V V2 → RchM w x c N M ks (.returned (.tuple #[v, .int .i64 0])) V2) := Lib.hid fun V V2 v ks h1 h2 h3 => so_end9 hkW h1 hSe hSB h2 h3
    obtain ⟨R, hR⟩ : ∃ R, svG NA 8 true 0 0 18446744073709551615 p [] = R := ⟨_, rfl⟩
    rw [hR] at HM ⊢
    clear hW hSe h hkW hbx hWs hB0 hm hD hR h0
    unfold mmI mmV pgV leadI at *
    cases R with
    | none =>
      unfold SoG SoX at HM
      go_enter Try.func41, Try.ntmps41
      go_wp2_with (first
        | (go_at_call 46; rw [HW.out, HSE.out]; refine (HT.out _).mono ?_; rintro e V ⟨rfl, hk⟩; have HC := Lib.hid (HM.out V hk); have HK := Lib.hid hk; clear hk)
        | (go_at_call 57; refine HC.out.mono ?_; rintro e V2 ⟨rfl, hk4⟩; have HR := Lib.hid (HE0.out V V2 HK.out hk4); clear hk4))
      go_ret2
      exact ⟨rfl, HR.out⟩
    | some ks =>
      unfold SoG at HM
      go_enter Try.func41, Try.ntmps41
      go_wp2_with (first
        | (go_at_call 46; rw [HW.out, HSE.out]; refine (HT.out _).mono ?_; rintro e V ⟨rfl, hk⟩; have HC := Lib.hid (HM.out V hk); have HK := Lib.hid hk; clear hk)
        | (go_at_call 57; refine HC.out.mono ?_; rintro e V2 ⟨v4, qs4, e4, rfl, hs4, hm4, hk4⟩; rw [List.nil_append] at e4; subst e4; have HR := Lib.hid (HE.out V V2 v4 _ HK.out hm4 hk4); have c1 : V2.cell? ⟨S, 1, none⟩ = some v4 := (cell_of_row _ _ 1 _ _ _ hs4.box).trans rfl; have c2 : V2.cell? ⟨S, 2, none⟩ = some (.int .i64 0) := (cell_of_row _ _ 2 _ _ _ hs4.box).trans rfl; clear hs4 hm4 hk4))
      go_ret2
      exact HR.out

/-- What Check answers. -/
def ChkG (w : World) (x c : Nat) (N : List Nd) (M : Int → Option (Option Lf9)) : Option (List Int) → Ending → World → Prop
  | none, e, w' => e = .returned (.int .i64 3) ∧ KeptIn (fun j => j < w.heap.size ∧ j ≠ x) w w'
  | some ks, e, w' => e = .returned (.int .i64 0) ∧ MmS w' x c N M ks ∧ KeptIn (fun j => j < w.heap.size ∧ j ≠ x) w w'
theorem trCheckG {NA : List NdA} {N : List Nd} (hNA : N9 NA = N) {w : World} {s H x c : Nat} {M : Int → Option (Option Lf9)} (h : IsShA w s H NA) (hD : H ≤ x) (hm : IsMm w x c N M) (hc : c ≤ 89000) (p : Int) (hp : (Lit.int .i64 p).wf = true) :
    Calls Try.prog 31 #[mmI s x, .int .i64 p] w (ChkG w x c N M (tsG NA p)) := by
  have HC := Lib.hid (trReachG hNA h hD hm hc p hp)
  obtain ⟨R, hR⟩ : ∃ R, tsG NA p = R := ⟨_, rfl⟩
  rw [hR] at HC ⊢
  unfold mmI mmV pgV at *
  clear h hm hD hR hp
  cases R with
  | none =>
    unfold RchG at HC
    go_enter Try.func31, Try.ntmps31
    go_wp2_with (go_at_call 41; refine HC.out.mono ?_; rintro e V ⟨rfl, hk⟩; have HR := Lib.hid hk; clear hk)
    go_ret
    exact ⟨rfl, HR.out⟩
  | some ks =>
    unfold RchG at HC
    go_enter Try.func31, Try.ntmps31
    go_wp2_with (go_at_call 41; refine HC.out.mono ?_; rintro e V ⟨v, rfl, hr, hk⟩; have HR := Lib.hid (And.intro hr hk); clear hr hk)
    go_ret
    exact ⟨rfl, HR.out⟩

end Go.Proofs.Ytdbohcdjamhdjaa
/- Package reach's checkAll over a Shelf with whatever nodes. -/
set_option linter.unusedVariables false
namespace Go.Proofs.Ytdbohcdjamhdjaa
open Go.RowKit

/-- A root's pages. -/
noncomputable def gG (NA : List NdA) (r : Int) : List Int := (tsG NA r).getD []
/-- What checkAll answers: R: all trees are sound. -/
def CaS (w : World) (x c : Nat) (N : List Nd) (M : Int → Option (Option Lf9)) (NA : List NdA) (rs : List Int) : Bool → Ending → World → Prop
  | false, e, w' => e = .returned (.int .i64 3) ∧ KeptIn (fun k => k < w.heap.size ∧ k ≠ x) w w'
  | true, e, w' => e = .returned (.int .i64 0) ∧ ∃ c' M', IsMm w' x c' N M' ∧ c' ≤ c + 511 * rs.length ∧ Mko M M' (gG NA) rs ∧ KeptIn (fun k => k < w.heap.size ∧ k ≠ x) w w'

/-- What stands in checkAll's loop: the first j roots are looked at. -/
structure CkQ (w : World) (s H x y c : Nat) (NA : List NdA) (N : List Nd) (M : Int → Option (Option Lf9)) (G : Int → List Int) (rs : List Int) (j c' : Nat) (M' : Int → Option (Option Lf9)) (T : Int → Option Unit) (W : World) : Prop where
  mm : IsMm W x c' N M'
  le : c' ≤ c + 511 * j
  says : Mko M M' G (rs.take j)
  met : MpAt unV y j T W
  metS : ∀ q, (T q).isSome = true ↔ q ∈ rs.take j
  sh : IsShA W s H NA
  dx : H ≤ x
  kept : KeptIn (fun k => k < w.heap.size ∧ k ≠ x) w W
  new : w.heap.size ≤ y
  ne : y ≠ x

section
variable {w W W' : World} {s H x y c j c' : Nat} {NA : List NdA} {N : List Nd} {M M' : Int → Option (Option Lf9)} {G : Int → List Int} {rs : List Int} {T : Int → Option Unit}
theorem CkQ.old (h : CkQ w s H x y c NA N M G rs j c' M' T W) (hk : KeptIn (· < W.heap.size) W W') : CkQ w s H x y c NA N M G rs j c' M' T W' :=
  ⟨h.mm.old hk, h.le, h.says, h.met.kept hk h.met.lt, h.metS, h.sh.old hk, h.dx, h.kept.trans (hk.mono fun k e => Nat.lt_of_lt_of_le e.1 h.kept.size), h.new, h.ne⟩

/-- A root that was looked at. -/
theorem CkQ.again (h : CkQ w s H x y c NA N M G rs j c' M' T W) (hj : j < rs.length) (hm : rs[j] ∈ rs.take j) : CkQ w s H x y c NA N M G rs (j + 1) c' M' T W := by
  have e : rs.take (j + 1) = rs.take j ++ [rs[j]] := by rw [List.take_add_one, List.getElem?_eq_getElem hj]; rfl
  refine ⟨h.mm, by have := h.le; omega, fun q => ?_, h.met.mono (Nat.le_succ _), fun q => ?_, h.sh, h.dx, h.kept, h.new, h.ne⟩
  · rw [h.says q, e]
    constructor
    · rintro (h1 | ⟨r, hr, hq⟩)
      · exact .inl h1
      · exact .inr ⟨r, List.mem_append_left _ hr, hq⟩
    · rintro (h1 | ⟨r, hr, hq⟩)
      · exact .inl h1
      · rcases List.mem_append.1 hr with h2 | h2
        · exact .inr ⟨r, h2, hq⟩
        · rw [List.mem_singleton] at h2
          subst h2
          exact .inr ⟨_, hm, hq⟩
  · rw [h.metS q, e]
    constructor
    · exact fun h1 => List.mem_append_left _ h1
    · intro h1
      rcases List.mem_append.1 h1 with h2 | h2
      · exact h2
      · rw [List.mem_singleton] at h2
        subst h2
        exact hm

/-- A root that wasn't: it is met, and its tree is looked at. -/
theorem CkQ.first {W2 : World} (h : CkQ w s H x y c NA N M G rs j c' M' T W) (hj : j < rs.length) (hT : MpAt unV y (j + 1) (mpPut T rs[j] ()) W2) (hk2 : KeptIn (· ≠ y) W W2) (hy : H ≤ y)
    (hk3 : KeptIn (fun k => k < W2.heap.size ∧ k ≠ x) W2 W') (hm : MmS W' x c' N M' (G rs[j])) (hl : (G rs[j]).length ≤ 511) : ∃ c2 M2, CkQ w s H x y c NA N M G rs (j + 1) c2 M2 (mpPut T rs[j] ()) W' := by
  have e : rs.take (j + 1) = rs.take j ++ [rs[j]] := by rw [List.take_add_one, List.getElem?_eq_getElem hj]; rfl
  obtain ⟨c2, M2, h1, h2, h3⟩ := hm
  have hsh2 : IsShA W2 s H NA := h.sh.kept (hk2.mono fun k hk => by show k ≠ y; omega)
  refine ⟨c2, M2, h1, by have := h.le; omega, fun q => ?_, hT.kept hk3 ⟨hT.lt, h.ne⟩, fun q => ?_, hsh2.kept (hk3.mono fun k hk => ⟨Nat.lt_of_lt_of_le hk hsh2.le, by have := h.dx; omega⟩), h.dx, ?_, h.new, h.ne⟩
  · rw [h3 q, e, Bool.or_eq_true, h.says q, decide_eq_true_eq]
    constructor
    · rintro ((h1 | ⟨r, hr, hq⟩) | hq)
      · exact .inl h1
      · exact .inr ⟨r, List.mem_append_left _ hr, hq⟩
      · exact .inr ⟨_, List.mem_append_right _ (List.mem_singleton.2 rfl), hq⟩
    · rintro (h1 | ⟨r, hr, hq⟩)
      · exact .inl (.inl h1)
      · rcases List.mem_append.1 hr with h2 | h2
        · exact .inl (.inr ⟨r, h2, hq⟩)
        · rw [List.mem_singleton] at h2
          subst h2
          exact .inr hq
  · rw [e, List.mem_append, List.mem_singleton, ← h.metS q]
    unfold mpPut
    by_cases e2 : q = rs[j]
    · rw [if_pos e2]; simp [e2]
    · rw [if_neg e2]; simp [e2]
  · refine (h.kept.trans (hk2.mono fun k hk => ?_)).trans (hk3.mono fun k hk => ⟨?_, hk.2⟩)
    · have := h.new; have := hk.1; omega
    · exact Nat.lt_of_lt_of_le hk.1 (Nat.le_trans h.kept.size hk2.size)
end

set_option maxRecDepth 100000 in
set_option maxHeartbeats 2000000 in
theorem ckAllG {NA : List NdA} {N : List Nd} (hNA : N9 NA = N) {w : World} {s H x c cap : Nat} {M : Int → Option (Option Lf9)} {a : Option Addr} {rs : List Int} (h : IsShA w s H NA) (hD : H ≤ x) (hm : IsMm w x c N M) (hr : IntsL w a rs) (hrw : ∀ r ∈ rs, (Lit.int .i64 r).wf = true) (hc : c + 511 * rs.length ≤ 88000)
    {R : Bool} (hR : R = true ↔ ∀ r ∈ rs, (tsG NA r).isSome = true) :
    Calls Try.prog 23 #[mmV s x, .slice a rs.length cap] w (CaS w x c N M NA rs R) := by
  obtain ⟨W, hW⟩ : ∃ W, (w.alloc (.cells #[pgV s, .map (some x)] 66)).alloc (.map #[] 0) = W := ⟨_, rfl⟩
  have hk : KeptIn (· < w.heap.size) w W := by rw [← hW]; exact ((KeptIn.refl _ w).alloc (fun _ h => h) _).alloc (fun _ h => h) _
  obtain ⟨B, hB⟩ : ∃ B, w.heap.size = B := ⟨_, rfl⟩
  have b0 : W.heap[B]? = some (.cells #[pgV s, .map (some x)] 66 (0, 0)) := by
    rw [← hW, ← hB, Lib.alloc_old _ _ _ (by simp)]
    exact heap_alloc_new w _
  have hT : MpAt unV (B + 1) 0 (fun _ => none) W := by
    have := MpAt.new (V := unV) (w.alloc (.cells #[pgV s, .map (some x)] 66))
    rw [World.size_alloc, hB, hW] at this
    exact this
  have H0 : Hid (CkQ w s H x (B + 1) c NA N M (gG NA) rs 0 c M (fun _ => none) W) := Lib.hid ⟨hm.old hk, Nat.le_refl _, fun q => by simp, hT, fun q => by simp, h.old hk, hD, hk.mono fun k e => e.1, by omega, by have := hm.lt; omega⟩
  have HDB : Hid (H ≤ B) := Lib.hid (by rw [← hB]; exact h.le)
  have HBW : Hid (W.heap[B]? = some (.cells #[pgV s, .map (some x)] 66 (0, 0)) ∧ B ≠ x ∧ w.heap.size = B) := Lib.hid ⟨b0, by have := hm.lt; omega, hB⟩
  have HRS := Lib.hid (And.intro hr (And.intro hc (And.intro hrw (And.intro hR hNA))))
  have HMW := Lib.hid hm
  have HW := Lib.hid hW
  obtain ⟨n, hn⟩ : ∃ n, rs.length = n := ⟨_, rfl⟩
  have HN := Lib.hid hn
  unfold mmV pgV at *
  rw [hn]
  clear h hD hm hr hc hrw hR hNA hW hk b0 hT hB hn
  go_enter Try.func23, Try.ntmps23
  have hmm := @run_makeMap Try.prog
  go_upto_region 3 with fail
  clear hmm
  rw [HW.out]
  try simp only [World.size_alloc]
  try rw [HBW.out.2.2]
  go_wp2_with fail
  go_loopw [5, 15] (fun e i wr => ∃ (j c' : Nat) (M' : Int → Option (Option Lf9)) (T : Int → Option Unit) (V : World), V = wr ∧ e = .int .i64 0 ∧ i = .int .i64 (j : Int) ∧ j ≤ n ∧ Hid ((∀ r ∈ rs.take j, (tsG NA r).isSome = true) ∧ CkQ w s H x (B + 1) c NA N M (gG NA) rs j c' M' T V ∧ V.heap[B]? = some (.cells #[.iface 28 (.pointer (some ⟨s, 0, none⟩)), .map (some x)] 66 (0, 0)))) (fun _ i _ => n - (RowKit.intOf i).toNat)
  case atStart => exact ⟨0, c, M, _, _, rfl, rfl, rfl, Nat.zero_le _, Lib.hid ⟨fun r hr => (by simp at hr), H0.out, HBW.out.1⟩⟩
  case round =>
    obtain ⟨j, c', M', T, V, rfl, rfl, rfl, hjn, HJ⟩ := hrel
    clear H0
    by_cases hlt : j < n
    · have hjr : j < rs.length := by rw [HN.out]; exact hlt
      have hn1 : n ≤ 1000 := by have := HN.out; have := HRS.out.2.1; omega
      obtain ⟨t1, t2, t3, t4⟩ := rg_idx j n hlt hn1
      obtain ⟨gk, off, rfl, hgl, hcl⟩ := HRS.out.1.cells (by omega)
      have e0 := hcl j hjr
      have hgx : gk ≠ x := fun e => by
        obtain ⟨D0, ⟨es, clock, h1, _⟩, _⟩ := HMW.out.map
        rw [e] at e0
        simp [World.cell?, h1] at e0
      have e1 : V.cell? ⟨gk, off + j, none⟩ = some (.int .i64 (rs.getD j 0)) := (World.cell?_of_block (a := ⟨gk, off + j, none⟩) (HJ.out.2.1.kept.block gk ⟨hgl, hgx⟩)).trans e0
      obtain ⟨r, hr⟩ : ∃ r, rs[j] = r := ⟨_, rfl⟩
      have hrd : rs.getD j 0 = r := by rw [List.getD_eq_getElem?_getD, List.getElem?_eq_getElem hjr]; exact hr
      rw [hrd] at e1
      have hwf : (Lit.int .i64 r).wf = true := by
        rw [← hr]
        exact HRS.out.2.2.1 _ (List.getElem_mem hjr)
      have htk : rs.take (j + 1) = rs.take j ++ [r] := by rw [List.take_add_one, List.getElem?_eq_getElem hjr, hr]; rfl
      have hlk := ((HJ.out.2.1.met).look unV_inj Try.underlying87 () (zeroEmpty9 V) r hwf).1
      by_cases hin : r ∈ rs.take j
      · have hT1 : (T r).isSome = true := (HJ.out.2.1.metS r).2 hin
        rw [hT1] at hlk
        unfold unV at hlk
        have HAG : Hid (CkQ w s H x (B + 1) c NA N M (gG NA) rs (j + 1) c' M' T V) := Lib.hid (HJ.out.2.1.again hjr (by rw [hr]; exact hin))
        have HAL : Hid (∀ r ∈ rs.take (j + 1), (tsG NA r).isSome = true) := Lib.hid fun q hq => by
          rw [htk] at hq
          rcases List.mem_append.1 hq with hq | hq
          · exact HJ.out.1 q hq
          · rw [List.mem_singleton.1 hq]; exact HJ.out.1 r hin
        clear hcl e0 hrd hwf hin hT1 hr hjr htk
        have hka : KeptIn (· < V.heap.size) V (V.alloc (.cells #[] 88)) := (KeptIn.refl _ V).alloc (fun _ h => h) _
        have HAH := Lib.hid (And.intro HAL.out (And.intro (HAG.out.old hka) ((hka.block B (Array.getElem?_eq_some_iff.1 HJ.out.2.2).1).trans HJ.out.2.2)))
        clear hka
        go_wp2_with fail
        go_roundw
        case rel => exact ⟨j + 1, c', M', T, _, rfl, rfl, congrArg (Value.int .i64) (rg_succ j), by omega, HAH⟩
        case measure => simp only [RowKit.intOf]; exact rg_meas j n hlt
      · have hT1 : (T r).isSome = false := by
          cases e : (T r).isSome
          · rfl
          · exact absurd ((HJ.out.2.1.metS r).1 e) hin
        rw [hT1] at hlk
        have hka : KeptIn (· < V.heap.size) V (V.alloc (.cells #[] 88)) := (KeptIn.refl _ V).alloc (fun _ h => h) _
        have hJa := HJ.out.2.1.old hka
        have hBa := (hka.block B (Array.getElem?_eq_some_iff.1 HJ.out.2.2).1).trans HJ.out.2.2
        obtain ⟨V2, hrun2, hT2, hk2, hsz2⟩ := hJa.met.store unV_inj Try.underlying87 (by unfold maxLen; omega) r hwf ()
        have hDy : H ≤ B + 1 := by have := HDB.out; omega
        have hB2 := (hk2.block B (by show B ≠ B + 1; omega)).trans hBa
        have hmm2 := hJa.mm.map2 hJa.met hJa.ne hk2
        have hsh2 := hJa.sh.kept (hk2.mono fun k hk => by show k ≠ B + 1; have := HDB.out; omega)
        have C := trCheckG HRS.out.2.2.2.2 hsh2 hJa.dx hmm2 (by have h1 := hJa.le; have h2 := HRS.out.2.1; omega) r hwf
        unfold mmI mmV pgV at C
        have q0 : V2.cell? ⟨B, 0, none⟩ = some (.iface 28 (.pointer (some ⟨s, 0, none⟩))) := by simp [World.cell?, hB2]
        have q1 : V2.cell? ⟨B, 1, none⟩ = some (.map (some x)) := by simp [World.cell?, hB2]
        obtain ⟨F, hF⟩ : ∃ F, tsG NA r = F := ⟨_, rfl⟩
        rw [hF] at C
        have HC := Lib.hid C
        have HKE : Hid (∀ V3, KeptIn (fun k => k < V2.heap.size ∧ k ≠ x) V2 V3 → KeptIn (fun k => k < w.heap.size ∧ k ≠ x) w V3) := Lib.hid fun V3 h2 => by
          refine (hJa.kept.trans (hk2.mono fun k hk => ?_)).trans (h2.mono fun k hk => ⟨?_, hk.2⟩)
          · have := hJa.new; have := hk.1; omega
          · exact Nat.lt_of_lt_of_le hk.1 (Nat.le_trans hJa.kept.size hk2.size)
        have HNX : Hid (∀ g, F = some g → ∀ V3, MmS V3 x c' N M' g → KeptIn (fun k => k < V2.heap.size ∧ k ≠ x) V2 V3 → ∃ c2 M2, (∀ r ∈ rs.take (j + 1), (tsG NA r).isSome = true) ∧ CkQ w s H x (B + 1) c NA N M (gG NA) rs (j + 1) c2 M2 (mpPut T rs[j] ()) V3 ∧ V3.heap[B]? = some (.cells #[.iface 28 (.pointer (some ⟨s, 0, none⟩)), .map (some x)] 66 (0, 0))) := Lib.hid fun g hg V3 h1 h2 => by
          have hgg : gG NA r = g := by unfold gG; rw [hF, hg]; rfl
          have hgl : (gG NA rs[j]).length ≤ 511 := by rw [hr, hgg]; exact Nat.le_trans (tsG_ok (hF.trans hg)).len hsh2.len
          obtain ⟨c2, M2, h3⟩ := hJa.first hjr (by rw [hr]; exact hT2) hk2 hDy h2 (by rw [hr, hgg]; exact h1) hgl
          refine ⟨c2, M2, fun q hq => ?_, h3, (h2.block B ⟨(Array.getElem?_eq_some_iff.1 hB2).1, HBW.out.2.1⟩).trans hB2⟩
          rw [htk] at hq
          rcases List.mem_append.1 hq with hq | hq
          · exact HJ.out.1 q hq
          · rw [List.mem_singleton.1 hq, hF, hg]; rfl
        have HRF : Hid (F = none → R = false) := Lib.hid fun e => by
          cases hRR : R with
          | false => rfl
          | true =>
            have := HRS.out.2.2.2.1.1 hRR r (by rw [← hr]; exact List.getElem_mem hjr)
            rw [hF, e] at this
            cases this
        unfold unV at hlk hrun2
        clear hcl e0 hrd hwf hin hT1 hka hJa hBa hT2 hk2 hsz2 hDy hB2 hmm2 hsh2 C hF htk
        cases F with
        | none =>
          unfold ChkG at HC
          go_wp2_with (go_at_call 31; refine HC.out.mono ?_; rintro e V3 ⟨rfl, hk3⟩; have HV3 := Lib.hid (HKE.out V3 hk3); clear hk3)
          go_ret
          rw [HRF.out (by trivial)]
          exact ⟨rfl, HV3.out⟩
        | some g =>
          unfold ChkG at HC
          go_wp2_with (go_at_call 31; refine HC.out.mono ?_; rintro e V3 ⟨rfl, hm3, hk3⟩; have HV3 := Lib.hid (HNX.out g rfl V3 hm3 hk3); clear hm3 hk3)
          go_roundw
          case rel =>
            obtain ⟨c2, M2, h1⟩ := HV3.out
            exact ⟨j + 1, c2, M2, _, _, rfl, rfl, congrArg (Value.int .i64) (rg_succ j), by omega, Lib.hid h1⟩
          case measure => simp only [RowKit.intOf]; exact rg_meas j n hlt
    · obtain ⟨u1, u2⟩ := rg_ge hlt
      have HE : Hid (CaS w x c N M NA rs R (.returned (.int .i64 0)) V) := Lib.hid (by
        obtain rfl : j = n := by omega
        have hall := HJ.out.1
        have hsay := HJ.out.2.1.says
        rw [← HN.out, List.take_length] at hall hsay
        rw [HRS.out.2.2.2.1.2 hall]
        exact ⟨rfl, c', M', HJ.out.2.1.mm, by rw [HN.out]; exact HJ.out.2.1.le, hsay, HJ.out.2.1.kept⟩)
      clear HJ
      go_wp2_with fail
      go_ret
      exact HE.out

end Go.Proofs.Ytdbohcdjamhdjaa
/- The reference's look at whatever nodes: what it comes to; where it ends at once. -/
set_option linter.unusedVariables false
namespace Go.Proofs.Ytdbohcdjamhdjaa
open Go.RowKit

/-- A look that found a fault. -/
def BadAt (W : World) (T B0 : Nat) : Prop := (∃ pv qv, W.heap[T]? = some (.cells #[pv, qv, .bool true] 78 (0, 0))) ∧ T < B0 ∧ B0 ≤ W.heap.size
/-- Blocks of a pair each. -/
def PrB (w : World) (T : Nat) (X : Nat → Prop) : Prop := ∀ k, X k → k < w.heap.size ∧ k ≠ T ∧ ∃ cs fr, w.heap[k]? = some (.cells cs 82 fr)
/-- What a look has come to; none: a fault. -/
def StX (W : World) (T B0 : Nat) (X : Nat → Prop) : Option (List Int) → Prop
  | none => BadAt W T B0
  | some ms => ∃ pv qv qs, LkAt W T B0 pv qv ms qs ∧ qs.length ≤ 15 * ms.length ∧ ∀ k, X k → qv.ownBlock ≠ some k
/-- What a look answers, and leaves. -/
def LkR (w : World) (T B0 : Nat) (X : Nat → Prop) (o : Option (List Int)) (e : Ending) (w' : World) : Prop := e = .returned (.tuple #[]) ∧ StX w' T B0 X o ∧ KeptIn (LkY w T B0) w w' ∧ ∀ k, X k → w'.heap[k]? = w.heap[k]?
theorem bad_set {w W : World} {T B0 : Nat} {X : Nat → Prop} {pv qv : Value} {b : Bool} (hb : W.heap[T]? = some (.cells #[pv, qv, .bool b] 78 (0, 0))) (hT : T < B0) (hle : B0 ≤ W.heap.size) (hk : KeptIn (LkY w T B0) w W) (hx : ∀ k, X k → W.heap[k]? = w.heap[k]?) (hp : PrB w T X) :
    LkR w T B0 X none (.returned (.tuple #[])) (W.setCell ⟨T, 2, none⟩ (.bool true)) := by
  have hk2 : KeptIn (· ≠ T) W (W.setCell ⟨T, 2, none⟩ (.bool true)) := (KeptIn.refl _ W).setCell (p := ⟨T, 2, none⟩) (by simp) _
  refine ⟨rfl, ⟨⟨pv, qv, (heap_setCell_same _ _ _ _ _ _ hb).trans rfl⟩, hT, Nat.le_trans hle hk2.size⟩, hk.trans (hk2.mono fun k h => h.2.1), fun k h => (hk2.block k (hp k h).2.1).trans (hx k h)⟩
theorem bad_cell {W : World} {T : Nat} {pv qv : Value} {b : Bool} (hb : W.heap[T]? = some (.cells #[pv, qv, .bool b] 78 (0, 0))) : W.cell? ⟨T, 2, none⟩ = some (.bool b) ∧ W.frozen? ⟨T, 2, none⟩ = false :=
  ⟨(cell_of_row _ _ 2 _ _ _ hb).trans rfl, by simp [World.frozen?, hb]⟩

set_option maxRecDepth 100000 in
theorem r8lookBad {w : World} {T B0 : Nat} {X : Nat → Prop} (h : BadAt w T B0) (hp : PrB w T X) (la : Option Addr) (n cap : Nat) (p lv : Int) (lo hig : Nat) (has : Bool) :
    Calls Try.prog 35 #[.pointer (some ⟨T, 0, none⟩), .slice la n cap, .int .i64 p, .int .i64 lv, .int .u64 (lo : Int), .bool has, .int .u64 (hig : Int)] w (LkR w T B0 X none) := by
  obtain ⟨⟨pv, qv, hb⟩, hT, hle⟩ := h
  obtain ⟨c0, c1⟩ := bad_cell hb
  have HE := Lib.hid (bad_set hb hT hle (KeptIn.refl _ w) (fun k h => rfl) hp)
  clear hb hT hle hp
  go_enter Try.func35, Try.ntmps35
  go_wp2_with fail
  go_end0
  exact HE.out

set_option maxRecDepth 100000 in
theorem r8lookOut {w : World} {T B0 : Nat} {X : Nat → Prop} {pv qv : Value} {ms : List Int} {qs : Pairs} (h : LkAt w T B0 pv qv ms qs) (hp : PrB w T X) (la : Option Addr) (n cap : Nat) (p lv : Int) (lo hig : Nat) (has : Bool) (ho : p < 1 ∨ (n : Int) < p) :
    Calls Try.prog 35 #[.pointer (some ⟨T, 0, none⟩), .slice la n cap, .int .i64 p, .int .i64 lv, .int .u64 (lo : Int), .bool has, .int .u64 (hig : Int)] w (LkR w T B0 X none) := by
  obtain ⟨c0, c1⟩ := bad_cell h.box
  have HE := Lib.hid (bad_set h.box h.lt h.le (KeptIn.refl _ w) (fun k h => rfl) hp)
  clear h hp
  by_cases h1 : p < 1
  · have h2 : decide (p < 1) = true := decide_eq_true h1
    go_enter Try.func35, Try.ntmps35
    go_wp2_with fail
    go_end0
    exact HE.out
  · have h3 : (n : Int) < p := ho.resolve_left h1
    have h2 : decide (p < 1) = false := decide_eq_false h1
    have h4 : decide ((n : Int) < p) = true := decide_eq_true h3
    clear ho
    go_enter Try.func35, Try.ntmps35
    go_wp2_with fail
    go_end0
    exact HE.out

set_option maxRecDepth 100000 in
theorem r8lookMet {w : World} {T B0 : Nat} {X : Nat → Prop} {pv qv : Value} {ms : List Int} {qs : Pairs} (h : LkAt w T B0 pv qv ms qs) (hp : PrB w T X) (la : Option Addr) (n cap : Nat) (p lv : Int) (lo hig : Nat) (has : Bool) (h1 : ¬ p < 1) (h2 : ¬ (n : Int) < p) (hin : p ∈ ms) (hml : ms.length ≤ 511) :
    Calls Try.prog 35 #[.pointer (some ⟨T, 0, none⟩), .slice la n cap, .int .i64 p, .int .i64 lv, .int .u64 (lo : Int), .bool has, .int .u64 (hig : Int)] w (LkR w T B0 X none) := by
  obtain ⟨a, pc, rfl⟩ := row_sliceI h.prow
  have hI : IntsL w a ms := rowIntsL h.prow (by unfold maxLen; omega)
  obtain ⟨c2, c3⟩ := bad_cell h.box
  have c0 := h.c0
  have HE := Lib.hid (bad_set h.box h.lt h.le (KeptIn.refl _ w) (fun k h => rfl) hp)
  obtain ⟨m, hm⟩ : ∃ m, ms.length = m := ⟨_, rfl⟩
  rw [hm] at c0 hml
  have hmI : (m : Int) ≤ 511 := by omega
  have HI := Lib.hid (And.intro hI (And.intro hin hm))
  have h3 : decide (p < 1) = false := decide_eq_false h1
  have h4 : decide ((n : Int) < p) = false := decide_eq_false h2
  clear h hp hI hm hin
  go_enter Try.func35, Try.ntmps35
  go_wp2_with fail
  go_loopw [14] (fun i wr => ∃ (j : Nat), w = wr ∧ j ≤ m ∧ i = .int .i64 (j : Int) ∧ Hid (∀ u, u < j → ms.getD u 0 ≠ p)) (fun i _ => m - (intOf i).toNat)
  case atStart => exact ⟨0, rfl, Nat.zero_le _, rfl, Lib.hid fun u hu => absurd hu (by omega)⟩
  case round =>
    obtain ⟨j, rfl, hj, rfl, HU⟩ := hrel
    by_cases hlt : j < m
    · have d0 : (0 : Int) ≤ (j : Int) := by omega
      have d1 : (j : Int) < (m : Int) := by omega
      have hjm : j < ms.length := by rw [HI.out.2.2]; exact hlt
      obtain ⟨gb, off, rfl, hb, hc⟩ := HI.out.1.cells (by omega)
      have y0 := hc j hjm
      obtain ⟨x, hx⟩ : ∃ x, ms.getD j 0 = x := ⟨_, rfl⟩
      rw [hx] at y0
      have HX := Lib.hid hx
      clear hc hjm hx hb
      by_cases hxp : x = p
      · have x1 : (x == p) = true := by rw [beq_iff_eq]; exact hxp
        go_wp2_with fail
        go_end0
        exact HE.out
      · have x1 : (x == p) = false := by rw [beq_eq_false_iff_ne]; exact hxp
        have HU2 : Hid (∀ u, u < j + 1 → ms.getD u 0 ≠ p) := Lib.hid fun u hu => by
          rcases Nat.lt_or_ge u j with h | h
          · exact HU.out u h
          · obtain rfl : u = j := by omega
            rw [HX.out]
            exact hxp
        go_wp2_with fail
        go_roundw
        case rel => exact ⟨j + 1, trivial, by omega, by go_num, HU2⟩
        case measure => simp only [intOf]; omega
    · exfalso
      obtain ⟨u, hu, e⟩ := List.getElem_of_mem HI.out.2.1
      have := HI.out.2.2
      refine HU.out u (by omega) ?_
      rw [List.getD_eq_getElem?_getD, List.getElem?_eq_getElem hu, Option.getD_some]
      exact e

end Go.Proofs.Ytdbohcdjamhdjaa
