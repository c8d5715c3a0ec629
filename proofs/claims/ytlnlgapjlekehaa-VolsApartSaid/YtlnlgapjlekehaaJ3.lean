import Derived.Test.YtlnlgapjlekehaaRow5K
import Derived.Deep.RegionWith
import Derived.Deep.RegionLaw
import Derived.Handy
import Derived.Deep.DeepMust
import Derived.Test.YtlnlgapjlekehaaJ2
import Derived.Deep.RegionHeld3
/- Copies of pairs and of nodes (package tree's copyOf). -/
set_option linter.unusedVariables false
namespace Go.Proofs.Ytlnlgapjlekehaa
open Go.RowKit

theorem psAt {X : Nat → Prop} {W W' : World} {a : Option Addr} {ps : Pairs} (h : IsPs W a ps) (hk : KeptIn X W W') (hX : ∀ p, a = some p → X p.block) : IsPs W' a ps :=
  ⟨h.len, h.fits, fun hp => by
    obtain ⟨b, off, e, hb, hc⟩ := h.cells hp
    have hb' := hX _ e
    exact ⟨b, off, e, Nat.lt_of_lt_of_le hb hk.size, fun i hi => ⟨(World.cell?_of_block (a := ⟨b, off + i * 2, none⟩) (hk.block b hb')).trans (hc i hi).1, (World.cell?_of_block (a := ⟨b, off + i * 2 + 1, none⟩) (hk.block b hb')).trans (hc i hi).2⟩⟩⟩

theorem addr_add (b off j : Nat) : (⟨b, off, none⟩ : Addr).add j = ⟨b, off + j, none⟩ := by unfold Addr.add; split <;> simp_all
/-- What is appended of a row of pairs. -/
theorem psNews {W : World} {ad : Addr} {ps : Pairs} (h : IsPs W (some ad) ps) (h0 : 0 < ps.length) : ∀ j u, (cellsP ps)[j]? = some u → W.cell? (ad.add j) = some u := by
  obtain ⟨b, off, e, hb, hc⟩ := h.cells h0
  obtain rfl := Option.some.inj e
  intro j u hu
  have hj : j < ps.length * 2 := by rw [← cellsP_length]; exact (List.getElem?_eq_some_iff.1 hu).1
  have hq : j / 2 < ps.length := by omega
  obtain ⟨c1, c2⟩ := cellsP_at ps _ hq
  obtain ⟨d1, d2⟩ := hc _ hq
  rcases Nat.mod_two_eq_zero_or_one j with e | e
  · have : j / 2 * 2 = j := by omega
    rw [this] at c1 d1
    rw [c1] at hu
    rw [← Option.some.inj hu]
    rw [addr_add]
    exact d1
  · have : j / 2 * 2 + 1 = j := by omega
    rw [this] at c2
    rw [Nat.add_assoc, this] at d2
    rw [c2] at hu
    rw [← Option.some.inj hu]
    rw [addr_add]
    exact d2
theorem cellsP_one (ps : Pairs) : ∀ u ∈ cellsP ps, u.oneCell' = true := by
  induction ps with
  | nil => intro u h; cases h
  | cons p r ih =>
    intro u h
    rcases List.mem_cons.1 h with rfl | h
    · rfl
    rcases List.mem_cons.1 h with rfl | h
    · rfl
    exact ih u h
theorem psSome {W : World} {a : Option Addr} {ps : Pairs} (h : IsPs W a ps) (h0 : 0 < ps.length) : ∃ b off, a = some ⟨b, off, none⟩ ∧ b < W.heap.size := by
  obtain ⟨b, off, e, hb, _⟩ := h.cells h0
  exact ⟨b, off, e, hb⟩

/-- A copy of a row of pairs. -/
def CloneS (w : World) (ps : Pairs) (e : Ending) (w' : World) : Prop :=
  ∃ g cap, e = .returned (.slice (some ⟨g, 0, none⟩) ps.length cap) ∧ w'.ownsRow w.heap.size 38 2 (.slice (some ⟨g, 0, none⟩) ps.length cap) ps.length (cellsP ps) ∧ KeptIn (· < w.heap.size) w w'

set_option maxRecDepth 100000 in
theorem pClone (a : Option Addr) (cap : Nat) (ps : Pairs) (w : World) (h : IsPs w a ps) (h0 : 0 < ps.length) (hl : ps.length ≤ 1000000) :
    Calls Try.prog 59 #[.slice a ps.length cap] w (CloneS w ps) := by
  obtain ⟨b, off, rfl, hb⟩ := psSome h h0
  obtain ⟨n, hn⟩ : ∃ n, ps.length = n := ⟨_, rfl⟩
  have HN := Lib.hid hn
  have H := Lib.hid h
  have hn0 : 0 < n := by omega
  have hm : n ≤ 1000000 := by omega
  rw [hn]
  clear h hn h0 hl
  obtain ⟨i, hi, hz0, hz1, hz2⟩ := info_parts infoPair
  have heq : ∀ V : World, Sem.run Try.prog (binOp .eql 29 (.slice (some ⟨b, off, none⟩) n cap) (.slice none 0 0)) V = .ok (.bool false) V := fun _ => by rfl
  obtain ⟨W, hW⟩ : ∃ W, w.alloc (.cells #[] 38) = W := ⟨_, rfl⟩
  have k1 : KeptIn (· < w.heap.size) w W := by rw [← hW]; exact (KeptIn.refl _ w).alloc (fun _ h => h) _
  have hr : W.ownsRow w.heap.size 38 2 (.slice (some ⟨w.heap.size, 0, none⟩) 0 0) 0 [] := ⟨rfl, .inr ⟨w.heap.size, 0, #[], rfl, Nat.le_refl _, by rw [← hW]; exact heap_alloc_new w _, Nat.le_refl _, Nat.zero_le _, rfl, rfl⟩⟩
  have HK := Lib.hid k1
  have HW := Lib.hid hW
  have hsz : w.heap.size ≤ W.heap.size := k1.size
  have hnl : (cellsP ps).length = n * 2 := by rw [cellsP_length, HN.out]
  have hnews := psNews (H.out.old HK.out) (by rw [HN.out]; exact hn0)
  have HC := Lib.hid hnews
  have HL := Lib.hid hnl
  have HR := Lib.hid hr
  clear hnews hnl hr k1 hW
  go_enter Try.func59, Try.ntmps59
  go_wp2_with (at_builtin; rw [HW.out]; refine wpList_append_lies _ rfl _ _ 29 rfl w.heap.size 38 i _ 2 16 Try.underlying29 hi hz0 hz1 hz2 rfl (by decide) _ 0 [] rfl HR.out ⟨b, off, none⟩ n cap (cellsP ps) rfl HL.out HC.out (cellsP_one ps) hn0 (by unfold maxLen; omega) (by omega) hsz _ rfl ?_)
  intro g cap' w' hown hgrow _ _
  have HOWN := Lib.hid hown
  have HG := Lib.hid (HK.out.grown (fun _ h => h) hgrow (fun g' e => by
    have := (rowS_lt HR.out g' e).1
    omega))
  clear hown hgrow
  go_wp2_with fail
  go_ret
  exact ⟨g, cap', by rw [HN.out]; simp, by rw [HN.out]; simpa using HOWN.out, HG.out⟩

theorem KeptIn.go {a b c : World} (h : KeptIn (· < a.heap.size) a b) (k : KeptIn (· < b.heap.size) b c) : KeptIn (· < a.heap.size) a c := h.trans (k.mono fun _ hk => Nat.lt_of_lt_of_le hk h.size)
theorem results_leaf1 {fn : Func} {p : Tmp} (h : fn.results = #[.cell p 82]) (tmps : Array Value) (w : World) (x : Nat) (lv : Int) (a : Option Addr) (n cap : Nat)
    (hp : tmps.getD p undef = .pointer (some ⟨x, 0, none⟩)) (hb : BoxL x lv a n cap w) : (results fn tmps).run Try.prog w = .ok (leafV lv a n cap) w := by
  have hr := run_loadVar_row (P := Try.prog) w x 82 82 _ _ _ hb Try.underlying82 rfl (by kernel_rfl)
  have hp' : tmps[p]?.getD undef = .pointer (some ⟨x, 0, none⟩) := by simpa using hp
  simp [results, h, hp', asAddr, hr, leafV]

/-- A block of pairs. -/
def TyP (W : World) (g : Nat) : Prop := ∃ cs fr, W.heap[g]? = some (.cells cs 38 fr)
theorem TyP.kept {W W' : World} {g : Nat} (h : TyP W g) (e : W'.heap[g]? = W.heap[g]?) : TyP W' g := by
  obtain ⟨cs, fr, h⟩ := h
  exact ⟨cs, fr, e.trans h⟩
theorem TyP.lt {W : World} {g : Nat} (h : TyP W g) : g < W.heap.size := by
  obtain ⟨cs, fr, h⟩ := h
  exact (Array.getElem?_eq_some_iff.1 h).1
theorem TyP.old {W W' : World} {g : Nat} (h : TyP W g) (hk : KeptIn (· < W.heap.size) W W') : TyP W' g := h.kept (hk.block g h.lt)
theorem TyP.set {W : World} {g : Nat} (h : TyP W g) (q : Addr) (v : Value) (hq : g ≠ q.block) : TyP (W.setCell q v) g := h.kept (heap_setCell_other _ _ _ _ (by simpa using hq))
theorem row_TyP {W : World} {B g n cap : Nat} {xs : List Value} (h : W.ownsRow B 38 2 (.slice (some ⟨g, 0, none⟩) n cap) n xs) : TyP W g := by
  rcases h.2 with ⟨e, _⟩ | ⟨g1, cap1, cur, e, _, hc, _⟩
  · cases e
  · simp only [Value.slice.injEq, Option.some.injEq, Addr.mk.injEq, and_true, true_and] at e
    obtain ⟨rfl, rfl⟩ := e
    exact ⟨_, _, hc⟩

theorem row_cap {W : World} {B g n cap : Nat} {xs : List Value} (h : W.ownsRow B 38 2 (.slice (some ⟨g, 0, none⟩) n cap) n xs) : n ≤ cap ∧ cap ≤ maxLen := by
  rcases h.2 with ⟨e, _⟩ | ⟨g1, cap1, cur, e, _, _, h1, h2, _⟩
  · cases e
  · simp only [Value.slice.injEq, Option.some.injEq, Addr.mk.injEq, and_true, true_and] at e
    obtain ⟨rfl, rfl⟩ := e
    exact ⟨h1, h2⟩
/-- A block of pairs, with room for so many. -/
def TyC (W : World) (g n cap : Nat) : Prop := TyP W g ∧ n ≤ cap ∧ cap ≤ maxLen
theorem TyC.old {W W' : World} {g n cap : Nat} (h : TyC W g n cap) (hk : KeptIn (· < W.heap.size) W W') : TyC W' g n cap := ⟨h.1.old hk, h.2⟩
theorem TyC.set {W : World} {g n cap : Nat} (h : TyC W g n cap) (q : Addr) (v : Value) (hq : g ≠ q.block) : TyC (W.setCell q v) g n cap := ⟨h.1.set q v hq, h.2⟩

/-- A copy of a node. -/
def CopyS (w : World) (lv : Int) (ps : Pairs) (e : Ending) (w' : World) : Prop :=
  ∃ g cap, e = .returned (leafV lv (some ⟨g, 0, none⟩) ps.length cap) ∧ IsPs w' (some ⟨g, 0, none⟩) ps ∧ w.heap.size ≤ g ∧ KeptIn (· < w.heap.size) w w' ∧ TyC w' g ps.length cap

set_option maxRecDepth 100000 in
theorem trCopy (lv : Int) (a : Option Addr) (cap : Nat) (ps : Pairs) (w : World) (h : IsPs w a ps) (h0 : 0 < ps.length) (hl : ps.length ≤ 1000000) :
    Calls Try.prog 44 #[leafV lv a ps.length cap] w (CopyS w lv ps) := by
  have CC := Lib.hid fun V (hk : KeptIn (· < w.heap.size) w V) => pClone a cap ps V (h.old hk) h0 hl
  obtain ⟨n, hn⟩ : ∃ n, ps.length = n := ⟨_, rfl⟩
  have HN := Lib.hid hn
  have HF := Lib.hid h.fits
  obtain ⟨W, hW⟩ : ∃ W, (w.alloc (.cells #[.int .i64 lv, .slice a n cap] 82)).alloc (.cells #[.int .i64 0, .slice none 0 0] 82) = W := ⟨_, rfl⟩
  have hb : BoxL w.heap.size lv a n cap W := by rw [← hW]; exact (BoxL.new w lv a n cap).kept ((KeptIn.refl _ _).alloc (fun _ h => h) _) (by simp)
  obtain ⟨x, hx⟩ : ∃ x, w.heap.size = x := ⟨_, rfl⟩
  have hr : BoxL (x + 1) 0 none 0 0 W := by rw [← hW, ← hx, show w.heap.size + 1 = (w.alloc (.cells #[.int .i64 lv, .slice a n cap] 82)).heap.size by simp]; exact BoxL.new _ 0 none 0 0
  have hk : KeptIn (· < w.heap.size) w W := by rw [← hW]; exact ((KeptIn.refl _ w).alloc (fun _ h => h) _).alloc (fun _ h => h) _
  unfold leafV at *
  rw [hn] at CC ⊢
  have HW := Lib.hid hW
  have HX := Lib.hid hx
  have HQ := Lib.hid (And.intro hb (And.intro hr hk))
  clear h hn h0 hl hW hx hb hr hk
  go_enter Try.func44, Try.ntmps44
  go_wp2_with fail
  rw [HW.out, HX.out]
  have hxl : x < W.heap.size := by have := HQ.out.1.lt; rw [HX.out] at this; exact this
  have HB : Hid (∀ V, KeptIn (· < W.heap.size) W V → (V.cell? ⟨x, 0, none⟩ = some (.int .i64 lv) ∧ V.cell? ⟨x, 1, none⟩ = some (.slice a n cap)) ∧ BoxL (x + 1) 0 none 0 0 V ∧ KeptIn (· < w.heap.size) w V) := Lib.hid fun V hV => by
    have h1 := HQ.out.1.kept hV HQ.out.1.lt
    rw [HX.out] at h1
    exact ⟨⟨h1.c0, h1.c1⟩, HQ.out.2.1.kept hV HQ.out.2.1.lt, HQ.out.2.2.trans (hV.mono fun k hk => Nat.lt_of_lt_of_le hk HQ.out.2.2.size)⟩
  have hk0 : KeptIn (· < W.heap.size) W W.drew := (KeptIn.refl _ _).drew
  obtain ⟨⟨c0, c1⟩, hr0, _⟩ := HB.out _ hk0
  have c3 := hr0.c0
  have f3 := hr0.f0
  have c4 := hr0.c1
  have f4 := hr0.f1
  clear hr0
  go_region_with (go_at_call 59; refine (CC.out _ (HB.out _ hk0).2.2).mono ?_; rintro e V ⟨g, cap', rfl, hrow, hk⟩; obtain ⟨⟨d0, d1⟩, hr1, hk1⟩ := HB.out _ (hk0.go hk); have d3 := hr1.c0; have e3 := hr1.f0; have d4 := hr1.c1; have e4 := hr1.f1)
  all_goals
    have hset := BoxL.set (lv' := lv) (a' := some ⟨g, 0, none⟩) (n' := ps.length) (cap' := cap') hr1
    have hkx := (hk1.setCell (p := ⟨x + 1, 0, none⟩) (by rw [HX.out]; simp) (.int .i64 lv)).setCell (p := ⟨x + 1, 1, none⟩) (by rw [HX.out]; simp) (.slice (some ⟨g, 0, none⟩) ps.length cap')
    have hg1 := (rowS_lt hrow g rfl).1
    obtain ⟨V2, hV2⟩ : ∃ V2, (V.setCell ⟨x + 1, 0, none⟩ (.int .i64 lv)).setCell ⟨x + 1, 1, none⟩ (.slice (some ⟨g, 0, none⟩) ps.length cap') = V2 := ⟨_, rfl⟩
    have hrow2 : V2.ownsRow W.drew.heap.size 38 2 (.slice (some ⟨g, 0, none⟩) ps.length cap') ps.length (cellsP ps) := by
      rw [← hV2]
      exact rowS_block hrow fun g' e => by
        obtain rfl : g = g' := by simpa [Value.ownBlock] using e
        have : x + 1 < g := Nat.lt_of_lt_of_le HQ.out.2.1.lt (Nat.le_trans hk0.size hg1)
        exact (heap_setCell_other _ _ _ _ (by simp; omega)).trans (heap_setCell_other _ _ _ _ (by simp; omega))
    have hps : IsPs V2 (some ⟨g, 0, none⟩) ps := row_IsPs hrow2 HF.out
    have hge : w.heap.size ≤ g := Nat.le_trans (Nat.le_trans HQ.out.2.2.size hk0.size) hg1
    rw [hV2] at hset hkx ⊢
    clear hV2
    go_wp2_with fail
    refine bodyPost_ret (results_leaf1 rfl _ _ (x + 1) _ _ _ _ rfl hset) rfl ?_
    exact ⟨g, cap', rfl, hps, hge, hkx, row_TyP hrow2, row_cap hrow2⟩

end Go.Proofs.Ytlnlgapjlekehaa
/- Volumes: the pair of a volume. -/
set_option linter.unusedVariables false
namespace Go.Proofs.Ytlnlgapjlekehaa
open Go.RowKit

def keyV (v : Vol) : Nat := 4294967296 + v.id.toNat
def valV (v : Vol) : Nat := v.root.toNat + v.size.toNat * 65536 + v.frm.toNat * 1099511627776 + (if v.pin then 4294967296 else 0)
/-- A pair, boxed. -/
def BoxP (x k v : Nat) (W : World) : Prop := W.heap[x]? = some (.cells #[.int .u64 (k : Int), .int .u64 (v : Int)] 38 (0, 0))
section
variable {x k v : Nat} {W W' : World}
theorem BoxP.c0 (h : BoxP x k v W) : W.cell? ⟨x, 0, none⟩ = some (.int .u64 (k : Int)) := by simp [World.cell?, show W.heap[x]? = _ from h]
theorem BoxP.c1 (h : BoxP x k v W) : W.cell? ⟨x, 1, none⟩ = some (.int .u64 (v : Int)) := by simp [World.cell?, show W.heap[x]? = _ from h]
theorem BoxP.f0 (h : BoxP x k v W) : W.frozen? ⟨x, 0, none⟩ = false := by simp [World.frozen?, show W.heap[x]? = _ from h]
theorem BoxP.f1 (h : BoxP x k v W) : W.frozen? ⟨x, 1, none⟩ = false := by simp [World.frozen?, show W.heap[x]? = _ from h]
theorem BoxP.lt (h : BoxP x k v W) : x < W.heap.size := (Array.getElem?_eq_some_iff.1 h).1
theorem BoxP.kept {X : Nat → Prop} (h : BoxP x k v W) (hk : KeptIn X W W') (hX : X x) : BoxP x k v W' := (hk.block x hX).trans h
theorem BoxP.new (w : World) (k v : Nat) : BoxP w.heap.size k v (w.alloc (.cells #[.int .u64 (k : Int), .int .u64 (v : Int)] 38)) := heap_alloc_new w _
theorem BoxP.set (h : BoxP x k v W) (k' v' : Nat) : BoxP x k' v' ((W.setCell ⟨x, 0, none⟩ (.int .u64 (k' : Int))).setCell ⟨x, 1, none⟩ (.int .u64 (v' : Int))) := by
  have h1 : (W.setCell ⟨x, 0, none⟩ (.int .u64 (k' : Int))).heap[x]? = _ := heap_setCell_same _ _ _ _ _ _ h
  have h2 : ((W.setCell ⟨x, 0, none⟩ (.int .u64 (k' : Int))).setCell ⟨x, 1, none⟩ (.int .u64 (v' : Int))).heap[x]? = _ := heap_setCell_same _ _ _ _ _ _ h1
  exact h2.trans rfl
end
theorem results_pair_tmp {fn : Func} {p u : Tmp} (h : fn.results = #[.cell p 38, .tmp u]) (tmps : Array Value) (w : World) (x k v : Nat)
    (hp : tmps.getD p undef = .pointer (some ⟨x, 0, none⟩)) (hb : BoxP x k v w) : (results fn tmps).run Try.prog w = .ok (.tuple #[pairV (k, v), tmps.getD u undef]) w := by
  have hr := run_loadVar_row (P := Try.prog) w x 38 38 _ _ _ hb Try.underlying38 rfl (by kernel_rfl)
  rw [results_cell_tmp h, hp]
  simp [asAddr, hr, pairV]
theorem results_pair {fn : Func} {p : Tmp} (h : fn.results = #[.cell p 38]) (tmps : Array Value) (w : World) (x k v : Nat)
    (hp : tmps.getD p undef = .pointer (some ⟨x, 0, none⟩)) (hb : BoxP x k v w) : (results fn tmps).run Try.prog w = .ok (pairV (k, v)) w := by
  have hr := run_loadVar_row (P := Try.prog) w x 38 38 _ _ _ hb Try.underlying38 rfl (by kernel_rfl)
  have hp' : tmps[p]?.getD undef = .pointer (some ⟨x, 0, none⟩) := by simpa using hp
  simp [results, h, hp', asAddr, hr, pairV]

/-- A volume, boxed. -/
def BoxV (x : Nat) (v : Vol) (W : World) : Prop := W.heap[x]? = some (.cells #[.int .i64 v.id, .int .i64 v.size, .int .i64 v.root, .bool v.pin, .int .i64 v.frm] 60 (0, 0))
section
variable {x : Nat} {v : Vol} {W W' : World}
theorem BoxV.c0 (h : BoxV x v W) : W.cell? ⟨x, 0, none⟩ = some (.int .i64 v.id) := by simp [World.cell?, show W.heap[x]? = _ from h]
theorem BoxV.c1 (h : BoxV x v W) : W.cell? ⟨x, 1, none⟩ = some (.int .i64 v.size) := by simp [World.cell?, show W.heap[x]? = _ from h]
theorem BoxV.c2 (h : BoxV x v W) : W.cell? ⟨x, 2, none⟩ = some (.int .i64 v.root) := by simp [World.cell?, show W.heap[x]? = _ from h]
theorem BoxV.c3 (h : BoxV x v W) : W.cell? ⟨x, 3, none⟩ = some (.bool v.pin) := by simp [World.cell?, show W.heap[x]? = _ from h]
theorem BoxV.c4 (h : BoxV x v W) : W.cell? ⟨x, 4, none⟩ = some (.int .i64 v.frm) := by simp [World.cell?, show W.heap[x]? = _ from h]
theorem BoxV.fr (h : BoxV x v W) (i : Nat) : W.frozen? ⟨x, i, none⟩ = false := by simp [World.frozen?, show W.heap[x]? = _ from h]
theorem BoxV.lt (h : BoxV x v W) : x < W.heap.size := (Array.getElem?_eq_some_iff.1 h).1
theorem BoxV.kept {X : Nat → Prop} (h : BoxV x v W) (hk : KeptIn X W W') (hX : X x) : BoxV x v W' := (hk.block x hX).trans h
theorem BoxV.new (w : World) (v : Vol) : BoxV w.heap.size v (w.alloc (.cells #[.int .i64 v.id, .int .i64 v.size, .int .i64 v.root, .bool v.pin, .int .i64 v.frm] 60)) := heap_alloc_new w _
theorem BoxV.set (h : BoxV x v W) (u : Vol) : BoxV x u (((((W.setCell ⟨x, 0, none⟩ (.int .i64 u.id)).setCell ⟨x, 1, none⟩ (.int .i64 u.size)).setCell ⟨x, 2, none⟩ (.int .i64 u.root)).setCell ⟨x, 3, none⟩ (.bool u.pin)).setCell ⟨x, 4, none⟩ (.int .i64 u.frm)) := by
  have h1 : (W.setCell ⟨x, 0, none⟩ (.int .i64 u.id)).heap[x]? = _ := heap_setCell_same _ _ _ _ _ _ h
  have h2 : ((W.setCell ⟨x, 0, none⟩ (.int .i64 u.id)).setCell ⟨x, 1, none⟩ (.int .i64 u.size)).heap[x]? = _ := heap_setCell_same _ _ _ _ _ _ h1
  have h3 : (((W.setCell ⟨x, 0, none⟩ (.int .i64 u.id)).setCell ⟨x, 1, none⟩ (.int .i64 u.size)).setCell ⟨x, 2, none⟩ (.int .i64 u.root)).heap[x]? = _ := heap_setCell_same _ _ _ _ _ _ h2
  have h4 : ((((W.setCell ⟨x, 0, none⟩ (.int .i64 u.id)).setCell ⟨x, 1, none⟩ (.int .i64 u.size)).setCell ⟨x, 2, none⟩ (.int .i64 u.root)).setCell ⟨x, 3, none⟩ (.bool u.pin)).heap[x]? = _ := heap_setCell_same _ _ _ _ _ _ h3
  have h5 : (((((W.setCell ⟨x, 0, none⟩ (.int .i64 u.id)).setCell ⟨x, 1, none⟩ (.int .i64 u.size)).setCell ⟨x, 2, none⟩ (.int .i64 u.root)).setCell ⟨x, 3, none⟩ (.bool u.pin)).setCell ⟨x, 4, none⟩ (.int .i64 u.frm)).heap[x]? = _ := heap_setCell_same _ _ _ _ _ _ h4
  exact h5.trans rfl
end
theorem results_vol_tmp {fn : Func} {p u : Tmp} (h : fn.results = #[.cell p 60, .tmp u]) (tmps : Array Value) (w : World) (x : Nat) (v : Vol)
    (hp : tmps.getD p undef = .pointer (some ⟨x, 0, none⟩)) (hb : BoxV x v w) : (results fn tmps).run Try.prog w = .ok (.tuple #[volV v, tmps.getD u undef]) w := by
  have hr := run_loadVar_row (P := Try.prog) w x 60 60 _ _ _ hb Try.underlying60 rfl (by kernel_rfl)
  rw [results_cell_tmp h, hp]
  simp [asAddr, hr, volV]

theorem vsKey (id : Int) (w : World) : Calls Try.prog 43 #[.int .i64 id] w fun e w' => e = .returned (.int .u64 (IntKind.u64.wrap (4294967296 + id))) ∧ w' = w := by
  go_enter Try.func43, Try.ntmps43
  go_wp2_with fail
  go_ret
  refine ⟨?_, rfl⟩
  have : IntKind.u64.wrap (4294967296 + IntKind.u64.wrap id) = IntKind.u64.wrap (4294967296 + id) := by
    simp only [IntKind.wrap_u64]
    omega
  exact congrArg (fun x => Ending.returned (Value.int .u64 x)) this

/-- A good volume's parts are numbers. -/
theorem good_nats {v : Vol} (h : GoodV v) : ∃ a b c d : Nat, v = ⟨(a : Int), (b : Int), (c : Int), v.pin, (d : Int)⟩ ∧ 1 ≤ a ∧ a ≤ 16 ∧ b ≤ 64 ∧ c ≤ 511 ∧ d ≤ 16 := by
  obtain ⟨id, size, root, pin, frm⟩ := v
  obtain ⟨g1, g2, g3, g4, g5, g6, g7, g8⟩ := h
  simp only at g1 g2 g3 g4 g5 g6 g7 g8
  refine ⟨id.toNat, size.toNat, root.toNat, frm.toNat, ?_, by omega, by omega, by omega, by omega, by omega⟩
  rw [Int.toNat_of_nonneg (by omega), Int.toNat_of_nonneg g3, Int.toNat_of_nonneg g5, Int.toNat_of_nonneg g7]

def PairS (w : World) (v : Vol) (e : Ending) (w' : World) : Prop :=
  e = .returned (if GoodV v then .tuple #[pairV (keyV v, valV v), .int .i64 0] else .tuple #[pairV (0, 0), .int .i64 1]) ∧ KeptIn (· < w.heap.size) w w'

set_option maxHeartbeats 1000000 in
theorem pair_num (a b c d : Nat) (pin : Bool) : ((keyV ⟨(a : Int), (b : Int), (c : Int), pin, (d : Int)⟩ : Nat) : Int) = 4294967296 + (a : Int) ∧ ((valV ⟨(a : Int), (b : Int), (c : Int), pin, (d : Int)⟩ : Nat) : Int) = (c : Int) + (b : Int) * 65536 + (d : Int) * 1099511627776 + (if pin = true then 4294967296 else 0) := by
  refine ⟨by unfold keyV; simp only; omega, ?_⟩
  unfold valV
  cases pin with
  | true => simp only [if_true]; omega
  | false => simp only [Bool.false_eq_true, if_false]; omega

theorem vp_start (w : World) (v : Vol) : ∀ V, KeptIn (· < ((w.alloc (.cells #[.int .i64 v.id, .int .i64 v.size, .int .i64 v.root, .bool v.pin, .int .i64 v.frm] 60)).alloc (.cells #[.int .u64 0, .int .u64 0] 38)).heap.size) ((w.alloc (.cells #[.int .i64 v.id, .int .i64 v.size, .int .i64 v.root, .bool v.pin, .int .i64 v.frm] 60)).alloc (.cells #[.int .u64 0, .int .u64 0] 38)) V → BoxV w.heap.size v V ∧ BoxP (w.heap.size + 1) 0 0 V ∧ KeptIn (· < w.heap.size) w V := by
  intro V hk
  have h1 := BoxV.new w v
  obtain ⟨W1, hW1⟩ : ∃ W1, w.alloc (.cells #[.int .i64 v.id, .int .i64 v.size, .int .i64 v.root, .bool v.pin, .int .i64 v.frm] 60) = W1 := ⟨_, rfl⟩
  have hk1 : KeptIn (· < w.heap.size) w W1 := by rw [← hW1]; exact (KeptIn.refl _ w).alloc (fun _ h => h) _
  have hs : W1.heap.size = w.heap.size + 1 := by rw [← hW1]; simp
  rw [hW1] at h1 hk
  have h2 : BoxP W1.heap.size 0 0 (W1.alloc (.cells #[.int .u64 0, .int .u64 0] 38)) := BoxP.new W1 0 0
  have hk2 : KeptIn (· < W1.heap.size) W1 (W1.alloc (.cells #[.int .u64 0, .int .u64 0] 38)) := (KeptIn.refl _ W1).alloc (fun _ h => h) _
  rw [hs] at h2
  have hk3 := hk2.go hk
  exact ⟨h1.kept hk3 h1.lt, h2.kept hk h2.lt, hk1.go hk3⟩


set_option maxHeartbeats 1000000 in
theorem vsPair (v : Vol) (w : World) : Calls Try.prog 21 #[volV v] w (PairS w v) := by
  unfold PairS
  by_cases hg : GoodV v
  · rw [if_pos hg]
    obtain ⟨a, b, c, d, hv, ha1, ha, hb, hc, hd⟩ := good_nats hg
    obtain ⟨pin, hpin⟩ : ∃ pin, v.pin = pin := ⟨_, rfl⟩
    rw [hpin] at hv
    subst hv
    obtain ⟨hk1, hx1⟩ := pair_num a b c d pin
    obtain ⟨K, hK⟩ : ∃ K, keyV ⟨(a : Int), (b : Int), (c : Int), pin, (d : Int)⟩ = K := ⟨_, rfl⟩
    obtain ⟨X, hX⟩ : ∃ X, valV ⟨(a : Int), (b : Int), (c : Int), pin, (d : Int)⟩ = X := ⟨_, rfl⟩
    rw [hK] at hk1 ⊢
    rw [hX] at hx1 ⊢
    have HKX := Lib.hid (And.intro hk1 hx1)
    clear hk1 hx1 hK hX
    have HG := Lib.hid fun W => vsGood ⟨(a : Int), (b : Int), (c : Int), pin, (d : Int)⟩ W
    rw [decide_eq_true hg] at HG
    have HK := Lib.hid fun W => vsKey (a : Int) W
    unfold volV at HG ⊢
    simp only at HG ⊢
    have HS := Lib.hid (vp_start w ⟨(a : Int), (b : Int), (c : Int), pin, (d : Int)⟩)
    simp only at HS
    clear hg hpin
    go_enter Try.func21, Try.ntmps21
    cases pin with
    | true =>
      go_wp2_with (first
        | (go_at_call 22; refine (HG.out _).mono ?_; rintro e V ⟨rfl, hk⟩; obtain ⟨b1, b2, b3⟩ := HS.out V hk; have y0 := b1.c0; have y1 := b1.c1; have y2 := b1.c2; have y3 := b1.c3; have y4 := b1.c4; have q0 := b2.c0; have q1 := b2.c1; have r0 := b2.f0; have r1 := b2.f1; have HB := Lib.hid (And.intro b1 (And.intro b2 b3)); clear b1 b2 b3 hk)
        | (go_at_call 43; refine (HK.out _).mono ?_; rintro e V2 ⟨rfl, rfl⟩))
      have e1 := HKX.out.1
      have e2 : (X : Int) = (c : Int) + (b : Int) * 65536 + (d : Int) * 1099511627776 + 4294967296 := by simpa using HKX.out.2
      have hx := HB.out.2.1.set K X
      rw [e1, e2] at hx
      refine bodyPost_ret (results_pair_tmp rfl _ _ (w.heap.size + 1) _ _ rfl hx) rfl ?_
      exact ⟨rfl, (HB.out.2.2.setCell (p := ⟨w.heap.size + 1, 0, none⟩) (by simp) _).setCell (p := ⟨w.heap.size + 1, 1, none⟩) (by simp) _⟩
    | false =>
      go_wp2_with (first
        | (go_at_call 22; refine (HG.out _).mono ?_; rintro e V ⟨rfl, hk⟩; obtain ⟨b1, b2, b3⟩ := HS.out V hk; have y0 := b1.c0; have y1 := b1.c1; have y2 := b1.c2; have y3 := b1.c3; have y4 := b1.c4; have q0 := b2.c0; have q1 := b2.c1; have r0 := b2.f0; have r1 := b2.f1; have HB := Lib.hid (And.intro b1 (And.intro b2 b3)); clear b1 b2 b3 hk)
        | (go_at_call 43; refine (HK.out _).mono ?_; rintro e V2 ⟨rfl, rfl⟩))
      have e1 := HKX.out.1
      have e2 : (X : Int) = (c : Int) + (b : Int) * 65536 + (d : Int) * 1099511627776 := by simpa using HKX.out.2
      have hx := HB.out.2.1.set K X
      rw [e1, e2] at hx
      refine bodyPost_ret (results_pair_tmp rfl _ _ (w.heap.size + 1) _ _ rfl hx) rfl ?_
      exact ⟨rfl, (HB.out.2.2.setCell (p := ⟨w.heap.size + 1, 0, none⟩) (by simp) _).setCell (p := ⟨w.heap.size + 1, 1, none⟩) (by simp) _⟩
  · rw [if_neg hg]
    have HG := Lib.hid fun W => vsGood v W
    rw [decide_eq_false hg] at HG
    obtain ⟨id, size, root, pin, frm⟩ := v
    unfold volV at HG ⊢
    simp only at HG ⊢
    have HS := Lib.hid (vp_start w ⟨id, size, root, pin, frm⟩)
    simp only at HS
    clear hg
    go_enter Try.func21, Try.ntmps21
    go_wp2_with (go_at_call 22; refine (HG.out _).mono ?_; rintro e V ⟨rfl, hk⟩; obtain ⟨b1, b2, b3⟩ := HS.out V hk; have q0 := b2.c0; have q1 := b2.c1; have r0 := b2.f0; have r1 := b2.f1; have HB := Lib.hid (And.intro b1 (And.intro b2 b3)); clear b1 b2 b3 hk)
    refine bodyPost_ret (results_pair_tmp rfl _ _ (w.heap.size + 1) 0 0 rfl (HB.out.2.1.set 0 0)) rfl ?_
    exact ⟨rfl, (HB.out.2.2.setCell (p := ⟨w.heap.size + 1, 0, none⟩) (by simp) _).setCell (p := ⟨w.heap.size + 1, 1, none⟩) (by simp) _⟩

theorem vp_start2 (w : World) (v : Vol) (K X : Nat) : BoxP (w.heap.size + 1) K X ((w.alloc (.cells #[.int .i64 v.id, .int .i64 v.size, .int .i64 v.root, .bool v.pin, .int .i64 v.frm] 60)).alloc (.cells #[.int .u64 (K : Int), .int .u64 (X : Int)] 38)) ∧ KeptIn (· < w.heap.size) w ((w.alloc (.cells #[.int .i64 v.id, .int .i64 v.size, .int .i64 v.root, .bool v.pin, .int .i64 v.frm] 60)).alloc (.cells #[.int .u64 (K : Int), .int .u64 (X : Int)] 38)) := by
  obtain ⟨W1, hW1⟩ : ∃ W1, w.alloc (.cells #[.int .i64 v.id, .int .i64 v.size, .int .i64 v.root, .bool v.pin, .int .i64 v.frm] 60) = W1 := ⟨_, rfl⟩
  have hk1 : KeptIn (· < w.heap.size) w W1 := by rw [← hW1]; exact (KeptIn.refl _ w).alloc (fun _ h => h) _
  have hs : W1.heap.size = w.heap.size + 1 := by rw [← hW1]; simp
  rw [hW1]
  have h2 := BoxP.new W1 K X
  rw [hs] at h2
  exact ⟨h2, hk1.go ((KeptIn.refl _ W1).alloc (fun _ h => h) _)⟩

/-- What the document's pair is. -/
theorem r11Pair (v : Vol) (hg : GoodV v) (w : World) : Calls Try.prog 25 #[volV v] w fun e w' => e = .returned (pairV (keyV v, valV v)) ∧ KeptIn (· < w.heap.size) w w' := by
  obtain ⟨a, b, c, d, hv, ha1, ha, hb, hc, hd⟩ := good_nats hg
  obtain ⟨pin, hpin⟩ : ∃ pin, v.pin = pin := ⟨_, rfl⟩
  rw [hpin] at hv
  subst hv
  obtain ⟨hk1, hx1⟩ := pair_num a b c d pin
  obtain ⟨K, hK⟩ : ∃ K, keyV ⟨(a : Int), (b : Int), (c : Int), pin, (d : Int)⟩ = K := ⟨_, rfl⟩
  obtain ⟨X, hX⟩ : ∃ X, valV ⟨(a : Int), (b : Int), (c : Int), pin, (d : Int)⟩ = X := ⟨_, rfl⟩
  rw [hK] at hk1 ⊢
  rw [hX] at hx1 ⊢
  have HKX := Lib.hid (And.intro hk1 hx1)
  clear hk1 hx1 hK hX
  unfold volV
  simp only
  have HS := Lib.hid (vp_start2 w ⟨(a : Int), (b : Int), (c : Int), pin, (d : Int)⟩ K X)
  clear hg hpin
  go_enter Try.func25, Try.ntmps25
  cases pin with
  | true =>
    go_wp2_with fail
    have e1 := HKX.out.1
    have e2 : (X : Int) = (c : Int) + (b : Int) * 65536 + (d : Int) * 1099511627776 + 4294967296 := by simpa using HKX.out.2
    obtain ⟨hx, hk9⟩ := HS.out
    rw [e1, e2] at hx hk9
    exact bodyPost_ret (results_pair rfl _ _ (w.heap.size + 1) _ _ rfl hx) rfl ⟨rfl, hk9⟩
  | false =>
    go_wp2_with fail
    have e1 := HKX.out.1
    have e2 : (X : Int) = (c : Int) + (b : Int) * 65536 + (d : Int) * 1099511627776 := by simpa using HKX.out.2
    obtain ⟨hx, hk9⟩ := HS.out
    rw [e1, e2] at hx hk9
    exact bodyPost_ret (results_pair rfl _ _ (w.heap.size + 1) _ _ rfl hx) rfl ⟨rfl, hk9⟩

end Go.Proofs.Ytlnlgapjlekehaa
/- Volumes: the volume of a pair. -/
set_option linter.unusedVariables false
namespace Go.Proofs.Ytlnlgapjlekehaa
open Go.RowKit

/-- What a pair says: the program's way. -/
def decP (k x : Nat) : Vol := ⟨((k % 4294967296 : Nat) : Int), ((x / 65536 % 65536 : Nat) : Int), ((x % 65536 : Nat) : Int), decide (x / 4294967296 % 2 = 1), ((x / 1099511627776 : Nat) : Int)⟩
/-- The document's way. -/
def decR (k x : Nat) : Vol := ⟨((k % 4294967296 : Nat) : Int), ((x / 65536 % 65536 : Nat) : Int), ((x % 65536 : Nat) : Int), decide (x / 4294967296 % 256 = 1), ((x / 1099511627776 : Nat) : Int)⟩
def IsV (k x : Nat) (v : Vol) : Prop := GoodV v ∧ keyV v = k ∧ valV v = x
instance (k x : Nat) (v : Vol) : Decidable (IsV k x v) := by unfold IsV; infer_instance
/-- The volume of a pair, if there is one. -/
def readVol (k x : Nat) : Option Vol := if IsV k x (decP k x) then some (decP k x) else none

theorem dec_of {k x : Nat} {v : Vol} (h : IsV k x v) : decP k x = v ∧ decR k x = v := by
  obtain ⟨hg, rfl, rfl⟩ := h
  obtain ⟨a, b, c, d, hv, ha1, ha, hb, hc, hd⟩ := good_nats hg
  obtain ⟨pin, hpin⟩ : ∃ pin, v.pin = pin := ⟨_, rfl⟩
  rw [hpin] at hv
  subst hv
  have hk : keyV ⟨(a : Int), (b : Int), (c : Int), pin, (d : Int)⟩ = 4294967296 + a := by unfold keyV; simp only; omega
  have hx : valV ⟨(a : Int), (b : Int), (c : Int), pin, (d : Int)⟩ = c + b * 65536 + d * 1099511627776 + (if pin = true then 4294967296 else 0) := by unfold valV; simp only; omega
  rw [hk, hx]
  have h1 : (4294967296 + a) % 4294967296 = a := by omega
  cases pin with
  | true =>
    rw [if_pos rfl]
    have h2 : (c + b * 65536 + d * 1099511627776 + 4294967296) / 65536 % 65536 = b := by omega
    have h3 : (c + b * 65536 + d * 1099511627776 + 4294967296) % 65536 = c := by omega
    have h4 : (c + b * 65536 + d * 1099511627776 + 4294967296) / 1099511627776 = d := by omega
    have h5 : (c + b * 65536 + d * 1099511627776 + 4294967296) / 4294967296 % 2 = 1 := by omega
    have h6 : (c + b * 65536 + d * 1099511627776 + 4294967296) / 4294967296 % 256 = 1 := by omega
    unfold decP decR
    rw [h1, h2, h3, h4, h5, h6]
    exact ⟨rfl, rfl⟩
  | false =>
    rw [if_neg Bool.false_ne_true, Nat.add_zero]
    have h2 : (c + b * 65536 + d * 1099511627776) / 65536 % 65536 = b := by omega
    have h3 : (c + b * 65536 + d * 1099511627776) % 65536 = c := by omega
    have h4 : (c + b * 65536 + d * 1099511627776) / 1099511627776 = d := by omega
    have h5 : (c + b * 65536 + d * 1099511627776) / 4294967296 % 2 = 0 := by omega
    have h6 : (c + b * 65536 + d * 1099511627776) / 4294967296 % 256 = 0 := by omega
    unfold decP decR
    rw [h1, h2, h3, h4, h5, h6]
    exact ⟨rfl, rfl⟩

theorem readVol_of {k x : Nat} {v : Vol} (h : IsV k x v) : readVol k x = some v := by
  unfold readVol
  rw [(dec_of h).1, if_pos h]
theorem readVol_iff {k x : Nat} {v : Vol} : readVol k x = some v ↔ IsV k x v := by
  refine ⟨fun h => ?_, readVol_of⟩
  unfold readVol at h
  split at h
  · rename_i hi
    cases h
    exact hi
  · cases h
theorem readVol_pair {v : Vol} (h : GoodV v) : readVol (keyV v) (valV v) = some v := readVol_of ⟨h, rfl, rfl⟩
theorem readVol_no {k x : Nat} (h : ¬ IsV k x (decP k x)) : readVol k x = none := by
  unfold readVol
  rw [if_neg h]
theorem readVol_no' {k x : Nat} (h : ¬ IsV k x (decR k x)) : readVol k x = none := by
  cases hr : readVol k x with
  | none => rfl
  | some v =>
    have hi := readVol_iff.1 hr
    rw [(dec_of hi).2] at h
    exact absurd hi h

def vol0 : Vol := ⟨0, 0, 0, false, 0⟩
def ReadS (w : World) (o : Option Vol) (e : Ending) (w' : World) : Prop :=
  e = .returned (.tuple #[volV (o.getD vol0), .bool o.isSome]) ∧ KeptIn (· < w.heap.size) w w'

/-- The three boxes of Read. -/
theorem vr_boxes (w : World) (k x : Nat) (v : Vol) : ∀ V, KeptIn (· < (((w.alloc (.cells #[.int .u64 (k : Int), .int .u64 (x : Int)] 38)).alloc (.cells #[.int .i64 0, .int .i64 0, .int .i64 0, .bool false, .int .i64 0] 60)).alloc (.cells #[.int .i64 v.id, .int .i64 v.size, .int .i64 v.root, .bool v.pin, .int .i64 v.frm] 60)).heap.size) (((w.alloc (.cells #[.int .u64 (k : Int), .int .u64 (x : Int)] 38)).alloc (.cells #[.int .i64 0, .int .i64 0, .int .i64 0, .bool false, .int .i64 0] 60)).alloc (.cells #[.int .i64 v.id, .int .i64 v.size, .int .i64 v.root, .bool v.pin, .int .i64 v.frm] 60)) V →
    BoxP w.heap.size k x V ∧ BoxV (w.heap.size + 1) vol0 V ∧ BoxV (w.heap.size + 1 + 1) v V ∧ KeptIn (· < w.heap.size) w V ∧ w.heap.size + 1 + 1 + 1 ≤ V.heap.size := by
  intro V hk
  have h1 := BoxP.new w k x
  obtain ⟨W1, hW1⟩ : ∃ W1, w.alloc (.cells #[.int .u64 (k : Int), .int .u64 (x : Int)] 38) = W1 := ⟨_, rfl⟩
  have hk1 : KeptIn (· < w.heap.size) w W1 := by rw [← hW1]; exact (KeptIn.refl _ w).alloc (fun _ h => h) _
  have hs1 : W1.heap.size = w.heap.size + 1 := by rw [← hW1]; simp
  rw [hW1] at h1 hk
  have h2 : BoxV W1.heap.size vol0 (W1.alloc (.cells #[.int .i64 0, .int .i64 0, .int .i64 0, .bool false, .int .i64 0] 60)) := BoxV.new W1 vol0
  obtain ⟨W2, hW2⟩ : ∃ W2, W1.alloc (.cells #[.int .i64 0, .int .i64 0, .int .i64 0, .bool false, .int .i64 0] 60) = W2 := ⟨_, rfl⟩
  have hk2 : KeptIn (· < W1.heap.size) W1 W2 := by rw [← hW2]; exact (KeptIn.refl _ W1).alloc (fun _ h => h) _
  have hs2 : W2.heap.size = w.heap.size + 1 + 1 := by rw [← hW2, World.size_alloc, hs1]
  rw [hW2] at h2 hk
  have h3 := BoxV.new W2 v
  obtain ⟨W3, hW3⟩ : ∃ W3, W2.alloc (.cells #[.int .i64 v.id, .int .i64 v.size, .int .i64 v.root, .bool v.pin, .int .i64 v.frm] 60) = W3 := ⟨_, rfl⟩
  have hk3 : KeptIn (· < W2.heap.size) W2 W3 := by rw [← hW3]; exact (KeptIn.refl _ W2).alloc (fun _ h => h) _
  have hs3 : W3.heap.size = w.heap.size + 1 + 1 + 1 := by rw [← hW3, World.size_alloc, hs2]
  rw [hW3] at h3 hk
  have k3 := hk3.go hk
  have k2 := hk2.go k3
  rw [hs2] at h3
  rw [hs1] at h2
  exact ⟨h1.kept k2 h1.lt, h2.kept k3 h2.lt, h3.kept hk h3.lt, hk1.go k2, by rw [← hs3]; exact hk.size⟩

theorem dec_nats (k x : Nat) (hk : k < 18446744073709551616) (hx : x < 18446744073709551616) (n : Nat) (hn : n = 2 ∨ n = 256) : ∃ (a b c d : Nat) (pin : Bool), (⟨((k % 4294967296 : Nat) : Int), ((x / 65536 % 65536 : Nat) : Int), ((x % 65536 : Nat) : Int), decide (x / 4294967296 % n = 1), ((x / 1099511627776 : Nat) : Int)⟩ : Vol) = ⟨(a : Int), (b : Int), (c : Int), pin, (d : Int)⟩ ∧
    (k : Int) % 4294967296 = (a : Int) ∧ (x : Int) / 65536 % 65536 = (b : Int) ∧ (x : Int) % 65536 = (c : Int) ∧ ((x : Int) / 4294967296 % (n : Int) == 1) = pin ∧ (x : Int) / 1099511627776 = (d : Int) ∧ (a : Int) ≤ 4294967295 ∧ (b : Int) ≤ 65535 ∧ (c : Int) ≤ 65535 ∧ (d : Int) ≤ 16777215 := by
  refine ⟨k % 4294967296, x / 65536 % 65536, x % 65536, x / 1099511627776, decide (x / 4294967296 % n = 1), rfl, by omega, by omega, by omega, ?_, by omega, by omega, by omega, by omega, by omega⟩
  rw [Bool.eq_iff_iff, beq_iff_eq, decide_eq_true_iff]
  rcases hn with rfl | rfl <;> omega


set_option maxHeartbeats 1000000 in
theorem vsRead (k x : Nat) (hk : k < 18446744073709551616) (hx : x < 18446744073709551616) (w : World) : Calls Try.prog 24 #[pairV (k, x)] w (ReadS w (readVol k x)) := by
  unfold pairV ReadS
  simp only
  obtain ⟨a, b, c, d, pin, hv, e1, e2, e3, e4, e5, l1, l2, l3, l4⟩ := dec_nats k x hk hx 2 (.inl rfl)
  have hdp : decP k x = ⟨(a : Int), (b : Int), (c : Int), pin, (d : Int)⟩ := hv
  have e4' : ((x : Int) / 4294967296 % 2 == 1) = pin := e4
  have HB := Lib.hid (vr_boxes w k x ⟨(a : Int), (b : Int), (c : Int), pin, (d : Int)⟩)
  have HP := Lib.hid fun W => vsPair ⟨(a : Int), (b : Int), (c : Int), pin, (d : Int)⟩ W
  unfold volV PairS at HP
  simp only at HP HB
  clear hv e4
  by_cases hi : IsV k x ⟨(a : Int), (b : Int), (c : Int), pin, (d : Int)⟩
  · rw [readVol_of hi]
    have hg := hi.1
    have hkk := hi.2.1
    have hxx := hi.2.2
    rw [if_pos hg, hkk, hxx] at HP
    clear hi hg hkk hxx hdp
    unfold pairV at HP
    simp only [Option.getD_some, Option.isSome_some]
    go_enter Try.func24, Try.ntmps24
    go_wp2_with (go_at_call 21; refine (HP.out _).mono ?_; rintro e V ⟨rfl, hk9⟩; obtain ⟨b1, b2, b3, b4, b5⟩ := HB.out (V.alloc (.cells #[.int .u64 k, .int .u64 x] 38)) (hk9.alloc (fun _ h => h) _); have y0 := b1.c0; have y1 := b1.c1; have z0 := b3.c0; have z1 := b3.c1; have z2 := b3.c2; have z3 := b3.c3; have z4 := b3.c4; have q0 := b2.c0; have q1 := b2.c1; have q2 := b2.c2; have q3 := b2.c3; have q4 := b2.c4; have r0 := b2.fr 0; have r1 := b2.fr 1; have r2 := b2.fr 2; have r3 := b2.fr 3; have r4 := b2.fr 4; have HBB := Lib.hid (And.intro b1 (And.intro b2 (And.intro b3 (And.intro b4 b5)))); clear b1 b2 b3 b4 b5 hk9)
    refine bodyPost_ret (results_vol_tmp rfl _ _ (w.heap.size + 1) _ rfl (HBB.out.2.1.set ⟨(a : Int), (b : Int), (c : Int), pin, (d : Int)⟩)) rfl ?_
    exact ⟨rfl, ((((HBB.out.2.2.2.1.setCell (p := ⟨w.heap.size + 1, 0, none⟩) (by simp) _).setCell (p := ⟨w.heap.size + 1, 1, none⟩) (by simp) _).setCell (p := ⟨w.heap.size + 1, 2, none⟩) (by simp) _).setCell (p := ⟨w.heap.size + 1, 3, none⟩) (by simp) _).setCell (p := ⟨w.heap.size + 1, 4, none⟩) (by simp) _⟩
  · rw [readVol_no (by rw [hdp]; exact hi)]
    simp only [Option.getD_none, Option.isSome_none]
    by_cases hg : GoodV ⟨(a : Int), (b : Int), (c : Int), pin, (d : Int)⟩
    · rw [if_pos hg] at HP
      obtain ⟨K, hK⟩ : ∃ K, keyV ⟨(a : Int), (b : Int), (c : Int), pin, (d : Int)⟩ = K := ⟨_, rfl⟩
      obtain ⟨X, hX⟩ : ∃ X, valV ⟨(a : Int), (b : Int), (c : Int), pin, (d : Int)⟩ = X := ⟨_, rfl⟩
      rw [hK, hX] at HP
      have hne : ¬ (K = k ∧ X = x) := fun h => hi ⟨hg, hK.trans h.1, hX.trans h.2⟩
      unfold pairV at HP
      clear hi hg hdp hK hX
      by_cases hKk : K = k
      · subst hKk
        have hXx : ¬ X = x := fun h => hne ⟨rfl, h⟩
        have n1 : ((X : Int) == (x : Int)) = false := by rw [beq_eq_false_iff_ne]; omega
        have n2 : (X == x) = false := by rw [beq_eq_false_iff_ne]; exact hXx
        have n3 : ¬ (X : Int) = (x : Int) := by omega
        clear hne
        go_enter Try.func24, Try.ntmps24
        go_wp2_with (go_at_call 21; refine (HP.out _).mono ?_; rintro e V ⟨rfl, hk9⟩; obtain ⟨b1, b2, b3, b4, b5⟩ := HB.out (V.alloc (.cells #[.int .u64 K, .int .u64 X] 38)) (hk9.alloc (fun _ h => h) _); have y0 := b1.c0; have y1 := b1.c1; have z0 := b3.c0; have z1 := b3.c1; have z2 := b3.c2; have z3 := b3.c3; have z4 := b3.c4; have q0 := b2.c0; have q1 := b2.c1; have q2 := b2.c2; have q3 := b2.c3; have q4 := b2.c4; have r0 := b2.fr 0; have r1 := b2.fr 1; have r2 := b2.fr 2; have r3 := b2.fr 3; have r4 := b2.fr 4; have HBB := Lib.hid (And.intro b1 (And.intro b2 (And.intro b3 (And.intro b4 b5)))); clear b1 b2 b3 b4 b5 hk9)
        refine bodyPost_ret (results_vol_tmp rfl _ _ (w.heap.size + 1) _ rfl (HBB.out.2.1.set vol0)) rfl ?_
        exact ⟨rfl, ((((HBB.out.2.2.2.1.setCell (p := ⟨w.heap.size + 1, 0, none⟩) (by simp) _).setCell (p := ⟨w.heap.size + 1, 1, none⟩) (by simp) _).setCell (p := ⟨w.heap.size + 1, 2, none⟩) (by simp) _).setCell (p := ⟨w.heap.size + 1, 3, none⟩) (by simp) _).setCell (p := ⟨w.heap.size + 1, 4, none⟩) (by simp) _⟩
      · have n1 : ((K : Int) == (k : Int)) = false := by rw [beq_eq_false_iff_ne]; omega
        have n2 : (K == k) = false := by rw [beq_eq_false_iff_ne]; exact hKk
        have n3 : ¬ (K : Int) = (k : Int) := by omega
        clear hne
        go_enter Try.func24, Try.ntmps24
        go_wp2_with (go_at_call 21; refine (HP.out _).mono ?_; rintro e V ⟨rfl, hk9⟩; obtain ⟨b1, b2, b3, b4, b5⟩ := HB.out (V.alloc (.cells #[.int .u64 K, .int .u64 X] 38)) (hk9.alloc (fun _ h => h) _); have y0 := b1.c0; have y1 := b1.c1; have z0 := b3.c0; have z1 := b3.c1; have z2 := b3.c2; have z3 := b3.c3; have z4 := b3.c4; have q0 := b2.c0; have q1 := b2.c1; have q2 := b2.c2; have q3 := b2.c3; have q4 := b2.c4; have r0 := b2.fr 0; have r1 := b2.fr 1; have r2 := b2.fr 2; have r3 := b2.fr 3; have r4 := b2.fr 4; have HBB := Lib.hid (And.intro b1 (And.intro b2 (And.intro b3 (And.intro b4 b5)))); clear b1 b2 b3 b4 b5 hk9)
        refine bodyPost_ret (results_vol_tmp rfl _ _ (w.heap.size + 1) _ rfl (HBB.out.2.1.set vol0)) rfl ?_
        exact ⟨rfl, ((((HBB.out.2.2.2.1.setCell (p := ⟨w.heap.size + 1, 0, none⟩) (by simp) _).setCell (p := ⟨w.heap.size + 1, 1, none⟩) (by simp) _).setCell (p := ⟨w.heap.size + 1, 2, none⟩) (by simp) _).setCell (p := ⟨w.heap.size + 1, 3, none⟩) (by simp) _).setCell (p := ⟨w.heap.size + 1, 4, none⟩) (by simp) _⟩
    · rw [if_neg hg] at HP
      unfold pairV at HP
      clear hi hg hdp
      go_enter Try.func24, Try.ntmps24
      go_wp2_with (go_at_call 21; refine (HP.out _).mono ?_; rintro e V ⟨rfl, hk9⟩; obtain ⟨b1, b2, b3, b4, b5⟩ := HB.out (V.alloc (.cells #[.int .u64 0, .int .u64 0] 38)) (hk9.alloc (fun _ h => h) _); have y0 := b1.c0; have y1 := b1.c1; have z0 := b3.c0; have z1 := b3.c1; have z2 := b3.c2; have z3 := b3.c3; have z4 := b3.c4; have q0 := b2.c0; have q1 := b2.c1; have q2 := b2.c2; have q3 := b2.c3; have q4 := b2.c4; have r0 := b2.fr 0; have r1 := b2.fr 1; have r2 := b2.fr 2; have r3 := b2.fr 3; have r4 := b2.fr 4; have HBB := Lib.hid (And.intro b1 (And.intro b2 (And.intro b3 (And.intro b4 b5)))); clear b1 b2 b3 b4 b5 hk9)
      refine bodyPost_ret (results_vol_tmp rfl _ _ (w.heap.size + 1) _ rfl (HBB.out.2.1.set vol0)) rfl ?_
      exact ⟨rfl, ((((HBB.out.2.2.2.1.setCell (p := ⟨w.heap.size + 1, 0, none⟩) (by simp) _).setCell (p := ⟨w.heap.size + 1, 1, none⟩) (by simp) _).setCell (p := ⟨w.heap.size + 1, 2, none⟩) (by simp) _).setCell (p := ⟨w.heap.size + 1, 3, none⟩) (by simp) _).setCell (p := ⟨w.heap.size + 1, 4, none⟩) (by simp) _⟩

end Go.Proofs.Ytlnlgapjlekehaa
/- Volumes: the document's volume of a pair. -/
set_option linter.unusedVariables false
namespace Go.Proofs.Ytlnlgapjlekehaa
open Go.RowKit


theorem vr_facts (w : World) (k x a b c d : Nat) (pin : Bool) (V : World) (h : BoxP w.heap.size k x V ∧ BoxV (w.heap.size + 1) vol0 V ∧ BoxV (w.heap.size + 1 + 1) ⟨(a : Int), (b : Int), (c : Int), pin, (d : Int)⟩ V ∧ KeptIn (· < w.heap.size) w V ∧ w.heap.size + 1 + 1 + 1 ≤ V.heap.size) :
    V.cell? ⟨w.heap.size, 0, none⟩ = some (.int .u64 (k : Int)) ∧ V.cell? ⟨w.heap.size, 1, none⟩ = some (.int .u64 (x : Int)) ∧ V.cell? ⟨w.heap.size + 1 + 1, 0, none⟩ = some (.int .i64 (a : Int)) ∧ V.cell? ⟨w.heap.size + 1 + 1, 1, none⟩ = some (.int .i64 (b : Int)) ∧ V.cell? ⟨w.heap.size + 1 + 1, 2, none⟩ = some (.int .i64 (c : Int)) ∧ V.cell? ⟨w.heap.size + 1 + 1, 3, none⟩ = some (.bool pin) ∧ V.cell? ⟨w.heap.size + 1 + 1, 4, none⟩ = some (.int .i64 (d : Int)) := by
  obtain ⟨b1, b2, b3, b4, b5⟩ := h
  exact ⟨b1.c0, b1.c1, b3.c0, b3.c1, b3.c2, b3.c3, b3.c4⟩

set_option maxHeartbeats 1000000 in
theorem r11Read (k x : Nat) (hk : k < 18446744073709551616) (hx : x < 18446744073709551616) (w : World) : Calls Try.prog 26 #[pairV (k, x)] w (ReadS w (readVol k x)) := by
  unfold pairV ReadS
  simp only
  obtain ⟨a, b, c, d, pin, hv, e1, e2, e3, e4, e5, l1, l2, l3, l4⟩ := dec_nats k x hk hx 256 (.inr rfl)
  have hdp : decR k x = ⟨(a : Int), (b : Int), (c : Int), pin, (d : Int)⟩ := hv
  have e4' : ((x : Int) / 4294967296 % 256 == 1) = pin := e4
  have HB := Lib.hid (vr_boxes w k x ⟨(a : Int), (b : Int), (c : Int), pin, (d : Int)⟩)
  have HF := Lib.hid fun V h => vr_facts w k x a b c d pin V (HB.out V h)
  have HG := Lib.hid fun W => r11Good ⟨(a : Int), (b : Int), (c : Int), pin, (d : Int)⟩ W
  unfold volV at HG
  simp only at HB HF HG
  clear hv e4
  by_cases hg : GoodV ⟨(a : Int), (b : Int), (c : Int), pin, (d : Int)⟩
  · have HP := Lib.hid fun W => r11Pair ⟨(a : Int), (b : Int), (c : Int), pin, (d : Int)⟩ hg W
    unfold volV pairV at HP
    simp only at HP
    rw [decide_eq_true hg] at HG
    by_cases hi : IsV k x ⟨(a : Int), (b : Int), (c : Int), pin, (d : Int)⟩
    · rw [readVol_of hi]
      have hkk := hi.2.1
      have hxx := hi.2.2
      rw [hkk, hxx] at HP
      clear hi hg hkk hxx hdp
      simp only [Option.getD_some, Option.isSome_some]
      go_enter Try.func26, Try.ntmps26
      go_wp2_with fail
      go_region_held3 (fun w' => w'.cell? ⟨w.heap.size, 0, none⟩ = some (.int .u64 (k : Int)) ∧ w'.cell? ⟨w.heap.size, 1, none⟩ = some (.int .u64 (x : Int)) ∧ w'.cell? ⟨w.heap.size + 1 + 1, 0, none⟩ = some (.int .i64 (a : Int)) ∧ w'.cell? ⟨w.heap.size + 1 + 1, 1, none⟩ = some (.int .i64 (b : Int)) ∧ w'.cell? ⟨w.heap.size + 1 + 1, 2, none⟩ = some (.int .i64 (c : Int)) ∧ w'.cell? ⟨w.heap.size + 1 + 1, 3, none⟩ = some (.bool pin) ∧ w'.cell? ⟨w.heap.size + 1 + 1, 4, none⟩ = some (.int .i64 (d : Int)))
        (first | exact HF.out _ (KeptIn.refl _ _) | exact HF.out _ (KeptIn.refl _ _).drew | exact HF.out _ ((KeptIn.refl _ _).drew.go hk) | exact HF.out _ (((KeptIn.refl _ _).drew.go hk).go hk2))
        (first | (go_at_call 23; refine (HG.out _).mono ?_; rintro e V ⟨rfl, hk⟩) | (go_at_call 25; refine (HP.out _).mono ?_; rintro e V2 ⟨rfl, hk2⟩))
      obtain ⟨b1, b2, b3, b4, b5⟩ := HB.out V2 ((((KeptIn.refl _ _).drew.go hk).go hk2))
      have z0 := b3.c0
      have z1 := b3.c1
      have z2 := b3.c2
      have z3 := b3.c3
      have z4 := b3.c4
      have q0 := b2.c0
      have q1 := b2.c1
      have q2 := b2.c2
      have q3 := b2.c3
      have q4 := b2.c4
      have r0 := b2.fr 0
      have r1 := b2.fr 1
      have r2 := b2.fr 2
      have r3 := b2.fr 3
      have r4 := b2.fr 4
      have HBB := Lib.hid (And.intro b1 (And.intro b2 (And.intro b3 (And.intro b4 b5))))
      clear b1 b2 b3 b4 b5 HB HF
      go_wp2_with fail
      refine bodyPost_ret (results_vol_tmp rfl _ _ (w.heap.size + 1) _ rfl (HBB.out.2.1.set ⟨(a : Int), (b : Int), (c : Int), pin, (d : Int)⟩)) rfl ?_
      exact ⟨rfl, ((((HBB.out.2.2.2.1.setCell (p := ⟨w.heap.size + 1, 0, none⟩) (by simp) _).setCell (p := ⟨w.heap.size + 1, 1, none⟩) (by simp) _).setCell (p := ⟨w.heap.size + 1, 2, none⟩) (by simp) _).setCell (p := ⟨w.heap.size + 1, 3, none⟩) (by simp) _).setCell (p := ⟨w.heap.size + 1, 4, none⟩) (by simp) _⟩
    · rw [readVol_no' (by rw [hdp]; exact hi)]
      simp only [Option.getD_none, Option.isSome_none]
      obtain ⟨K, hK⟩ : ∃ K, keyV ⟨(a : Int), (b : Int), (c : Int), pin, (d : Int)⟩ = K := ⟨_, rfl⟩
      obtain ⟨X, hX⟩ : ∃ X, valV ⟨(a : Int), (b : Int), (c : Int), pin, (d : Int)⟩ = X := ⟨_, rfl⟩
      rw [hK, hX] at HP
      have hne : ¬ (K = k ∧ X = x) := fun h => hi ⟨hg, hK.trans h.1, hX.trans h.2⟩
      clear hi hg hdp hK hX
      by_cases hKk : K = k
      · subst hKk
        have hXx : ¬ X = x := fun h => hne ⟨rfl, h⟩
        have n1 : ((X : Int) == (x : Int)) = false := by rw [beq_eq_false_iff_ne]; omega
        have n2 : (X == x) = false := by rw [beq_eq_false_iff_ne]; exact hXx
        have n3 : ¬ (X : Int) = (x : Int) := by omega
        clear hne
        go_enter Try.func26, Try.ntmps26
        go_wp2_with fail
        go_region_held3 (fun w' => w'.cell? ⟨w.heap.size, 0, none⟩ = some (.int .u64 (K : Int)) ∧ w'.cell? ⟨w.heap.size, 1, none⟩ = some (.int .u64 (x : Int)) ∧ w'.cell? ⟨w.heap.size + 1 + 1, 0, none⟩ = some (.int .i64 (a : Int)) ∧ w'.cell? ⟨w.heap.size + 1 + 1, 1, none⟩ = some (.int .i64 (b : Int)) ∧ w'.cell? ⟨w.heap.size + 1 + 1, 2, none⟩ = some (.int .i64 (c : Int)) ∧ w'.cell? ⟨w.heap.size + 1 + 1, 3, none⟩ = some (.bool pin) ∧ w'.cell? ⟨w.heap.size + 1 + 1, 4, none⟩ = some (.int .i64 (d : Int)))
          (first | exact HF.out _ (KeptIn.refl _ _) | exact HF.out _ (KeptIn.refl _ _).drew | exact HF.out _ ((KeptIn.refl _ _).drew.go hk) | exact HF.out _ (((KeptIn.refl _ _).drew.go hk).go hk2))
          (first | (go_at_call 23; refine (HG.out _).mono ?_; rintro e V ⟨rfl, hk⟩) | (go_at_call 25; refine (HP.out _).mono ?_; rintro e V2 ⟨rfl, hk2⟩))
        obtain ⟨b1, b2, b3, b4, b5⟩ := HB.out V2 ((((KeptIn.refl _ _).drew.go hk).go hk2))
        have z0 := b3.c0
        have z1 := b3.c1
        have z2 := b3.c2
        have z3 := b3.c3
        have z4 := b3.c4
        have q0 := b2.c0
        have q1 := b2.c1
        have q2 := b2.c2
        have q3 := b2.c3
        have q4 := b2.c4
        have r0 := b2.fr 0
        have r1 := b2.fr 1
        have r2 := b2.fr 2
        have r3 := b2.fr 3
        have r4 := b2.fr 4
        have HBB := Lib.hid (And.intro b1 (And.intro b2 (And.intro b3 (And.intro b4 b5))))
        clear b1 b2 b3 b4 b5 HB HF
        go_wp2_with fail
        refine bodyPost_ret (results_vol_tmp rfl _ _ (w.heap.size + 1) _ rfl (HBB.out.2.1.set vol0)) rfl ?_
        exact ⟨rfl, ((((HBB.out.2.2.2.1.setCell (p := ⟨w.heap.size + 1, 0, none⟩) (by simp) _).setCell (p := ⟨w.heap.size + 1, 1, none⟩) (by simp) _).setCell (p := ⟨w.heap.size + 1, 2, none⟩) (by simp) _).setCell (p := ⟨w.heap.size + 1, 3, none⟩) (by simp) _).setCell (p := ⟨w.heap.size + 1, 4, none⟩) (by simp) _⟩
      · have n1 : ((K : Int) == (k : Int)) = false := by rw [beq_eq_false_iff_ne]; omega
        have n2 : (K == k) = false := by rw [beq_eq_false_iff_ne]; exact hKk
        have n3 : ¬ (K : Int) = (k : Int) := by omega
        clear hne
        go_enter Try.func26, Try.ntmps26
        go_wp2_with fail
        go_region_held3 (fun w' => w'.cell? ⟨w.heap.size, 0, none⟩ = some (.int .u64 (k : Int)) ∧ w'.cell? ⟨w.heap.size, 1, none⟩ = some (.int .u64 (x : Int)) ∧ w'.cell? ⟨w.heap.size + 1 + 1, 0, none⟩ = some (.int .i64 (a : Int)) ∧ w'.cell? ⟨w.heap.size + 1 + 1, 1, none⟩ = some (.int .i64 (b : Int)) ∧ w'.cell? ⟨w.heap.size + 1 + 1, 2, none⟩ = some (.int .i64 (c : Int)) ∧ w'.cell? ⟨w.heap.size + 1 + 1, 3, none⟩ = some (.bool pin) ∧ w'.cell? ⟨w.heap.size + 1 + 1, 4, none⟩ = some (.int .i64 (d : Int)))
          (first | exact HF.out _ (KeptIn.refl _ _) | exact HF.out _ (KeptIn.refl _ _).drew | exact HF.out _ ((KeptIn.refl _ _).drew.go hk) | exact HF.out _ (((KeptIn.refl _ _).drew.go hk).go hk2))
          (first | (go_at_call 23; refine (HG.out _).mono ?_; rintro e V ⟨rfl, hk⟩) | (go_at_call 25; refine (HP.out _).mono ?_; rintro e V2 ⟨rfl, hk2⟩))
        obtain ⟨b1, b2, b3, b4, b5⟩ := HB.out V2 ((((KeptIn.refl _ _).drew.go hk).go hk2))
        have z0 := b3.c0
        have z1 := b3.c1
        have z2 := b3.c2
        have z3 := b3.c3
        have z4 := b3.c4
        have q0 := b2.c0
        have q1 := b2.c1
        have q2 := b2.c2
        have q3 := b2.c3
        have q4 := b2.c4
        have r0 := b2.fr 0
        have r1 := b2.fr 1
        have r2 := b2.fr 2
        have r3 := b2.fr 3
        have r4 := b2.fr 4
        have HBB := Lib.hid (And.intro b1 (And.intro b2 (And.intro b3 (And.intro b4 b5))))
        clear b1 b2 b3 b4 b5 HB HF
        go_wp2_with fail
        refine bodyPost_ret (results_vol_tmp rfl _ _ (w.heap.size + 1) _ rfl (HBB.out.2.1.set vol0)) rfl ?_
        exact ⟨rfl, ((((HBB.out.2.2.2.1.setCell (p := ⟨w.heap.size + 1, 0, none⟩) (by simp) _).setCell (p := ⟨w.heap.size + 1, 1, none⟩) (by simp) _).setCell (p := ⟨w.heap.size + 1, 2, none⟩) (by simp) _).setCell (p := ⟨w.heap.size + 1, 3, none⟩) (by simp) _).setCell (p := ⟨w.heap.size + 1, 4, none⟩) (by simp) _⟩
  · rw [readVol_no' (by rw [hdp]; exact fun h => hg h.1)]
    simp only [Option.getD_none, Option.isSome_none]
    rw [decide_eq_false hg] at HG
    clear hg hdp
    go_enter Try.func26, Try.ntmps26
    go_wp2_with fail
    first | go_region_law (first | (go_simp; go_at_call 23; refine (HG.out _).mono ?_; rintro e V ⟨rfl, hk⟩; obtain ⟨b1, b2, b3, b4, b5⟩ := HB.out V ((KeptIn.refl _ _).drew.go hk); have q0 := b2.c0; have q1 := b2.c1; have q2 := b2.c2; have q3 := b2.c3; have q4 := b2.c4; have r0 := b2.fr 0; have r1 := b2.fr 1; have r2 := b2.fr 2; have r3 := b2.fr 3; have r4 := b2.fr 4; have HBB := Lib.hid (And.intro b1 (And.intro b2 (And.intro b3 (And.intro b4 b5)))); clear b1 b2 b3 b4 b5)) | fail
    all_goals
      try go_wp2_with fail
      refine bodyPost_ret (results_vol_tmp rfl _ _ (w.heap.size + 1) _ rfl (HBB.out.2.1.set vol0)) rfl ?_
      exact ⟨rfl, ((((HBB.out.2.2.2.1.setCell (p := ⟨w.heap.size + 1, 0, none⟩) (by simp) _).setCell (p := ⟨w.heap.size + 1, 1, none⟩) (by simp) _).setCell (p := ⟨w.heap.size + 1, 2, none⟩) (by simp) _).setCell (p := ⟨w.heap.size + 1, 3, none⟩) (by simp) _).setCell (p := ⟨w.heap.size + 1, 4, none⟩) (by simp) _⟩

end Go.Proofs.Ytlnlgapjlekehaa
/- Pages in memory: package tree's Shelf: Read. -/
set_option linter.unusedVariables false
namespace Go.Proofs.Ytlnlgapjlekehaa
open Go.RowKit

/-- A node: its level, its pairs. -/
abbrev Nd := Nat × Pairs

/-- A node in memory, its pairs in a block of D. -/
def NodeAt (W : World) (D : Nat → Prop) (b off : Nat) (nd : Nd) : Prop :=
  ∃ a cap, W.cell? ⟨b, off, none⟩ = some (.int .i64 (nd.1 : Int)) ∧ W.cell? ⟨b, off + 1, none⟩ = some (.slice a nd.2.length cap) ∧ IsPs W a nd.2 ∧ ∀ p, a = some p → D p.block
theorem NodeAt.kept {W W' : World} {D D' : Nat → Prop} {b off : Nat} {nd : Nd} (h : NodeAt W D b off nd) (hk : KeptIn D W W') (hb : D b) (hD : ∀ k, D k → D' k) : NodeAt W' D' b off nd := by
  obtain ⟨a, cap, h1, h2, h3, h4⟩ := h
  exact ⟨a, cap, (World.cell?_of_block (a := ⟨b, off, none⟩) (hk.block b hb)).trans h1, (World.cell?_of_block (a := ⟨b, off + 1, none⟩) (hk.block b hb)).trans h2, psAt h3 hk h4, fun p e => hD _ (h4 p e)⟩

/-- The Shelf at block s: nodes N, room for so many; all that it is made of lies in D. -/
structure IsSh (W : World) (s room : Nat) (N : List Nd) (D : Nat → Prop) : Prop where
  ds : D s
  lt : ∀ k, D k → k < W.heap.size
  len : N.length ≤ 511
  rm : room ≤ 1000000
  pos : ∀ i (h : i < N.length), 0 < N[i].2.length ∧ N[i].2.length ≤ 1000
  mem : ∃ la cap, W.heap[s]? = some (.cells #[.slice la N.length cap, .int .i64 (room : Int)] 28 (0, 0)) ∧ (N.length = 0 → la = none ∧ cap = 0) ∧
    (0 < N.length → ∃ b, la = some ⟨b, 0, none⟩ ∧ D b ∧ b ≠ s ∧ N.length ≤ cap ∧ cap ≤ maxLen ∧ ∀ i (h : i < N.length), NodeAt W (fun k => D k ∧ k ≠ s) b (i * 2) N[i])

theorem IsSh.kept {W W' : World} {s room : Nat} {N : List Nd} {D : Nat → Prop} (h : IsSh W s room N D) (hk : KeptIn D W W') : IsSh W' s room N D := by
  obtain ⟨la, cap, h1, h0, h2⟩ := h.mem
  refine ⟨h.ds, fun k hD => Nat.lt_of_lt_of_le (h.lt k hD) hk.size, h.len, h.rm, h.pos, la, cap, (hk.block s h.ds).trans h1, h0, fun hp => ?_⟩
  obtain ⟨b, e, hb, hne, hc, hm, hi⟩ := h2 hp
  exact ⟨b, e, hb, hne, hc, hm, fun i hl => (hi i hl).kept (hk.mono fun _ h => h.1) ⟨hb, hne⟩ fun _ h => h⟩
theorem IsSh.old {W W' : World} {s room : Nat} {N : List Nd} {D : Nat → Prop} (h : IsSh W s room N D) (hk : KeptIn (· < W.heap.size) W W') : IsSh W' s room N D := h.kept (hk.mono h.lt)

theorem psSet {V : World} {a : Option Addr} {ps : Pairs} (h : IsPs V a ps) (q : Addr) (v : Value) (hq : ∀ p, a = some p → p.block ≠ q.block) : IsPs (V.setCell q v) a ps :=
  psAt (X := fun k => k ≠ q.block) h ((KeptIn.refl _ V).setCell (by simp) v) hq

/-- A node that was read: a copy of its own. -/
def RdS (w : World) (lv : Int) (ps : Pairs) (e : Ending) (w' : World) : Prop :=
  ∃ g cap, e = .returned (.tuple #[leafV lv (some ⟨g, 0, none⟩) ps.length cap, .int .i64 0]) ∧ IsPs w' (some ⟨g, 0, none⟩) ps ∧ w.heap.size ≤ g ∧ KeptIn (· < w.heap.size) w w' ∧ TyC w' g ps.length cap

theorem sh_nums (i p n : Nat) (hp : i + 1 = p) (hi : i < n) (hn : n ≤ 511) : (1 : Int) ≤ (p : Int) ∧ (p : Int) ≤ (n : Int) ∧ wrap64 ((p : Int) - 1) = (i : Int) ∧ (0 : Int) ≤ (i : Int) ∧ (i : Int) < (n : Int) ∧ (p : Int) - 1 = (i : Int) ∧ wrap64 (i : Int) = (i : Int) ∧ ¬ n < p := by
  refine ⟨by omega, by omega, ?_, by omega, by omega, by omega, ?_, by omega⟩ <;> unfold wrap64 <;> omega

set_option maxRecDepth 100000 in
theorem shRead {w : World} {s room : Nat} {N : List Nd} {D : Nat → Prop} (h : IsSh w s room N D) (i : Nat) (hi : i < N.length) :
    Calls Try.prog 31 #[.pointer (some ⟨s, 0, none⟩), .int .i64 ((i + 1 : Nat) : Int)] w (RdS w (N[i].1 : Int) N[i].2) := by
  obtain ⟨la, cap, h1, _, h2⟩ := h.mem
  obtain ⟨b, rfl, hb, _, _, _, hn⟩ := h2 (by omega)
  obtain ⟨a, capn, e1, e2, hps, ha⟩ := hn i hi
  obtain ⟨hp0, hp1⟩ := h.pos i hi
  have hl := h.len
  have hsl : s < w.heap.size := h.lt s h.ds
  have hbl : b < w.heap.size := h.lt b hb
  clear h2 hn
  obtain ⟨lv, hlv⟩ : ∃ lv, N[i].1 = lv := ⟨_, rfl⟩
  obtain ⟨ps, hpe⟩ : ∃ ps, N[i].2 = ps := ⟨_, rfl⟩
  rw [hlv] at e1
  rw [hpe] at e2 hps hp0 hp1
  rw [hlv, hpe]
  clear hlv hpe
  obtain ⟨n, hnl⟩ : ∃ n, N.length = n := ⟨_, rfl⟩
  rw [hnl] at h1 hi hl
  obtain ⟨p, hp⟩ : ∃ p, i + 1 = p := ⟨_, rfl⟩
  rw [hp]
  have CC := Lib.hid fun V (hk : KeptIn (· < w.heap.size) w V) => trCopy (lv : Int) a capn ps V (hps.old hk) hp0 (Nat.le_trans hp1 (by decide))
  obtain ⟨p0, p1, p2, i0, i1, p3, p4, p5⟩ := sh_nums i p n hp hi hl
  obtain ⟨W, hW⟩ : ∃ W, w.alloc (.cells #[.int .i64 0, .slice none 0 0] 82) = W := ⟨_, rfl⟩
  have hk : KeptIn (· < w.heap.size) w W := by rw [← hW]; exact (KeptIn.refl _ w).alloc (fun _ h => h) _
  have hr : BoxL w.heap.size 0 none 0 0 W := by rw [← hW]; exact BoxL.new w 0 none 0 0
  obtain ⟨x, hx⟩ : ∃ x, w.heap.size = x := ⟨_, rfl⟩
  have hsb := (hk.block s hsl).trans h1
  have c0 : W.cell? ⟨s, 0, none⟩ = some (.slice (some ⟨b, 0, none⟩) n cap) := by simp [World.cell?, hsb]
  have d1 := (World.cell?_of_block (a := ⟨b, i * 2, none⟩) (hk.block b hbl)).trans e1
  have d2 := (World.cell?_of_block (a := ⟨b, i * 2 + 1, none⟩) (hk.block b hbl)).trans e2
  have HC := Lib.hid (CC.out W hk)
  have HQ := Lib.hid (And.intro hr hk)
  rw [hx] at HQ
  obtain ⟨m, hm⟩ : ∃ m, ps.length = m := ⟨_, rfl⟩
  unfold leafV at HC
  rw [hm] at HC d2
  have HM := Lib.hid hm
  clear CC hps ha hp hp0 hp1 e1 e2 h1 hb hl hnl hi h hr hk hsb hm hbl hsl
  go_enter Try.func31, Try.ntmps31
  go_wp2_with (go_at_call 44; refine HC.out.mono ?_)
  rintro e V ⟨g, cg, rfl, hps, hg, hk, hty⟩
  have hrb := HQ.out.1.kept hk HQ.out.1.lt
  have c3 := hrb.c0
  have f3 := hrb.f0
  have c4 := hrb.c1
  have f4 := hrb.f1
  have hwx : x ≤ W.heap.size := by rw [← hx]; exact HQ.out.2.size
  have hg' : x ≤ g := Nat.le_trans hwx hg
  have hxg : x < g := Nat.lt_of_lt_of_le HQ.out.1.lt hg
  have hkx : KeptIn (· < x) w V := HQ.out.2.trans (hk.mono fun k h => Nat.lt_of_lt_of_le h hwx)
  have HB := Lib.hid hrb
  have HK := Lib.hid hkx
  have HTY := Lib.hid hty
  clear hty
  have HP := Lib.hid (And.intro hps (And.intro hg' hxg))
  clear hrb hk hps hg hg' hxg hkx hwx
  unfold leafV at *
  rw [HM.out]
  go_wp2_with fail
  have hset := BoxL.set (lv' := (lv : Int)) (a' := some ⟨g, 0, none⟩) (n' := m) (cap' := cg) HB.out
  have hps := psSet (psSet HP.out.1 ⟨x, 0, none⟩ (.int .i64 (lv : Int)) (fun p e => by cases e; exact Nat.ne_of_gt HP.out.2.2)) ⟨x, 1, none⟩ (.slice (some ⟨g, 0, none⟩) m cg) (fun p e => by cases e; exact Nat.ne_of_gt HP.out.2.2)
  have hkx := (HK.out.setCell (p := ⟨x, 0, none⟩) (by simp) (.int .i64 (lv : Int))).setCell (p := ⟨x, 1, none⟩) (by simp) (.slice (some ⟨g, 0, none⟩) m cg)
  refine bodyPost_ret (results_leaf rfl _ _ x _ _ _ _ rfl hset) rfl ?_
  exact ⟨g, cg, by rw [HM.out]; rfl, hps, by rw [hx]; exact HP.out.2.1, by rw [hx]; exact hkx, (HTY.out.set _ _ (Nat.ne_of_gt HP.out.2.2)).set _ _ (Nat.ne_of_gt HP.out.2.2)⟩

end Go.Proofs.Ytlnlgapjlekehaa
