import Derived.Test.YtjollbaohopmjaaBd9W
import Derived.Test.YtjollbaohopmjaaSe9W
/- A page that isn't there: package tree's lead.read of a memo, and its survey of a root. -/
set_option linter.unusedVariables false
namespace Go.Proofs.Ytjollbaohopmjaa
open Go.RowKit

set_option maxHeartbeats 2000000 in
set_option maxRecDepth 100000 in
theorem trLeadBadM {w : World} {s room c k : Nat} {N : List Nd} {D : Nat → Prop} {M : Int → Option (Option Lf9)} (h : IsMm w k c N M) (hS : IsSh w s room N D) (p : Nat) (hpw : (Lit.int .i64 (p : Int)).wf = true) (hb : (p : Int) < 1 ∨ (N.length : Int) < (p : Int)) (root : Bool) (lv : Int) (low high : Nat) :
    Calls Try.prog 35 #[leadV p root lv low high, mmI s k] w (BadR w) := by
  obtain ⟨W, hW⟩ : ∃ W, (w.alloc (.cells #[.int .i64 (p : Int), .bool root, .int .i64 lv, .int .u64 (low : Int), .int .u64 (high : Int)] 97)).alloc (.cells #[.int .i64 0, .slice none 0 0] 27) = W := ⟨_, rfl⟩
  have hkW : KeptIn (· < w.heap.size) w W := by rw [← hW]; exact ((KeptIn.refl _ w).alloc (fun _ h => h) _).alloc (fun _ h => h) _
  have HC := Lib.hid (trBadM (h.old hkW) (hS.old hkW) (p : Int) hpw hb)
  obtain ⟨x, hx⟩ : ∃ x, w.heap.size = x := ⟨_, rfl⟩
  have hbd : BoxD x p root lv low high W := by
    rw [← hW, ← hx]
    exact (BoxD.new w p root lv low high).kept ((KeptIn.refl _ _).alloc (fun _ h => h) _) (by simp)
  have hbl : BoxL (x + 1) 0 none 0 0 W := by
    rw [← hW, ← hx, show w.heap.size + 1 = (w.alloc (.cells #[.int .i64 (p : Int), .bool root, .int .i64 lv, .int .u64 (low : Int), .int .u64 (high : Int)] 97)).heap.size by simp]
    exact heap_alloc_new _ _
  have p0 := hbd.c0
  have HWB := Lib.hid (And.intro hkW (And.intro hbl hx))
  unfold leadV mmI mmV pgV at *
  clear hkW hbd hbl h hpw hb hS
  go_enter Try.func35, Try.ntmps35
  go_wp2_with (go_at_call 50; refine HC.out.mono ?_)
  rintro e V ⟨rfl, kV⟩
  unfold leafV
  obtain ⟨U, hU⟩ : ∃ U, V.alloc (.cells #[.int .i64 0, .slice none 0 0] 27) = U := ⟨_, rfl⟩
  have hkU : KeptIn (· < V.heap.size) V U := by rw [← hU]; exact (KeptIn.refl _ V).alloc (fun _ h => h) _
  have hbl := (HWB.out.2.1.kept kV HWB.out.2.1.lt).kept hkU (HWB.out.2.1.kept kV HWB.out.2.1.lt).lt
  have hkw : KeptIn (· < w.heap.size) w U := (HWB.out.1.trans (kV.mono fun j h => Nat.lt_of_lt_of_le h HWB.out.1.size)).trans (hkU.mono fun j h => Nat.lt_of_lt_of_le h (Nat.le_trans HWB.out.1.size kV.size))
  have HU := Lib.hid hU
  have HQ := Lib.hid (And.intro hbl hkw)
  have z0 := hbl.c0; have z1 := hbl.c1; have f0 := hbl.f0; have f1 := hbl.f1
  clear hkU hbl hkw kV hU
  go_upto_region 2 with fail
  rw [HU.out]
  have hset := BoxL.set (lv' := (0 : Int)) (a' := none) (n' := 0) (cap' := 0) HQ.out.1
  have hkk := (HQ.out.2.setCell (p := ⟨x + 1, 0, none⟩) (by simp [HWB.out.2.2]) (.int .i64 0)).setCell (p := ⟨x + 1, 1, none⟩) (by simp [HWB.out.2.2]) (.slice none 0 0)
  have HS := Lib.hid (And.intro hset hkk)
  clear hset hkk
  go_wp2_with fail
  try simp only [Exit.inBlock, Exit.then]
  refine bodyPost_ret (results_leaf rfl _ _ (x + 1) _ _ _ _ rfl HS.out.1) rfl ?_
  exact ⟨rfl, HS.out.2⟩

theorem bd_new {wc V : World} (hk : KeptIn (· < wc.drew.heap.size) wc.drew V) {o : Obj} : KeptIn (· < wc.heap.size) wc (V.alloc o) :=
  (((KeptIn.refl _ wc).drew).trans hk).alloc (fun _ h => h) _
theorem bd_old {wc V : World} {o : Obj} (hk : KeptIn (· < (wc.alloc o).drew.heap.size) (wc.alloc o).drew V) {a b : Value} : KeptIn (· < wc.heap.size) wc ((V.setCell ⟨wc.heap.size, 0, none⟩ a).setCell ⟨wc.heap.size, 1, none⟩ b) := by
  have h1 : KeptIn (· < wc.heap.size) wc V := (((KeptIn.refl _ wc).alloc (fun _ h => h) _).drew).trans (hk.mono fun k h => Nat.lt_of_lt_of_le h (((KeptIn.refl (· < wc.heap.size) wc).alloc (fun _ h => h) o).drew).size)
  exact (h1.setCell (p := ⟨wc.heap.size, 0, none⟩) (by simp) _).setCell (p := ⟨wc.heap.size, 1, none⟩) (by simp) _

/-- The tree isn't sound. -/
def SoX (w : World) (S B0 x : Nat) (e : Ending) (w' : World) : Prop := e = .returned (.bool false) ∧ KeptIn (SdZ w S B0 x) w w'

set_option maxRecDepth 100000 in
set_option maxHeartbeats 4000000 in
theorem trSoundBad {N : List Nd} {s room xm : Nat} {root : Bool} {lv : Int} {lo hi p : Nat} {w : World} {D : Nat → Prop} {S B0 c : Nat} {v : Value} {ms : List Int} {M : Int → Option (Option Lf9)} (hsh : IsSh w s room N D) (hD : ∀ k, D k → k < S ∧ k ≠ xm) (h : SvU w S (mmI s xm) B0 v ms) (hmm0 : IsMm w xm c N M)
    (hpw : (Lit.int .i64 (p : Int)).wf = true) (hb : (p : Int) < 1 ∨ (N.length : Int) < (p : Int)) (hp : (p : Int) ∉ ms) (hml : ms.length ≤ 500) :
    Calls Try.prog 59 #[.pointer (some ⟨S, 0, none⟩), leadV p root lv lo hi] w (SoX w S B0 xm) := by
  obtain ⟨a, cap, rfl⟩ := row_sliceI h.row
  obtain ⟨m, hm⟩ : ∃ m, ms.length = m := ⟨_, rfl⟩
  rw [hm] at h hml
  obtain ⟨W, hW⟩ : ∃ W, w.alloc (.cells #[.int .i64 (p : Int), .bool root, .int .i64 lv, .int .u64 (lo : Int), .int .u64 (hi : Int)] 97) = W := ⟨_, rfl⟩
  have hkW : KeptIn (· < w.heap.size) w W := by rw [← hW]; exact (KeptIn.refl _ w).alloc (fun _ h => h) _
  have hbd : BoxD w.heap.size p root lv lo hi W := by rw [← hW]; exact BoxD.new w p root lv lo hi
  have hsv := h.old hkW
  have hmm := hmm0.old hkW
  have hshW := hsh.old hkW
  have hSW : W.heap[S]? = some (.cells #[mmI s xm, .slice a m cap, .int .i64 0] 126 (0, 0)) := hsv.box
  have c0 : W.cell? ⟨S, 0, none⟩ = some (mmI s xm) := (cell_of_row _ _ 0 _ _ _ hSW).trans rfl
  have c1 : W.cell? ⟨S, 1, none⟩ = some (.slice a m cap) := (cell_of_row _ _ 1 _ _ _ hSW).trans rfl
  have hrowW : W.ownsRow B0 3 1 (.slice a m cap) m (cellsI ms) := by have := hsv.row; rw [hm] at this; exact this
  have hI : IntsL W a ms := by
    have h1 := hrowW
    rw [← hm] at h1
    exact rowIntsL h1 (by unfold maxLen; omega)
  have HQ := Lib.hid fun n => iContQ hI (x := (p : Int)) (cap := cap) hm (decide_eq_false hp) n
  have d0 := hbd.c0
  have d1 := hbd.c1
  have d2 := hbd.c2
  have d3 := hbd.c3
  have d4 := hbd.c4
  obtain ⟨x, hx⟩ : ∃ x, w.heap.size = x := ⟨_, rfl⟩
  have HG : Hid (∀ (nq : Nat) (w1 : World), (((W.drewN nq).drew).alloc (.cells #[.int .i64 (p : Int)] 3)).grownBy w1 (Value.slice a m cap).ownBlock → w1.cell? ⟨S, 1, none⟩ = some (.slice a m cap) ∧ w1.frozen? ⟨S, 1, none⟩ = false) := Lib.hid fun nq w1 hg => by
    have hSlt : S < W.heap.size := Nat.lt_of_lt_of_le hsv.lt hsv.le
    have hn := rowS_ne hrowW hSW (by decide)
    have h1 : w1.heap[S]? = W.heap[S]? := (hg.block _ (by simp; exact Nat.lt_succ_of_lt hSlt) (fun e => hn e.symm)).trans (Lib.alloc_old ((W.drewN nq).drew) _ _ hSlt)
    exact ⟨(World.cell?_of_block (a := ⟨S, 1, none⟩) h1).trans ((cell_of_row _ _ 1 _ _ _ hSW).trans rfl), (World.frozen?_of_block (a := ⟨S, 1, none⟩) h1).trans (by simp [World.frozen?, hSW])⟩
  have HM : Hid (∀ (nq : Nat) (w1 : World) (gg cap' : Nat), (((W.drewN nq).drew).alloc (.cells #[.int .i64 (p : Int)] 3)).grownBy w1 (Value.slice a m cap).ownBlock → w1.ownsRow B0 3 1 (.slice (some ⟨gg, 0, none⟩) (m + 1) cap') (m + 1) (cellsI ms ++ [.int .i64 (p : Int)]) →
      SoM9 w S s B0 xm c x p room N D M root lv lo hi (ms ++ [(p : Int)]) (w1.setCell ⟨S, 1, none⟩ (.slice (some ⟨gg, 0, none⟩) (m + 1) cap'))) := Lib.hid fun nq w1 gg cap' hg hown => by
    refine so_met9 (V := (W.drewN nq).drew) ⟨hsv.box, hsv.row, hsv.lt, hsv.le⟩ ?_ (hshW.old ((KeptIn.refl _ W).drewN nq).drew) hD (sdz_old (hkW.drewN nq).drew) (Nat.le_of_eq hx) (hmm.old ((KeptIn.refl _ W).drewN nq).drew) hm hg hown
    rw [hx] at hbd
    exact hbd
  have hB0 : B0 ≤ W.heap.size := hsv.le
  have hS0 : S < B0 := hsv.lt
  have HROW := Lib.hid hrowW
  have hSx : S ≠ x := by rw [← hx]; have := h.lt; have := h.le; omega
  have HRD : Hid (∀ V, IsMm V xm c N M → IsSh V s room N D → Calls Try.prog 35 #[leadV p root lv lo hi, mmI s xm] V (BadR V)) := Lib.hid fun V hV hV2 => trLeadBadM hV hV2 p hpw hb root lv lo hi
  obtain ⟨ip, hip, hp0, hp1, hp2⟩ := info_parts infoInt8
  clear hrowW hshW hsv hkW hbd hp hI hSW h hsh hD hm hmm hmm0 hpw hb
  unfold mmI mmV pgV leadV at *
  rw [hx] at d0 d1 d2 d3 d4
  go_enter Try.func59, Try.ntmps59
  go_wp2_with fail
  go_quiet ((go_at_call 77; exact Calls.quiet_of_same (HQ.out _)))
  go_upto_region 3 with fail
  go_cut [] from 8 (fun wx => Hid (SoM9 w S s B0 xm c x p room N D M root lv lo hi (ms ++ [(p : Int)]) wx))
  case first =>
    go_wp2_with fail
    have c1' : ((W.drewN nq).drew).cell? ⟨S, 1, none⟩ = some (.slice a m cap) := c1
    have x0' : ((W.drewN nq).drew).cell? ⟨x, 0, none⟩ = some (.int .i64 (p : Int)) := d0
    have hrow8 : ((W.drewN nq).drew).ownsRow B0 3 1 (.slice a m cap) m (cellsI ms) := HROW.out
    have hsz8 : B0 ≤ ((W.drewN nq).drew).heap.size := hB0
    have hSV : S < ((W.drewN nq).drew).heap.size := Nat.lt_of_lt_of_le hS0 hB0
    have cc8 : (((W.drewN nq).drew).alloc (.cells #[.int .i64 (p : Int)] 3)).cell? ⟨S, 1, none⟩ = some (.slice a m cap) := (World.cell?_of_block (a := ⟨S, 1, none⟩) (Lib.alloc_old ((W.drewN nq).drew) _ _ hSV)).trans c1
    have hgr8 := HG.out nq
    have hme8 := HM.out nq
    obtain ⟨V, hV⟩ : ∃ V, (W.drewN nq).drew = V := ⟨_, rfl⟩
    rw [hV] at c1' x0' hrow8 hsz8 hgr8 cc8 hme8
    clear hSV
    go_region_law (first
      | (refine step_append_lies _ (by rfl) _ _ 23 (by rfl) B0 3 ip _ 1 8 Try.underlying23 hip hp0 hp1 hp2 rfl (by omega) (.slice a m cap) m _ (by rfl) (hrow8.alloc _) ⟨V.heap.size, 0, none⟩ 1 1 [.int .i64 (p : Int)] (by rfl) (by rfl) (World.news_of_block (cs := #[.int .i64 (p : Int)]) (t := 3) (fr := (0, 0)) (heap_alloc_new V _)) (by simp [Value.oneCell']) (by omega) (by unfold maxLen; omega) (by omega) (by simp; omega) (V.heap.size + 1) (by simp) ?_; intro gg cap' w1 hown1 hgrow hat hlt1; obtain ⟨e0', ef⟩ := hgr8 w1 hgrow; have hmm := hme8 w1 gg cap' hgrow hown1))
    all_goals
      clear hgr8 hme8 hrow8
      go_wp2_with fail
      go_meet
      case rel => exact Lib.hid hmm
  case rest =>
    have HC := hcut
    clear hcut HM HG HQ HROW c0 c1 d0 d1 d2 d3 d4
    have HF := Lib.hid fun V (hk : KeptIn (fun j => j < wc.heap.size ∧ j ≠ xm) wc V) => HC.out.facts hk
    obtain ⟨c0, d0, d1, d2, d3, d4⟩ := HC.out.facts (KeptIn.refl _ wc)
    have HRC : Hid (∀ V, KeptIn (· < wc.heap.size) wc V → _) := Lib.hid fun V hk => HRD.out V (HC.out.choose_spec.2.2.2.2.2.2.old hk) (HC.out.choose_spec.2.2.1.old hk)
    have HKW : Hid (∀ V, KeptIn (· < wc.heap.size) wc V → KeptIn (SdZ w S B0 xm) w V) := Lib.hid fun V hk => sdz_trans HC.out.choose_spec.2.2.2.2.1 (sdz_old hk)
    unfold mmI mmV pgV at HF c0
    clear HC
    go_upto_region 4 with fail
    go_cut [5, 6] from 8 (fun s5 s6 wx => s6 = .int .i64 9 ∧ Hid (KeptIn (SdZ w S B0 xm) w wx))
    case first =>
      go_wp2_with fail
      go_region_held3 (fun w' => w'.cell? ⟨S, 0, none⟩ = some (.iface 60 (.agg #[.iface 28 (.pointer (some ⟨s, 0, none⟩)), .map (some xm)])) ∧ w'.cell? ⟨x, 0, none⟩ = some (.int .i64 (p : Int)) ∧ w'.cell? ⟨x, 1, none⟩ = some (.bool root) ∧ w'.cell? ⟨x, 2, none⟩ = some (.int .i64 lv) ∧ w'.cell? ⟨x, 3, none⟩ = some (.int .u64 (lo : Int)) ∧ w'.cell? ⟨x, 4, none⟩ = some (.int .u64 (hi : Int)))
        (first | exact ⟨c0, d0, d1, d2, d3, d4⟩ | exact HF.out _ (KeptIn.refl _ _).drew | exact HF.out _ (((KeptIn.refl _ _).alloc (fun _ h => h.1) _).drew) | exact HF.out _ (z_go (KeptIn.refl _ _).drew (hk.mono fun j h => h.1)) | exact HF.out _ (z_go (((KeptIn.refl _ _).alloc (fun _ h => h) _).drew) (hk.mono fun j h => h.1)) | exact HF.out _ ((z_go (KeptIn.refl _ _).drew (hk.mono fun j h => h.1)).alloc (fun _ h => h.1) _) | exact HF.out _ (((z_go (KeptIn.refl _ _).drew (hk.mono fun j h => h.1)).alloc (fun _ h => h.1) _).setCell (fun h => Nat.not_lt.2 hk.size h.1) _) | exact HF.out _ ((((z_go (KeptIn.refl _ _).drew (hk.mono fun j h => h.1)).alloc (fun _ h => h.1) _).setCell (fun h => Nat.not_lt.2 hk.size h.1) _).setCell (fun h => Nat.not_lt.2 hk.size h.1) _) | exact HF.out _ (((z_go (((KeptIn.refl _ _).alloc (fun _ h => h) _).drew) (hk.mono fun j h => h.1)).setCell (by simp) _).setCell (by simp) _))
        (first | (go_at_call 35; first | (refine (HRC.out wc.drew (KeptIn.refl _ _).drew).mono ?_; rintro e V ⟨rfl, hk⟩; unfold leafV) | (refine (HRC.out (wc.alloc (.cells #[.int .i64 0, .slice none 0 0] 27)).drew (((KeptIn.refl _ _).alloc (fun _ h => h) _).drew)).mono ?_; rintro e V ⟨rfl, hk⟩; have hb9 := (show BoxL wc.heap.size 0 none 0 0 (wc.alloc (.cells #[.int .i64 0, .slice none 0 0] 27)).drew from heap_alloc_new wc _).kept (W' := V) hk (Nat.lt_of_lt_of_le (Nat.lt_succ_self _) (Nat.le_of_eq (World.size_alloc _ _).symm)); have e0 := hb9.c0; have e1 := hb9.c1; have g0 := hb9.f0; have g1 := hb9.f1; unfold leafV)))
      · go_wp2_with fail
        go_meet
        case rel =>
          exact ⟨rfl, Lib.hid (HKW.out _ (bd_new hk))⟩
      · go_wp2_with fail
        go_meet
        case rel =>
          exact ⟨rfl, Lib.hid (HKW.out _ (bd_old hk))⟩
    case rest =>
      obtain ⟨rfl, hq⟩ := hcut
      clear HF HRC HKW c0 d0 d1 d2 d3 d4 HRD
      go_wp2_with fail
      go_ret
      exact ⟨rfl, hq.out⟩

end Go.Proofs.Ytjollbaohopmjaa
