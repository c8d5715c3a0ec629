import Derived.Test.YtkgjmejgkffbdaaGreatDoorM12
import Derived.Test.YtkgjmejgkffbdaaGreatDoorM7
/- A store's Read. -/
set_option linter.unusedVariables false
namespace Go.Proofs.YtkgjmejgkffbdaaGreatDoor
open Go.RowKit

/-- What Read hands back where no node is read. -/
def NoL (B : Nat) (w : World) (er : Int) (e : Ending) (w' : World) : Prop := e = .returned (.tuple #[leafV 0 none 0 0, .int .i64 er]) ∧ KeptIn (· < B) w w'

theorem ps_ne {W : World} {a : Option Addr} {ps : Pairs} (h : IsPs W a ps) {B : Nat} {lv : Int} {a' : Option Addr} {n cap : Nat} (hb : BoxL B lv a' n cap W) (b off : Nat) (e : a = some ⟨b, off, none⟩) (hp : 0 < ps.length) : b ≠ B := by
  rintro rfl
  obtain ⟨b', off', e', _, hc⟩ := h.cells hp
  rw [e] at e'
  simp only [Option.some.injEq, Addr.mk.injEq, and_true] at e'
  obtain ⟨rfl, rfl⟩ := e'
  have h1 := (hc 0 hp).1
  rw [cell_of_row _ _ _ _ _ _ hb] at h1
  rcases off with _ | _ | off <;> simp at h1

theorem ps_put {W : World} {a : Option Addr} {ps : Pairs} (h : IsPs W a ps) {B : Nat} {lv lv' : Int} {a' a'' : Option Addr} {n n' cap cap' : Nat} (hb : BoxL B lv a' n cap W) :
    IsPs ((W.setCell ⟨B, 0, none⟩ (.int .i64 lv')).setCell ⟨B, 1, none⟩ (.slice a'' n' cap')) a ps :=
  ⟨h.len, h.fits, fun hp => by
    obtain ⟨b, off, e, hlt, hc⟩ := h.cells hp
    have hn := ps_ne h hb b off e hp
    have hk : KeptIn (· ≠ B) W ((W.setCell ⟨B, 0, none⟩ (.int .i64 lv')).setCell ⟨B, 1, none⟩ (.slice a'' n' cap')) := ((KeptIn.refl _ W).setCell (p := ⟨B, 0, none⟩) (by simp) _).setCell (p := ⟨B, 1, none⟩) (by simp) _
    exact ⟨b, off, e, Nat.lt_of_lt_of_le hlt hk.size, fun i hi => ⟨(World.cell?_of_block (a := ⟨b, off + i * 2, none⟩) (hk.block b hn)).trans (hc i hi).1, (World.cell?_of_block (a := ⟨b, off + i * 2 + 1, none⟩) (hk.block b hn)).trans (hc i hi).2⟩⟩⟩


theorem stReadNil (q : Int) (w : World) : Calls Tryz.prog 19 #[.pointer none, .int .i64 q] w (NoL w.heap.size w 2) := by
  go_enter Tryz.func19, Tryz.ntmps19
  go_wp2_with fail
  try simp only [Exit.inBlock, Exit.then]
  refine bodyPost_ret (results_leaf rfl _ _ w.heap.size 0 none 0 0 rfl (BoxL.new w 0 none 0 0)) rfl ?_
  unfold NoL
  exact ⟨rfl, (KeptIn.refl _ w).alloc (fun _ h => h) _⟩

theorem stReadOut (A : Ad) (h : Hd) (a : Nat) (P : List Pag) (q : Int) (w : World) (k : StAt A h a P w) (hq : holdsB P.length q = false) :
    Calls Tryz.prog 19 #[.pointer (some ⟨A.st, 0, none⟩), .int .i64 q] w (NoL w.heap.size w 9) := by
  obtain ⟨B, hB⟩ : ∃ B, w.heap.size = B := ⟨_, rfl⟩
  obtain ⟨W0, hW0⟩ : ∃ W0, w.alloc (.cells #[.int .i64 0, .slice none 0 0] 47) = W0 := ⟨_, rfl⟩
  have hx0 : BoxL B 0 none 0 0 W0 := by rw [← hW0, ← hB]; exact BoxL.new w 0 none 0 0
  have hk0 : KeptIn (· < B) w W0 := by rw [← hW0]; exact (KeptIn.refl _ w).alloc (fun k hk => by rw [hB]; exact hk) _
  have HSET : Hid (∀ W, BoxL B 0 none 0 0 W → KeptIn (· < B) w W → ∀ lv a n cap, BoxL B lv a n cap ((W.setCell ⟨B, 0, none⟩ (.int .i64 lv)).setCell ⟨B, 1, none⟩ (.slice a n cap)) ∧ KeptIn (· < B) w ((W.setCell ⟨B, 0, none⟩ (.int .i64 lv)).setCell ⟨B, 1, none⟩ (.slice a n cap))) :=
    Lib.hid fun W h1 h2 lv a n cap => ⟨h1.set, (h2.setCell (p := ⟨B, 0, none⟩) (Nat.lt_irrefl B) _).setCell (p := ⟨B, 1, none⟩) (Nat.lt_irrefl B) _⟩
  have HQ : Hid (∀ W, KeptIn (· < W0.heap.size) W0 W → BoxL B 0 none 0 0 W ∧ KeptIn (· < B) w W) := Lib.hid fun W hk => ⟨hx0.kept hk hx0.lt, hk0.trans (hk.mono fun k h => Nat.lt_trans h hx0.lt)⟩
  have HH := Lib.hid (And.intro hx0 hk0)
  have x0 := hx0.c0; have x1 := hx0.c1; have g0 := hx0.f0; have g1 := hx0.f1
  have k0 : StAt A h a P W0 := k.kept hk0 (by rw [← hB]; exact k.lts) (by rw [← hB]; exact k.ltp)
  have CH := stHolds A h a P q W0 k0
  rw [hq] at CH
  have HCH := Lib.hid CH
  rw [hB]
  clear hx0 hk0 k k0 CH hq
  go_enter Tryz.func19, Tryz.ntmps19
  have HW0 := Lib.hid hW0
  have HB := Lib.hid hB
  clear hW0 hB
  go_wp2_with (go_at_call 43; rw [HB.out, HW0.out]; refine HCH.out.mono ?_; rintro e w' ⟨rfl, rfl⟩)
  have hset := HSET.out _ HH.out.1 HH.out.2 0 none 0 0
  have HS := Lib.hid hset
  clear hset
  try simp only [Exit.inBlock, Exit.then]
  refine bodyPost_ret (results_leaf rfl _ _ B 0 none 0 0 rfl HS.out.1) rfl ?_
  unfold NoL
  exact ⟨rfl, HS.out.2⟩


set_option maxHeartbeats 1000000 in
/-- A new page's node. -/
theorem stReadNew (A : Ad) (h : Hd) (a : Nat) (P : List Pag) (q : Nat) (tx : List UInt8) (w : World) (k : StAt A h a P w) (hT : Tab w) (h1 : 1 ≤ q) (hq : q < P.length) (hs : stOf P q = 1) (ht : txOf P q = tx) (hl : tx.length ≤ 65536) (hP : P.length ≤ 512) :
    Calls Tryz.prog 19 #[.pointer (some ⟨A.st, 0, none⟩), .int .i64 q] w (ReadL w.heap.size w tx (if isN tx then 0 else 3)) := by
  obtain ⟨er, her⟩ : ∃ er : Int, (if isN tx then 0 else 3) = er := ⟨_, rfl⟩
  rw [her]
  obtain ⟨B, hB⟩ : ∃ B, w.heap.size = B := ⟨_, rfl⟩
  obtain ⟨W0, hW0⟩ : ∃ W0, w.alloc (.cells #[.int .i64 0, .slice none 0 0] 47) = W0 := ⟨_, rfl⟩
  have hx0 : BoxL B 0 none 0 0 W0 := by rw [← hW0, ← hB]; exact BoxL.new w 0 none 0 0
  have hk0 : KeptIn (· < B) w W0 := by rw [← hW0]; exact (KeptIn.refl _ w).alloc (fun k hk => by rw [hB]; exact hk) _
  have HSET : Hid (∀ W, BoxL B 0 none 0 0 W → KeptIn (· < B) w W → ∀ lv a n cap, BoxL B lv a n cap ((W.setCell ⟨B, 0, none⟩ (.int .i64 lv)).setCell ⟨B, 1, none⟩ (.slice a n cap)) ∧ KeptIn (· < B) w ((W.setCell ⟨B, 0, none⟩ (.int .i64 lv)).setCell ⟨B, 1, none⟩ (.slice a n cap))) :=
    Lib.hid fun W h1 h2 lv a n cap => ⟨h1.set, (h2.setCell (p := ⟨B, 0, none⟩) (Nat.lt_irrefl B) _).setCell (p := ⟨B, 1, none⟩) (Nat.lt_irrefl B) _⟩
  have HQ : Hid (∀ W, KeptIn (· < W0.heap.size) W0 W → BoxL B 0 none 0 0 W ∧ KeptIn (· < B) w W) := Lib.hid fun W hk => ⟨hx0.kept hk hx0.lt, hk0.trans (hk.mono fun k h => Nat.lt_trans h hx0.lt)⟩
  have HH := Lib.hid (And.intro hx0 hk0)
  have x0 := hx0.c0; have x1 := hx0.c1; have g0 := hx0.f0; have g1 := hx0.f1
  have k0 : StAt A h a P W0 := k.kept hk0 (by rw [← hB]; exact k.lts) (by rw [← hB]; exact k.ltp)
  have hT0 : Tab W0 := hT.kept hk0 (by rw [← hB]; exact hT.lt)
  have CH := stHolds A h a P q W0 k0
  rw [show holdsB P.length q = true by unfold holdsB; simp; omega] at CH
  have HCH := Lib.hid CH
  have CR := Lib.hid fun V (hk : KeptIn (· < W0.heap.size) W0 V) => lfRead tx V (hT0.kept hk hT0.lt) hl
  simp only [her] at CR
  have c7 := k0.c7
  obtain ⟨e1, e2⟩ := k0.at q hq
  rw [hs] at e1
  rw [ht] at e2
  obtain ⟨n, hn⟩ : ∃ n, P.length = n := ⟨_, rfl⟩
  rw [hn] at c7 hq hP
  have b0 : (0 : Int) ≤ (q : Int) := by omega
  have b1 : (q : Int) < (n : Int) := by omega
  rw [hB]
  clear hx0 hk0 k k0 CH hT hT0 hs ht hl hn her
  go_enter Tryz.func19, Tryz.ntmps19
  have HW0 := Lib.hid hW0
  have HB := Lib.hid hB
  clear hW0 hB
  go_wp2_with (go_at_call 43; rw [HB.out, HW0.out]; refine HCH.out.mono ?_; rintro e w' ⟨rfl, rfl⟩)
  obtain ⟨V, hV⟩ : ∃ V, W0.alloc (.cells #[.int .i64 1, .string ⟨tx.toArray⟩] 98) = V := ⟨_, rfl⟩
  have hkV : KeptIn (· < W0.heap.size) W0 V := by rw [← hV]; exact (KeptIn.refl _ W0).alloc (fun _ h => h) _
  simp only [hV]
  have HV := Lib.hid hkV
  clear hkV hV x0 x1 g0 g1
  refine (CR.out V HV.out).mono ?_
  rintro e W2 hR
  unfold ReadL at hR
  obtain ⟨a', cap', rfl, hps, k2⟩ := hR
  have hx2 := HQ.out W2 (HV.out.trans (k2.mono fun k hk => Nat.lt_of_lt_of_le hk HV.out.size))
  have x0 := hx2.1.c0; have x1 := hx2.1.c1; have g0 := hx2.1.f0; have g1 := hx2.1.f1
  have HX2 := Lib.hid hx2
  have HPS := Lib.hid hps
  clear hx2 hps k2
  unfold leafV
  go_wp2_with fail
  have hst2 := HSET.out W2 HX2.out.1 HX2.out.2 (lvR tx) a' (psR tx).length cap'
  have hps2 : IsPs _ a' (psR tx) := ps_put HPS.out (lv' := lvR tx) (a'' := a') (n' := (psR tx).length) (cap' := cap') HX2.out.1
  have HS := Lib.hid (And.intro hst2 hps2)
  clear hst2 hps2
  try simp only [Exit.inBlock, Exit.then]
  refine bodyPost_ret (results_leaf rfl _ _ B (lvR tx) a' (psR tx).length cap' rfl HS.out.1.1) rfl ?_
  unfold ReadL
  exact ⟨a', cap', rfl, HS.out.2, HS.out.1.2⟩

set_option maxHeartbeats 1000000 in
/-- The node of a page that isn't new: what the device has there. -/
theorem stReadDev {A : Ad} {N : Nat} {p : Pw} {S : List (List UInt8)} {M : Int → Option (List UInt8)} {h : Hd} {a : Nat} {P : List Pag} (q : Nat) (tx : List UInt8) (w : World) (k : Sv A N p S M h a P w) (hT : Tab w) (hon : p.on = true) (h1 : 1 ≤ q) (hq : q < P.length) (hs : stOf P q ≠ 1) (ht : nows S M (16 * q) 16 = tx) :
    Calls Tryz.prog 19 #[.pointer (some ⟨A.st, 0, none⟩), .int .i64 q] w (ReadL w.heap.size w tx (if isN tx then 0 else 3)) := by
  obtain ⟨er, her⟩ : ∃ er : Int, (if isN tx then 0 else 3) = er := ⟨_, rfl⟩
  rw [her]
  have hpl := k.plen
  have hl : tx.length ≤ 65536 := by
    rw [← ht, nows_length S M (16 * q) 16 fun i hi => now_length k.isD _ (by omega)]
    decide
  obtain ⟨B, hB⟩ : ∃ B, w.heap.size = B := ⟨_, rfl⟩
  obtain ⟨W0, hW0⟩ : ∃ W0, w.alloc (.cells #[.int .i64 0, .slice none 0 0] 47) = W0 := ⟨_, rfl⟩
  have hx0 : BoxL B 0 none 0 0 W0 := by rw [← hW0, ← hB]; exact BoxL.new w 0 none 0 0
  have hk0 : KeptIn (· < B) w W0 := by rw [← hW0]; exact (KeptIn.refl _ w).alloc (fun k hk => by rw [hB]; exact hk) _
  have HSET : Hid (∀ W, BoxL B 0 none 0 0 W → KeptIn (· < B) w W → ∀ lv a n cap, BoxL B lv a n cap ((W.setCell ⟨B, 0, none⟩ (.int .i64 lv)).setCell ⟨B, 1, none⟩ (.slice a n cap)) ∧ KeptIn (· < B) w ((W.setCell ⟨B, 0, none⟩ (.int .i64 lv)).setCell ⟨B, 1, none⟩ (.slice a n cap))) :=
    Lib.hid fun W h1 h2 lv a n cap => ⟨h1.set, (h2.setCell (p := ⟨B, 0, none⟩) (Nat.lt_irrefl B) _).setCell (p := ⟨B, 1, none⟩) (Nat.lt_irrefl B) _⟩
  have HQ : Hid (∀ W, KeptIn (· < W0.heap.size) W0 W → BoxL B 0 none 0 0 W ∧ KeptIn (· < B) w W) := Lib.hid fun W hk => ⟨hx0.kept hk hx0.lt, hk0.trans (hk.mono fun k h => Nat.lt_trans h hx0.lt)⟩
  have HH := Lib.hid (And.intro hx0 hk0)
  have x0 := hx0.c0; have x1 := hx0.c1; have g0 := hx0.f0; have g1 := hx0.f1
  have k0 : Sv A N p S M h a P W0 := k.old (hB ▸ hk0)
  have hT0 : Tab W0 := hT.kept hk0 (by rw [← hB]; exact hT.lt)
  have CH := stHolds A h a P q W0 k0.isS
  rw [show holdsB P.length q = true by unfold holdsB; simp; omega] at CH
  have HCH := Lib.hid CH
  have CR := Lib.hid fun V (hk : KeptIn (· < W0.heap.size) W0 V) => lfRead tx V (hT0.kept hk hT0.lt) hl
  have CD := fun V (hk : KeptIn (· < W0.heap.size) W0 V) => dRead A.d A.m A.s A.b N p S M ((16 * q : Nat) : Int) (16 * q) 16 V (k0.old hk).isD (k0.old hk).isP hon rfl (by omega)
  simp only [her] at CR
  simp only [ht] at CD
  have HCD := Lib.hid CD
  have c7 := k0.isS.c7
  obtain ⟨e1, e2⟩ := k0.isS.at q hq
  have hst := k.sts q
  obtain ⟨sq, hsq⟩ : ∃ sq, stOf P q = sq := ⟨_, rfl⟩
  obtain ⟨tq, htq⟩ : ∃ tq, txOf P q = tq := ⟨_, rfl⟩
  rw [hsq] at e1 hs hst
  rw [htq] at e2
  obtain ⟨n, hn⟩ : ∃ n, P.length = n := ⟨_, rfl⟩
  rw [hn] at c7 hq hpl
  have HK : Hid (∀ V, KeptIn (· < W0.heap.size) W0 V → V.cell? ⟨A.st, 0, none⟩ = some (.pointer (some ⟨A.d, 0, none⟩))) := Lib.hid fun V hk => (k0.old hk).isS.c0
  have b0 : (0 : Int) ≤ (q : Int) := by omega
  have b1 : (q : Int) < (n : Int) := by omega
  have b2 : wrap64 ((q : Int) * 16) = ((16 * q : Nat) : Int) := by unfold wrap64; omega
  have b3 : ¬ (sq : Int) = 1 := by omega
  have c0 := HK.out (W0.alloc (.cells #[.int .i64 sq, .string ⟨tq.toArray⟩] 98)) ((KeptIn.refl _ W0).alloc (fun _ h => h) _)
  rw [hB]
  clear hx0 hk0 k k0 CH CD hT hT0 hs ht hl hn her hsq htq hst hpl hon
  go_enter Tryz.func19, Tryz.ntmps19
  have HW0 := Lib.hid hW0
  have HB := Lib.hid hB
  clear hW0 hB
  go_wp2_with (go_at_call 43; rw [HB.out, HW0.out]; refine HCH.out.mono ?_; rintro e w' ⟨rfl, rfl⟩)
  obtain ⟨V, hV⟩ : ∃ V, W0.alloc (.cells #[.int .i64 sq, .string ⟨tq.toArray⟩] 98) = V := ⟨_, rfl⟩
  have hkV : KeptIn (· < W0.heap.size) W0 V := by rw [← hV]; exact (KeptIn.refl _ W0).alloc (fun _ h => h) _
  simp only [hV]
  have HV := Lib.hid hkV
  clear hkV hV x0 x1 g0 g1 c0
  refine (HCD.out V HV.out).mono ?_
  rintro e W1 ⟨rfl, k1⟩
  have HV1 : Hid (KeptIn (· < W0.heap.size) W0 W1) := Lib.hid (HV.out.trans (k1.mono fun k hk => Nat.lt_of_lt_of_le hk HV.out.size))
  clear k1
  go_wp2_with fail
  refine (CR.out W1 HV1.out).mono ?_
  rintro e W2 hR
  unfold ReadL at hR
  obtain ⟨a', cap', rfl, hps, k2⟩ := hR
  have hx2 := HQ.out W2 (HV1.out.trans (k2.mono fun k hk => Nat.lt_of_lt_of_le hk HV1.out.size))
  have x0 := hx2.1.c0; have x1 := hx2.1.c1; have g0 := hx2.1.f0; have g1 := hx2.1.f1
  have HX2 := Lib.hid hx2
  have HPS := Lib.hid hps
  clear hx2 hps k2
  unfold leafV
  go_wp2_with fail
  have hst2 := HSET.out W2 HX2.out.1 HX2.out.2 (lvR tx) a' (psR tx).length cap'
  have hps2 : IsPs _ a' (psR tx) := ps_put HPS.out (lv' := lvR tx) (a'' := a') (n' := (psR tx).length) (cap' := cap') HX2.out.1
  have HS := Lib.hid (And.intro hst2 hps2)
  clear hst2 hps2
  try simp only [Exit.inBlock, Exit.then]
  refine bodyPost_ret (results_leaf rfl _ _ B (lvR tx) a' (psR tx).length cap' rfl HS.out.1.1) rfl ?_
  unfold ReadL
  exact ⟨a', cap', rfl, HS.out.2, HS.out.1.2⟩

end Go.Proofs.YtkgjmejgkffbdaaGreatDoor
