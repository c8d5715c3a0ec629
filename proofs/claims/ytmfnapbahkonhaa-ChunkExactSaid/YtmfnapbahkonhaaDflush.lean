/- disc's Flush. -/
import Derived.Test.YtmfnapbahkonhaaPw
import Derived.Test.YtmfnapbahkonhaaDisc
import Derived.Deep.RegionHeld3
import Derived.LoopTactic
set_option linter.unusedVariables false
namespace Go.Proofs.Ytmfnapbahkonhaa
open Go.RowKit Go.Maps

theorem ranges_block {H : Type} {P : Program} {k : TypeId} {R : Value → Option (DataW H × List MemPlace)} {w w' : World} {b r n : Nat} {D : DataW H} {left : Lit → Bool} {cnt : Nat} (h : w.ranges P k R b r n D left cnt)
    (hb : w'.heap[b]? = w.heap[b]?) (hr : w'.heap[r]? = w.heap[r]?) : w'.ranges P k R b r n D left cnt := by
  obtain ⟨es, clock, since, seen, c0, h1, h2, h3, h4, h5, rest⟩ := h
  exact ⟨es, clock, since, seen, c0, hb.trans h1, h2, h3, h4, hr.trans h5, rest⟩

/-- 'clear(m)'. -/
theorem wpList_clear_sec {ops : Array Oper} {rest : List Oper} {o : Oper} {a : Act} {w : World} {Q : Exit → Act → World → Prop} (hg : o.guard = none) (x : Operand)
    (hop : o.op = Op.call { callee := Callee.builtin Builtin.clear, args := #[x], argTypes := #[70] }) (b N : Nat) (M : Int → Option (List UInt8)) (hm : a.eval x = .map (some b)) (h : MapAt b N M w)
    (hK : ∀ w', MapAt b 0 (fun _ => none) w' → KeptIn (· ≠ b) w w' → w'.heap.size = w.heap.size → wpList Try.prog ops Q rest (a.put o.dst (.tuple #[])) w') :
    wpList Try.prog ops Q (o :: rest) a w := by
  refine wpList_plain hg fun K hK' => ?_
  obtain ⟨w', hrun, h1, h2, h3⟩ := h.clear o.type
  unfold Oper.wp
  simp [execOp, hop, resolve, invoke, builtin, hm, hrun, Result.andThen]
  exact hK' _ _ (hK w' h1 h2 h3)

/-- All sectors as they are now. -/
def flushed (S : List (List UInt8)) (M : Int → Option (List UInt8)) : List (List UInt8) := (List.range S.length).map (now S M)

/-- The power lies in none of a device's blocks. -/
theorem IsM.ne {m : Nat} {on : Bool} {lives uses fuse : Int} {d m' s b N : Nat} {S : List (List UInt8)} {M : Int → Option (List UInt8)} {w : World} (hm : IsM m on lives uses fuse w) (h : IsD d m' s b N S M w) : m ≠ d ∧ m ≠ s ∧ m ≠ b := by
  have h1 : w.heap[m]? = _ := hm
  refine ⟨fun e => ?_, fun e => ?_, h.map.ne h1⟩
  · have := h.hd; rw [← e, h1] at this
    simp only [Option.some.injEq, Obj.cells.injEq] at this
    exact absurd this.2.1 (by decide)
  · have := h.hs; rw [← e, h1] at this
    simp only [Option.some.injEq, Obj.cells.injEq] at this
    exact absurd this.2.1 (by decide)

/-- Between two rounds of Flush's loop: what has come is safe. -/
structure Safe (w : World) (d m s b r N : Nat) (S : List (List UInt8)) (M : Int → Option (List UInt8)) (D : DataW Unit) (left : Lit → Bool) (cnt : Nat) (S' : List (List UInt8)) (W : World) : Prop where
  rng : W.ranges Try.prog 3 secR b r N D left cnt
  isD : IsD d m s b N S' M W
  len : S'.length = S.length
  at' : ∀ i, i < S.length → S'.getD i [] = if left (.int .i64 (i : Int)) then S.getD i [] else now S M i
  kept : KeptIn (fun x => x < w.heap.size ∧ x ≠ s) w W

set_option maxHeartbeats 1000000 in
set_option maxRecDepth 100000 in
theorem dFlushOn (d m s b N : Nat) (p : Pw) (S : List (List UInt8)) (M : Int → Option (List UInt8)) (w : World) (h : IsD d m s b N S M w) (hp : IsP m p w) (hc : p.can = true) :
    Calls Try.prog 39 #[.pointer (some ⟨d, 0, none⟩)] w fun e w' => e = .returned (.int .i64 0) ∧ IsD d m s b 0 (flushed S M) (fun _ => none) w' ∧ IsP m p.use w' ∧ KeptIn (fun x => x < w.heap.size ∧ x ≠ m ∧ x ≠ s ∧ x ≠ b) w w' := by
  obtain ⟨hmd, hms, hmb⟩ := hp.1.ne h
  have c0 := h.c0
  have H := Lib.hid h; have HP := Lib.hid hp
  clear h hp
  go_enter Try.func39, Try.ntmps39
  have HC := Lib.hid hc; clear hc
  go_wp2_with (go_at_call 52; refine (mUseT m p _ HP.out HC.out).mono ?_)
  rintro e w1 ⟨rfl, hp1, hk1⟩
  have h1 : IsD d m s b N S M w1 := H.out.kept hk1 hmd.symm hms.symm hmb.symm
  have HP1 := Lib.hid hp1; have HK1 := Lib.hid hk1
  clear hp1 hk1 c0 HC H HP
  have c2 := h1.c2
  obtain ⟨D, hown, hsay⟩ := h1.map
  have H1 := Lib.hid h1; have HS := Lib.hid hsay
  clear h1 hsay
  go_wp2_with (at_range; refine wpList_range_own _ rfl _ 70 rfl 3 74 law Try.underlying70 _ b N D rfl hown ?_; intro w2 hrg hg hz)
  go_frame
  have hkg : KeptIn (· < w1.heap.size) w1 w2 := (KeptIn.refl _ w1).grown (fun _ h => h) hg (by simp)
  have HD0 : Hid (Safe w1 d m s b w1.heap.size N S M D (Maps.has D) (Maps.size D) S w2) := Lib.hid ⟨hrg, H1.out.kept hkg H1.out.ltd H1.out.lts H1.out.ltb, rfl, fun i hi => by
    rw [HS.out.has]
    unfold now
    cases M (i : Int) <;> rfl, hkg.mono fun k hk => hk.1⟩
  have hsz0 : w.heap.size ≤ w1.heap.size := HK1.out.size
  have hlt := H1.out.lts; have hltd := H1.out.ltd
  clear hrg hg hz hkg c2 hown
  obtain ⟨r, hr⟩ : ∃ r, w1.heap.size = r := ⟨_, rfl⟩
  rw [hr] at HD0 hlt hltd hsz0 ⊢
  go_loopw [21] (fun _ wr => ∃ (left : Lit → Bool) (cnt : Nat) (S' : List (List UInt8)) (W : World), W = wr ∧ Hid (Safe w1 d m s b r N S M D left cnt S' W)) (fun _ wr => wr.rangeLeft b r)
  case atStart => exact ⟨_, _, _, _, rfl, HD0⟩
  case round =>
    obtain ⟨left, cnt, S', W, rfl, HJ⟩ := hrel
    clear HD0
    have hrng := HJ.out.rng
    go_wp2_with (at_next; refine wpList_next_ranges _ rfl _ rfl 3 law secR encZ secV (fun key kl hk => by obtain ⟨x, hx, _⟩ := Maps.keyOf_i64 Try.underlying3 hk; exact ⟨x, hx⟩) (fun v y hy => by obtain ⟨l, _, hl, _⟩ := secR_inv hy; exact ⟨l, hl⟩) b r N _ _ _ rfl hrng ?_ ?_)
    · intro hc0 hl0
      have hS : S' = flushed S M := by
        apply List.ext_getElem
        · rw [HJ.out.len]; simp [flushed]
        · intro i h1 h2
          have h3 : i < S.length := by rw [← HJ.out.len]; exact h1
          have := HJ.out.at' i h3
          rw [hl0, List.getD_eq_getElem?_getD, List.getElem?_eq_getElem h1] at this
          simpa [flushed] using this
      subst hS
      have HE : Hid (IsD d m s b N (flushed S M) M W ∧ KeptIn (fun x => x < r ∧ x ≠ s) w1 W) := Lib.hid ⟨HJ.out.isD, by rw [← hr]; exact HJ.out.kept⟩
      clear hc0 hl0 hrng HJ
      have c2 := HE.out.1.c2
      go_wp2_with (refine wpList_clear_sec rfl _ rfl b N M rfl HE.out.1.map ?_)
      intro w3 hm3 hk3 hz3
      go_wp2
      go_ret
      have hD := HE.out.1
      refine ⟨rfl, ⟨(hk3.block d hD.ne_db).trans hD.hd, (hk3.block s hD.ne_sb).trans hD.hs, hm3, hD.len, hD.max, fun _ _ h => (by cases h)⟩, ?_, ?_⟩
      · exact (HP1.out.kept HE.out.2 ⟨by rw [← hr]; exact HP1.out.lt, hms⟩).kept hk3 hmb
      · exact ((HK1.out.mono fun k hk => hk.2.1).trans (HE.out.2.mono fun k hk => ⟨by omega, hk.2.2.1⟩)).trans (hk3.mono fun k hk => hk.2.2.2)
    · intro x c kl yd yp w3 cnt3 hkey hlk hv hat hrg3 hlt3 hg3 hs3 hen
      obtain ⟨x', ex, rfl, hwx⟩ := Maps.keyOf_i64 Try.underlying3 hkey
      obtain rfl : x = x' := encZ_inj ex
      have hMx : M x = some c := by
        have h1 := has_true_of_atKey hat
        rw [HS.out.has] at h1
        obtain ⟨l', hl'⟩ := Option.isSome_iff_exists.1 h1
        have h2 := HS.out.at' x l' hl' .nil
        rw [hat] at h2
        obtain ⟨l2, _, h3, h4⟩ := secR_inv hv
        rw [Prod.mk.injEq] at h4
        rw [h2] at h4
        have h5 := h4.1
        simp only [DataW.lit.injEq, Lit.string.injEq] at h5
        rw [hl', h5, ← secV_inj h3]
      obtain ⟨hx0, hx1⟩ := H1.out.dom x c hMx
      have hc16 : c.length = 16 := HS.out.len x c hMx
      obtain ⟨k, rfl⟩ : ∃ k : Nat, x = (k : Int) := ⟨x.toNat, by omega⟩
      have hltb : b < r := by rw [← hr]; exact H1.out.ltb
      have hkW : KeptIn (fun x => x < W.heap.size ∧ x ≠ r) W w3 := ⟨hg3.os, hg3.tape, hg3.output, hg3.size, fun j hj => hg3.block j hj.1 (by simpa using hj.2)⟩
      have hD3 : IsD d m s b N S' M w3 := HJ.out.isD.kept hkW ⟨HJ.out.isD.ltd, by omega⟩ ⟨HJ.out.isD.lts, by omega⟩ ⟨HJ.out.isD.ltb, by omega⟩
      have hk3 : KeptIn (fun x => x < r ∧ x ≠ s) w1 w3 := by
        have h1 : KeptIn (fun x => x < r ∧ x ≠ s) w1 W := by rw [← hr]; exact HJ.out.kept
        exact h1.trans (hkW.mono fun j hj => ⟨Nat.lt_of_lt_of_le hj.1 (by rw [← hr]; exact h1.size), by omega⟩)
      have HX : Hid (M (k : Int) = some c ∧ k < S.length) := Lib.hid ⟨hMx, by omega⟩
      have HD3 := Lib.hid hD3; have HK3 := Lib.hid hk3; have HR3 := Lib.hid hrg3; have HC := Lib.hid hc16; have HLT := Lib.hid hlt3
      have HRW := Lib.hid hrng
      clear hs3 hg3 hkW hD3 hk3 hrg3 hv hat hkey hlk ex hwx hMx hx0 hx1 hlt3 hrng hc16
      go_wp2_with (refine wpList_alloc_sec rfl rfl ?_)
      intro w4 s4 k4 z4
      generalize hq : w3.heap.size = q at s4 k4 z4 ⊢
      have S4 := Lib.hid s4; have K4 := Lib.hid k4
      clear s4 k4 z4 hen
      go_wp2_with (refine wpList_store_sec rfl _ _ rfl q c _ rfl rfl HC.out S4.out ?_)
      intro w5 s5 k5 z5
      have hk35 : KeptIn (· < q) w3 w5 := K4.out.trans (k5.mono fun j hj => Nat.ne_of_lt hj)
      have hD3 := HD3.out
      have hqd : d < q := by rw [← hq]; exact hD3.ltd
      have hqs : s < q := by rw [← hq]; exact hD3.lts
      have hqb : b < q := by rw [← hq]; exact hD3.ltb
      have hD5 : IsD d m s b N S' M w5 := hD3.kept hk35 hqd hqs hqb
      have hR5 := ranges_block HR3.out (hk35.block b hqb) (hk35.block r (by rw [← hq]; exact HR3.out.lt))
      have hk15 : KeptIn (fun x => x < r ∧ x ≠ s) w1 w5 := HK3.out.trans (hk35.mono fun j hj => by
        have := HK3.out.size
        omega)
      have hlen : S'.length = S.length := HJ.out.len
      have hkn : k < S'.length := by rw [hlen]; exact HX.out.2
      have b0 : (0 : Int) ≤ (k : Int) := by omega
      have b1 : (k : Int) < (S'.length : Int) := by omega
      have c1 := hD5.c1
      have th := hD5.there k hkn
      have rg := range_sec s5
      have hds := hD5.ne_ds
      have hqs' : q ≠ s := by omega
      obtain ⟨cs, hcs⟩ : ∃ cs, Lib.byteCells c = cs := ⟨_, rfl⟩
      rw [hcs] at rg
      have hl16 : cs.length = 16 := by rw [← hcs, Lib.byteCells_length, HC.out]
      have hu := Try.underlying74
      have hi : (Try.prog.info? 74).map (·.size) = some cs.length := by rw [← hcs]; exact secSizeL HC.out
      have h1 : ∀ v ∈ cs, v.oneCell' = true := by rw [← hcs]; exact Lib.byteCells_one _
      have HCS := Lib.hid hcs
      have TH := Lib.hid th; have C1 := Lib.hid c1; have RG := Lib.hid rg
      have HD5 := Lib.hid hD5; have HR5 := Lib.hid hR5; have HK5 := Lib.hid hk15
      clear hcs th rg hlen hD3 hD5 hR5 hk15 hk35 s5 k5 z5 S4 K4 HD3 HK3 HR3 hkn
      obtain ⟨n', hn'⟩ : ∃ n', S'.length = n' := ⟨_, rfl⟩
      rw [hn'] at C1 c1 b1
      go_wp2_with fail
      go_region_held3 (fun w' => w'.cell? ⟨d, 1, none⟩ = some (.slice (some ⟨s, 0, none⟩) n' n') ∧ w'.rangeAt q 0 cs ∧ w'.there s (k * 16) 16)
        (first | exact ⟨C1.out, RG.out, TH.out⟩ | exact ⟨(World.cell?_of_block (a := ⟨d, 1, none⟩) (heap_setCells_other s cs _ _ d hds)).trans C1.out, range_block RG.out (heap_setCells_other s cs _ _ q hqs'), World.there_setCells (w := w5.drew) TH.out _ _ _⟩)
        (fail)
      have hkd : KeptIn (· ≠ s) w5 (w5.drew.setCells s (k * 16) cs) := ((KeptIn.refl _ w5).drew).setCells (by simp) _ _
      have HJ2 : Hid (Safe w1 d m s b r N S M D (fun z => left z && !z.sameKey (.int .i64 (k : Int))) cnt3 (S'.set k c) (w5.drew.setCells s (k * 16) cs)) := by
        refine Lib.hid ⟨ranges_block HR5.out (hkd.block b HD5.out.ne_sb.symm) (hkd.block r (by omega)), ?_, by rw [List.length_set]; exact HJ.out.len, fun i hi' => ?_, ?_⟩
        · rw [← HCS.out]
          exact (HD5.out.kept (w' := w5.drew) ((KeptIn.refl (fun _ => True) w5).drew) trivial trivial trivial).put k (by have := HJ.out.len; have := HX.out.2; omega) _ HC.out
        · have hl := HJ.out.len
          by_cases e : i = k
          · subst e
            rw [List.getD_eq_getElem?_getD, List.getElem?_set_self (by omega)]
            have h0 : (left (.int .i64 (i : Int)) && !(Lit.int .i64 (i : Int)).sameKey (.int .i64 (i : Int))) = false := by simp [Lit.sameKey]
            simp only [h0]
            simp [now, HX.out.1]
          · have h0 : (Lit.int .i64 (i : Int)).sameKey (.int .i64 (k : Int)) = false := Maps.sameKey_ne (by simp; omega)
            rw [List.getD_eq_getElem?_getD, List.getElem?_set_ne (by omega), ← List.getD_eq_getElem?_getD, HJ.out.at' i hi']
            simp only [h0, Bool.not_false, Bool.and_true]
        · rw [hr]
          exact HK5.out.trans (hkd.mono fun j hj => hj.2)
      clear hkd HK5 HR5 HD5 RG C1 TH HCS c1 hi h1 hu hl16 hds hqs' b0 b1 HC HX HJ
      go_wp2_with fail
      go_roundw
      case rel => exact ⟨_, cnt3, _, _, rfl, HJ2⟩
      case measure => rw [HJ2.out.rng.left_eq, HRW.out.left_eq]; exact HLT.out

theorem dFlushOff (d m s b N : Nat) (p : Pw) (S : List (List UInt8)) (M : Int → Option (List UInt8)) (w : World) (h : IsD d m s b N S M w) (hp : IsP m p w) (hc : p.can = false) :
    Calls Try.prog 39 #[.pointer (some ⟨d, 0, none⟩)] w fun e w' => e = .returned (.int .i64 4) ∧ IsP m p.use w' ∧ KeptIn (· ≠ m) w w' := by
  have c0 := h.c0
  have HP := Lib.hid hp; have HC := Lib.hid hc
  clear h hp hc
  go_enter Try.func39, Try.ntmps39
  go_wp2_with (go_at_call 52; refine (mUseF m p _ HP.out HC.out).mono ?_)
  rintro e w1 ⟨rfl, hp1, hk1⟩
  have HR := Lib.hid (And.intro hp1 hk1)
  clear hp1 hk1
  go_wp2
  go_ret
  exact ⟨rfl, HR.out⟩

theorem dFlushNil (w : World) : Calls Try.prog 39 #[.pointer none] w fun e w' => e = .returned (.int .i64 2) ∧ w = w' := by
  go_enter Try.func39, Try.ntmps39
  go_wp2
  go_ret
  exact ⟨rfl, rfl⟩

end Go.Proofs.Ytmfnapbahkonhaa
