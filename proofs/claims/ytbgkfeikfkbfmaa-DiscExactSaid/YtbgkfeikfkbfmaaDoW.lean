/- tiercelaw04.do: Write. -/
import Derived.Test.YtbgkfeikfkbfmaaDoR
set_option linter.unusedVariables false
namespace Go.Proofs.Ytbgkfeikfkbfmaa
open Go.RowKit

/-- A deed, boxed. -/
def BoxAt (r : Nat) (k x y zz : Int) (t : List UInt8) (W : World) : Prop := W.heap[r]? = some (.cells #[.int .i64 k, .int .i64 x, .int .i64 y, .int .u8 zz, .string ⟨t.toArray⟩] 31 (0, 0))

section
variable {w : World} {d m s b u N r : Nat} {vn vs vl : Value} {p q : Pw} {S Nw Sf : List (List UInt8)} {Ls : List Bool} {M : Int → Option (List UInt8)} {W W' : World} {k x y zz : Int} {t : List UInt8}

theorem BoxAt.c1 (h : BoxAt r k x y zz t W) : W.cell? ⟨r, 1, none⟩ = some (.int .i64 x) := by simp [World.cell?, show W.heap[r]? = _ from h]
theorem BoxAt.c2 (h : BoxAt r k x y zz t W) : W.cell? ⟨r, 2, none⟩ = some (.int .i64 y) := by simp [World.cell?, show W.heap[r]? = _ from h]
theorem BoxAt.c3 (h : BoxAt r k x y zz t W) : W.cell? ⟨r, 3, none⟩ = some (.int .u8 zz) := by simp [World.cell?, show W.heap[r]? = _ from h]
theorem BoxAt.lt (h : BoxAt r k x y zz t W) : r < W.heap.size := (Array.getElem?_eq_some_iff.1 h).1
theorem BoxAt.old (h : BoxAt r k x y zz t W) (hk : KeptIn (· < W.heap.size) W W') : BoxAt r k x y zz t W' := (hk.block r h.lt).trans h
theorem BoxAt.step (h : BoxAt r k x y zz t W) (hb : Bth w d m s b u N vn vs vl p S M Nw Sf Ls W) (hk : KeptIn (fun k => k < W.heap.size ∧ k ≠ m ∧ k ≠ s ∧ k ≠ b) W W') : BoxAt r k x y zz t W' := by
  have hr : W.heap[r]? = _ := h
  have hm : W.heap[m]? = _ := hb.dv.isP.1
  refine (hk.block r ⟨h.lt, fun e => ?_, fun e => ?_, hb.dv.isD.map.ne h⟩).trans h
  · rw [e, hm] at hr
    simp only [Option.some.injEq, Obj.cells.injEq] at hr
    exact absurd hr.2.1 (by decide)
  · rw [e, hb.dv.isD.hs] at hr
    simp only [Option.some.injEq, Obj.cells.injEq] at hr
    exact absurd hr.2.1 (by decide)

theorem place_ok (a i k j len : Nat) (h1 : i < k) (h2 : k ≤ j) (h3 : a + j ≤ len) (h4 : len ≤ 16384) : wrap64 ((a : Int) + (i : Int)) = ((a + i : Nat) : Int) ∧ (0 : Int) ≤ ((a + i : Nat) : Int) ∧ ((a + i : Nat) : Int) < (len : Int) ∧ a + i < len := by
  unfold wrap64; omega
theorem byte_ok (z : UInt8) (zz : Int) (i j n : Nat) (h : (z.toNat : Int) = zz) (h1 : i < j) (h2 : j ≤ n) (h3 : n ≤ 5) : (zz + (i : Int)) % 256 = ((z + UInt8.ofNat i).toNat : Int) ∧ IntKind.u8.wrap (i : Int) = (i : Int) := by
  rw [← h]
  have := byte_add z i (by omega)
  rw [IntKind.wrap_u8] at this
  exact ⟨this, by rw [IntKind.wrap_u8]; omega⟩
theorem wrap_i64_64 (x : Int) : IntKind.i64.wrap x = wrap64 x := by
  rw [IntKind.wrap_i64]
  try (unfold wrap64; omega)
theorem ints_lt (i k j : Nat) (h1 : i < k) (h2 : k ≤ j) : (0 : Int) ≤ (i : Int) ∧ (i : Int) < (k : Int) ∧ (i : Int) < (j : Int) := by omega

/-- What a cell holds, in whatever world. -/
def cellOf (w : World) (a : Addr) : Value := (w.cell? a).getD (.pointer none)
theorem cellOf_eq {w : World} {a : Addr} {v : Value} (h : w.cell? a = some v) : w.cell? a = some (cellOf w a) := by rw [cellOf, h]; rfl

theorem store_keep {V w' : World} {g ai : Nat} {A B C Y v : Value} {bu : Nat} {X : Nat → Prop} (hk : KeptIn X V w') (xu : X u) (xr : X r) (xg : X g) (hu : u ≠ g) (hr : r ≠ g)
    (c0 : V.cell? ⟨u, bu, none⟩ = some A) (c1 : V.cell? ⟨r, 1, none⟩ = some B) (c3 : V.cell? ⟨r, 3, none⟩ = some C) (cy : V.cell? ⟨g, ai, none⟩ = some Y) (cf : V.frozen? ⟨g, ai, none⟩ = false) :
    (w'.setCell ⟨g, ai, none⟩ v).cell? ⟨u, bu, none⟩ = some A ∧ (w'.setCell ⟨g, ai, none⟩ v).cell? ⟨r, 1, none⟩ = some B ∧ (w'.setCell ⟨g, ai, none⟩ v).cell? ⟨r, 3, none⟩ = some C ∧ (w'.setCell ⟨g, ai, none⟩ v).cell? ⟨g, ai, none⟩ = some (cellOf (w'.setCell ⟨g, ai, none⟩ v) ⟨g, ai, none⟩) ∧ (w'.setCell ⟨g, ai, none⟩ v).frozen? ⟨g, ai, none⟩ = false := by
  refine ⟨?_, ?_, ?_, ?_, ?_⟩
  · rw [World.cell?_setCell_far _ _ _ _ (fun e => hu e.symm)]
    exact (World.cell?_of_block (a := ⟨u, bu, none⟩) (hk.block u xu)).trans c0
  · rw [World.cell?_setCell_far _ _ _ _ (fun e => hr e.symm)]
    exact (World.cell?_of_block (a := ⟨r, 1, none⟩) (hk.block r xr)).trans c1
  · rw [World.cell?_setCell_far _ _ _ _ (fun e => hr e.symm)]
    exact (World.cell?_of_block (a := ⟨r, 3, none⟩) (hk.block r xr)).trans c3
  · exact cellOf_eq (World.cell?_setCell_same _ _ _ ((World.cell?_of_block (a := ⟨g, ai, none⟩) (hk.block g xg)).trans cy))
  · rw [World.frozen?_setCell]
    exact (World.frozen?_of_block (a := ⟨g, ai, none⟩) (hk.block g xg)).trans cf

theorem BoxAt.set {g o cap n : Nat} {T : TypeId} {xs : List Value} (h : BoxAt r k x y zz t W) (hr : W.ownsRow N T 1 (.slice (some ⟨g, 0, none⟩) n cap) n xs) (hT : 31 ≠ T) (v : Value) : BoxAt r k x y zz t (W.setCell ⟨g, o, none⟩ v) :=
  (set_other (a := ⟨g, o, none⟩) (fun e => row_ne hr h hT (by rw [e]; rfl))).trans h

theorem Bth.setN {g cap j : Nat} {X : List UInt8} (h : Bth w d m s b u N (.slice (some ⟨g, 0, none⟩) Nw.length cap) vs vl p S M Nw Sf Ls W) (hj : j < Nw.length) :
    Bth w d m s b u N (.slice (some ⟨g, 0, none⟩) Nw.length cap) vs vl p S M (Nw.set j X) Sf Ls (W.setCell ⟨g, j, none⟩ (strV X)) :=
  ⟨h.dvOf ((KeptIn.refl _ W).setCell (p := ⟨g, j, none⟩) (fun h => h.1 rfl) _), h.iu.setN j hj X⟩
theorem Bth.setL {g cap j : Nat} {X : Bool} (h : Bth w d m s b u N vn vs (.slice (some ⟨g, 0, none⟩) Ls.length cap) p S M Nw Sf Ls W) (hj : j < Ls.length) :
    Bth w d m s b u N vn vs (.slice (some ⟨g, 0, none⟩) Ls.length cap) p S M Nw Sf (Ls.set j X) (W.setCell ⟨g, j, none⟩ (.bool X)) :=
  ⟨h.dvOf ((KeptIn.refl _ W).setCell (p := ⟨g, j, none⟩) (fun h => h.2.2 rfl) _), h.iu.setL j hj X⟩

set_option maxHeartbeats 1000000 in
set_option maxRecDepth 100000 in
theorem do1 (h : Bth w d m s b u N vn vs vl p S M (flushed S M) S (looseL S M) W) (x y : Int) (z : UInt8) (t : List UInt8) (ix : I64 x) (hN : N ≤ 1000) :
    Calls Try.prog 10 (doArgs m d u (actV 1 x y z t)) W fun e w' => e = .returned (.bool true) ∧ Fine w d m s b u N vn vs vl w' := by
  unfold doArgs actV
  obtain ⟨n, hn6, hn⟩ := modWalk y 6 (by decide) (by decide)
  have hn' : wrap64 ((IntKind.u64.wrap y).tmod 6) = (n : Int) := hn
  clear hn
  obtain ⟨zz, hz⟩ : ∃ zz : Int, (z.toNat : Int) = zz := ⟨_, rfl⟩
  have HZ := Lib.hid hz
  rw [hz]
  clear hz
  have h' := h.old ((KeptIn.refl _ W).alloc (fun _ h => h) (.cells #[.int .i64 1, .int .i64 x, .int .i64 y, .int .u8 zz, .string ⟨t.toArray⟩] 31))
  clear h
  have HX : Hid (I64 x ∧ n ≤ 5 ∧ N ≤ 1000) := Lib.hid ⟨ix, by omega, hN⟩
  have hn5 : (n : Int) ≤ 5 := by omega
  have HJ0 : Hid (Bth w d m s b u N vn vs vl p S M (flushed S M) S (looseL S M) (W.alloc (.cells #[.int .i64 1, .int .i64 x, .int .i64 y, .int .u8 zz, .string ⟨t.toArray⟩] 31)) ∧ BoxAt W.heap.size 1 x y zz t (W.alloc (.cells #[.int .i64 1, .int .i64 x, .int .i64 y, .int .u8 zz, .string ⟨t.toArray⟩] 31))) := Lib.hid ⟨h', heap_alloc_new W _⟩
  clear h' ix hN hn6
  go_enter Try.func10, Try.ntmps10
  go_wp2_with fail
  rw [hn']
  clear hn'
  generalize W.heap.size = r at *
  go_loopw [10, 11] (fun sv c wr => ∃ (j : Nat) (V : World), V = wr ∧ j ≤ n ∧ c = .int .i64 j ∧ sv = .string ⟨(zs z j).flatten.toArray⟩ ∧ Hid (Bth w d m s b u N vn vs vl p S M (flushed S M) S (looseL S M) V ∧ BoxAt r 1 x y zz t V)) (fun _ c _ => n - (RowKit.intOf c).toNat)
  case atStart => exact ⟨0, _, rfl, Nat.zero_le _, rfl, rfl, HJ0⟩
  case round =>
    obtain ⟨j, V, rfl, hj, rfl, rfl, HJ⟩ := hrel
    clear HJ0
    by_cases hlt : j < n
    · have i0 : (0 : Int) ≤ (j : Int) := by omega
      have i1 : (j : Int) < (n : Int) := by omega
      have i2 : IntKind.u8.wrap (j : Int) = (j : Int) := by rw [IntKind.wrap_u8]; omega
      have c3 := HJ.out.2.c3
      have hv : (zz + (j : Int)) % 256 = ((z + UInt8.ofNat j).toNat : Int) := by
        rw [← HZ.out]
        have := byte_add z j (by omega)
        rwa [IntKind.wrap_u8] at this
      obtain ⟨vv, hvv⟩ : ∃ vv, (zz + (j : Int)) % 256 = vv := ⟨_, rfl⟩
      obtain ⟨o, ho⟩ : ∃ o, solid (z + UInt8.ofNat j) = o := ⟨_, rfl⟩
      obtain ⟨so, hso⟩ : ∃ so, (zs z j).flatten = so := ⟨_, rfl⟩
      have SEC := Lib.hid fun V => lSector (z + UInt8.ofNat j) V
      rw [← hv, hvv, ho] at SEC
      have HST : Hid ((⟨so.toArray⟩ : ByteArray) ++ ⟨o.toArray⟩ = ⟨(zs z (j + 1)).flatten.toArray⟩) := Lib.hid (by rw [joinB, zs_succ, hso, ho])
      have l1 : so.length = 16 * j := by rw [← hso, zs_flat]
      have l2 : o.length = 16 := by rw [← ho, solid_length]
      have l3 : (j : Int) ≤ 5 := by omega
      rw [hso]
      clear hv ho hso
      go_wp2_with (go_at_call 22; rw [hvv]; refine (SEC.out _).mono ?_)
      rintro e V2 ⟨rfl, hk2⟩
      have HJ2 : Hid (Bth w d m s b u N vn vs vl p S M (flushed S M) S (looseL S M) V2 ∧ BoxAt r 1 x y zz t V2) := Lib.hid ⟨HJ.out.1.old hk2, HJ.out.2.old hk2⟩
      clear hk2 c3 HJ SEC
      go_wp2_with fail
      go_roundw
      case rel => exact ⟨j + 1, _, rfl, by omega, by go_num, by rw [HST.out], HJ2⟩
      case measure => simp [RowKit.intOf]; omega
    · obtain rfl : j = n := by omega
      obtain ⟨l, hl⟩ : ∃ l, (zs z j).flatten = l := ⟨_, rfl⟩
      have HL : Hid ((zs z j).flatten = l ∧ l.length = 16 * j ∧ l.length ≤ maxLen) := Lib.hid (by
        have h2 := zs_flat z j
        rw [hl] at h2
        refine ⟨hl, h2, ?_⟩
        unfold maxLen
        omega)
      rw [hl]
      clear hl
      have c1 := HJ.out.2.c1
      have hm16 := HJ.out.1.dv.isD.max
      have hft : ∀ V, IsU w.heap.size u vn vs vl (flushed S M) S (looseL S M) V → Calls Try.prog 27 #[.pointer (some ⟨u, 0, none⟩), .int .i64 x, .int .i64 (j : Int)] V fun e w' => e = .returned (.bool (fits S.length x j)) ∧ V = w' := fun V hV => by
        have := r4Fits w.heap.size u vn vs vl _ _ _ x (j : Int) V hV HX.out.1 ⟨by omega, by omega⟩ (by rw [flushed_length]; exact hm16)
        rwa [flushed_length] at this
      have CU := Lib.hid (mUses m _ _ _ _ _ HJ.out.1.dv.isP.1)
      cases hf : fits S.length x j with
      | false =>
        have C := Lib.hid (dWriteRange d m s b N S M x l j _ HJ.out.1.dv.isD HX.out.1 HL.out.2.2 HL.out.2.1 hf)
        have cf := hft _ HJ.out.1.iu
        rw [hf] at cf
        have CF := Lib.hid cf
        have HF := Lib.hid (HJ.out.1.fine (N := N) (by omega))
        clear HJ cf hft hm16 hf
        go_wp2_with (go_at_call 26; refine CU.out.mono ?_)
        rintro e V2 ⟨rfl, rfl⟩
        go_wp2_with (go_at_call 19; refine C.out.mono ?_)
        rintro e V3 ⟨rfl, rfl⟩
        go_wp2_with (go_at_call 27; refine CF.out.mono ?_)
        rintro e V4 ⟨rfl, rfl⟩
        go_wp2_with (go_at_call 26; refine CU.out.mono ?_; rintro e V5 ⟨rfl, rfl⟩)
        go_ret
        exact ⟨rfl, HF.out⟩
      | true =>
        have hb : 0 ≤ x ∧ x ≤ (S.length : Int) - j := by
          have : (0 ≤ x ∧ 0 ≤ (j : Int)) ∧ x ≤ (S.length : Int) - j := by simpa [fits, and_assoc] using hf
          exact ⟨this.1.1, this.2⟩
        obtain ⟨a, rfl⟩ : ∃ a : Nat, x = (a : Int) := ⟨x.toNat, by omega⟩
        have C := Lib.hid (bWrite HJ.out.1 (a : Int) l j HL.out.2.2 HL.out.2.1 hf (by have := HX.out; unfold maxLen; omega))
        have HFT := Lib.hid hft
        have HB : Hid (fits S.length (a : Int) j = true ∧ a + j ≤ S.length ∧ S.length ≤ 16384) := Lib.hid ⟨hf, by omega, hm16⟩
        have HG : Hid (wrap64 ((Pw.go j p).2.uses - p.uses) = ((Pw.go j p).1 : Int) ∧ (Pw.go j p).1 ≤ j ∧ ((Pw.go j p).1 ≠ j → (Pw.go j p).2.on = false)) := Lib.hid ⟨go_diff j p HX.out.2.1, go_le j p, go_off j p⟩
        obtain ⟨us, hus⟩ : ∃ us, p.uses = us := ⟨_, rfl⟩
        generalize (Pw.go j p).2 = q at C HG
        generalize (Pw.go j p).1 = k at C HG
        rw [hus] at HG CU
        obtain ⟨E, hE⟩ : ∃ E : Int, (if k = j then (0 : Int) else 4) = E := ⟨_, rfl⟩
        rw [hE] at C
        have HE := Lib.hid hE
        have HBX := Lib.hid fun W0 hk => HJ.out.2.step HJ.out.1 (W' := W0) hk
        clear hb hft hf hus hE HJ hm16
        go_wp2_with (go_at_call 26; refine CU.out.mono ?_)
        rintro e V2 ⟨rfl, rfl⟩
        clear CU
        go_wp2_with (go_at_call 19; refine C.out.mono ?_)
        rintro e V3 ⟨rfl, h3, hk3⟩
        have cf := HFT.out _ h3.iu
        rw [HB.out.1] at cf
        have CF := Lib.hid cf
        have hbx := HBX.out _ hk3
        have CU := Lib.hid (mUses m _ _ _ _ _ h3.dv.isP.1)
        obtain ⟨qu, hqu⟩ : ∃ qu, q.uses = qu := ⟨_, rfl⟩
        rw [hqu] at CU HG
        have c1 := hbx.c1
        have HJ0 : Hid (Bth w d m s b u (N + j) vn vs vl q S (putN M a l k) (flushed S (putN M a l 0)) S (looseL S (putN M a l 0)) V3 ∧ BoxAt r 1 a y zz t V3) := Lib.hid ⟨h3, hbx⟩
        clear h3 hk3 cf hbx C HFT HBX hqu
        go_wp2_with (go_at_call 27; refine CF.out.mono ?_)
        rintro e V4 ⟨rfl, rfl⟩
        have hg := HG.out.1
        go_wp2_with (go_at_call 26; refine CU.out.mono ?_)
        rintro e V5 ⟨rfl, rfl⟩
        clear CF CU
        go_wp2_with fail
        rw [hg]
        clear hg
        go_loopw [15] (fun c wr => ∃ (i : Nat) (V : World), V = wr ∧ i ≤ k ∧ c = .int .i64 i ∧ Hid (Bth w d m s b u (N + j) vn vs vl q S (putN M a l k) (flushed S (putN M a l i)) S (looseL S (putN M a l i)) V ∧ BoxAt r 1 a y zz t V)) (fun c _ => k - (RowKit.intOf c).toNat)
        case atStart => exact ⟨0, _, rfl, Nat.zero_le _, rfl, HJ0⟩
        case round =>
          obtain ⟨i, V, rfl, hi, rfl, HJ⟩ := hrel
          clear HJ0 c1
          have hkj : (k : Int) ≤ (j : Int) := by have := HG.out; omega
          by_cases hlt : i < k
          · have hkj' := HG.out.2.1
            obtain ⟨i0, i1, i2⟩ := ints_lt i k j hlt hkj'
            have hij := Nat.lt_of_lt_of_le hlt hkj'
            obtain ⟨hv, i3⟩ := byte_ok z zz i j j HZ.out hij (Nat.le_refl _) HX.out.2.1
            have hpl := place_ok a i k j S.length hlt hkj' HB.out.2.1 HB.out.2.2
            obtain ⟨gn, cn, en, hBn, hgn, _, _, hcn, hfn⟩ := row_at HJ.out.1.iu.rn (by rw [flushed_length]; exact Nat.lt_of_le_of_lt (Nat.zero_le _) hpl.2.2.2)
            obtain ⟨gl, cl, el, hBl, hgl, _, _, hcl, hfl⟩ := row_at HJ.out.1.iu.rl (by rw [looseL_length]; exact Nat.lt_of_le_of_lt (Nat.zero_le _) hpl.2.2.2)
            rw [flushed_length] at en; rw [looseL_length] at el
            have HEN := Lib.hid en; have HEL := Lib.hid el
            obtain ⟨ai, hai⟩ : ∃ ai, a + i = ai := ⟨_, rfl⟩
            obtain ⟨nS, hnS⟩ : ∃ nS, S.length = nS := ⟨_, rfl⟩
            rw [hai] at hpl
            have hai2 := hpl.2.2.2
            rw [hnS] at hpl
            obtain ⟨e1, e2, e3, _⟩ := hpl
            have e4 : IntKind.i64.wrap ((a : Int) + (i : Int)) = (ai : Int) := by rw [← e1]; exact wrap_i64_64 _
            obtain ⟨Y, hY⟩ : ∃ Y, V.cell? ⟨gn, ai, none⟩ = some Y := ⟨_, hcn ai _ (List.getElem?_eq_getElem (by rw [List.length_map, flushed_length]; exact hai2))⟩
            have c0 := HJ.out.1.iu.c0
            have f0 := hfn ai
            have C1 := Lib.hid HJ.out.2.c1; have C3 := Lib.hid HJ.out.2.c3
            have hun : u ≠ gn := fun e => row_ne HJ.out.1.iu.rn HJ.out.1.iu.hu (by decide) (by rw [en, e]; rfl)
            have hrn : r ≠ gn := fun e => row_ne HJ.out.1.iu.rn HJ.out.2 (by decide) (by rw [en, e]; rfl)
            have hult := HJ.out.1.iu.lt; have hrlt := HJ.out.2.lt
            rw [en, hnS] at c0
            have C0 := Lib.hid c0; have CY := Lib.hid hY; have CF := Lib.hid f0
            obtain ⟨o, ho⟩ : ∃ o, nth l i = o := ⟨_, rfl⟩
            have hso : solid (z + UInt8.ofNat i) = o := by rw [← ho, ← HL.out.1, zs_nth z j i hij]
            obtain ⟨vv, hvv⟩ : ∃ vv, (zz + (i : Int)) % 256 = vv := ⟨_, rfl⟩
            have SEC := Lib.hid fun V => lSector (z + UInt8.ofNat i) V
            rw [← hv, hvv, hso] at SEC
            have hvw : IntKind.u8.wrap (zz + (i : Int)) = vv := by rw [IntKind.wrap_u8, hvv]
            clear hvv
            have HO := Lib.hid ho; have HAI := Lib.hid (And.intro hai (And.intro hnS hai2))
            clear hcn hfn hcl hfl hY f0 c0 ho hso hv hai hnS hai2 en el hkj' hij
            go_wp2_with fail
            go_region_held3 (fun w' => w'.cell? ⟨u, 0, none⟩ = some (.slice (some ⟨gn, 0, none⟩) nS cn) ∧ w'.cell? ⟨r, 1, none⟩ = some (.int .i64 (a : Int)) ∧ w'.cell? ⟨r, 3, none⟩ = some (.int .u8 zz) ∧ w'.cell? ⟨gn, ai, none⟩ = some (cellOf w' ⟨gn, ai, none⟩) ∧ w'.frozen? ⟨gn, ai, none⟩ = false)
              (first
                | exact ⟨C0.out, C1.out, C3.out, cellOf_eq CY.out, CF.out⟩
                | exact ⟨(World.cell?_of_block (a := ⟨u, 0, none⟩) (hk.block u hult)).trans C0.out, (World.cell?_of_block (a := ⟨r, 1, none⟩) (hk.block r hrlt)).trans C1.out, (World.cell?_of_block (a := ⟨r, 3, none⟩) (hk.block r hrlt)).trans C3.out, cellOf_eq ((World.cell?_of_block (a := ⟨gn, ai, none⟩) (hk.block gn hgn)).trans CY.out), (World.frozen?_of_block (a := ⟨gn, ai, none⟩) (hk.block gn hgn)).trans CF.out⟩
                | exact store_keep (V := V) (X := fun x => x < V.heap.size) (⟨hk.os, hk.tape, hk.output, hk.size, hk.block⟩ : KeptIn (· < V.heap.size) V w') hult hrlt hgn hun hrn C0.out C1.out C3.out CY.out CF.out)
              (first | (go_at_call 22; refine (SEC.out _).mono ?_; rintro e w' ⟨rfl, hk⟩))
            have hkW : KeptIn (· < V.heap.size) V w' := ⟨hk.os, hk.tape, hk.output, hk.size, hk.block⟩
            have hU2 : Bth w d m s b u (N + j) vn vs vl q S (putN M (a : Int) l k) (flushed S (putN M (a : Int) l (i + 1))) S (looseL S (putN M (a : Int) l i)) (w'.setCell ⟨gn, ai, none⟩ (.string ⟨o.toArray⟩)) ∧ BoxAt r 1 a y zz t (w'.setCell ⟨gn, ai, none⟩ (.string ⟨o.toArray⟩)) := by
              have hB := HJ.out.1.old hkW
              have hX := HJ.out.2.old hkW
              have hrn := hB.iu.rn
              have hfl : (flushed S (putN M (a : Int) l i)).length = S.length := flushed_length
              rw [HEN.out] at hB hrn ⊢
              rw [hfl] at hrn
              rw [← hfl] at hB
              have h2 := hB.setN (j := ai) (X := o) (by rw [hfl]; exact HAI.out.2.2)
              rw [hfl, flushed_put] at h2
              have e : putN M (a : Int) l (i + 1) = putAt (putN M (a : Int) l i) (ai : Int) o := by
                rw [putN, HO.out, ← HAI.out.1]
                rfl
              rw [e]
              exact ⟨h2, hX.set hrn (by decide) _⟩
            have HU2 := Lib.hid hU2
            clear hkW hk hU2 SEC HJ HO C0 C1 C3 CY CF i3 hvw HEN
            obtain ⟨V2, hV2⟩ : ∃ V2, w'.setCell ⟨gn, ai, none⟩ (.string ⟨o.toArray⟩) = V2 := ⟨_, rfl⟩
            rw [hV2] at HU2 ⊢
            clear hV2
            have hcl : (looseL S (putN M (a : Int) l i)).length = S.length := looseL_length
            obtain ⟨gl', cl', el', _, _, _, _, hcc, hfl⟩ := row_at HU2.out.1.iu.rl (by rw [hcl]; exact Nat.lt_of_le_of_lt (Nat.zero_le _) HAI.out.2.2)
            rw [HEL.out, hcl] at el'
            simp only [Value.slice.injEq, true_and, Option.some.injEq, Addr.mk.injEq, and_true] at el'
            obtain ⟨rfl, rfl⟩ := el'
            obtain ⟨Y, hY⟩ : ∃ Y, V2.cell? ⟨gl, ai, none⟩ = some Y := ⟨_, hcc ai _ (List.getElem?_eq_getElem (by rw [List.length_map, hcl]; exact HAI.out.2.2))⟩
            have f0 := hfl ai
            have c2 := HU2.out.1.iu.c2
            rw [HEL.out, HAI.out.2.1] at c2
            have c1 := HU2.out.2.c1
            have HJ2 : Hid (Bth w d m s b u (N + j) vn vs vl q S (putN M (a : Int) l k) (flushed S (putN M (a : Int) l (i + 1))) S (looseL S (putN M (a : Int) l (i + 1))) ((V2.setCell ⟨gl, ai, none⟩ (.bool true)).drew) ∧ BoxAt r 1 a y zz t ((V2.setCell ⟨gl, ai, none⟩ (.bool true)).drew)) := Lib.hid (by
              have hB := HU2.out.1
              have hrl := hB.iu.rl
              rw [HEL.out] at hB hrl ⊢
              rw [hcl] at hrl
              rw [← hcl] at hB
              have h2 := hB.setL (j := ai) (X := true) (by rw [hcl]; exact HAI.out.2.2)
              rw [hcl, looseL_put (l := nth l i)] at h2
              have e : putN M (a : Int) l (i + 1) = putAt (putN M (a : Int) l i) (ai : Int) (nth l i) := by
                rw [putN, ← HAI.out.1]
                rfl
              rw [e] at h2 ⊢
              exact ⟨h2.old ((KeptIn.refl _ _).drew), (HU2.out.2.set hrl (by decide) _).old ((KeptIn.refl _ _).drew)⟩)
            clear HU2 HEL hcl hcc hfl HAI
            go_wp2_with fail
            go_region
            go_wp2_with fail
            go_roundw
            case rel => exact ⟨i + 1, _, rfl, hlt, by go_num, HJ2⟩
            case measure => simp [RowKit.intOf]; omega
          · obtain rfl : i = k := by omega
            have i4 : (i : Int) ≤ (j : Int) := hkj
            have HF := Lib.hid (HJ.out.1.fine (N := N) (by have := HX.out; omega))
            have ho := mOn m _ _ _ _ V HJ.out.1.dv.isP.1
            clear HJ
            by_cases hij : i = j
            · subst hij
              rw [if_pos rfl] at HE
              have hE := HE.out
              subst hE
              clear ho
              go_wp2_with fail
              go_ret
              exact ⟨rfl, HF.out⟩
            · rw [if_neg hij] at HE
              have hE := HE.out
              subst hE
              rw [HG.out.2.2 hij] at ho
              have HO := Lib.hid ho
              have i5 : ((i : Int) == (j : Int)) = false := beq_eq_false_iff_ne.2 (by omega)
              clear ho
              go_wp2_with (go_at_call 28; refine HO.out.mono ?_; rintro e V7 ⟨rfl, rfl⟩)
              go_ret
              exact ⟨by simp, HF.out⟩

end

end Go.Proofs.Ytbgkfeikfkbfmaa
