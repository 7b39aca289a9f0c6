/- ringThrough. -/
import Derived.Test.YtnlfmmempomcaaaRb
namespace Go.Proofs.Ytnlfmmempomcaaa
open Go.RowKit Go.Maps
set_option linter.unusedSimpArgs false
/-- A look-up whose run is known. -/
theorem wpList_lookup_run {P : Program} {w : World} {ops : Array Oper} {rest : List Oper} {o : Oper} {a : Act} {Q : Exit → Act → World → Prop} (hg : o.guard = none) (m x : Operand) (t : TypeId) (k : Bool) (hop : o.op = Op.lookup t m x k) {mv xv v : Value} (hm : a.eval m = mv) (hx : a.eval x = xv) (h : (Instr.lookup t mv xv k).run P w = .ok v w)
    (hK : wpList P ops Q rest (a.put o.dst v) w) : wpList P ops Q (o :: rest) a w := by
  refine wpList_plain hg fun K' hK' => ?_
  unfold Oper.wp
  simp [execOp, hop, hm, hx, h, Result.andThen]
  exact hK' _ _ hK
/-- What stands at the outer loop's head. -/
def RgR (A sb K : Nat) (S : St) (n : Int) (s : ByteArray) (F : ByteArray → Option Nat) (b : Nat) (w : World) (v : Value) (wr : World) : Prop :=
  ∃ sn ah, PSet wr sb sn ∧ LRow A wr v ah ∧ Below A w wr ∧ RgI S n s F b (fun _ => False) sn ah ∧ sn.length ≤ K
theorem ring_start {k : Nat} {O : Ghost} {tb : Nat} {S : St} {ex : Option Int} {F : ByteArray → Option Nat} {G : Int → Option Nat} {lm tm : Option Nat} {w w1 : World} (hM : Mem k O w) (h : Rp O tb S ex F G lm tm) {n : Int} {s : ByteArray} {b : Nat} (hF : F s = some b) (hb : Below w.heap.size w w1) :
    ∃ w2, (Instr.mapUpdate 129 (.map (some w1.heap.size)) (.pointer (some ⟨b, 0, none⟩)) (.agg #[])).run Try.prog (w1.alloc (.map #[] 0)) = .ok () w2 ∧ Hid (RgR w.heap.size w1.heap.size k S n s F b w (.slice (some ⟨w2.heap.size, 0, none⟩) 1 1) (w2.alloc (.cells #[.pointer (some ⟨b, 0, none⟩)] 76))) := by
  obtain ⟨hm, z, rv, h1, _⟩ := h.lock s b hF
  have hraw := hM.raw h1
  have hblt := hM.lt h1
  have hl : Lives (w1.alloc (.map #[] 0)) b := ⟨_, _, by rw [Below.heap_alloc _ _ _ (Nat.lt_of_lt_of_le hblt hb.size), hb.block _ hblt]; exact hraw⟩
  obtain ⟨w2, hr, hP, ht⟩ := P_store (w1.alloc (.map #[] 0)) w1.heap.size [] (P_new w1) (fun g hg => by cases hg) b hl (by simp)
  have hg := ht.grown
  have hsz : w1.heap.size + 1 ≤ w2.heap.size := by have := hg.size; simpa using this
  have hb2 : Below w.heap.size w w2 := (hb.alloc hb.size (.map #[] 0)).grown hg (by simp; have := hb.size; omega) fun j hj => by injection hj with hj; have := hb.size; omega
  have hk1 : 1 ≤ k := Rp.few hM h [b] (by simp) fun g hg => ⟨s, by rw [List.mem_singleton.1 hg]; exact hF⟩
  refine ⟨w2, hr, [b], [b], hP.same (Below.heap_alloc _ _ _ (by omega)), ?_, hb2.alloc hb2.size _, RgI.start hF, hk1⟩
  have := World.ownsRow_made (base := w.heap.size) (e := 76) (size := 1) w2 #[.pointer (some ⟨b, 0, none⟩)] 1 hb2.size (by simp [maxLen]) (by simp)
  refine ⟨by simp, .inr ⟨w2.heap.size, 1, #[.pointer (some ⟨b, 0, none⟩)], rfl, hb2.size, by show (w2.heap.push _)[w2.heap.size]? = _; simp, Nat.le_refl _, by simp [maxLen], by simp, by simp [ptr]⟩⟩
/-- What stands at the inner loop's head. -/
def InR (A sb K M0 hm r0 nn : Nat) (D : DataW Unit) (S : St) (n : Int) (s : ByteArray) (F : ByteArray → Option Nat) (b : Nat) (c : ByteArray) (w : World) (v : Value) (wr : World) : Prop :=
  ∃ left cnt sn ah, wr.ranges Try.prog 3 ptrElem hm r0 nn D left cnt ∧ PSet wr sb sn ∧ LRow A wr v ah ∧ Below A w wr ∧ RgI S n s F b (fun t => t = c) sn ah ∧ sn.length ≤ K ∧ (∀ m, m ∈ S.hs c → left (.int .i64 m) = false → StepOk S n F sn m) ∧ 2 * (K - sn.length) + ah.length < M0
theorem same_int (s q : Int) : (Lit.int .i64 s).sameKey (.int .i64 q) = decide (s = q) := by
  simp [Lit.sameKey]
section
variable {A sb K M0 hm r0 nn : Nat} {D : DataW Unit} {S : St} {n : Int} {s : ByteArray} {F : ByteArray → Option Nat} {b : Nat} {c : ByteArray} {w wr w2 : World} {v : Value} {left : Lit → Bool} {cnt cnt2 : Nat} {sn ah : List Nat} {x : Int}
/-- One entry more has been looked at, that leads to nothing new. -/
theorem InR.same (hrg : w2.ranges Try.prog 3 ptrElem hm r0 nn D (fun z => left z && !z.sameKey (.int .i64 x)) cnt2) (hP : PSet w2 sb sn) (hrow : LRow A w2 v ah) (hbw : Below A w w2) (hI : RgI S n s F b (fun t => t = c) sn ah) (hK : sn.length ≤ K)
    (hdone : ∀ m, m ∈ S.hs c → left (.int .i64 m) = false → StepOk S n F sn m) (hm0 : 2 * (K - sn.length) + ah.length < M0) (hx : StepOk S n F sn x) : InR A sb K M0 hm r0 nn D S n s F b c w v w2 :=
  ⟨_, _, sn, ah, hrg, hP, hrow, hbw, hI, hK, fun m hm1 hl => by
    simp only [Bool.and_eq_false_iff, Bool.not_eq_false', same_int, decide_eq_true_eq] at hl
    rcases hl with hl | hl
    · exact hdone m hm1 hl
    · rw [hl]; exact hx, hm0⟩
/-- One entry more has been looked at, that leads to a lock that was not seen. -/
theorem InR.more {g : Nat} {t : ByteArray} {w3 w5 : World} {v' : Value} {q : Bool} (hrg : w2.ranges Try.prog 3 ptrElem hm r0 nn D (fun z => left z && !z.sameKey (.int .i64 x)) cnt2) (hrow : LRow A w2 v ah) (hbw : Below A w w2) (hI : RgI S n s F b (fun t => t = c) sn ah)
    (hK : (sn ++ [g]).length ≤ K) (hdone : ∀ m, m ∈ S.hs c → left (.int .i64 m) = false → StepOk S n F sn m) (hm0 : 2 * (K - sn.length) + ah.length < M0) (hg : F t = some g) (hgs : g ∉ sn) (hwt : S.wt x = some (t, q)) (hx : x ∈ S.hs c) (hxn : x ≠ n) (hRe : Reach S s c)
    (hP3 : PSet w3 sb (sn ++ [g])) (ht3 : w2.mapTurned w3 sb) (hsb : A ≤ sb ∧ sb < r0) (hhm : hm < A) (hAw : A ≤ w2.heap.size) (hrow5 : LRow A w5 v' (ah ++ [g])) (hg5 : w3.grownBy w5 v.ownBlock) : InR A sb K M0 hm r0 nn D S n s F b c w v' w5 ∧ w5.rangeLeft hm r0 = cnt2 := by
  have hlt := hrg.lt
  have hg3 := ht3.grown
  have hr3 : w3.ranges Try.prog 3 ptrElem hm r0 nn D (fun z => left z && !z.sameKey (.int .i64 x)) cnt2 := hrg.kept hg3 (by simp; omega) (by simp; omega)
  have hne : ∀ j, v.ownBlock = some j → A ≤ j ∧ j ≠ r0 ∧ j ≠ sb := fun j e => by
    obtain ⟨h1, cur, h2⟩ := hrow.cells e
    refine ⟨h1, fun e2 => ?_, fun e2 => ?_⟩
    · obtain ⟨_, _, _, _, _, _, _, _, _, h3, _⟩ := hrg
      rw [e2, h3] at h2; cases h2
    · obtain ⟨_, _, _, _, h3, _⟩ := ht3
      rw [e2, h3] at h2; cases h2
  have hr5 : w5.ranges Try.prog 3 ptrElem hm r0 nn D (fun z => left z && !z.sameKey (.int .i64 x)) cnt2 := hr3.kept hg5 (fun e => by have := hne hm e.symm; omega) (fun e => (hne r0 e.symm).2.1 rfl)
  have hP5 : PSet w5 sb (sn ++ [g]) := hP3.same (hg5.block sb (by obtain ⟨_, _, h3, _⟩ := hP3; exact (Array.getElem?_eq_some_iff.1 h3).1) (fun e => (hne sb e.symm).2.2 rfl))
  have hb3 : Below A w w3 := hbw.grown hg3 hAw fun j hj => by injection hj with hj; omega
  have hb5 : Below A w w5 := hb3.grown hg5 (Nat.le_trans hAw hg3.size) fun j hj => (hne j hj).1
  have hs : ∀ y ∈ sn, y ∈ sn ++ [g] := fun y hy => List.mem_append_left _ hy
  refine ⟨InR.same hr5 hP5 hrow5 hb5 (hI.push hg (.step hRe hx hwt) hgs) hK (fun m h1 h2 => (hdone m h1 h2).mono hs) ?_ ⟨hxn, fun y hy g' hg' => ?_⟩, hr5.left_eq⟩
  · rw [List.length_append, List.length_singleton] at hK ⊢
    rw [List.length_append, List.length_singleton]
    omega
  · rw [hwt] at hy
    injection hy with hy
    subst hy
    rw [hg] at hg'
    injection hg' with hg'
    rw [← hg']
    simp
end
set_option maxRecDepth 200000 in
set_option maxHeartbeats 1000000 in
theorem ring_ok {k : Nat} (O : Ghost) (tb : Nat) (S : St) (F : ByteArray → Option Nat) (G : Int → Option Nat) (lm tm : Option Nat) (w : World) (hM : Mem k O w) (h : Rp O tb S none F G lm tm) (hI : Inv S) (hk : k < 2000000) (n : Int) (s : ByteArray) (a b : Nat) (hF : F s = some b) (hG : G n = some a) (hns : n ∉ S.hs s) (r : Bool) (hr : r = true ↔ S.Ring n s) :
    Calls Try.prog 41 #[.pointer (some ⟨a, 0, none⟩), .pointer (some ⟨b, 0, none⟩)] w fun e w' => e = .returned (.bool r) ∧ Below w.heap.size w w' := by
  by_cases haw : ∃ t, n ∈ S.hs t ∧ S.rw t ≠ []
  · have HC := hide (awaited_ok O tb S none F G lm tm w hM h n a hG true (by simpa using haw))
    have HST : Hid (∀ w1, Below w.heap.size w w1 → _) := fun w1 hb => ring_start (n := n) hM h hF hb
    have hmk := @run_makeMap Try.prog
    have HMm := hide hM
    have HRp := hide h
    have HInv := hide hI
    have HFs := hide hF
    have HGn := hide hG
    have Hr := hide hr
    clear haw
    go_enter Try.func41, Try.ntmps41
    go_wp2_with (go_at_call 58; refine (unhide HC).mono ?_; rintro e w1 ⟨rfl, hb1⟩; obtain ⟨w2, hst, H0⟩ := unhide HST w1 hb1)
    go_loopw [6] (fun v wr => RgR w.heap.size w1.heap.size k S n s F b w v wr) (fun v wr => 2 * (k - mapLen wr w1.heap.size) + lenV v)
    case atStart => exact unhide H0
    case round =>
      obtain ⟨sn, ah, hP, hrow, hbw, hRI, hsn⟩ := hrel
      rcases List.eq_nil_or_concat ah with rfl | ⟨pre, q, rfl⟩
      · obtain ⟨ra, rc, rfl⟩ := hrow.shape
        have hnr := hRI.none_ahead hF fun m t x e => (h.livew t m x ((hI.wait m t x).1 e)).1
        have HE : Hid (r = false) := by
          cases hrr : r with
          | false => exact hide rfl
          | true => exact absurd (hr.1 hrr) hnr
        have HB := hide hbw
        clear hP hrow hRI hsn hnr hbw
        simp only [List.length_nil]
        go_wp2_with fail
        go_ret
        exact ⟨by rw [unhide HE]; rfl, unhide HB⟩
      · rw [List.concat_eq_append] at hrow hRI
        obtain ⟨g, cap, rfl, hgA, hcell, hcap, hcm, hrow'⟩ := hrow.last
        obtain ⟨c, hFc, hRe⟩ := hRI.live q (hRI.sub q (by simp))
        obtain ⟨hm, z, rv, q1, q2, q3, _⟩ := h.lock c q hFc
        have d1 : wr.cell? ⟨q, 1, none⟩ = some (.map (some hm)) := by
          rw [hbw.cell (p := ⟨q, 1, none⟩) (hM.lt q1)]
          exact hM.cell q1 (i := 1) rfl
        have hhmA := hM.lt q3
        obtain ⟨nn, D, hnk, ho, hD, hDn⟩ := hM.im q3
        have HO : Hid (wr.ownsMap Try.prog 3 ptrElem hm nn D) := by
          obtain ⟨es, clock, hb, rest⟩ := ho
          exact ⟨es, clock, (hbw.block hm (hM.lt q3)).trans hb, rest⟩
        have HD := hide hD
        have HR := hide hrow'
        have HI := hide (hRI.pop hFc fun t g h1 h2 => h.injF h1 h2)
        have HB := hide hbw
        have HP := hide hP
        obtain ⟨M0, hM0⟩ : ∃ M0, M0 = 2 * (k - mapLen wr w1.heap.size) + lenV (.slice (some ⟨g, 0, none⟩) (pre.length + 1) cap) := ⟨_, rfl⟩
        have HM0 : Hid (M0 = 2 * (k - sn.length) + (pre.length + 1)) := by
          rw [hP.len] at hM0
          exact hide hM0
        obtain ⟨N, hN⟩ : ∃ N, N = pre.length := ⟨_, rfl⟩
        rw [← hN] at hcell hcap
        have hNI : (0 : Int) < (N : Int) + 1 := by omega
        have hN2 : (N : Int) < 2000000 := by have := hRI.len; rw [List.length_append, List.length_singleton] at this; omega
        have hNc : (N : Int) ≤ (cap : Int) := by omega
        have HN := hide hN
        clear hM h hI hF hG hns hr HC HST hP hrow hbw hRI hrow' ho hD hDn hnk q1 q2 q3
        rw [← hN]
        clear hN
        obtain ⟨wo, hwo⟩ : ∃ wo, wo = wr := ⟨_, rfl⟩
        subst hwo
        go_wp2_with (first | (at_range; refine wpList_range_own _ rfl _ 71 rfl 3 74 intK Try.underlying71 _ hm nn _ rfl (unhide HO) ?_; intro w0 hrg0 hg0 hs0) | go_in)
        go_loopw [6] (fun v W => InR w.heap.size w1.heap.size k M0 hm wo.heap.size nn D S n s F b c w v W) (fun _ W => W.rangeLeft hm wo.heap.size)
        case atStart =>
          have hbw := unhide HB
          refine ⟨_, _, sn, pre, hrg0, (unhide HP).same (hg0.block _ (by obtain ⟨_, _, h3, _⟩ := unhide HP; exact (Array.getElem?_eq_some_iff.1 h3).1) (by simp)), by rw [unhide HN]; exact (unhide HR).kept fun j hj => hg0.block j (by obtain ⟨_, cur, h2⟩ := (unhide HR).cells hj; exact (Array.getElem?_eq_some_iff.1 h2).1) (by simp), hbw.grown hg0 hbw.size (fun j hj => by cases hj), unhide HI, hsn, fun m hm1 hl => ?_, by have := unhide HM0; omega⟩
          obtain ⟨_, a', ha'⟩ := (unhide HRp).liveh c m hm1
          obtain ⟨E, rfl⟩ := isMap_of (unhide HO)
          have := atD_has (unhide HD m ((unhide HRp).okG m a' ha'))
          rw [hl, if_pos hm1, ha'] at this
          cases this
        case round =>
          obtain ⟨left, cnt, sn2, ah2, hrg, hP2, hrow2, hbw2, hRI2, hsn2, hdone, hm0⟩ := hrel
          have HP2 := hide hP2
          have HROW := hide hrow2
          have HBW := hide hbw2
          have HRI := hide hRI2
          have HDN := hide hdone
          have HM2 := hide hm0
          have HS2 := hide hsn2
          clear hP2 hrow2 hbw2 hRI2 hdone hm0 hsn2
          go_wp2_with (first | (at_next; refine wpList_next_ranges _ rfl _ rfl 3 intK ptrElem (Value.int .i64) ptr (fun key kl hk => by obtain ⟨x, hx, _⟩ := I_inv hk; exact ⟨x, hx⟩) ptrElem_shape hm wo.heap.size nn _ _ _ rfl hrg ?_ ?_) | go_in)
          · intro hc0 hl0
            have HE : Hid (RgR w.heap.size w1.heap.size k S n s F b w u6 wr ∧ 2 * (k - mapLen wr w1.heap.size) + lenV u6 < M0) := by
              obtain ⟨ra, rc, e⟩ := (unhide HROW).shape
              refine ⟨⟨sn2, ah2, unhide HP2, unhide HROW, unhide HBW, (unhide HRI).close fun m hm1 => unhide HDN m hm1 (hl0 _), unhide HS2⟩, ?_⟩
              rw [(unhide HP2).len, e]
              exact unhide HM2
            clear hrg
            go_wp2_with fail
            go_roundw
            case rel => exact (unhide HE).1
            case measure =>
              have := (unhide HE).2
              rw [hM0, ← unhide HN] at this
              exact this
          · intro x c' kl yd yp w3 cnt3 hkey hlk hv hat hrg3 hlt hg3 hs3 hen
            obtain ⟨x', ex, rfl, hxl⟩ := I_inv hkey
            obtain rfl : x = x' := by injection ex
            have hLc : (if x ∈ S.hs c then G x else none) = c' := by
              have h1 := unhide HD x hxl .nil
              rw [hat .nil, atD_nil] at h1
              rw [ptrElem_ptr] at hv
              injection hv with hv
              injection hv with hv
              exact (ptrD_inj (hv.trans h1)).symm
            have hcs : ∃ g, c' = some g := by
              obtain ⟨E, rfl⟩ := isMap_of (unhide HO)
              have h1 := atD_has (unhide HD x hxl)
              rw [hLc] at h1
              cases c' with
              | some g => exact ⟨g, rfl⟩
              | none =>
                have h2 : ∀ zd, (DataW.map E).atKey (Lit.int .i64 x) zd = yd := hat
                have a1 := unhide HD x hxl .nil
                have a2 := unhide HD x hxl (.map [])
                rw [hLc] at a1 a2
                rw [h2] at a1 a2
                rw [a1] at a2
                cases a2
            obtain ⟨gx, rfl⟩ := hcs
            have hin : x ∈ S.hs c := by
              by_cases h1 : x ∈ S.hs c
              · exact h1
              · rw [if_neg h1] at hLc; cases hLc
            rw [if_pos hin] at hLc
            have HRL : Hid (w3.rangeLeft hm wo.heap.size < wr.rangeLeft hm wo.heap.size) := by rw [hrg3.left_eq, hrg.left_eq]; exact hlt
            have hbo := unhide HB
            have hb3 : Below w.heap.size w w3 := (unhide HBW).grown hg3 (unhide HBW).size fun j hj => by cases hj; exact hbo.size
            have HB3 := hide hb3
            obtain ⟨am, zz, u, g1, gu, g2, g3⟩ := (unhide HRp).ask x gx hLc
            obtain rfl := gu (by simp)
            have hMm := unhide HMm
            have hLx : Lives w3 gx := ⟨_, _, (hb3.block _ (hMm.lt g1)).trans (hMm.raw g1)⟩
            have hLa : Lives w3 a := by
              obtain ⟨am', zz', _, g1', _⟩ := (unhide HRp).ask n a (unhide HGn)
              exact ⟨_, _, (hb3.block _ (hMm.lt g1')).trans (hMm.raw g1')⟩
            have hq := eql74 w3 gx a hLx hLa
            unfold ptr at hen ⊢
            by_cases hxn : x = n
            · obtain rfl : gx = a := by
                have h1 := unhide HGn
                rw [hxn, h1] at hLc
                injection hLc with hLc
                exact hLc.symm
              have HE : Hid (r = true) := (unhide Hr).2 ⟨c, hRe, by rw [← hxn]; exact hin⟩
              rw [decide_eq_true rfl] at hq
              clear hrg hrg3 hkey hlk hv hat hxl hLc hlt hg3 hs3 hin hb3 hbo hMm g1 g2 g3 hLx hLa
              go_wp2_with fail
              go_ret
              exact ⟨by rw [unhide HE]; rfl, unhide HB3⟩
            · have hne : gx ≠ a := fun e => hxn ((unhide HRp).injG hLc (e ▸ unhide HGn))
              rw [decide_eq_false hne] at hq
              have d2 : w3.cell? ⟨gx, 2, none⟩ = some (ptr ((S.wt x).bind fun y => F y.1)) := by
                rw [hb3.cell (p := ⟨gx, 2, none⟩) (hMm.lt g1)]
                exact hMm.cell g1 (i := 2) rfl
              have d4 : (w3.alloc (.cells #[] 106)).cell? ⟨gx, 2, none⟩ = some (ptr ((S.wt x).bind fun y => F y.1)) := by
                obtain ⟨_, _, hx⟩ := hLx
                exact (World.cell?_of_block (w := w3) (a := ⟨gx, 2, none⟩) (Below.heap_alloc w3 _ gx (Array.getElem?_eq_some_iff.1 hx).1)).trans d2
              have hP3 : PSet w3 w1.heap.size sn2 := (unhide HP2).same (hg3.block _ (by obtain ⟨_, _, h3, _⟩ := unhide HP2; exact (Array.getElem?_eq_some_iff.1 h3).1) (fun e => by
                injection e with e
                obtain ⟨_, _, h3, _⟩ := unhide HP2
                obtain ⟨_, _, _, _, _, _, _, _, _, h4, _⟩ := hrg
                rw [← e, h3] at h4; cases h4))
              have hl3 : ∀ g ∈ sn2, Lives w3 g := fun g hg => by
                obtain ⟨t, ht, _⟩ := (unhide HRI).live g hg
                obtain ⟨_, _, _, e1, _⟩ := (unhide HRp).lock t g ht
                exact ⟨_, _, (hb3.block _ (hMm.lt e1)).trans (hMm.raw e1)⟩
              have hr3 : LRow w.heap.size w3 u6 ah2 := (unhide HROW).kept fun j hj => hg3.block j (by obtain ⟨_, cur, h2⟩ := (unhide HROW).cells hj; exact (Array.getElem?_eq_some_iff.1 h2).1) (fun e => by
                injection e with e
                obtain ⟨_, cur, h2⟩ := (unhide HROW).cells hj
                obtain ⟨_, _, _, _, _, _, _, _, _, h4, _⟩ := hrg
                rw [e, h4] at h2; cases h2)
              obtain ⟨W, hW⟩ : ∃ W, W = w3.alloc (.cells #[] 106) := ⟨_, rfl⟩
              rw [← hW] at d4
              have hgr : w3.grownBy W none := by rw [hW]; exact World.grownBy_alloc w3 _ none
              have hrgW := hrg3.kept hgr (by simp) (by simp)
              have hPW : PSet W w1.heap.size sn2 := hP3.same (hgr.block _ (by obtain ⟨_, _, h3, _⟩ := hP3; exact (Array.getElem?_eq_some_iff.1 h3).1) (by simp))
              have hrW : LRow w.heap.size W u6 ah2 := hr3.kept fun j hj => hgr.block j (by obtain ⟨_, cur, h2⟩ := hr3.cells hj; exact (Array.getElem?_eq_some_iff.1 h2).1) (by simp)
              have hbW : Below w.heap.size w W := hb3.grown hgr hb3.size fun j hj => by cases hj
              have HSM : Hid (StepOk S n F sn2 x → InR w.heap.size w1.heap.size k M0 hm wo.heap.size nn D S n s F b c w u6 W ∧ W.rangeLeft hm wo.heap.size < wr.rangeLeft hm wo.heap.size) := fun hx => ⟨InR.same hrgW hPW hrW hbW (unhide HRI) (unhide HS2) (unhide HDN) (unhide HM2) hx, by rw [hrgW.left_eq, hrg.left_eq]; exact hlt⟩
              cases hwt : S.wt x with
              | none =>
                rw [hwt] at d2 d4
                have hlook := P_look w3 w1.heap.size sn2 hP3 hl3 none (fun g e => by cases e)
                simp only [inSet] at hlook
                unfold ptr at hlook d2 d4
                have HE := hide (unhide HSM ⟨hxn, fun y hy => by rw [hwt] at hy; cases hy⟩)
                rw [hW] at d4 HE
                clear hP3 hl3 hr3 hwt hxn hne HSM hgr hrgW hPW hrW hbW hW
                clear hrg hrg3 hkey hlk hv hat hxl hLc hlt hg3 hs3 hin hb3 hbo hMm g1 g2 g3 hLx hLa
                simp only [Option.bind_none] at d2 d4
                go_wp2_with (at_lookup; refine wpList_lookup_run rfl _ _ _ _ rfl rfl rfl hlook ?_)
                go_roundw
                case rel => exact (unhide HE).1
                case measure => exact (unhide HE).2
              | some y =>
                obtain ⟨t, qq⟩ := y
                obtain ⟨⟨g', hg'⟩, _⟩ := (unhide HRp).livew t x qq (((unhide HInv).wait x t qq).1 hwt)
                rw [hwt] at d2 d4
                simp only [Option.bind_some, hg'] at d2 d4
                obtain ⟨hm', z', rv', e1, _⟩ := (unhide HRp).lock t g' hg'
                have hLg : Lives w3 g' := ⟨_, _, (hb3.block _ (hMm.lt e1)).trans (hMm.raw e1)⟩
                have hlook := P_look w3 w1.heap.size sn2 hP3 hl3 (some g') (fun g e => by injection e with e; exact e ▸ hLg)
                simp only [inSet] at hlook
                unfold ptr at hlook d2 d4
                by_cases hkn : g' ∈ sn2
                · rw [decide_eq_true hkn] at hlook
                  have HE := hide (unhide HSM ⟨hxn, fun y hy g hg => by
                    rw [hwt] at hy
                    injection hy with hy
                    rw [← hy] at hg
                    rw [hg'] at hg
                    injection hg with hg
                    rw [← hg]; exact hkn⟩)
                  rw [hW] at d4 HE
                  clear hP3 hl3 hr3 hwt hxn hne HSM hgr hrgW hPW hrW hbW hW hLg e1 hkn hg'
                  clear hrg hrg3 hkey hlk hv hat hxl hLc hlt hg3 hs3 hin hb3 hbo hMm g1 g2 g3 hLx hLa
                  go_wp2_with (at_lookup; refine wpList_lookup_run rfl _ _ _ _ rfl rfl rfl hlook ?_)
                  go_roundw
                  case rel => exact (unhide HE).1
                  case measure => exact (unhide HE).2
                · rw [decide_eq_false hkn] at hlook
                  have hliv : ∀ {g : Nat}, Lives w3 g → Lives W g := fun {g} ⟨ca, ta, e⟩ => ⟨ca, ta, (hgr.block g (Array.getElem?_eq_some_iff.1 e).1 (by simp)).trans e⟩
                  obtain ⟨w5, hst5, hP5, ht5⟩ := P_store W w1.heap.size sn2 hPW (fun g hg => hliv (hl3 g hg)) g' (hliv hLg) hkn
                  have hg5 := ht5.grown
                  have hsb : w.heap.size ≤ w1.heap.size ∧ w1.heap.size < wo.heap.size := ⟨hb1.size, by obtain ⟨_, _, h3, _⟩ := unhide HP; exact (Array.getElem?_eq_some_iff.1 h3).1⟩
                  have hnb : ∀ j, u6.ownBlock = some j → j ≠ w1.heap.size := fun j hj e => by
                    obtain ⟨_, cur, h2⟩ := hrW.cells hj
                    obtain ⟨_, _, h3, _⟩ := hPW
                    rw [e, h3] at h2; cases h2
                  have hr5 : LRow w.heap.size w5 u6 ah2 := hrW.kept fun j hj => hg5.block j (by obtain ⟨_, cur, h2⟩ := hrW.cells hj; exact (Array.getElem?_eq_some_iff.1 h2).1) (fun e => by injection e with e; exact hnb j hj e)
                  have hlen : (sn2 ++ [g']).length ≤ k := Rp.few hMm (unhide HRp) _ (List.nodup_append.2 ⟨(unhide HRI).nd, by simp, fun p hp q hq => by
                    rw [List.mem_singleton.1 hq]
                    rintro rfl
                    exact hkn hp⟩) fun g hg => by
                    rcases List.mem_append.1 hg with hg | hg
                    · obtain ⟨t, ht, _⟩ := (unhide HRI).live g hg
                      exact ⟨t, ht⟩
                    · exact ⟨t, by rw [List.mem_singleton.1 hg]; exact hg'⟩
                  have hlen2 := (unhide HRI).len
                  have hlen3 := unhide HS2
                  obtain ⟨v', w6, hap, hr6, hg6⟩ := hr5.push (Nat.le_trans hbW.size hg5.size) (by omega) g'
                  have HE := hide (InR.more (K := k) hrgW hrW hbW (unhide HRI) hlen (unhide HDN) (unhide HM2) hg' hkn hwt hin hxn hRe hP5 ht5 hsb hhmA hbW.size hr6 hg6)
                  have d5 : w5.cell? ⟨gx, 2, none⟩ = some (.pointer (some ⟨g', 0, none⟩)) := by
                    obtain ⟨_, _, hx⟩ := hliv hLx
                    exact (World.cell?_of_block (w := W) (a := ⟨gx, 2, none⟩) (hg5.block gx (Array.getElem?_eq_some_iff.1 hx).1 (fun e => by
                      injection e with e
                      obtain ⟨_, _, h3, _⟩ := hPW
                      rw [e, h3] at hx; cases hx))).trans d4
                  have HE2 : Hid (w6.rangeLeft hm wo.heap.size < wr.rangeLeft hm wo.heap.size) := by
                    rw [(unhide HE).2, hrg.left_eq]; exact hlt
                  rw [hW] at d4 hst5
                  clear hP3 hl3 hr3 hwt hxn hne HSM hgr hrgW hPW hrW hbW hW hLg e1 hkn hg' hliv hP5 ht5 hg5 hsb hnb hr5 hlen hlen2 hlen3 hr6 hg6
                  clear hrg hrg3 hkey hlk hv hat hxl hLc hlt hg3 hs3 hin hb3 hbo hMm g1 g2 g3 hLx hLa
                  go_wp2_with (at_lookup; refine wpList_lookup_run rfl _ _ _ _ rfl rfl rfl hlook ?_)
                  go_roundw
                  case rel => exact (unhide HE).1
                  case measure => exact unhide HE2
  · have hnr := ring_quiet_not hI hns fun t ht => by
      cases e : S.rw t with
      | nil => rfl
      | cons x l => exact absurd ⟨t, ht, by rw [e]; simp⟩ haw
    obtain rfl : r = false := by
      cases r with
      | false => rfl
      | true => exact absurd (hr.1 rfl) hnr
    exact ring_quiet O tb S none F G lm tm w hM h n a b hG fun t ht => by
      cases e : S.rw t with
      | nil => rfl
      | cons x l => exact absurd ⟨t, ht, by rw [e]; simp⟩ haw
theorem ring_is {k : Nat} (tb : Nat) (S : St) (n : Int) (s : ByteArray) (r : Bool) (hI : Inv S) (hk : k < 2000000) (hns : n ∉ S.hs s) (hr : r = true ↔ S.Ring n s) : RingIs tb S n s r k := fun O F G lm tm w a b h hM hF hG =>
  ring_ok O tb S F G lm tm w hM h hI hk n s a b hF hG hns r hr
end Go.Proofs.Ytnlfmmempomcaaa
