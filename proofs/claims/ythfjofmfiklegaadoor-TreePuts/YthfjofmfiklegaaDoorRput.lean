/- put, in the document's own answer. -/
import Derived.Test.YthfjofmfiklegaaDoorLay
import Derived.Test.YthfjofmfiklegaaDoorRefAt
import Derived.Deep.RegionLaw
namespace Go.Proofs.YthfjofmfiklegaaDoor
open Go.RowKit
set_option linter.unusedSimpArgs false
attribute [local go_sem ↓] slice_sl23
/-- A tree whose parts lie in two ranges and above a bound, whatever the other blocks become. -/
def Layz (lo hi lo' hi' B : Nat) (w : World) (T : Tr) (cs : List Value) : Prop := ∀ w'' : World, (∀ k, k < w.heap.size → (lo ≤ k ∧ k < hi) ∨ (lo' ≤ k ∧ k < hi') ∨ B ≤ k → w''.heap[k]? = w.heap[k]?) → Lies 0 w.heap.size w'' T cs
theorem Layz.lies {lo hi lo' hi' B : Nat} {w : World} {T : Tr} {cs : List Value} (h : Layz lo hi lo' hi' B w T cs) : Lies 0 w.heap.size w T cs := h w (fun _ _ _ => rfl)
theorem layz_of {lo hi lo' hi' B : Nat} {w : World} {T : Tr} {cs : List Value} (h : Lies lo hi w T cs) (hw : hi ≤ w.heap.size) : Layz lo hi lo' hi' B w T cs := fun w'' hs => (h.same (fun k h1 h2 => hs k (by omega) (.inl ⟨h1, h2⟩))).mono (Nat.zero_le _) hw
theorem layz_of' {lo hi lo' hi' B : Nat} {w : World} {T : Tr} {cs : List Value} (h : Lies lo' hi' w T cs) (hw : hi' ≤ w.heap.size) : Layz lo hi lo' hi' B w T cs := fun w'' hs => (h.same (fun k h1 h2 => hs k (by omega) (.inr (.inl ⟨h1, h2⟩)))).mono (Nat.zero_le _) hw
/-- The tree that Lay builds. -/
theorem lay_end {lo hi lo' hi' B B' : Nat} {w w4 W : World} {k : Int} {x : Bool} {d : ByteArray} {ns : List ByteArray} {nm : ByteArray} {ks : List Tr} {Ks : List (List Value)} {T' : Tr} {cs' : List Value} {vd vn vk : Value} {n mm : Nat}
    (hl : Ks.length = ks.length) (hK : ∀ (i : Nat) (t : Tr) (c : List Value), ks[i]? = some t → Ks[i]? = some c → Lies lo hi w t c) (hd : Row lo hi w vd d.size (byteVals d))
    (hm : hi ≤ B) (hB : B ≤ w.heap.size) (hBB : B ≤ B') (hb : Below B w W) (hT : Layz lo hi lo' hi' B' w4 T' cs') (h4W : w4.heap.size ≤ W.heap.size) (hs : ∀ k, k < w4.heap.size → (lo ≤ k ∧ k < hi) ∨ (lo' ≤ k ∧ k < hi') ∨ B' ≤ k → W.heap[k]? = w4.heap[k]?)
    (hnn : n = (ns.take (pos ns nm) ++ [nm] ++ ns.drop (nextAt ns nm)).length) (hmm : mm = (Ks.take (pos ns nm) ++ [cs'] ++ Ks.drop (nextAt ns nm)).length)
    (hn : Row lo hi W vn n ((ns.take (pos ns nm) ++ [nm] ++ ns.drop (nextAt ns nm)).map .string) ∨ Row B' W.heap.size W vn n ((ns.take (pos ns nm) ++ [nm] ++ ns.drop (nextAt ns nm)).map .string))
    (hk : Row B' W.heap.size W vk mm (Ks.take (pos ns nm) ++ [cs'] ++ Ks.drop (nextAt ns nm)).flatten) :
    Layz lo hi lo' hi' B W (layS (.mk k x d ns ks) nm T') [.int .i64 k, .bool x, vd, vn, vk] := by
  intro w'' hw''
  have h7 := hb.size
  have hb2 : ∀ k, lo ≤ k → k < hi → w''.heap[k]? = w.heap[k]? := fun k h1 h2 => by
    rw [hw'' k (by omega) (.inl ⟨h1, h2⟩), hb.block k (by omega)]
  have hmm' : mm = (ks.take (pos ns nm) ++ [T'] ++ ks.drop (nextAt ns nm)).length := by rw [hmm]; simp [hl]
  rw [layS]
  refine .mk k x d _ _ _ _ _ (Ks.take (pos ns nm) ++ [cs'] ++ Ks.drop (nextAt ns nm)) (by simp [hl]) ?_ ?_ ?_ ?_
  · exact (hd.same (fun k h1 h2 => hb2 k h1 h2)).mono (Nat.zero_le _) (by omega)
  · rw [← hnn]
    rcases hn with hn | hn
    · exact (hn.same (fun k h1 h2 => hw'' k (by omega) (.inl ⟨h1, h2⟩))).mono (Nat.zero_le _) (by omega)
    · exact (hn.same (fun k h1 h2 => hw'' k h2 (.inr (.inr (by omega))))).mono (Nat.zero_le _) (Nat.le_refl _)
  · rw [← hmm']
    exact (hk.same (fun k h1 h2 => hw'' k h2 (.inr (.inr (by omega))))).mono (Nat.zero_le _) (Nat.le_refl _)
  · have hR : Rel (fun t c => Lies 0 W.heap.size w'' t c) ks Ks := fun i t c h1 h2 => ((hK i t c h1 h2).same (fun k h1 hk => hb2 k h1 hk)).mono (Nat.zero_le _) (by omega)
    refine Rel.app (by simp [hl]) (Rel.app (by simp [hl]) (hR.take _) (Rel.one ?_)) (hR.drop _)
    refine (hT w'' (fun k h1 h2 => ?_)).mono (Nat.zero_le _) h4W
    rw [hw'' k (by omega) (by omega), hs k h1 h2]
theorem Layz.form {lo hi lo' hi' B : Nat} {w : World} {T : Tr} {cs : List Value} (h : Layz lo hi lo' hi' B w T cs) : ∃ k x a1 n1 c1 a2 n2 c2 a3 n3 c3, cs = [.int .i64 k, .bool x, .slice a1 n1 c1, .slice a2 n2 c2, .slice a3 n3 c3] := h.lies.form
theorem al3 (w : World) (a b c : Array Value) : Below w.heap.size w (((w.alloc (.cells a 26)).alloc (.cells b 26)).alloc (.cells c 26)) := (((Below.refl _ _).alloc (Nat.le_refl _) _).alloc (by simp) _).alloc (by simp; omega) _
/-- Two orders, one walk. -/
theorem one_way {P G : Prop} (all : P) (go : Hid P → G) : G := go all
/-- The four boxes. -/
structure Box4 (w W : World) (t0 t1 t2 t3 t4 x0 x1 x2 x3 x4 y0 y1 y2 y3 y4 : Value) : Prop where
  b3 : Box3 w W t0 t1 t2 t3 t4 x0 x1 x2 x3 x4
  s4 : w.heap.size + 1 + 1 + 1 + 1 ≤ W.heap.size
  y : Bx W (w.heap.size + 1 + 1 + 1) y0 y1 y2 y3 y4
theorem Box4.kept {w W W' : World} {t0 t1 t2 t3 t4 x0 x1 x2 x3 x4 y0 y1 y2 y3 y4 : Value} (h : Box4 w W t0 t1 t2 t3 t4 x0 x1 x2 x3 x4 y0 y1 y2 y3 y4) {B : Nat} (hb : Below B W W') (hB : w.heap.size + 1 + 1 + 1 + 1 ≤ B) : Box4 w W' t0 t1 t2 t3 t4 x0 x1 x2 x3 x4 y0 y1 y2 y3 y4 :=
  ⟨h.b3.kept hb (by omega), by have := h.s4; have := hb.size; omega, h.y.kept hb (by omega)⟩
theorem Box4.set {w W : World} {t0 t1 t2 t3 t4 x0 x1 x2 x3 x4 y0 y1 y2 y3 y4 : Value} (h : Box4 w W t0 t1 t2 t3 t4 x0 x1 x2 x3 x4 y0 y1 y2 y3 y4) (z0 z1 z2 z3 z4 : Value) : Box4 w (set5 W (w.heap.size + 1 + 1 + 1) z0 z1 z2 z3 z4) t0 t1 t2 t3 t4 x0 x1 x2 x3 x4 z0 z1 z2 z3 z4 :=
  ⟨⟨below_set5 h.b3.b (by omega) _ _ _ _ _, by simpa using h.b3.s, h.b3.t.of (set5_other _ _ _ _ _ _ _ _ (by omega)), h.b3.x.of (set5_other _ _ _ _ _ _ _ _ (by omega)), h.b3.r.of (set5_other _ _ _ _ _ _ _ _ (by omega))⟩, by simpa using h.s4, h.y.set5 _ _ _ _ _⟩
set_option maxRecDepth 20000 in
set_option maxHeartbeats 16000000 in
theorem rput_any (l : List ByteArray) : ∀ (T X : Tr) (lo hi lo' hi' ll hl : Nat) (cs cx : List Value) (al : Option Addr) (cl : Nat) (w : World), Lies lo hi w T cs → Lies lo' hi' w X cx → Row ll hl w (.slice al l.length cl) l.length (l.map .string) → hi ≤ w.heap.size → hi' ≤ w.heap.size → hl ≤ w.heap.size → Nice T → wt T ≤ 100000 → l.length ≤ 100000 →
    Calls Tryd.prog 42 #[.agg cs.toArray, .slice al l.length cl, .agg cx.toArray] w fun e w' => Below w.heap.size w w' ∧ ∃ cs', e = .returned (.tuple #[.agg cs'.toArray, .bool (putR T l X).2]) ∧ Layz lo hi lo' hi' w.heap.size w' (putR T l X).1 cs' := by
  induction l with
  | nil =>
    intro T X lo hi lo' hi' ll hl cs cx al cl w hT hX hR hm hm' hml hN hW hlen
    obtain ⟨kt, xt, at0, nt, ct, bt, mt, dt, et, pt, qt, rfl⟩ := hT.form
    obtain ⟨kx, xx, ax, nx, cxx, bx, mx, dx, ex, px, qx, rfl⟩ := hX.form
    have hB := box3_new w (.int .i64 kt) (.bool xt) (.slice at0 nt ct) (.slice bt mt dt) (.slice et pt qt) (.int .i64 kx) (.bool xx) (.slice ax nx cxx) (.slice bx mx dx) (.slice ex px qx)
    rw [putR_nil]
    obtain ⟨wA, hwA⟩ : ∃ wA, wA = (((w.alloc (.cells #[.int .i64 kt, .bool xt, .slice at0 nt ct, .slice bt mt dt, .slice et pt qt] 26)).alloc (.cells #[.int .i64 kx, .bool xx, .slice ax nx cxx, .slice bx mx dx, .slice ex px qx] 26)).alloc (.cells #[.int .i64 0, .bool false, .slice none 0 0, .slice none 0 0, .slice none 0 0] 26)) := ⟨_, rfl⟩
    rw [← hwA] at hB
    have HX := hide hX
    clear hT hX hR hN hW hB hwA
    go_enter Tryd.func42, Tryd.ntmps42
    go_wp2_with fail
    refine bodyPost_ret (v := .tuple #[.agg #[.int .i64 kx, .bool xx, .slice ax nx cxx, .slice bx mx dx, .slice ex px qx], .bool true]) (by simp [results, Tryd.results42, go_sem]) rfl ?_
    have hbW := al3 w #[.int .i64 kt, .bool xt, .slice at0 nt ct, .slice bt mt dt, .slice et pt qt] #[.int .i64 kx, .bool xx, .slice ax nx cxx, .slice bx mx dx, .slice ex px qx] #[.int .i64 kx, .bool xx, .slice ax nx cxx, .slice bx mx dx, .slice ex px qx]
    exact ⟨hbW, [.int .i64 kx, .bool xx, .slice ax nx cxx, .slice bx mx dx, .slice ex px qx], rfl, layz_of' ((unhide HX).kept hbW (by omega)) (by have := hbW.size; omega)⟩
  | cons a r ih =>
    intro T X lo hi lo' hi' ll hl cs cx al cl w hT hX hR hm hm' hml hN hW hlen
    obtain ⟨kx, xx, ax, nx, cxx, bx, mx, dx, ex, px, qx, rfl⟩ := hX.form
    cases hN with
    | mk k x d ns ks hri hnk hkn =>
    have hSm := small_of hW
    have HLT := hide hT
    cases hT with
    | mk _ _ _ _ _ vd vn vk Ks hKl hd hn hk hK =>
    obtain ⟨ad, cd, rfl, hcd⟩ := hd.slice
    obtain ⟨an, cn, rfl, hcn⟩ := hn.slice
    obtain ⟨ak, ck, rfl, hck⟩ := hk.slice
    obtain ⟨N, hNe⟩ : ∃ N, ns.length = N := ⟨_, rfl⟩
    have hNk : ks.length = N := by omega
    rw [hNe] at hn hcn HLT
    rw [hNk] at hk hck HLT
    rw [hNe, hNk]
    obtain ⟨D, hD⟩ : ∃ D, d.size = D := ⟨_, rfl⟩
    rw [hD] at HLT hcd
    rw [hD]
    have hN1 := hSm.n
    rw [hNe] at hN1
    obtain ⟨M, hM⟩ : ∃ M, r.length = M := ⟨_, rfl⟩
    have hM1 : (a :: r).length = M + 1 := by simp [hM]
    rw [hM1] at hR hlen
    rw [hM1]
    obtain ⟨gl, ol, eal, hg1, hg2, hcl⟩ := hR.at (by omega)
    subst eal
    have hcl0 : w.cell? ⟨gl, ol, none⟩ = some (.string a) := by have := hcl 0 (.string a) rfl; simpa using this
    have hlc : M + 1 ≤ cl := by obtain ⟨_, _, e, h⟩ := hR.slice; cases e; exact h
    obtain ⟨al', hcut, hrow'⟩ := cut_lo23 ll hl (some ⟨gl, ol, none⟩) (M + 1) cl 1 hlc (by omega)
    rw [Nat.add_sub_cancel] at hcut hrow'
    have hcut1 : ∀ w, (sl23 (.slice (some ⟨gl, ol, none⟩) (M + 1) cl) (some (.int .i64 1)) none none).run Tryd.prog w = .ok (.slice al' M (cl - 1)) w := fun w => hcut w
    clear hcut
    have hB := box3_new w (.int .i64 k) (.bool x) (.slice ad D cd) (.slice an N cn) (.slice ak N ck) (.int .i64 kx) (.bool xx) (.slice ax nx cxx) (.slice bx mx dx) (.slice ex px qx)
    obtain ⟨wA, hwA⟩ : ∃ wA, wA = (((w.alloc (.cells #[.int .i64 k, .bool x, .slice ad D cd, .slice an N cn, .slice ak N ck] 26)).alloc (.cells #[.int .i64 kx, .bool xx, .slice ax nx cxx, .slice bx mx dx, .slice ex px qx] 26)).alloc (.cells #[.int .i64 0, .bool false, .slice none 0 0, .slice none 0 0, .slice none 0 0] 26)) := ⟨_, rfl⟩
    rw [← hwA] at hB
    have HwA := hide hwA
    have HB := hide hB
    have HX := hide hX
    have HIH := hide ih
    have HL5 := hide (Lies.all5 hKl hK)
    have HT := hide (And.intro hd (And.intro hn (And.intro hk (And.intro hKl hK))))
    have HNs := hide (And.intro hri (And.intro hkn (And.intro hSm (And.intro hNe hNk))))
    have HR := hide hR
    have HRr := hide (hrow' · ((a :: r).map Value.string) (by rw [List.length_map]; exact hM1))
    have HM := hide hM
    have HD := hide hD
    clear hX hR hW hB hwA hd hn hk hKl hK ih hri hkn hSm hrow' hcl hM1 hM hD hnk
    by_cases hk2 : k = 2
    case neg =>
      have HP : Hid (putR (.mk k x d ns ks) (a :: r) X = (.mk k x d ns ks, false)) := putR_no hk2
      have e2 : (k == 2) = false := by simpa using hk2
      clear hk2
      go_enter Tryd.func42, Tryd.ntmps42
      go_wp2_with fail
      refine bodyPost_ret (v := .tuple #[.agg #[.int .i64 k, .bool x, .slice ad D cd, .slice an N cn, .slice ak N ck], .bool false]) (by simp [results, Tryd.results42, go_sem]) rfl ?_
      have hbW := al3 w #[.int .i64 k, .bool x, .slice ad D cd, .slice an N cn, .slice ak N ck] #[.int .i64 kx, .bool xx, .slice ax nx cxx, .slice bx mx dx, .slice ex px qx] #[.int .i64 k, .bool x, .slice ad D cd, .slice an N cn, .slice ak N ck]
      rw [unhide HP]
      exact ⟨hbW, [.int .i64 k, .bool x, .slice ad D cd, .slice an N cn, .slice ak N ck], rfl, layz_of ((unhide HLT).kept hbW (by omega)) (by have := hbW.size; omega)⟩
    case pos =>
    subst hk2
    obtain ⟨wB, hwB⟩ : ∃ wB, wB = wA.alloc (.cells #[.int .i64 2, .bool false, .slice none 0 0, .slice none 0 0, .slice none 0 0] 26) := ⟨_, rfl⟩
    have hsA : wA.heap.size = w.heap.size + 1 + 1 + 1 := by rw [unhide HwA]; simp
    have hB4 : Box4 w wB (.int .i64 2) (.bool x) (.slice ad D cd) (.slice an N cn) (.slice ak N ck) (.int .i64 kx) (.bool xx) (.slice ax nx cxx) (.slice bx mx dx) (.slice ex px qx) (.int .i64 2) (.bool false) (.slice none 0 0) (.slice none 0 0) (.slice none 0 0) := by
      rw [hwB]
      refine ⟨(unhide HB).kept ((Below.refl _ _).alloc (Nat.le_refl _) _) (by omega), by simp; omega, ?_⟩
      rw [← hsA]; exact bx_new _ _ _ _ _ _
    have HwB := hide hwB
    rw [unhide HwA] at HwB
    have hcB : wB.cell? ⟨gl, ol, none⟩ = some (.string a) := by rw [hB4.b3.b.cell (p := ⟨gl, ol, none⟩) (show gl < w.heap.size by omega)]; exact hcl0
    have HFi := hide (find_any 2 x d ns ks a lo hi _ wB.drew ((unhide HLT).kept hB4.b3.b.drew (by omega)) (by have := hB4.s4; show hi ≤ wB.heap.size; omega) (unhide HNs).1 (by have := (unhide HNs).2.2.1.n; omega))
    have HB4 := hide hB4
    have hs4 := hB4.s4
    have hcw := hcl0
    clear hB4 hwB HB HwA hsA hcl0
    go_enter Tryd.func42, Tryd.ntmps42
    go_wp2_with fail
    rw [← unhide HwB]
    obtain ⟨t0, t1, t2, t3, t4⟩ := (unhide HB4).b3.t.cells
    apply one_way
    case go =>
      intro key
      go_region_law (go_simp; refine (unhide HFi).mono ?_; rintro e w2 ⟨hb2, rfl⟩)
      all_goals
        revert w2
        exact unhide key
    case all =>
      intro w2 hb2
      have hb2' := below_drew' hb2
      clear HFi t0 t1 t2 t3 t4
      have HB2 := hide ((unhide HB4).kept hb2' hs4)
      clear hb2
      cases hh : has ns a
      case false =>
        have hfs : findS ns a = -1 := by unfold findS; rw [hh]; rfl
        rw [hfs]
        obtain ⟨w3, hw3⟩ : ∃ w3, w3 = w2 := ⟨_, rfl⟩
        have HB3 : Hid (Box4 w w3 (.int .i64 2) (.bool x) (.slice ad D cd) (.slice an N cn) (.slice ak N ck) (.int .i64 kx) (.bool xx) (.slice ax nx cxx) (.slice bx mx dx) (.slice ex px qx) (.int .i64 2) (.bool false) (.slice none 0 0) (.slice none 0 0) (.slice none 0 0)) := by rw [hw3]; exact unhide HB2
        have HK3 : Hid (Lies lo hi w3 (kidAt ns ks a) [.int .i64 2, .bool false, .slice none 0 0, .slice none 0 0, .slice none 0 0]) := by rw [kidAt_no hh]; exact empty_lies lo hi w3
        rw [← hw3]
        clear hfs hw3 HB2 hb2' HB4 hcB hh
        have hs3 := (unhide HB3).s4
        have hX3 := (unhide HX).kept (unhide HB3).b3.b (show hi' ≤ w.heap.size by omega)
        have hR3 := (unhide HR).below (unhide HB3).b3.b (show hl ≤ w.heap.size by omega)
        have HI := hide (unhide HIH (kidAt ns ks a) X lo hi lo' hi' ll hl _ _ al' (cl - 1) w3.drew ((unhide HK3).same (fun _ _ _ => rfl)) (hX3.same (fun _ _ _ => rfl)) (by rw [unhide HM]; exact unhide HRr w3.drew hR3) (show hi ≤ w3.heap.size by omega) (show hi' ≤ w3.heap.size by omega) (show hl ≤ w3.heap.size by omega) (kidAt_nice (unhide HNs).2.1) (kidAt_wt (unhide HNs).2.2.1.t) (by rw [unhide HM]; omega))
        rw [unhide HM] at HI
        obtain ⟨y0, y1, y2, y3, y4⟩ := (unhide HB3).y.cells
        obtain ⟨x0, x1, x2, x3, x4⟩ := (unhide HB3).b3.x.cells
        clear hX3 hR3
        go_wp2_with fail
        apply one_way
        case go =>
          intro key
          go_region_law (go_simp; refine (unhide HI).mono ?_; rintro e w4 ⟨hb4, cs4, rfl, hL4⟩; obtain ⟨k4, z4, c1, c2, c3, c4, c5, c6, c7, c8, c9, rfl⟩ := hL4.form; obtain ⟨y0', y1', y2', y3', y4'⟩ := ((unhide HB3).kept (below_drew' hb4) hs3).y.cells; have yf0 := ((unhide HB3).kept (below_drew' hb4) hs3).y.fr 0; have yf1 := ((unhide HB3).kept (below_drew' hb4) hs3).y.fr 1; have yf2 := ((unhide HB3).kept (below_drew' hb4) hs3).y.fr 2; have yf3 := ((unhide HB3).kept (below_drew' hb4) hs3).y.fr 3; have yf4 := ((unhide HB3).kept (below_drew' hb4) hs3).y.fr 4)
          all_goals
            clear y0' y1' y2' y3' y4' yf0 yf1 yf2 yf3 yf4
            revert k4 z4 c1 c2 c3 c4 c5 c6 c7 c8 c9
            revert w4
            exact unhide key
        case all =>
          intro w4 hb4 k4 z4 c1 c2 c3 c4 c5 c6 c7 c8 c9 hL4
          have hb4' := below_drew' hb4
          have hs34 := hb4'.size
          have HB5 := hide (((unhide HB3).kept hb4' hs3).set (.int .i64 k4) (.bool z4) (.slice c1 c2 c3) (.slice c4 c5 c6) (.slice c7 c8 c9))
          have HL4 := hide hL4
          have hsz5 : (set5 w4 (w.heap.size + 1 + 1 + 1) (.int .i64 k4) (.bool z4) (.slice c1 c2 c3) (.slice c4 c5 c6) (.slice c7 c8 c9)).heap.size = w4.heap.size := by simp
          have hot5 : Hid (∀ b, b ≠ w.heap.size + 1 + 1 + 1 → (set5 w4 (w.heap.size + 1 + 1 + 1) (.int .i64 k4) (.bool z4) (.slice c1 c2 c3) (.slice c4 c5 c6) (.slice c7 c8 c9)).heap[b]? = w4.heap[b]?) := fun b hb => set5_other _ _ _ _ _ _ _ _ hb
          clear hb4 hL4 HB3 HI y0 y1 y2 y3 y4 x0 x1 x2 x3 x4
          generalize hbo : (putR (kidAt ns ks a) r X).2 = bo at *
          go_wp2_with fail
          rw [set5_eq]
          generalize set5 w4 (w.heap.size + 1 + 1 + 1) (.int .i64 k4) (.bool z4) (.slice c1 c2 c3) (.slice c4 c5 c6) (.slice c7 c8 c9) = w5 at *
          obtain ⟨hd, hn, hk, hKl, hK⟩ := unhide HT
          have hb5 := (unhide HB5).b3.b
          have HLy := hide (lay_any 2 x ad an ak D cd cn ck N ns Ks a lo hi k4 z4 c1 c4 c7 c2 c3 c5 c6 c8 c9 w5.drew (hn.below hb5.drew (by omega)) (hk.below hb5.drew (by omega)) hcn hck (unhide HNs).2.2.2.1 (hKl.trans (unhide HNs).2.2.2.2) (unhide HL5) (ones_flat hKl hK) (by omega) (show hi ≤ w5.heap.size by omega))
          have hc5 : w5.cell? ⟨gl, ol, none⟩ = some (.string a) := by rw [hb5.cell (p := ⟨gl, ol, none⟩) (show gl < w.heap.size by omega)]; exact hcw
          obtain ⟨t0, t1, t2, t3, t4⟩ := (unhide HB5).b3.t.cells
          obtain ⟨y0, y1, y2, y3, y4⟩ := (unhide HB5).y.cells
          have hs5 := (unhide HB5).s4
          clear hd hn hk hKl hK hb5
          apply one_way
          case go =>
           intro key
           go_region_law (go_simp; refine (unhide HLy).mono ?_; rintro e w6 ⟨hb6, hA6⟩; obtain ⟨an6, n6, cn6, ak6, m6, ck6, rfl, hF⟩ := hA6; obtain ⟨r0, r1, r2, r3, r4⟩ := ((unhide HB5).kept (below_drew' hb6) hs5).b3.r.cells; have rf0 := ((unhide HB5).kept (below_drew' hb6) hs5).b3.r.fr 0; have rf1 := ((unhide HB5).kept (below_drew' hb6) hs5).b3.r.fr 1; have rf2 := ((unhide HB5).kept (below_drew' hb6) hs5).b3.r.fr 2; have rf3 := ((unhide HB5).kept (below_drew' hb6) hs5).b3.r.fr 3; have rf4 := ((unhide HB5).kept (below_drew' hb6) hs5).b3.r.fr 4)
           all_goals
            clear r0 r1 r2 r3 r4 rf0 rf1 rf2 rf3 rf4
            revert an6 n6 cn6 ak6 m6 ck6
            revert w6
            exact unhide key
          case all =>
            intro w6 hb6 an6 n6 cn6 ak6 m6 ck6 hF
            obtain ⟨r0, r1, r2, r3, r4⟩ := ((unhide HB5).kept (below_drew' hb6) hs5).b3.r.cells
            have HF := hide (And.intro hb6 (unhide hF))
            clear hb6 hF HLy t0 t1 t2 t3 t4 y0 y1 y2 y3 y4
            go_wp2_with fail
            rw [putR_yes]
            refine bodyPost_ret (v := .tuple #[.agg #[.int .i64 2, .bool x, .slice ad D cd, .slice an6 n6 cn6, .slice ak6 m6 ck6], .bool bo]) (by simp [results, Tryd.results42, go_sem, r0, r1, r2, r3, r4]) rfl ?_
            rw [set5_eq]
            obtain ⟨hb6, hn6, hm6, hr6, hq6⟩ := unhide HF
            obtain ⟨hd, hn, hk, hKl, hK⟩ := unhide HT
            have hb6' : Below w5.heap.size w5 w6 := below_drew' hb6
            have hs6 := hb6'.size
            have hbW := below_set5 ((unhide HB5).b3.b.trans (hb6'.mono (by omega))) (show w.heap.size ≤ w.heap.size + 1 + 1 by omega) (.int .i64 2) (.bool x) (.slice ad D cd) (.slice an6 n6 cn6) (.slice ak6 m6 ck6)
            have hsW : (set5 w6 (w.heap.size + 1 + 1) (.int .i64 2) (.bool x) (.slice ad D cd) (.slice an6 n6 cn6) (.slice ak6 m6 ck6)).heap.size = w6.heap.size := by simp
            have hoW : ∀ b, b ≠ w.heap.size + 1 + 1 → (set5 w6 (w.heap.size + 1 + 1) (.int .i64 2) (.bool x) (.slice ad D cd) (.slice an6 n6 cn6) (.slice ak6 m6 ck6)).heap[b]? = w6.heap[b]? := fun b hb => set5_other _ _ _ _ _ _ _ _ hb
            generalize set5 w6 (w.heap.size + 1 + 1) (.int .i64 2) (.bool x) (.slice ad D cd) (.slice an6 n6 cn6) (.slice ak6 m6 ck6) = W at *
            refine ⟨hbW, [.int .i64 2, .bool x, .slice ad D cd, .slice an6 n6 cn6, .slice ak6 m6 ck6], by rw [hbo], ?_⟩
            refine lay_end (B' := w3.heap.size) hKl hK (by have hd' := hd; rw [unhide HD] at hd' ⊢; exact hd') hm (Nat.le_refl _) (by omega) hbW (unhide HL4) (by omega) (fun b h1 h2 => ?_) hn6 hm6 ?_ ?_
            · have h2' : (lo ≤ b ∧ b < hi) ∨ (lo' ≤ b ∧ b < hi') ∨ w3.heap.size ≤ b := h2
              rw [hoW b (by omega), hb6'.block b (by omega), unhide hot5 b (by omega)]
            · rcases hr6 with hr6 | hr6
              · exact .inl (hr6.same (fun b h1 h2 => hoW b (by omega)))
              · exact .inr ((hr6.same (fun b h1 h2 => hoW b (by have h1' : w5.heap.size ≤ b := h1; omega))).mono (show w3.heap.size ≤ w5.heap.size by omega) (by omega))
            · exact (hq6.same (fun b h1 h2 => hoW b (by have h1' : w5.heap.size ≤ b := h1; omega))).mono (show w3.heap.size ≤ w5.heap.size by omega) (by omega)
      case true =>
        have hlt2 := has_lt hh
        have hlk : pos ns a < ks.length := by have := (unhide HNs).2.2.2; omega
        have hpN : pos ns a < N := by have := (unhide HNs).2.2.2; omega
        have hfs : findS ns a = ((pos ns a : Nat) : Int) := by unfold findS; rw [hh]; rfl
        rw [hfs]
        obtain ⟨hd, hn, hk, hKl, hK⟩ := unhide HT
        obtain ⟨gk, ok, eak, hgk1, hgk2, hcell⟩ := hk.at (show 0 < N by omega)
        have hb2b := (unhide HB2).b3.b
        obtain ⟨k3, z3, b1, b2, b3, b4, b5, b6, b7, b8, b9, hLk, u0, u1, u2, u3, u4⟩ := kid_sl hKl (fun j u hj => by rw [hb2b.cell (p := ⟨gk, ok + j, none⟩) (show gk < w.heap.size by omega)]; exact hcell j u hj) (fun i t c h1 h2 => (hK i t c h1 h2).kept hb2b (by omega)) (pos ns a) hlk
        obtain ⟨t0, t1, t2, t3, t4⟩ := (unhide HB2).b3.t.cells
        obtain ⟨y0, y1, y2, y3, y4⟩ := (unhide HB2).y.cells
        have yf0 := (unhide HB2).y.fr 0
        have yf1 := (unhide HB2).y.fr 1
        have yf2 := (unhide HB2).y.fr 2
        have yf3 := (unhide HB2).y.fr 3
        have yf4 := (unhide HB2).y.fr 4
        have hs2 := (unhide HB2).s4
        have hs2x := (unhide HB2).b3.b.size
        have HBn := hide ((unhide HB2).set (.int .i64 k3) (.bool z3) (.slice b1 b2 b3) (.slice b4 b5 b6) (.slice b7 b8 b9))
        have HKn : Hid (Lies lo hi (set5 w2 (w.heap.size + 1 + 1 + 1) (.int .i64 k3) (.bool z3) (.slice b1 b2 b3) (.slice b4 b5 b6) (.slice b7 b8 b9)) (kidAt ns ks a) [.int .i64 k3, .bool z3, .slice b1 b2 b3, .slice b4 b5 b6, .slice b7 b8 b9]) := by
          show Lies _ _ _ _ _
          rw [kidAt_yes hh hlk]
          exact hLk.same (fun b h1 h2 => set5_other _ _ _ _ _ _ _ _ (by omega))
        have eak' := eak
        clear hd hn hk hKl hK hcell hLk hfs HB2 hb2' HB4 hcB hh hlt2 hlk
        subst eak
        generalize pos ns a = pp at *
        go_wp2_with fail
        rw [set5_eq]
        generalize set5 w2 (w.heap.size + 1 + 1 + 1) (.int .i64 k3) (.bool z3) (.slice b1 b2 b3) (.slice b4 b5 b6) (.slice b7 b8 b9) = w3 at *
        have HB3 := HBn
        have HK3 := HKn
        clear HBn HKn t0 t1 t2 t3 t4 y0 y1 y2 y3 y4 yf0 yf1 yf2 yf3 yf4 u0 u1 u2 u3 u4 eak' hb2b
        have hs3 := (unhide HB3).s4
        have hX3 := (unhide HX).kept (unhide HB3).b3.b (show hi' ≤ w.heap.size by omega)
        have hR3 := (unhide HR).below (unhide HB3).b3.b (show hl ≤ w.heap.size by omega)
        have HI := hide (unhide HIH (kidAt ns ks a) X lo hi lo' hi' ll hl _ _ al' (cl - 1) w3.drew ((unhide HK3).same (fun _ _ _ => rfl)) (hX3.same (fun _ _ _ => rfl)) (by rw [unhide HM]; exact unhide HRr w3.drew hR3) (show hi ≤ w3.heap.size by omega) (show hi' ≤ w3.heap.size by omega) (show hl ≤ w3.heap.size by omega) (kidAt_nice (unhide HNs).2.1) (kidAt_wt (unhide HNs).2.2.1.t) (by rw [unhide HM]; omega))
        rw [unhide HM] at HI
        obtain ⟨y0, y1, y2, y3, y4⟩ := (unhide HB3).y.cells
        obtain ⟨x0, x1, x2, x3, x4⟩ := (unhide HB3).b3.x.cells
        clear hX3 hR3
        go_wp2_with fail
        apply one_way
        case go =>
          intro key
          go_region_law (go_simp; refine (unhide HI).mono ?_; rintro e w4 ⟨hb4, cs4, rfl, hL4⟩; obtain ⟨k4, z4, c1, c2, c3, c4, c5, c6, c7, c8, c9, rfl⟩ := hL4.form; obtain ⟨y0', y1', y2', y3', y4'⟩ := ((unhide HB3).kept (below_drew' hb4) hs3).y.cells; have yf0 := ((unhide HB3).kept (below_drew' hb4) hs3).y.fr 0; have yf1 := ((unhide HB3).kept (below_drew' hb4) hs3).y.fr 1; have yf2 := ((unhide HB3).kept (below_drew' hb4) hs3).y.fr 2; have yf3 := ((unhide HB3).kept (below_drew' hb4) hs3).y.fr 3; have yf4 := ((unhide HB3).kept (below_drew' hb4) hs3).y.fr 4)
          all_goals
            clear y0' y1' y2' y3' y4' yf0 yf1 yf2 yf3 yf4
            revert k4 z4 c1 c2 c3 c4 c5 c6 c7 c8 c9
            revert w4
            exact unhide key
        case all =>
          intro w4 hb4 k4 z4 c1 c2 c3 c4 c5 c6 c7 c8 c9 hL4
          have hb4' := below_drew' hb4
          have hs34 := hb4'.size
          have HB5 := hide (((unhide HB3).kept hb4' hs3).set (.int .i64 k4) (.bool z4) (.slice c1 c2 c3) (.slice c4 c5 c6) (.slice c7 c8 c9))
          have HL4 := hide hL4
          have hsz5 : (set5 w4 (w.heap.size + 1 + 1 + 1) (.int .i64 k4) (.bool z4) (.slice c1 c2 c3) (.slice c4 c5 c6) (.slice c7 c8 c9)).heap.size = w4.heap.size := by simp
          have hot5 : Hid (∀ b, b ≠ w.heap.size + 1 + 1 + 1 → (set5 w4 (w.heap.size + 1 + 1 + 1) (.int .i64 k4) (.bool z4) (.slice c1 c2 c3) (.slice c4 c5 c6) (.slice c7 c8 c9)).heap[b]? = w4.heap[b]?) := fun b hb => set5_other _ _ _ _ _ _ _ _ hb
          clear hb4 hL4 HB3 HI y0 y1 y2 y3 y4 x0 x1 x2 x3 x4
          generalize hbo : (putR (kidAt ns ks a) r X).2 = bo at *
          go_wp2_with fail
          rw [set5_eq]
          generalize set5 w4 (w.heap.size + 1 + 1 + 1) (.int .i64 k4) (.bool z4) (.slice c1 c2 c3) (.slice c4 c5 c6) (.slice c7 c8 c9) = w5 at *
          obtain ⟨hd, hn, hk, hKl, hK⟩ := unhide HT
          have hb5 := (unhide HB5).b3.b
          have HLy := hide (lay_any 2 x ad an (some ⟨gk, ok, none⟩) D cd cn ck N ns Ks a lo hi k4 z4 c1 c4 c7 c2 c3 c5 c6 c8 c9 w5.drew (hn.below hb5.drew (by omega)) (hk.below hb5.drew (by omega)) hcn hck (unhide HNs).2.2.2.1 (hKl.trans (unhide HNs).2.2.2.2) (unhide HL5) (ones_flat hKl hK) (by omega) (show hi ≤ w5.heap.size by omega))
          have hc5 : w5.cell? ⟨gl, ol, none⟩ = some (.string a) := by rw [hb5.cell (p := ⟨gl, ol, none⟩) (show gl < w.heap.size by omega)]; exact hcw
          obtain ⟨t0, t1, t2, t3, t4⟩ := (unhide HB5).b3.t.cells
          obtain ⟨y0, y1, y2, y3, y4⟩ := (unhide HB5).y.cells
          have hs5 := (unhide HB5).s4
          clear hd hn hk hKl hK hb5
          apply one_way
          case go =>
           intro key
           go_region_law (go_simp; refine (unhide HLy).mono ?_; rintro e w6 ⟨hb6, hA6⟩; obtain ⟨an6, n6, cn6, ak6, m6, ck6, rfl, hF⟩ := hA6; obtain ⟨r0, r1, r2, r3, r4⟩ := ((unhide HB5).kept (below_drew' hb6) hs5).b3.r.cells; have rf0 := ((unhide HB5).kept (below_drew' hb6) hs5).b3.r.fr 0; have rf1 := ((unhide HB5).kept (below_drew' hb6) hs5).b3.r.fr 1; have rf2 := ((unhide HB5).kept (below_drew' hb6) hs5).b3.r.fr 2; have rf3 := ((unhide HB5).kept (below_drew' hb6) hs5).b3.r.fr 3; have rf4 := ((unhide HB5).kept (below_drew' hb6) hs5).b3.r.fr 4)
           all_goals
            clear r0 r1 r2 r3 r4 rf0 rf1 rf2 rf3 rf4
            revert an6 n6 cn6 ak6 m6 ck6
            revert w6
            exact unhide key
          case all =>
            intro w6 hb6 an6 n6 cn6 ak6 m6 ck6 hF
            obtain ⟨r0, r1, r2, r3, r4⟩ := ((unhide HB5).kept (below_drew' hb6) hs5).b3.r.cells
            have HF := hide (And.intro hb6 (unhide hF))
            clear hb6 hF HLy t0 t1 t2 t3 t4 y0 y1 y2 y3 y4
            go_wp2_with fail
            rw [putR_yes]
            refine bodyPost_ret (v := .tuple #[.agg #[.int .i64 2, .bool x, .slice ad D cd, .slice an6 n6 cn6, .slice ak6 m6 ck6], .bool bo]) (by simp [results, Tryd.results42, go_sem, r0, r1, r2, r3, r4]) rfl ?_
            rw [set5_eq]
            obtain ⟨hb6, hn6, hm6, hr6, hq6⟩ := unhide HF
            obtain ⟨hd, hn, hk, hKl, hK⟩ := unhide HT
            have hb6' : Below w5.heap.size w5 w6 := below_drew' hb6
            have hs6 := hb6'.size
            have hbW := below_set5 ((unhide HB5).b3.b.trans (hb6'.mono (by omega))) (show w.heap.size ≤ w.heap.size + 1 + 1 by omega) (.int .i64 2) (.bool x) (.slice ad D cd) (.slice an6 n6 cn6) (.slice ak6 m6 ck6)
            have hsW : (set5 w6 (w.heap.size + 1 + 1) (.int .i64 2) (.bool x) (.slice ad D cd) (.slice an6 n6 cn6) (.slice ak6 m6 ck6)).heap.size = w6.heap.size := by simp
            have hoW : ∀ b, b ≠ w.heap.size + 1 + 1 → (set5 w6 (w.heap.size + 1 + 1) (.int .i64 2) (.bool x) (.slice ad D cd) (.slice an6 n6 cn6) (.slice ak6 m6 ck6)).heap[b]? = w6.heap[b]? := fun b hb => set5_other _ _ _ _ _ _ _ _ hb
            generalize set5 w6 (w.heap.size + 1 + 1) (.int .i64 2) (.bool x) (.slice ad D cd) (.slice an6 n6 cn6) (.slice ak6 m6 ck6) = W at *
            refine ⟨hbW, [.int .i64 2, .bool x, .slice ad D cd, .slice an6 n6 cn6, .slice ak6 m6 ck6], by rw [hbo], ?_⟩
            refine lay_end (B' := w3.heap.size) hKl hK (by have hd' := hd; rw [unhide HD] at hd' ⊢; exact hd') hm (Nat.le_refl _) (by omega) hbW (unhide HL4) (by omega) (fun b h1 h2 => ?_) hn6 hm6 ?_ ?_
            · have h2' : (lo ≤ b ∧ b < hi) ∨ (lo' ≤ b ∧ b < hi') ∨ w3.heap.size ≤ b := h2
              rw [hoW b (by omega), hb6'.block b (by omega), unhide hot5 b (by omega)]
            · rcases hr6 with hr6 | hr6
              · exact .inl (hr6.same (fun b h1 h2 => hoW b (by omega)))
              · exact .inr ((hr6.same (fun b h1 h2 => hoW b (by have h1' : w5.heap.size ≤ b := h1; omega))).mono (show w3.heap.size ≤ w5.heap.size by omega) (by omega))
            · exact (hq6.same (fun b h1 h2 => hoW b (by have h1' : w5.heap.size ≤ b := h1; omega))).mono (show w3.heap.size ≤ w5.heap.size by omega) (by omega)
end Go.Proofs.YthfjofmfiklegaaDoor
