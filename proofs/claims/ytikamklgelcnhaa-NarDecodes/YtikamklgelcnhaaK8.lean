import Derived.Test.YtikamklgelcnhaaK7
import Derived.Test.YtikamklgelcnhaaK4
import Derived.Test.YtikamklgelcnhaaK5
import Derived.Test.YtikamklgelcnhaaK2
/- own: a tree's data into memory of its own. -/
namespace Go.Proofs.Ytikamklgelcnhaa
open Go.RowKit
set_option linter.unusedSimpArgs false
/-- own under way: so many kids are done. -/
structure OwL (D : Value → ByteArray → Prop) (g o lo hi : Nat) (k : Int) (x : Bool) (d : ByteArray) (ns : List ByteArray) (ks : List Tr) (vn : Value) (a1 : Option Addr) (c1 : Nat) (a3 : Option Addr) (c3 : Nat) (L H : Nat → Nat) (w wr : World) (i : Nat) : Prop where
  fr : OwF g lo hi w wr
  row : wr.ownsRow w.heap.size 5 1 (.slice a1 d.size c1) d.size (byteVals d)
  blk : wr.heap[g]? = (w.setCell ⟨g, o + 2, none⟩ (.slice a1 d.size c1)).heap[g]?
  at5 : At5 wr g o [.int .i64 k, .bool x, .slice a1 d.size c1, vn, .slice a3 ks.length c3]
  names : wr.ownsRow lo 9 1 vn ns.length (ns.map .string)
  kids : ∃ gk Kr, (0 < ks.length → a3 = some ⟨gk, 0, none⟩ ∧ gk < w.heap.size ∧ lo ≤ gk ∧ gk < hi ∧ ∀ j, j < ks.length → gk < L j ∨ H j ≤ gk) ∧ OwK D gk L H ks w wr Kr i
theorem OwL.end {D : Value → ByteArray → Prop} {g o lo hi : Nat} {k : Int} {x : Bool} {d : ByteArray} {ns : List ByteArray} {ks : List Tr} {vn : Value} {a a1 : Option Addr} {c c1 : Nat} {a3 : Option Addr} {c3 : Nat} {L H : Nat → Nat} {w wr : World} (h : OwL D g o lo hi k x d ns ks vn a1 c1 a3 c3 L H w wr ks.length) (hc3 : ks.length ≤ c3) (hin : ∀ g, vn.ownBlock = some g → g < hi) (hLH : ∀ i, i < ks.length → lo ≤ L i ∧ H i ≤ hi) :
    OwA g o lo hi (.mk k x d ns ks) [.int .i64 k, .bool x, .slice a d.size c, vn, .slice a3 ks.length c3] w (.returned (.tuple #[])) wr := by
  obtain ⟨gk, Kr, hgk, hK⟩ := h.kids
  refine ⟨rfl, h.fr, a1, c1, h.row, h.blk, ?_⟩
  refine .mk k x d ns ks _ vn _ Kr hK.len (owns_rowp h.row (fun g hg => .inr (owns_lt h.row g hg))) (owns_rowp h.names (fun g hg => .inl ⟨(owns_lt h.names g hg).1, hin g hg⟩)) ?_ (fun i t c h1 h2 => ?_)
  · by_cases h0 : 0 < ks.length
    · obtain ⟨rfl, e1, e2, e3, e4⟩ := hgk h0
      refine ⟨gk, fun _ => .inl ⟨e2, e3⟩, _, c3, rfl, hc3, fun _ => ⟨gk, 0, rfl, Nat.le_refl _, by omega, fun j u hj => ?_⟩⟩
      obtain ⟨i, c, j', q1, q2, rfl⟩ := flat_of Kr hK.five j u hj
      rw [Nat.zero_add]
      exact (hK.at5 i c q1).cell j' u q2
    · exact ⟨0, fun h => absurd h h0, a3, c3, rfl, hc3, fun h => absurd h h0⟩
  · have hi := (List.getElem?_eq_some_iff.1 h1).1
    refine (hK.done i t c hi h1 h2).mono (fun k hk => ?_)
    have := hLH i hi
    rcases hk with hk | hk
    · exact .inl (by omega)
    · exact .inr hk
theorem OwL.begin {D : Value → ByteArray → Prop} {g o lo hi : Nat} {k : Int} {x : Bool} {d : ByteArray} {ns : List ByteArray} {ks : List Tr} {vn : Value} {a a1 : Option Addr} {c c1 : Nat} {a3 : Option Addr} {c3 : Nat} {L H : Nat → Nat} {w w1 : World} {Ks : List (List Value)} (hA : At5 w g o [.int .i64 k, .bool x, .slice a d.size c, vn, .slice a3 ks.length c3]) (hb : Below w.heap.size w w1) (ho : w1.ownsRow w.heap.size 5 1 (.slice a1 d.size c1) d.size (byteVals d)) (hg : g < lo ∨ hi ≤ g) (hhi : hi ≤ w.heap.size)
    (hl : Ks.length = ks.length) (hn : w.ownsRow lo 9 1 vn ns.length (ns.map .string)) (hk : w.ownsRow lo 26 5 (.slice a3 ks.length c3) ks.length Ks.flatten)
    (hin : ∀ g, (vn.ownBlock = some g ∨ (Value.slice a3 ks.length c3).ownBlock = some g) → g < hi)
    (hK : ∀ (i : Nat) (t : Tr) (c : List Value), ks[i]? = some t → Ks[i]? = some c → Rdn D w (L i) (H i) t c)
    (hLH : ∀ i, i < ks.length → lo ≤ L i ∧ H i ≤ hi ∧ ∀ g, (vn.ownBlock = some g ∨ (Value.slice a3 ks.length c3).ownBlock = some g) → g < L i ∨ H i ≤ g) :
    OwL D g o lo hi k x d ns ks vn a1 c1 a3 c3 L H w (w1.setCell ⟨g, o + 2, none⟩ (.slice a1 d.size c1)) 0 := by
  have hlt := hA.lt
  have hz := hb.size
  have hA1 := hA.of (hb.block g hlt)
  have hother : ∀ k, k ≠ g → (w1.setCell ⟨g, o + 2, none⟩ (.slice a1 d.size c1)).heap[k]? = w1.heap[k]? := fun k hk => set_other _ _ _ _ _ hk
  have hsame : ∀ k, k < w.heap.size → k ≠ g → (w1.setCell ⟨g, o + 2, none⟩ (.slice a1 d.size c1)).heap[k]? = w.heap[k]? := fun k h1 h2 => by rw [hother k h2, hb.block k h1]
  have hfive : ∀ c ∈ Ks, c.length = 5 := by
    intro c hc
    obtain ⟨i, hi, he⟩ := List.getElem_of_mem hc
    have := hK i ks[i] c (List.getElem?_eq_getElem (by omega)) (by rw [List.getElem?_eq_getElem hi, he])
    exact this.length
  refine ⟨⟨hb.os, hb.tape, hb.output, by simp [World.setCell]; omega, fun k h1 h2 _ => hsame k h1 h2⟩, ?_, ?_, ?_, ?_, ?_⟩
  · exact owns_same ho (fun g' hg' => hother g' (by have := (owns_lt ho g' hg').1; omega)) (fun _ _ h => h)
  · obtain ⟨arr, ty, h1, h2⟩ := hA
    have h1' : w1.heap[g]? = some (.cells arr ty) := by rw [hb.block g hlt]; exact h1
    simp [World.setCell, Array.getElem?_modify, h1, h1']
  · exact hA1.set _
  · exact owns_same hn (fun g' hg' => hsame g' (owns_lt hn g' hg').2 (by have := (owns_lt hn g' hg').1; have := hin g' (.inl hg'); omega)) (fun _ _ h => h)
  · rcases hk.2 with ⟨e1, e2⟩ | ⟨gk, cap, cur, e1, hgk, hh, hcap, hm, hcs, htk⟩
    · refine ⟨0, Ks, fun h => by omega, hl, hfive, fun j c hj => ?_, fun j t c hj _ _ => by omega, fun j t c _ hj _ => ?_⟩
      · have := (List.getElem?_eq_some_iff.1 hj).1; omega
      · have := (List.getElem?_eq_some_iff.1 hj).1; omega
    · injection e1 with e1 _ e3
      subst e1
      have hgk2 := hin gk (.inr rfl)
      refine ⟨gk, Ks, fun _ => ⟨rfl, by omega, hgk, hgk2, fun j hj => (hLH j hj).2.2 gk (.inr rfl)⟩, hl, hfive, fun j c hj => ?_, fun j t c hj _ _ => by omega, fun j t c _ hj hc => ?_⟩
      · refine At5.of (w := w) ⟨cur, 26, hh, fun j' u hj' => ?_⟩ (hsame gk (by omega) (by omega))
        have := flat_at Ks hfive j c hj j' u hj'
        rw [← htk] at this
        have hj2 := (List.getElem?_eq_some_iff.1 this).1
        rw [List.length_take] at hj2
        rw [List.getElem?_take_of_lt (by omega)] at this
        rw [← this]; simp
      · refine (hK j t c hj hc).same (fun k hk1 hk2 => ?_)
        have := hLH j (List.getElem?_eq_some_iff.1 hj).1
        exact hsame k (by omega) (by omega)
/-- One kid more. -/
theorem OwL.step {D : Value → ByteArray → Prop} {g o lo hi : Nat} {k : Int} {x : Bool} {d : ByteArray} {ns : List ByteArray} {ks : List Tr} {vn : Value} {a1 : Option Addr} {c1 : Nat} {a3 : Option Addr} {c3 : Nat} {L H : Nat → Nat} {w wr w1 : World} {i : Nat} {gk : Nat} {Kr : List (List Value)} {t : Tr} {c : List Value} {e : Ending} (h : OwL D g o lo hi k x d ns ks vn a1 c1 a3 c3 L H w wr i) (hK : OwK D gk L H ks w wr Kr i) (h3 : a3 = some ⟨gk, 0, none⟩) (ht : ks[i]? = some t) (hc : Kr[i]? = some c) (hA : OwA gk (5 * i) (L i) (H i) t c wr e w1)
    (hg : g < lo ∨ hi ≤ g) (hhi : hi ≤ w.heap.size) (hlo : lo ≤ gk) (hgk : gk < hi) (hvn : ∀ g, vn.ownBlock = some g → g < hi) (hne : vn.ownBlock ≠ some gk) (hgl : g < w.heap.size)
    (hLH : ∀ j, j < ks.length → lo ≤ L j ∧ H j ≤ hi ∧ (gk < L j ∨ H j ≤ gk) ∧ ∀ g, vn.ownBlock = some g → g < L j ∨ H j ≤ g) (hdis : ∀ i j, i < j → j < ks.length → H i ≤ L j) : OwL D g o lo hi k x d ns ks vn a1 c1 a3 c3 L H w w1 (i + 1) := by
  have hi := (List.getElem?_eq_some_iff.1 ht).1
  obtain ⟨Kr', hK'⟩ := hK.step ht hc hA h.fr.size (by omega) (fun j hj => ⟨by have := hLH j hj; omega, (hLH j hj).2.2.1⟩) hdis
  obtain ⟨_, hF, _⟩ := hA
  have hL := hLH i hi
  have hz := h.fr.size
  have hgb : w1.heap[g]? = wr.heap[g]? := hF.block g (by omega) (by omega) (by omega)
  refine ⟨⟨hF.os.trans h.fr.os, hF.tape.trans h.fr.tape, hF.output.trans h.fr.output, Nat.le_trans hz hF.size, fun k h1 h2 h3 => ?_⟩, ?_, ?_, ?_, ?_, ⟨gk, Kr', fun _ => ⟨h3, by omega, hlo, hgk, fun j hj => (hLH j hj).2.2.1⟩, hK'⟩⟩
  · rw [hF.block k (by omega) (by omega) (by omega)]
    exact h.fr.block k h1 h2 h3
  · refine owns_same h.row (fun g' hg' => ?_) (fun _ _ h => h)
    have := owns_lt h.row g' hg'
    exact hF.block g' this.2 (by omega) (by omega)
  · rw [hgb]; exact h.blk
  · exact h.at5.of hgb
  · refine owns_same h.names (fun g' hg' => ?_) (fun _ _ h => h)
    have := owns_lt h.names g' hg'
    have h5 := hvn g' hg'
    exact hF.block g' this.2 (fun e => hne (e ▸ hg')) (by have := hL.2.2.2 g' hg'; omega)
set_option maxRecDepth 20000 in
set_option maxHeartbeats 1000000 in
theorem own_any (D : Value → ByteArray → Prop) (lo0 hi0 : Nat) (T : Tr) : ∀ (g o lo hi : Nat) (cs : List Value) (w : World), (∀ (W : World) v d, (∀ k, k < hi0 → W.heap[k]? = w.heap[k]?) → D v d → Row lo0 hi0 W v d.size (byteVals d)) → Rdn D w lo hi T cs → At5 w g o cs → (g < lo ∨ hi ≤ g) → hi0 ≤ lo → hi0 ≤ g → hi ≤ w.heap.size → wt T ≤ 100000 →
    Calls Try.prog 41 #[.pointer (some ⟨g, o, none⟩)] w (OwA g o lo hi T cs w) := by
  induction T using Tr.ind with
  | h k x d ns ks ih =>
  intro g o lo hi cs w hD hR hA hg h0 h0g hhi hwt
  cases hR with
  | mk _ _ _ _ _ _ _ a c vn vk Ks L H hl hd hn hk hin hne hK hLH hdis =>
  have hSm := small_of hwt
  have hkl := hSm.k
  have hsz := hSm.d
  obtain ⟨a3, c3, rfl, hc3⟩ := owns_slice hk
  obtain ⟨a1, c1, w1, happ, hb1, hown⟩ : ∃ a1 c1 w1, (∀ ty, (app22 ty #[.slice none 0 0, .slice a d.size c]).run Try.prog w = .ok (.slice a1 d.size c1) w1) ∧ Below w.heap.size w w1 ∧ w1.ownsRow w.heap.size 5 1 (.slice a1 d.size c1) d.size (byteVals d) := by
    obtain ⟨v1, w1, happ, ho1, hg1, _⟩ := app22_own w w.heap.size lo0 hi0 _ 0 [] a d.size c (byteVals d) (World.ownsRow_nil _ _ _ _) (hD w _ _ (fun _ _ => rfl) hd) (byteVals_length d) (one_bytes d) (by omega) (Nat.le_refl _)
    rw [Nat.zero_add, List.nil_append] at ho1
    obtain ⟨a1, c1, rfl, _⟩ := owns_slice ho1
    exact ⟨a1, c1, w1, happ, (Below.refl _ w).grown hg1 (Nat.le_refl _) (fun k hk => by simp [Value.ownBlock] at hk), ho1⟩
  have c0 := hA.cell 2 _ rfl
  have c4 := hA.cell 4 _ rfl
  have hA1 := hA.of (hb1.block g hA.lt)
  have d2 := hA1.cell 2 _ rfl
  have d4 := hA1.cell 4 _ rfl
  have f2 := hA1.fr (o + 2)
  have hgl := hA.lt
  have HB := hide (OwL.begin (a := a) (c := c) hA hb1 hown hg hhi hl hn hk hin hK hLH)
  have HE := hide (fun (wr : World) (h : OwL D g o lo hi k x d ns ks vn a1 c1 a3 c3 L H w wr ks.length) => h.end (a := a) (c := c) hc3 (fun g hg => hin g (.inl hg)) (fun i hi => ⟨(hLH i hi).1, (hLH i hi).2.1⟩))
  have HI := hide ih
  have HD := hide hD
  have HX := hide (And.intro hin (And.intro hne (And.intro hLH hdis)))
  clear hb1 hown hl hn hk hin hne hK hLH hdis hA1 hD ih hd
  go_enter Try.func41, Try.ntmps41
  go_wp2_with fail
  go_loopw [16] (fun vi wr => ∃ i : Nat, i ≤ ks.length ∧ vi = .int .i64 (i : Int) ∧ Hid (OwL D g o lo hi k x d ns ks vn a1 c1 a3 c3 L H w wr i)) (fun vi _ => ks.length - (intOf vi).toNat)
  case atStart => exact ⟨0, by omega, rfl, unhide HB⟩
  case round =>
    clear HB happ
    obtain ⟨i, hi1, rfl, hL⟩ := hrel
    by_cases hq : i < ks.length
    · obtain ⟨gk, Kr, hgk, hOK⟩ := (unhide hL).kids
      obtain ⟨e3, g1, g2, g3, g4⟩ := hgk (by omega)
      subst e3
      have c4' := (unhide hL).at5.cell 4 _ rfl
      have hKi : i < Kr.length := by rw [hOK.len]; exact hq
      have hcall := unhide HI ks[i] (List.getElem_mem hq) gk (5 * i) (L i) (H i) Kr[i] wr (fun W v d hW hDv => unhide HD W v d (fun k hk => by rw [hW k hk]; exact (unhide hL).fr.block k (by omega) (by omega) (by omega)) hDv) (hOK.rest i _ _ (Nat.le_refl _) (List.getElem?_eq_getElem hq) (List.getElem?_eq_getElem hKi)) (hOK.at5 i _ (List.getElem?_eq_getElem hKi)) (g4 i hq) (by have := (unhide HX).2.2.1 i hq; omega) (by omega) (by have := (unhide HX).2.2.1 i hq; have := (unhide hL).fr.size; omega) (hSm.t _ (List.getElem_mem hq))
      have HC := hide hcall
      have HOK := hide hOK
      have HG := hide (And.intro g1 (And.intro g2 (And.intro g3 g4)))
      clear hcall hOK hgk g1 g2 g3 g4
      go_wp2_with fail
      rw [Nat.mul_comm i 5]
      refine (unhide HC).mono ?_
      rintro e w2 hA2
      obtain rfl := hA2.1
      have HS := hide ((unhide hL).step (unhide HOK) rfl (List.getElem?_eq_getElem hq) (List.getElem?_eq_getElem hKi) hA2 hg hhi (unhide HG).2.1 (unhide HG).2.2.1 (fun g h => (unhide HX).1 g (.inl h)) ((unhide HX).2.1 gk rfl) hgl (fun j hj => ⟨((unhide HX).2.2.1 j hj).1, ((unhide HX).2.2.1 j hj).2.1, (unhide HG).2.2.2 j hj, fun g h => ((unhide HX).2.2.1 j hj).2.2 g (.inl h)⟩) (unhide HX).2.2.2)
      clear hA2 HC HOK HG hL
      go_wp2_with fail
      go_roundw
      case rel => exact ⟨i + 1, by omega, by simp, unhide HS⟩
      case measure => simp [intOf]; omega
    · obtain rfl : i = ks.length := by omega
      have HF := hide (unhide HE wr (unhide hL))
      clear hL
      go_wp2_with fail
      exact bodyPost_end (v := .tuple #[]) (by simp [results, Try.results41, go_sem]) rfl (unhide HF)
end Go.Proofs.Ytikamklgelcnhaa
/- The reader's tree, from its node. -/
namespace Go.Proofs.Ytikamklgelcnhaa
open Go.RowKit
set_option linter.unusedSimpArgs false
set_option maxRecDepth 20000 in
set_option maxHeartbeats 1000000 in
theorem tree_step (lo hi r : Nat) (b : Value) (B : List UInt8)
    (HN : ∀ (w : World) (σ : RS), Rst lo hi r b B w σ → Calls Try.prog 59 #[.pointer (some ⟨r, 0, none⟩), .int .i64 1] w (NdA lo hi r b B w (nodeS B 65 1 σ).1 (nodeS B 65 1 σ).2))
    (w : World) (σ : RS) (h : Rst lo hi r b B w σ) :
    Calls Try.prog 38 #[.pointer (some ⟨r, 0, none⟩)] w (NdA lo hi r b B w (treeS B σ).1 (treeS B σ).2) := by
  obtain ⟨Q, hQ⟩ : ∃ Q, Q = NdA lo hi r b B w (treeS B σ).1 (treeS B σ).2 := ⟨_, rfl⟩
  rw [← hQ]
  unfold treeS at hQ
  have HQ := hide hQ
  obtain ⟨W0, hW0⟩ : ∃ W0, W0 = w.alloc (.cells #[.int .i64 0, .bool false, .slice none 0 0, .slice none 0 0, .slice none 0 0] 26) := ⟨_, rfl⟩
  have hb0 : Below w.heap.size w W0 := by rw [hW0]; exact (Below.refl _ _).alloc (Nat.le_refl _) _
  have hs0 : W0.heap.size = w.heap.size + 1 := by rw [hW0]; simp
  have hx0 : Bx W0 w.heap.size (.int .i64 0) (.bool false) (.slice none 0 0) (.slice none 0 0) (.slice none 0 0) := by rw [hW0]; exact bx_new _ _ _ _ _ _
  have hlt := h.lt
  have hhi := h.hi
  have H1 := hide (wants_any lo hi r b B W0 σ [bMagic] (h.kept hb0 hlt h.hi) (by decide))
  have HX0 := hide (And.intro (Sole.of_below (g := r) hb0) hx0)
  rw [hs0] at H1
  have HS0 := hide hs0
  have HW0 := hide hW0
  have HNN := hide HN
  clear h hb0 hx0 hQ hs0 hW0 HN
  go_enter Try.func38, Try.ntmps38
  go_wp2_with fail
  rw [← unhide HW0]
  refine (unhide H1).mono ?_
  rintro x w1 ⟨rfl, hs1, hR1⟩
  have hz1 := hs1.size
  rw [unhide HS0] at hz1
  have HX3 := hide (And.intro ((unhide HX0).1.trans hs1) ((unhide HX0).2.sole hs1 (by omega)))
  have H2 := hide (unhide HNN w1 _ hR1)
  clear hs1 hR1 H1 HX0
  go_wp2_with fail
  refine (unhide H2).mono ?_
  rintro x w4 hN
  obtain ⟨k', y', b1, n1, d1, b2, n2, d2, b3, n3, d3, rfl⟩ := hN.form
  have hs4 : Sole r w1 w4 := by obtain ⟨_, _, h, _⟩ := hN; exact h
  have hx4 := (unhide HX3).2.sole hs4 (by omega)
  have HE := hide (hN.store (unhide HX3).1 (by omega) hlt hhi)
  obtain ⟨x0, x1, x2, x3, x4⟩ := hx4.cells
  have g0 := hx4.fr 0
  have g1 := hx4.fr 1
  have g2 := hx4.fr 2
  have g3 := hx4.fr 3
  have g4 := hx4.fr 4
  clear hN hs4 hx4
  go_wp2_with fail
  refine bodyPost_ret (v := .agg #[.int .i64 k', .bool y', .slice b1 n1 d1, .slice b2 n2 d2, .slice b3 n3 d3]) (by simp [results, Try.results38, go_sem, x0, x1, x2, x3, x4]) rfl ?_
  rw [unhide HQ]
  exact unhide HE
end Go.Proofs.Ytikamklgelcnhaa
/- The reader's node and tree. -/
namespace Go.Proofs.Ytikamklgelcnhaa
open Go.RowKit
theorem rnode_any (lo hi r : Nat) (b : Value) (B : List UInt8) (hB : B.length ≤ 4000000) (f : Nat) : ∀ deep, 66 ≤ f + deep → 1 ≤ f → deep ≤ 65 → ∀ (w : World) (σ : RS), Rst lo hi r b B w σ →
    Calls Try.prog 59 #[.pointer (some ⟨r, 0, none⟩), .int .i64 (deep : Int)] w (NdA lo hi r b B w (nodeS B f deep σ).1 (nodeS B f deep σ).2) := by
  induction f with
  | zero => intro deep _ h; omega
  | succ f ih =>
    intro deep h1 _ h3 w σ h
    refine node_step lo hi r b B f deep (by omega) (fun w σ hR hd => ?_) w σ h
    exact dir_step lo hi r b B deep (by omega) hB (nodeS B f (deep + 1)) (nodeS_le B f (deep + 1)) (fun w σ h => ih (deep + 1) (by omega) (by omega) (by omega) w σ h) w σ hR
theorem rtree_any (lo hi r : Nat) (b : Value) (B : List UInt8) (hB : B.length ≤ 4000000) (w : World) (σ : RS) (h : Rst lo hi r b B w σ) :
    Calls Try.prog 38 #[.pointer (some ⟨r, 0, none⟩)] w (NdA lo hi r b B w (treeS B σ).1 (treeS B σ).2) :=
  tree_step lo hi r b B (fun w σ h => rnode_any lo hi r b B hB 65 1 (by omega) (by omega) (by omega) w σ h) w σ h
end Go.Proofs.Ytikamklgelcnhaa
/- The reader's end. -/
namespace Go.Proofs.Ytikamklgelcnhaa
open Go.RowKit
set_option linter.unusedSimpArgs false
def endS (B : List UInt8) : RS → RS
  | .error E => .error E
  | .ok (p, m) => if p < B.length then .error 3 else .ok (p, m)
set_option maxRecDepth 20000 in
set_option maxHeartbeats 1000000 in
theorem end_rs (lo hi r : Nat) (b : Value) (B : List UInt8) (w : World) (p : Nat) (m e : Int) (h : Rs lo hi r b B w p m e) :
    Calls Try.prog 39 #[.pointer (some ⟨r, 0, none⟩)] w fun x w' => x = .returned (.tuple #[]) ∧ Rs lo hi r b B w' p m (if p < B.length then orE e 3 else e) ∧ Sole r w w' := by
  obtain ⟨a, c, rfl, hc⟩ := h.form
  obtain ⟨h0, h1, h2, h3⟩ := h.rx.cells
  have HR := hide h
  have HF := hide (fun W (hW : Rx W r (.slice a B.length c) p m e) => fail_any r (.slice a B.length c) p m e 3 W hW)
  have hbig := h.big
  have hle := h.le
  clear h
  by_cases hq : p < B.length
  · rw [if_pos hq]
    generalize hL : B.length = L at *
    go_enter Try.func39, Try.ntmps39
    go_wp2_with fail
    go_quiet (fail)
    go_wp2_with fail
    refine (unhide HF _ ((unhide HR).rx.drewN _)).mono ?_
    rintro x w1 ⟨rfl, hs1, hr1⟩
    have hs : Sole r w w1 := ((Sole.refl r w).drewN _).trans hs1
    have HZ := hide (And.intro ((unhide HR).step hs hr1 (unhide HR).le) hs)
    clear hs1 hr1 hs
    go_wp2_with fail
    exact bodyPost_end (v := .tuple #[]) (by simp [results, Try.results39, go_sem]) rfl ⟨rfl, unhide HZ⟩
  · rw [if_neg hq]
    generalize hL : B.length = L at *
    go_enter Try.func39, Try.ntmps39
    go_wp2_with fail
    go_quiet (fail)
    go_wp2_with fail
    have hs : Sole r w (w.drewN nq) := (Sole.refl r w).drewN _
    exact bodyPost_end (v := .tuple #[]) (by simp [results, Try.results39, go_sem]) rfl ⟨rfl, (unhide HR).step hs ((unhide HR).rx.drewN _) (unhide HR).le, hs⟩
theorem end_any (lo hi r : Nat) (b : Value) (B : List UInt8) (w : World) (σ : RS) (h : Rst lo hi r b B w σ) :
    Calls Try.prog 39 #[.pointer (some ⟨r, 0, none⟩)] w fun x w' => x = .returned (.tuple #[]) ∧ Sole r w w' ∧ Rst lo hi r b B w' (endS B σ) := by
  match σ, h with
  | .ok (p, m), ⟨h, hm⟩ =>
    refine (end_rs lo hi r b B w p m 0 h).mono ?_
    rintro x w' ⟨rfl, hr, hs⟩
    refine ⟨rfl, hs, ?_⟩
    unfold endS
    by_cases hc : p < B.length
    · simp only [if_pos hc]
      rw [if_pos hc, orE_zero] at hr
      exact ⟨by omega, p, m, hr⟩
    · simp only [if_neg hc]
      rw [if_neg hc] at hr
      exact ⟨hr, hm⟩
  | .error E, ⟨he, p, m, h⟩ =>
    refine (end_rs lo hi r b B w p m E h).mono ?_
    rintro x w' ⟨rfl, hr, hs⟩
    rw [orE_ne he, ite_self] at hr
    exact ⟨rfl, hs, he, p, m, hr⟩
end Go.Proofs.Ytikamklgelcnhaa
/- The reader's check. -/
namespace Go.Proofs.Ytikamklgelcnhaa
open Go.RowKit
set_option linter.unusedSimpArgs false
noncomputable def chkS (T : Tr) : RS → RS
  | .error E => .error E
  | .ok (p, m) => if (chk T 1 0).1 = 0 then .ok (p, m) else .error (((chk T 1 0).1 : Nat) : Int)
set_option maxRecDepth 20000 in
set_option maxHeartbeats 1000000 in
theorem rcheck_any (lo hi r : Nat) (b : Value) (B : List UInt8) (w : World) (σ : RS) (T : Tr) (l u : Nat) (cs : List Value) (h : Rst lo hi r b B w σ) (hL : Lies l u w T cs) (hW : ∀ p m, σ = .ok (p, m) → wt T ≤ 100000) (hu : u ≤ w.heap.size) :
    Calls Try.prog 40 #[.pointer (some ⟨r, 0, none⟩), .agg cs.toArray] w fun x w' => x = .returned (.tuple #[]) ∧ Sole r w w' ∧ Rst lo hi r b B w' (chkS T σ) := by
  obtain ⟨kt, xt, at0, nt, ct, bt, mt, dt, et, pt, qt, rfl⟩ := hL.form
  obtain ⟨W0, hW0⟩ : ∃ W0, W0 = w.alloc (.cells #[.int .i64 kt, .bool xt, .slice at0 nt ct, .slice bt mt dt, .slice et pt qt] 26) := ⟨_, rfl⟩
  have hb0 : Below w.heap.size w W0 := by rw [hW0]; exact (Below.refl _ _).alloc (Nat.le_refl _) _
  have hlt := h.lt
  have hR0 := h.kept hb0 hlt h.hi
  have hx0 : Bx W0 w.heap.size (.int .i64 kt) (.bool xt) (.slice at0 nt ct) (.slice bt mt dt) (.slice et pt qt) := by rw [hW0]; exact bx_new _ _ _ _ _ _
  have HC0 := hide (fun hw : wt T ≤ 100000 => check_any T l u _ W0 (hL.kept hb0 hu) hw (Nat.le_trans hu hb0.size))
  have HS0 : Hid (Sole r w W0) := Sole.of_below hb0
  obtain ⟨p, m, e, hRs, hcase⟩ := hR0.rs
  obtain ⟨h0, h1, h2, h3⟩ := hRs.rx.cells
  obtain ⟨y0, y1, y2, y3, y4⟩ := hx0.cells
  have HR := hide hRs
  have HR0 := hide hR0
  rw [hW0] at h0 h1 h2 h3
  have HW0 := hide hW0
  rcases hcase with ⟨k, rfl, rfl, hk, rfl⟩ | ⟨he, rfl⟩
  · have HC := hide (unhide HC0 (hW p k rfl))
    clear HC0
    generalize hE : (chk T 1 0).1 = E at *
    have HE := hide hE
    clear h hb0 hRs hR0 hx0 hL y0 y1 y2 y3 y4 hW0 hE hW
    go_enter Try.func40, Try.ntmps40
    go_wp2_with fail
    rw [← unhide HW0]
    refine (unhide HC).mono ?_
    rintro x w1 ⟨rfl, hb1⟩
    have hl0 := (unhide HR).rx.lt
    have hr1 := (unhide HR).kept hb1 hl0 (unhide HR).hi
    obtain ⟨z0, z1, z2, z3⟩ := hr1.rx.cells
    have hf := hr1.rx.fr 3
    have hs1 : Sole r w (w1.setCell ⟨r, 3, none⟩ (.int .i64 (E : Int))) := ((unhide HS0).trans (Sole.of_below hb1)).setCell 3 _
    have hs2 : Sole r w1 (w1.setCell ⟨r, 3, none⟩ (.int .i64 (E : Int))) := (Sole.refl r w1).setCell 3 _
    have HZ : Hid (Sole r w (w1.setCell ⟨r, 3, none⟩ (.int .i64 (E : Int))) ∧ Rst lo hi r b B (w1.setCell ⟨r, 3, none⟩ (.int .i64 (E : Int))) (chkS T (.ok (p, k)))) := by
      refine ⟨hs1, ?_⟩
      have hst := hr1.step hs2 (hr1.rx.set3 (E : Int)) hr1.le
      unfold chkS
      rw [unhide HE]
      by_cases h0 : E = 0
      · simp only [if_pos h0]
        rw [h0] at hst ⊢
        exact ⟨hst, hk⟩
      · simp only [if_neg h0]
        exact ⟨by omega, p, k, hst⟩
    clear hs1 hs2 hr1 hb1 h0 h1 h2 h3
    go_wp2_with fail
    exact bodyPost_end (v := .tuple #[]) (by simp [results, Try.results40, go_sem]) rfl ⟨rfl, unhide HZ⟩
  · clear HC0
    have hbe : (e == 0) = false := by rw [beq_eq_false_iff_ne]; exact he
    clear h hb0 hRs hR0 hx0 hL y0 y1 y2 y3 y4 hW0
    go_enter Try.func40, Try.ntmps40
    go_wp2_with fail
    rw [← unhide HW0]
    exact bodyPost_end (v := .tuple #[]) (by simp [results, Try.results40, go_sem]) rfl ⟨rfl, unhide HS0, unhide HR0⟩
end Go.Proofs.Ytikamklgelcnhaa
/- Decode. -/
namespace Go.Proofs.Ytikamklgelcnhaa
open Go.RowKit
set_option linter.unusedSimpArgs false
def tr0 : Tr := .mk 0 false ⟨#[]⟩ [] []
/-- What is read, and its error. -/
noncomputable def decS (B : List UInt8) : Tr × Int := match chkS (treeS B (.ok (0, 0))).2 (endS B (treeS B (.ok (0, 0))).1) with
  | .error E => (tr0, E)
  | .ok _ => ((treeS B (.ok (0, 0))).2, 0)
def DecA (T : Tr) (E : Int) (w : World) (e : Ending) (w' : World) : Prop := Below w.heap.size w w' ∧ ∃ k x a1 c1 a2 n2 c2 a3 n3 c3, e = .returned (.tuple #[.agg #[.int .i64 k, .bool x, .slice a1 T.dat.size c1, .slice a2 n2 c2, .slice a3 n3 c3], .int .i64 E]) ∧
  Lies w.heap.size w'.heap.size w' T [.int .i64 k, .bool x, .slice a1 T.dat.size c1, .slice a2 n2 c2, .slice a3 n3 c3] ∧ w'.ownsRow w.heap.size 5 1 (.slice a1 T.dat.size c1) T.dat.size (byteVals T.dat)
theorem decS_err {B : List UInt8} {E : Int} (h : chkS (treeS B (.ok (0, 0))).2 (endS B (treeS B (.ok (0, 0))).1) = .error E) : decS B = (tr0, E) := by unfold decS; rw [h]
theorem decS_ok {B : List UInt8} {q : Nat × Nat} (h : chkS (treeS B (.ok (0, 0))).2 (endS B (treeS B (.ok (0, 0))).1) = .ok q) : decS B = ((treeS B (.ok (0, 0))).2, 0) := by unfold decS; rw [h]
theorem endS_ok {B : List UInt8} {σ : RS} {q : Nat × Nat} (h : endS B σ = .ok q) : σ = .ok q := by
  match σ, h with
  | .error E, h => cases h
  | .ok (p, m), h =>
    simp only [endS] at h
    split at h
    · cases h
    · exact h
theorem chkS_ok {T : Tr} {σ : RS} {q : Nat × Nat} (h : chkS T σ = .ok q) : σ = .ok q := by
  match σ, h with
  | .error E, h => cases h
  | .ok (p, m), h =>
    simp only [chkS] at h
    split at h
    · exact h
    · cases h
theorem Bx.at5 {w : World} {b : Nat} {v0 v1 v2 v3 v4 : Value} (h : Bx w b v0 v1 v2 v3 v4) : At5 w b 0 [v0, v1, v2, v3, v4] := by
  refine ⟨_, _, h, fun j u hj => ?_⟩
  rw [Nat.zero_add]
  simpa using hj
theorem tr0_lies (l u : Nat) (w : World) : Lies l u w tr0 [.int .i64 0, .bool false, .slice none 0 0, .slice none 0 0, .slice none 0 0] :=
  .mk 0 false ⟨#[]⟩ [] [] _ _ _ [] rfl ⟨none, 0, rfl, Nat.le_refl _, fun h => absurd h (by decide)⟩ ⟨none, 0, rfl, Nat.le_refl _, fun h => absurd h (by decide)⟩ ⟨none, 0, rfl, Nat.le_refl _, fun h => absurd h (by decide)⟩ (fun i t c h => by simp at h)
theorem Sole.up {r : Nat} {a b : World} (h : Sole r a b) {base : Nat} (hb : base ≤ r) (hs : base ≤ a.heap.size) : Below base a b := h.below hb hs
/-- Decode under way. -/
structure DecW (lo hi : Nat) (b : Value) (B : List UInt8) (w W : World) (gt : Nat) (τ : RS) (T : Tr) (v0 v1 v2 v3 v4 : Value) : Prop where
  below : Below w.heap.size w W
  br : Bx W w.heap.size (.int .i64 0) (.bool false) (.slice none 0 0) (.slice none 0 0) (.slice none 0 0)
  bt : Bx W gt v0 v1 v2 v3 v4
  rst : Rst lo hi (w.heap.size + 1) b B W τ
  rd : Rdn (fun v d => Tv lo hi b v B d) W (w.heap.size + 2) gt T [v0, v1, v2, v3, v4]
  sz : gt < W.heap.size
  gt : w.heap.size + 2 ≤ gt
theorem DecW.call {lo hi : Nat} {b : Value} {B : List UInt8} {w W W1 : World} {gt : Nat} {τ τ' : RS} {T : Tr} {v0 v1 v2 v3 v4 : Value} (h : DecW lo hi b B w W gt τ T v0 v1 v2 v3 v4) (hs : Sole (w.heap.size + 1) W W1) (hR : Rst lo hi (w.heap.size + 1) b B W1 τ') : DecW lo hi b B w W1 gt τ' T v0 v1 v2 v3 v4 := by
  obtain ⟨h1, h2, h3, h4, h5, h6, h7⟩ := h
  have hz := hs.size
  exact ⟨h1.trans (hs.below (by omega) (by omega)), h2.sole hs (by omega), h3.sole hs (by omega), hR, h5.same (fun k hk1 hk2 => hs.block k (by omega) (by omega)), by omega, h7⟩
theorem DecW.lies {lo hi : Nat} {b : Value} {B : List UInt8} {w W : World} {gt : Nat} {τ : RS} {T : Tr} {v0 v1 v2 v3 v4 : Value} (h : DecW lo hi b B w W gt τ T v0 v1 v2 v3 v4) (hlo : lo ≤ hi) (hhi : hi ≤ w.heap.size) : Lies lo gt W T [v0, v1, v2, v3, v4] := by
  have := h.gt
  exact h.rd.lies (lo0 := lo) (hi0 := hi) (fun v d hD => hD W h.rst.row) (by omega) (by omega) (Nat.le_refl _)
/-- The end where all is well. -/
theorem dec_end {lo hi : Nat} {b : Value} {B : List UInt8} {w W W' : World} {gt : Nat} {τ : RS} {T : Tr} {k : Int} {x : Bool} {a1 : Option Addr} {n1 c1 : Nat} {a2 : Option Addr} {n2 c2 : Nat} {a3 : Option Addr} {n3 c3 : Nat} {e : Ending} (h : DecW lo hi b B w W gt τ T (.int .i64 k) (.bool x) (.slice a1 n1 c1) (.slice a2 n2 c2) (.slice a3 n3 c3)) (hA : OwA gt 0 (w.heap.size + 2) gt T [.int .i64 k, .bool x, .slice a1 n1 c1, .slice a2 n2 c2, .slice a3 n3 c3] W e W') :
    ∃ a c, Bx W' gt (.int .i64 k) (.bool x) (.slice a T.dat.size c) (.slice a2 n2 c2) (.slice a3 n3 c3) ∧ Bx W' w.heap.size (.int .i64 0) (.bool false) (.slice none 0 0) (.slice none 0 0) (.slice none 0 0) ∧
      DecA T 0 w (.returned (.tuple #[.agg #[.int .i64 k, .bool x, .slice a T.dat.size c, .slice a2 n2 c2, .slice a3 n3 c3], .int .i64 0])) (set5 W' w.heap.size (.int .i64 k) (.bool x) (.slice a T.dat.size c) (.slice a2 n2 c2) (.slice a3 n3 c3)) := by
  obtain ⟨h1, h2, h3, h4, h5, h6, h7⟩ := h
  obtain ⟨_, hF, a, c, hrow, hblk, hL⟩ := hA
  have hz := hF.size
  have hz0 := h1.size
  have hbel : Below w.heap.size w W' := ⟨hF.os.trans h1.os, hF.tape.trans h1.tape, hF.output.trans h1.output, by omega, fun k hk => by rw [hF.block k (by omega) (by omega) (by omega)]; exact h1.block k hk⟩
  refine ⟨a, c, ?_, ?_, below_set5 hbel (Nat.le_refl _) _ _ _ _ _, k, x, a, c, a2, n2, c2, a3, n3, c3, rfl, ?_, ?_⟩
  · have := h3.set2 (.slice a T.dat.size c)
    unfold Bx at this ⊢
    rw [hblk]
    exact this
  · exact h2.of (hF.block _ (by omega) (by omega) (by omega))
  · refine Lyp.lies (S := fun k => (w.heap.size + 2 ≤ k ∧ k < gt) ∨ (W.heap.size ≤ k ∧ k < W'.heap.size)) (hL.same (fun k hk => set5_other _ _ _ _ _ _ _ _ (by omega))) (fun k hk => ?_)
    simp
    omega
  · exact owns_same hrow (fun g hg => set5_other _ _ _ _ _ _ _ _ (by have := (owns_lt hrow g hg).1; omega)) (fun g _ h => by omega)
set_option maxRecDepth 20000 in
set_option maxHeartbeats 1000000 in
theorem decode_any (lo hi : Nat) (b : Value) (B : List UInt8) (w : World) (hr : Row lo hi w b B.length (bv B)) (hlo : lo ≤ hi) (hhi : hi ≤ w.heap.size) (hB : B.length ≤ 4000000) (hW : ∀ p m, (treeS B (.ok (0, 0))).1 = .ok (p, m) → wt (treeS B (.ok (0, 0))).2 ≤ 100000) :
    Calls Try.prog 19 #[b] w (DecA (decS B).1 (decS B).2 w) := by
  obtain ⟨a, c, rfl, hc⟩ := hr.slice
  obtain ⟨Q, hQ⟩ : ∃ Q, Q = DecA (decS B).1 (decS B).2 w := ⟨_, rfl⟩
  rw [← hQ]
  have HQ := hide hQ
  obtain ⟨W0, hW0⟩ : ∃ W0, W0 = (w.alloc (.cells #[.int .i64 0, .bool false, .slice none 0 0, .slice none 0 0, .slice none 0 0] 26)).alloc (.cells #[.slice a B.length c, .int .i64 0, .int .i64 0, .int .i64 0] 69) := ⟨_, rfl⟩
  have hb0 : Below w.heap.size w W0 := by rw [hW0]; exact ((Below.refl _ _).alloc (Nat.le_refl _) _).alloc (by simp) _
  have hs0 : W0.heap.size = w.heap.size + 2 := by rw [hW0]; simp
  have hx0 : Bx W0 w.heap.size (.int .i64 0) (.bool false) (.slice none 0 0) (.slice none 0 0) (.slice none 0 0) := by
    rw [hW0]; exact (bx_new _ _ _ _ _ _).kept ((Below.refl (w.heap.size + 1) _).alloc (by simp) _) (by omega)
  have hR0 : Rst lo hi (w.heap.size + 1) (.slice a B.length c) B W0 (.ok (0, 0)) := by
    refine ⟨⟨?_, hr.below hb0 hhi, Nat.zero_le _, by omega, .inr (by omega), by omega⟩, by omega⟩
    rw [hW0]
    have := rx_new (w.alloc (.cells #[.int .i64 0, .bool false, .slice none 0 0, .slice none 0 0, .slice none 0 0] 26)) (.slice a B.length c) 0 0 0
    simpa using this
  have H1 := hide (rtree_any lo hi (w.heap.size + 1) (.slice a B.length c) B hB W0 (.ok (0, 0)) hR0)
  have HX0 := hide (And.intro hb0 hx0)
  have HS0 := hide hs0
  have HW0 := hide hW0
  have HR := hide hr
  have HDE := hide (And.intro (@decS_err B) (And.intro (@decS_ok B) hW))
  clear hr hQ hb0 hx0 hs0 hR0 hW0 hW
  generalize treeS B (.ok (0, 0)) = R at *
  obtain ⟨τ, T⟩ := R
  go_enter Try.func19, Try.ntmps19
  go_wp2_with fail
  rw [← unhide HW0]
  refine (unhide H1).mono ?_
  rintro x w1 ⟨cs, rfl, hs1, hR1, hT1⟩
  obtain ⟨k', y', b1, n1, d1, b2, n2, d2, b3, n3, d3, rfl⟩ := hT1.form
  have hz1 := hs1.size
  rw [unhide HS0] at hz1 hT1
  obtain ⟨W2, hW2⟩ : ∃ W2, W2 = w1.alloc (.cells #[.int .i64 k', .bool y', .slice b1 n1 d1, .slice b2 n2 d2, .slice b3 n3 d3] 26) := ⟨_, rfl⟩
  have hbw : Below w1.heap.size w1 W2 := by rw [hW2]; exact (Below.refl _ _).alloc (Nat.le_refl _) _
  have hDW : DecW lo hi (.slice a B.length c) B w W2 w1.heap.size τ T (.int .i64 k') (.bool y') (.slice b1 n1 d1) (.slice b2 n2 d2) (.slice b3 n3 d3) := by
    refine ⟨((unhide HX0).1.trans (hs1.below (by omega) (by rw [unhide HS0]; omega))).trans (hbw.mono (by omega)), ((unhide HX0).2.sole hs1 (by omega)).kept hbw (by omega), ?_, hR1.kept hbw hR1.lt hR1.hi, hT1.same (fun k _ hk => hbw.block k hk), by rw [hW2]; simp, by omega⟩
    rw [hW2]; exact bx_new _ _ _ _ _ _
  have H2 := hide (end_any lo hi _ _ B W2 τ hDW.rst)
  have HDW := hide hDW
  have HW2 := hide hW2
  clear hs1 hR1 hT1 hW2 hbw hDW H1 HX0
  go_wp2_with fail
  rw [← unhide HW2]
  refine (unhide H2).mono ?_
  rintro x w3 ⟨rfl, hs3, hR3⟩
  have HD3 := hide ((unhide HDW).call hs3 hR3)
  have H3 := hide (rcheck_any lo hi _ _ B w3 (endS B τ) T lo w1.heap.size _ hR3 ((unhide HD3).lies hlo hhi) (fun p m he => (unhide HDE).2.2 p m (endS_ok he)) (by have := (unhide HD3).sz; omega))
  obtain ⟨y0, y1, y2, y3, y4⟩ := (unhide HD3).bt.cells
  clear hs3 hR3 HDW HW2 H2
  go_wp2_with fail
  refine (unhide H3).mono ?_
  rintro x w4 ⟨rfl, hs4, hR4⟩
  have HD4 := hide ((unhide HD3).call hs4 hR4)
  clear hs4 H3 HD3 y0 y1 y2 y3 y4
  obtain ⟨y0, y1, y2, y3, y4⟩ := (unhide HD4).bt.cells
  obtain ⟨x0, x1, x2, x3, x4⟩ := (unhide HD4).br.cells
  have g0 := (unhide HD4).br.fr 0
  have g1 := (unhide HD4).br.fr 1
  have g2 := (unhide HD4).br.fr 2
  have g3 := (unhide HD4).br.fr 3
  have g4 := (unhide HD4).br.fr 4
  obtain ⟨p, m, e, hRs, hcase⟩ := hR4.rs
  obtain ⟨h0, h1, h2, h3⟩ := hRs.rx.cells
  clear hRs hR4
  rcases hcase with ⟨kk, rfl, rfl, hk, hσ⟩ | ⟨he, hσ⟩
  · have e1 := (unhide HDE).2.1 hσ
    have hwt := (unhide HDE).2.2 _ _ (endS_ok (chkS_ok hσ))
    have HO := hide (own_any (fun v d => Tv lo hi (.slice a B.length c) v B d) lo hi T w1.heap.size 0 (w.heap.size + 2) w1.heap.size _ w4 (fun W v d hW hT => hT W ((unhide HD4).rst.row.same (fun k _ hk => hW k hk))) (unhide HD4).rd (unhide HD4).bt.at5 (.inr (Nat.le_refl _)) (by omega) (by omega) (by have := (unhide HD4).sz; omega) hwt)
    have HE1 := hide e1
    clear e1 hwt hσ
    go_wp2_with fail
    refine (unhide HO).mono ?_
    rintro x w5 hA
    obtain ⟨a5, c5, hx5, hr5, hZ⟩ := dec_end (unhide HD4) hA
    obtain rfl := hA.1
    clear hA HO x0 x1 x2 x3 x4 y0 y1 y2 y3 y4 g0 g1 g2 g3 g4 HD4
    obtain ⟨y0, y1, y2, y3, y4⟩ := hx5.cells
    obtain ⟨x0, x1, x2, x3, x4⟩ := hr5.cells
    have g0 := hr5.fr 0
    have g1 := hr5.fr 1
    have g2 := hr5.fr 2
    have g3 := hr5.fr 3
    have g4 := hr5.fr 4
    have HZ := hide hZ
    clear hZ hx5 hr5
    go_wp2_with fail
    refine bodyPost_ret (v := .tuple #[.agg #[.int .i64 k', .bool y', .slice a5 T.dat.size c5, .slice b2 n2 d2, .slice b3 n3 d3], .int .i64 0]) (by simp [results, Try.results19, go_sem, x0, x1, x2, x3, x4]) rfl ?_
    rw [unhide HQ, unhide HE1]
    exact unhide HZ
  · have e1 := (unhide HDE).1 hσ
    have hbe : (e == 0) = false := by rw [beq_eq_false_iff_ne]; exact he
    have HE1 := hide e1
    clear e1 hσ
    go_wp2_with fail
    go_region
    all_goals
      have HZ : Hid (DecA tr0 e w (.returned (.tuple #[.agg #[.int .i64 0, .bool false, .slice none 0 0, .slice none 0 0, .slice none 0 0], .int .i64 e])) (set5 w4 w.heap.size (.int .i64 0) (.bool false) (.slice none 0 0) (.slice none 0 0) (.slice none 0 0)).drew) := by
        have hb := below_set5 (unhide HD4).below (Nat.le_refl _) (.int .i64 0) (.bool false) (.slice none 0 0) (.slice none 0 0) (.slice none 0 0)
        exact ⟨⟨hb.os, hb.tape, hb.output, hb.size, hb.block⟩, 0, false, none, 0, none, 0, 0, none, 0, 0, rfl, tr0_lies _ _ _, World.ownsRow_nil _ _ _ _⟩
      clear HD4
      go_wp2_with fail
      refine bodyPost_ret (v := .tuple #[.agg #[.int .i64 0, .bool false, .slice none 0 0, .slice none 0 0, .slice none 0 0], .int .i64 e]) (by simp [results, Try.results19, go_sem, x0, x1, x2, x3, x4]) rfl ?_
      rw [unhide HQ, unhide HE1]
      exact unhide HZ
end Go.Proofs.Ytikamklgelcnhaa
/- Split. -/
namespace Go.Proofs.Ytikamklgelcnhaa
open Go.RowKit
set_option linter.unusedSimpArgs false
/-- How many bytes the first archive has, and the error. -/
noncomputable def splS (B : List UInt8) : Nat × Int := match chkS (treeS B (.ok (0, 0))).2 (treeS B (.ok (0, 0))).1 with
  | .error E => (0, E)
  | .ok (p, _) => (p, 0)
theorem splS_err {B : List UInt8} {E : Int} (h : chkS (treeS B (.ok (0, 0))).2 (treeS B (.ok (0, 0))).1 = .error E) : splS B = (0, E) := by unfold splS; rw [h]
theorem splS_ok {B : List UInt8} {p m : Nat} (h : chkS (treeS B (.ok (0, 0))).2 (treeS B (.ok (0, 0))).1 = .ok (p, m)) : splS B = (p, 0) := by unfold splS; rw [h]
set_option maxRecDepth 20000 in
set_option maxHeartbeats 1000000 in
theorem split_any (lo hi : Nat) (b : Value) (B : List UInt8) (w : World) (hr : Row lo hi w b B.length (bv B)) (hlo : lo ≤ hi) (hhi : hi ≤ w.heap.size) (hB : B.length ≤ 4000000) (hW : ∀ p m, (treeS B (.ok (0, 0))).1 = .ok (p, m) → wt (treeS B (.ok (0, 0))).2 ≤ 100000) :
    Calls Try.prog 23 #[b] w fun e w' => e = .returned (.tuple #[.int .i64 ((splS B).1 : Nat), .int .i64 (splS B).2]) ∧ Below w.heap.size w w' := by
  obtain ⟨a, c, rfl, hc⟩ := hr.slice
  obtain ⟨W0, hW0⟩ : ∃ W0, W0 = w.alloc (.cells #[.slice a B.length c, .int .i64 0, .int .i64 0, .int .i64 0] 69) := ⟨_, rfl⟩
  have hb0 : Below w.heap.size w W0 := by rw [hW0]; exact (Below.refl _ _).alloc (Nat.le_refl _) _
  have hs0 : W0.heap.size = w.heap.size + 1 := by rw [hW0]; simp
  have hR0 : Rst lo hi w.heap.size (.slice a B.length c) B W0 (.ok (0, 0)) := by
    refine ⟨⟨?_, hr.below hb0 hhi, Nat.zero_le _, by omega, .inr (by omega), by omega⟩, by omega⟩
    rw [hW0]
    exact rx_new w (.slice a B.length c) 0 0 0
  have H1 := hide (rtree_any lo hi w.heap.size (.slice a B.length c) B hB W0 (.ok (0, 0)) hR0)
  have HB0 := hide hb0
  have HS0 := hide hs0
  have HW0 := hide hW0
  have HDE := hide (And.intro (@splS_err B) (And.intro (@splS_ok B) hW))
  clear hr hb0 hs0 hR0 hW0 hW
  generalize treeS B (.ok (0, 0)) = R at *
  obtain ⟨τ, T⟩ := R
  go_enter Try.func23, Try.ntmps23
  go_wp2_with fail
  rw [← unhide HW0]
  refine (unhide H1).mono ?_
  rintro x w1 ⟨cs, rfl, hs1, hR1, hT1⟩
  obtain ⟨k', y', b1, n1, d1, b2, n2, d2, b3, n3, d3, rfl⟩ := hT1.form
  have hz1 := hs1.size
  rw [unhide HS0] at hz1 hT1
  have hL1 : Lies lo w1.heap.size w1 T _ := hT1.lies (lo0 := lo) (hi0 := hi) (fun v d hD => hD w1 hR1.row) (by omega) (by omega) (Nat.le_refl _)
  have H3 := hide (rcheck_any lo hi _ _ B w1 τ T lo w1.heap.size _ hR1 hL1 (fun p m he => (unhide HDE).2.2 p m he) (Nat.le_refl _))
  have HB1 := hide ((unhide HB0).trans (hs1.below (Nat.le_refl _) (by rw [unhide HS0]; omega)))
  clear hs1 hR1 hT1 hL1 H1 HB0
  go_wp2_with fail
  refine (unhide H3).mono ?_
  rintro x w4 ⟨rfl, hs4, hR4⟩
  have HB4 := hide ((unhide HB1).trans (hs4.below (Nat.le_refl _) (by omega)))
  clear hs4 H3 HB1
  obtain ⟨p, m, e, hRs, hcase⟩ := hR4.rs
  obtain ⟨h0, h1, h2, h3⟩ := hRs.rx.cells
  clear hRs hR4
  rcases hcase with ⟨kk, rfl, rfl, hk, hσ⟩ | ⟨he, hσ⟩
  · have e1 := (unhide HDE).2.1 hσ
    have HE1 := hide e1
    clear e1 hσ
    go_wp2_with fail
    refine bodyPost_ret (v := .tuple #[.int .i64 (p : Int), .int .i64 0]) (by simp [results, Try.results23, go_sem]) rfl ?_
    rw [unhide HE1]
    exact ⟨rfl, unhide HB4⟩
  · have e1 := (unhide HDE).1 hσ
    have hbe : (e == 0) = false := by rw [beq_eq_false_iff_ne]; exact he
    have HE1 := hide e1
    clear e1 hσ
    go_wp2_with fail
    go_region
    all_goals
      go_wp2_with fail
      refine bodyPost_ret (v := .tuple #[.int .i64 0, .int .i64 e]) (by simp [results, Try.results23, go_sem]) rfl ?_
      rw [unhide HE1]
      have hb := unhide HB4
      exact ⟨rfl, hb.os, hb.tape, hb.output, hb.size, hb.block⟩
end Go.Proofs.Ytikamklgelcnhaa
/- The document's read, Decode and Split. -/
namespace Go.Proofs.Ytikamklgelcnhaa
open Go.RowKit
set_option linter.unusedSimpArgs false
noncomputable def rdS (B : List UInt8) (behind : Bool) : RS := chkS (treeS B (.ok (0, 0))).2 (if behind then (treeS B (.ok (0, 0))).1 else endS B (treeS B (.ok (0, 0))).1)
noncomputable def rdR (B : List UInt8) (behind : Bool) : Tr × Nat × Int := match rdS B behind with
  | .error E => (tr0, 0, E)
  | .ok (p, _) => ((treeS B (.ok (0, 0))).2, p, 0)
theorem rdR_err {B : List UInt8} {behind : Bool} {E : Int} (h : chkS (treeS B (.ok (0, 0))).2 (if behind then (treeS B (.ok (0, 0))).1 else endS B (treeS B (.ok (0, 0))).1) = .error E) : rdR B behind = (tr0, 0, E) := by unfold rdR rdS; rw [h]
theorem rdR_ok {B : List UInt8} {behind : Bool} {p m : Nat} (h : chkS (treeS B (.ok (0, 0))).2 (if behind then (treeS B (.ok (0, 0))).1 else endS B (treeS B (.ok (0, 0))).1) = .ok (p, m)) : rdR B behind = ((treeS B (.ok (0, 0))).2, p, 0) := by unfold rdR rdS; rw [h]
def QrA (w : World) (T : Tr) (p : Nat) (E : Int) (e : Ending) (w' : World) : Prop := Below w.heap.size w w' ∧ ∃ k x a1 n1 c1 a2 n2 c2 a3 n3 c3, e = .returned (.tuple #[.agg #[.int .i64 k, .bool x, .slice a1 n1 c1, .slice a2 n2 c2, .slice a3 n3 c3], .int .i64 (p : Int), .int .i64 E]) ∧
  Lies w.heap.size w'.heap.size w' T [.int .i64 k, .bool x, .slice a1 n1 c1, .slice a2 n2 c2, .slice a3 n3 c3]
theorem qr_drew {w : World} {T : Tr} {p : Nat} {E : Int} {e : Ending} {w' : World} (h : QrA w T p E e w') : QrA w T p E e w'.drew := by
  obtain ⟨hb, k, x, a1, n1, c1, a2, n2, c2, a3, n3, c3, he, hL⟩ := h
  exact ⟨hb.drew, k, x, a1, n1, c1, a2, n2, c2, a3, n3, c3, he, hL.same (fun _ _ _ => rfl)⟩
set_option maxRecDepth 20000 in
set_option maxHeartbeats 8000000 in
theorem qread_any (lo hi : Nat) (b : Value) (B : List UInt8) (behind : Bool) (w : World) (hr : Row lo hi w b B.length (bv B)) (hhi : hi ≤ w.heap.size) (hB : B.length ≤ 4000000) (hW : ∀ p m, (treeS B (.ok (0, 0))).1 = .ok (p, m) → wt (treeS B (.ok (0, 0))).2 ≤ 100000) :
    Calls Try.prog 42 #[b, .bool behind] w (QrA w (rdR B behind).1 (rdR B behind).2.1 (rdR B behind).2.2) := by
  obtain ⟨a, c, rfl, hc⟩ := hr.slice
  obtain ⟨Q, hQ⟩ : ∃ Q, Q = QrA w (rdR B behind).1 (rdR B behind).2.1 (rdR B behind).2.2 := ⟨_, rfl⟩
  rw [← hQ]
  have HQ := hide hQ
  obtain ⟨W0, hW0⟩ : ∃ W0, W0 = (w.alloc (.cells #[.int .i64 0, .bool false, .slice none 0 0, .slice none 0 0, .slice none 0 0] 26)).alloc (.cells #[.slice a B.length c, .int .i64 0, .int .i64 0] 116) := ⟨_, rfl⟩
  have hb0 : Below w.heap.size w W0 := by rw [hW0]; exact ((Below.refl _ _).alloc (Nat.le_refl _) _).alloc (by simp) _
  have hs0 : W0.heap.size = w.heap.size + 2 := by rw [hW0]; simp
  have hx0 : Bx W0 w.heap.size (.int .i64 0) (.bool false) (.slice none 0 0) (.slice none 0 0) (.slice none 0 0) := by
    rw [hW0]; exact (bx_new _ _ _ _ _ _).kept ((Below.refl (w.heap.size + 1) _).alloc (by simp) _) (by omega)
  have hR0 : Qst lo hi (w.heap.size + 1) B W0 (.ok (0, 0)) := by
    refine ⟨⟨a, c, ?_, ?_⟩, Nat.zero_le _, by omega, by omega, .inr (by omega), by omega⟩
    · rw [hW0, List.drop_zero]
      have := qx_new (w.alloc (.cells #[.int .i64 0, .bool false, .slice none 0 0, .slice none 0 0, .slice none 0 0] 26)) (.slice a B.length c) 0 0
      simpa using this
    · rw [List.drop_zero]
      exact hr.below hb0 hhi
  have H1 := hide (must_st lo hi (w.heap.size + 1) B W0 (.ok (0, 0)) bMagic hR0)
  have HX0 := hide (And.intro hb0 hx0)
  have HS0 := hide hs0
  have HW0 := hide hW0
  have HDE := hide (And.intro (@rdR_err B behind) (And.intro (@rdR_ok B behind) hW))
  have HB := hide hB
  clear hr hQ hb0 hx0 hs0 hR0 hW0 hW
  go_enter Try.func42, Try.ntmps42
  go_wp2_with fail
  rw [← unhide HW0]
  refine (unhide H1).mono ?_
  rintro x w1 ⟨rfl, hs1, hR1⟩
  have hz1 := hs1.size
  rw [unhide HS0] at hz1
  have HX1 := hide (And.intro ((unhide HX0).1.trans (hs1.below (by omega) (by rw [unhide HS0]; omega))) ((unhide HX0).2.sole hs1 (by omega)))
  have H2 := hide (qnode_any lo hi (w.heap.size + 1) B (unhide HB) 65 1 (by omega) (by omega) (by omega) w1 _ hR1)
  have hTS : nodeS B 65 1 (wantS B (.ok (0, 0)) bMagic) = treeS B (.ok (0, 0)) := rfl
  rw [hTS] at H2
  clear hTS hs1 hR1 H1 HX0 HW0
  generalize treeS B (.ok (0, 0)) = R at *
  obtain ⟨τ, T⟩ := R
  have hone : ((1 : Nat) : Int) = 1 := rfl
  rw [hone] at H2
  clear hone
  go_wp2_with fail
  refine (unhide H2).mono ?_
  rintro x w2 ⟨cs, rfl, hs2, hR2, hL2⟩
  obtain ⟨k', y', b1, n1, d1, b2, n2, d2, b3, n3, d3, rfl⟩ := hL2.form
  have hz2 := hs2.size
  have hba : Below w2.heap.size w2 (w2.alloc (.cells #[.int .i64 k', .bool y', .slice b1 n1 d1, .slice b2 n2 d2, .slice b3 n3 d3] 26)) := (Below.refl _ _).alloc (Nat.le_refl _) _
  have hx2 := (unhide HX1).2.sole hs2 (by omega)
  have hb2 := (unhide HX1).1.trans (hs2.below (by omega) (by omega))
  have hqx := hR2.x
  have HBa := hide (hb2.trans (hba.mono (by omega)))
  have HL2 := hide (And.intro hL2 hba)
  obtain ⟨qa, qk, qc, e, qn, hqx, hcase⟩ := hqx
  obtain ⟨h0, h1, h2⟩ := hqx.cells
  have f1 := hqx.fr 1
  have hnz : w.heap.size + 1 < w2.heap.size := by omega
  have hnw : w.heap.size < w2.heap.size := by omega
  obtain ⟨x0, x1, x2, x3, x4⟩ := hx2.cells
  have g0 := hx2.fr 0
  have g1 := hx2.fr 1
  have g2 := hx2.fr 2
  have g3 := hx2.fr 3
  have g4 := hx2.fr 4
  have HB2 := hide hb2
  have HX2 := hide hx2
  have HQX := hide hqx
  clear hs2 hR2 hL2 H2 HX1 hqx hba hb2 hx2
  rcases hcase with ⟨p, m, rfl, rfl, hm, hp, rfl, rfl⟩ | ⟨he, rfl⟩
  case inr =>
    have hbe : (e == 0) = false := by rw [beq_eq_false_iff_ne]; exact he
    have e1 := (unhide HDE).1 (E := e) (by cases behind <;> rfl)
    have HE1 := hide e1
    clear e1 hz1 hz2
    go_wp2_with fail
    go_region
    all_goals
      have HZ : Hid (QrA w tr0 0 e (.returned (.tuple #[.agg #[.int .i64 0, .bool false, .slice none 0 0, .slice none 0 0, .slice none 0 0], .int .i64 0, .int .i64 e])) ((set5 w2 w.heap.size (.int .i64 0) (.bool false) (.slice none 0 0) (.slice none 0 0) (.slice none 0 0)).alloc (.cells #[.int .i64 k', .bool y', .slice b1 n1 d1, .slice b2 n2 d2, .slice b3 n3 d3] 26)).drew) := by
        have hb := (below_set5 (unhide HB2) (Nat.le_refl _) (.int .i64 0) (.bool false) (.slice none 0 0) (.slice none 0 0) (.slice none 0 0)).alloc (by simp; omega) (.cells #[.int .i64 k', .bool y', .slice b1 n1 d1, .slice b2 n2 d2, .slice b3 n3 d3] 26)
        exact ⟨hb.drew, 0, false, none, 0, 0, none, 0, 0, none, 0, 0, rfl, tr0_lies _ _ _⟩
      go_wp2_with fail
      refine bodyPost_ret (v := .tuple #[.agg #[.int .i64 0, .bool false, .slice none 0 0, .slice none 0 0, .slice none 0 0], .int .i64 0, .int .i64 e]) (by simp [results, Try.results42, go_sem, x0, x1, x2, x3, x4, hnw]) rfl ?_
      rw [unhide HQ, unhide HE1]
      exact unhide HZ
  have HLE : Hid (w.heap.size + 2 ≤ w1.heap.size) := hz1
  have HC3 := hide (checkR_any T w1.heap.size w2.heap.size _ (w2.alloc (.cells #[.int .i64 k', .bool y', .slice b1 n1 d1, .slice b2 n2 d2, .slice b3 n3 d3] 26)) ((unhide HL2).1.kept (unhide HL2).2 (Nat.le_refl _)) ((unhide HDE).2.2 p m rfl) (unhide HL2).2.size)
  have hkk : ((B.length - p : Nat) : Int) = (B.length : Int) - (p : Int) := by omega
  obtain ⟨K, hK⟩ : ∃ K, K = B.length - p := ⟨_, rfl⟩
  have hpp : (B.length : Int) - (K : Int) = (p : Int) := by rw [hK]; omega
  have hpw : wrap64 (p : Int) = (p : Int) := by rw [wrap64]; omega
  rw [← hK] at h0 HQX
  have HKK := hide hK
  have hKp : p < B.length ↔ 0 < K := by omega
  have HF : Hid (¬ (behind = false ∧ 0 < K) → (((chk T 1 0).1 = 0 → rdR B behind = (T, p, 0)) ∧ ((chk T 1 0).1 ≠ 0 → rdR B behind = (tr0, 0, (((chk T 1 0).1 : Nat) : Int))))) := by
    intro hX
    have e : (if behind = true then (.ok (p, m) : RS) else endS B (.ok (p, m))) = .ok (p, m) := by
      cases behind with
      | true => rfl
      | false => simp only [endS]; rw [if_neg (show ¬ p < B.length from fun h => hX ⟨rfl, hKp.1 h⟩)]; rfl
    refine ⟨fun h => (unhide HDE).2.1 (m := m) ?_, fun h => (unhide HDE).1 ?_⟩
    · rw [e]; simp only [chkS]; rw [if_pos h]
    · rw [e]; simp only [chkS]; rw [if_neg h]
  have HG : Hid (behind = false ∧ 0 < K → rdR B behind = (tr0, 0, 3)) := by
    rintro ⟨rfl, hk⟩
    refine (unhide HDE).1 ?_
    simp only [endS]; rw [if_pos (hKp.2 hk)]; rfl
  clear hm hp hK hKp hkk hz1 hz2 HDE hB hc hhi
  by_cases hX : behind = false ∧ 0 < K
  · have HE1 := hide (unhide HG hX)
    obtain ⟨rfl, hk⟩ := hX
    clear HG HF HC3
    go_wp2_with fail
    go_region
    all_goals
      have HZ : Hid (QrA w tr0 0 3 (.returned (.tuple #[.agg #[.int .i64 0, .bool false, .slice none 0 0, .slice none 0 0, .slice none 0 0], .int .i64 0, .int .i64 3])) ((set5 (w2.setCell ⟨w.heap.size + 1, 1, none⟩ (.int .i64 3)) w.heap.size (.int .i64 0) (.bool false) (.slice none 0 0) (.slice none 0 0) (.slice none 0 0)).alloc (.cells #[.int .i64 k', .bool y', .slice b1 n1 d1, .slice b2 n2 d2, .slice b3 n3 d3] 26)).drew) := by
        have hb1 : Below w.heap.size w (w2.setCell ⟨w.heap.size + 1, 1, none⟩ (.int .i64 3)) := (unhide HB2).setCell (show w.heap.size ≤ w.heap.size + 1 by omega) (.int .i64 3)
        have hb := (below_set5 hb1 (Nat.le_refl _) (.int .i64 0) (.bool false) (.slice none 0 0) (.slice none 0 0) (.slice none 0 0)).alloc (by simp; omega) (.cells #[.int .i64 k', .bool y', .slice b1 n1 d1, .slice b2 n2 d2, .slice b3 n3 d3] 26)
        exact ⟨hb.drew, 0, false, none, 0, 0, none, 0, 0, none, 0, 0, rfl, tr0_lies _ _ _⟩
      go_wp2_with fail
      refine bodyPost_ret (v := .tuple #[.agg #[.int .i64 0, .bool false, .slice none 0 0, .slice none 0 0, .slice none 0 0], .int .i64 0, .int .i64 3]) (by simp [results, Try.results42, go_sem, x0, x1, x2, x3, x4, hnw]) rfl ?_
      rw [unhide HQ, unhide HE1]
      exact unhide HZ
  · have HF2 := unhide HF hX
    clear HF HG
    have HF := hide HF2
    clear HF2
    cases behind with
    | true =>
      clear hX
      by_cases hk : 0 < K
      · go_wp2_with fail
        refine (unhide HC3).mono ?_
        rintro x w3 ⟨rfl, hb3⟩
        have hz3 := hb3.size
        rw [World.size_alloc] at hz3
        have hba := (unhide HL2).2
        have hb23 : Below w2.heap.size w2 w3 := hba.trans (hb3.mono (by simp))
        have HB3 := hide ((unhide HB2).trans (hb23.mono (by omega)))
        have hq3 := (unhide HQX).kept hb23 hnz
        have hx3 := (unhide HX2).kept hb23 hnw
        have ht3 : Bx w3 w2.heap.size (.int .i64 k') (.bool y') (.slice b1 n1 d1) (.slice b2 n2 d2) (.slice b3 n3 d3) := (bx_new w2 _ _ _ _ _).kept hb3 (by simp)
        have HL3 := hide ((unhide HL2).1.kept hb23 (Nat.le_refl _))
        clear hb3 hb23 hba HC3 x0 x1 x2 x3 x4 g0 g1 g2 g3 g4 h0 h1 h2 f1
        obtain ⟨h0, h1, h2⟩ := hq3.cells
        have f1 := hq3.fr 1
        obtain ⟨x0, x1, x2, x3, x4⟩ := hx3.cells
        have g0 := hx3.fr 0
        have g1 := hx3.fr 1
        have g2 := hx3.fr 2
        have g3 := hx3.fr 3
        have g4 := hx3.fr 4
        obtain ⟨y0, y1, y2, y3, y4⟩ := ht3.cells
        have hne2 : w2.heap.size ≠ w.heap.size + 1 := by omega
        have hne3 : w2.heap.size ≠ w.heap.size := by omega
        clear hq3 hx3 ht3 hz3
        generalize hE : (chk T 1 0).1 = E at *
        clear hE
        by_cases hE0 : E = 0
        · have HE1 := hide ((unhide HF).1 hE0)
          subst hE0
          have HZ : Hid (QrA w T p 0 (.returned (.tuple #[.agg #[.int .i64 k', .bool y', .slice b1 n1 d1, .slice b2 n2 d2, .slice b3 n3 d3], .int .i64 (p : Int), .int .i64 0])) (set5 (w3.setCell ⟨w.heap.size + 1, 1, none⟩ (.int .i64 0)) w.heap.size (.int .i64 k') (.bool y') (.slice b1 n1 d1) (.slice b2 n2 d2) (.slice b3 n3 d3))) := by
            have hb1 : Below w.heap.size w (w3.setCell ⟨w.heap.size + 1, 1, none⟩ (.int .i64 0)) := (unhide HB3).setCell (show w.heap.size ≤ w.heap.size + 1 by omega) (.int .i64 0)
            have hb := below_set5 hb1 (Nat.le_refl _) (.int .i64 k') (.bool y') (.slice b1 n1 d1) (.slice b2 n2 d2) (.slice b3 n3 d3)
            refine ⟨hb, k', y', b1, n1, d1, b2, n2, d2, b3, n3, d3, rfl, ?_⟩
            have hl := unhide HL3
            have hle := unhide HLE
            refine Lies.mono (hl.same (fun k hk1 hk2 => ?_)) (by omega) (by have := cell_lt y0; simp at this ⊢; omega)
            rw [set5_other _ _ _ _ _ _ _ _ (by omega), set_other _ _ _ _ _ (by omega)]
          clear HL3 HB3 HF
          go_wp2_with fail
          go_region
          all_goals
            go_wp2_with fail
            refine bodyPost_ret (v := .tuple #[.agg #[.int .i64 k', .bool y', .slice b1 n1 d1, .slice b2 n2 d2, .slice b3 n3 d3], .int .i64 (p : Int), .int .i64 0]) (by simp [results, Try.results42, go_sem, x0, x1, x2, x3, x4, hpw]) rfl ?_
            rw [unhide HQ, unhide HE1]
            exact qr_drew (unhide HZ)
        · have hne : (((E : Nat) : Int) == 0) = false := by rw [beq_eq_false_iff_ne]; omega
          have HE1 := hide ((unhide HF).2 hE0)
          clear hE0 HF
          go_wp2_with fail
          go_region
          all_goals
            have HZ : Hid (QrA w tr0 0 ((E : Nat) : Int) (.returned (.tuple #[.agg #[.int .i64 0, .bool false, .slice none 0 0, .slice none 0 0, .slice none 0 0], .int .i64 0, .int .i64 ((E : Nat) : Int)])) (set5 (w3.setCell ⟨w.heap.size + 1, 1, none⟩ (.int .i64 (E : Int))) w.heap.size (.int .i64 0) (.bool false) (.slice none 0 0) (.slice none 0 0) (.slice none 0 0)).drew) := by
              have hb1 : Below w.heap.size w (w3.setCell ⟨w.heap.size + 1, 1, none⟩ (.int .i64 (E : Int))) := (unhide HB3).setCell (show w.heap.size ≤ w.heap.size + 1 by omega) (.int .i64 (E : Int))
              have hb := below_set5 hb1 (Nat.le_refl _) (.int .i64 0) (.bool false) (.slice none 0 0) (.slice none 0 0) (.slice none 0 0)
              exact ⟨hb.drew, 0, false, none, 0, 0, none, 0, 0, none, 0, 0, rfl, tr0_lies _ _ _⟩
            go_wp2_with fail
            refine bodyPost_ret (v := .tuple #[.agg #[.int .i64 0, .bool false, .slice none 0 0, .slice none 0 0, .slice none 0 0], .int .i64 0, .int .i64 ((E : Nat) : Int)]) (by simp [results, Try.results42, go_sem, x0, x1, x2, x3, x4]) rfl ?_
            rw [unhide HQ, unhide HE1]
            exact unhide HZ
      · go_wp2_with fail
        refine (unhide HC3).mono ?_
        rintro x w3 ⟨rfl, hb3⟩
        have hz3 := hb3.size
        rw [World.size_alloc] at hz3
        have hba := (unhide HL2).2
        have hb23 : Below w2.heap.size w2 w3 := hba.trans (hb3.mono (by simp))
        have HB3 := hide ((unhide HB2).trans (hb23.mono (by omega)))
        have hq3 := (unhide HQX).kept hb23 hnz
        have hx3 := (unhide HX2).kept hb23 hnw
        have ht3 : Bx w3 w2.heap.size (.int .i64 k') (.bool y') (.slice b1 n1 d1) (.slice b2 n2 d2) (.slice b3 n3 d3) := (bx_new w2 _ _ _ _ _).kept hb3 (by simp)
        have HL3 := hide ((unhide HL2).1.kept hb23 (Nat.le_refl _))
        clear hb3 hb23 hba HC3 x0 x1 x2 x3 x4 g0 g1 g2 g3 g4 h0 h1 h2 f1
        obtain ⟨h0, h1, h2⟩ := hq3.cells
        have f1 := hq3.fr 1
        obtain ⟨x0, x1, x2, x3, x4⟩ := hx3.cells
        have g0 := hx3.fr 0
        have g1 := hx3.fr 1
        have g2 := hx3.fr 2
        have g3 := hx3.fr 3
        have g4 := hx3.fr 4
        obtain ⟨y0, y1, y2, y3, y4⟩ := ht3.cells
        have hne2 : w2.heap.size ≠ w.heap.size + 1 := by omega
        have hne3 : w2.heap.size ≠ w.heap.size := by omega
        clear hq3 hx3 ht3 hz3
        generalize hE : (chk T 1 0).1 = E at *
        clear hE
        by_cases hE0 : E = 0
        · have HE1 := hide ((unhide HF).1 hE0)
          subst hE0
          have HZ : Hid (QrA w T p 0 (.returned (.tuple #[.agg #[.int .i64 k', .bool y', .slice b1 n1 d1, .slice b2 n2 d2, .slice b3 n3 d3], .int .i64 (p : Int), .int .i64 0])) (set5 (w3.setCell ⟨w.heap.size + 1, 1, none⟩ (.int .i64 0)) w.heap.size (.int .i64 k') (.bool y') (.slice b1 n1 d1) (.slice b2 n2 d2) (.slice b3 n3 d3))) := by
            have hb1 : Below w.heap.size w (w3.setCell ⟨w.heap.size + 1, 1, none⟩ (.int .i64 0)) := (unhide HB3).setCell (show w.heap.size ≤ w.heap.size + 1 by omega) (.int .i64 0)
            have hb := below_set5 hb1 (Nat.le_refl _) (.int .i64 k') (.bool y') (.slice b1 n1 d1) (.slice b2 n2 d2) (.slice b3 n3 d3)
            refine ⟨hb, k', y', b1, n1, d1, b2, n2, d2, b3, n3, d3, rfl, ?_⟩
            have hl := unhide HL3
            have hle := unhide HLE
            refine Lies.mono (hl.same (fun k hk1 hk2 => ?_)) (by omega) (by have := cell_lt y0; simp at this ⊢; omega)
            rw [set5_other _ _ _ _ _ _ _ _ (by omega), set_other _ _ _ _ _ (by omega)]
          clear HL3 HB3 HF
          go_wp2_with fail
          go_region
          all_goals
            go_wp2_with fail
            refine bodyPost_ret (v := .tuple #[.agg #[.int .i64 k', .bool y', .slice b1 n1 d1, .slice b2 n2 d2, .slice b3 n3 d3], .int .i64 (p : Int), .int .i64 0]) (by simp [results, Try.results42, go_sem, x0, x1, x2, x3, x4, hpw]) rfl ?_
            rw [unhide HQ, unhide HE1]
            exact qr_drew (unhide HZ)
        · have hne : (((E : Nat) : Int) == 0) = false := by rw [beq_eq_false_iff_ne]; omega
          have HE1 := hide ((unhide HF).2 hE0)
          clear hE0 HF
          go_wp2_with fail
          go_region
          all_goals
            have HZ : Hid (QrA w tr0 0 ((E : Nat) : Int) (.returned (.tuple #[.agg #[.int .i64 0, .bool false, .slice none 0 0, .slice none 0 0, .slice none 0 0], .int .i64 0, .int .i64 ((E : Nat) : Int)])) (set5 (w3.setCell ⟨w.heap.size + 1, 1, none⟩ (.int .i64 (E : Int))) w.heap.size (.int .i64 0) (.bool false) (.slice none 0 0) (.slice none 0 0) (.slice none 0 0)).drew) := by
              have hb1 : Below w.heap.size w (w3.setCell ⟨w.heap.size + 1, 1, none⟩ (.int .i64 (E : Int))) := (unhide HB3).setCell (show w.heap.size ≤ w.heap.size + 1 by omega) (.int .i64 (E : Int))
              have hb := below_set5 hb1 (Nat.le_refl _) (.int .i64 0) (.bool false) (.slice none 0 0) (.slice none 0 0) (.slice none 0 0)
              exact ⟨hb.drew, 0, false, none, 0, 0, none, 0, 0, none, 0, 0, rfl, tr0_lies _ _ _⟩
            go_wp2_with fail
            refine bodyPost_ret (v := .tuple #[.agg #[.int .i64 0, .bool false, .slice none 0 0, .slice none 0 0, .slice none 0 0], .int .i64 0, .int .i64 ((E : Nat) : Int)]) (by simp [results, Try.results42, go_sem, x0, x1, x2, x3, x4]) rfl ?_
            rw [unhide HQ, unhide HE1]
            exact unhide HZ
    | false =>
      have hk : ¬ 0 < K := fun h => hX ⟨rfl, h⟩
      clear hX
      go_wp2_with fail
      refine (unhide HC3).mono ?_
      rintro x w3 ⟨rfl, hb3⟩
      have hz3 := hb3.size
      rw [World.size_alloc] at hz3
      have hba := (unhide HL2).2
      have hb23 : Below w2.heap.size w2 w3 := hba.trans (hb3.mono (by simp))
      have HB3 := hide ((unhide HB2).trans (hb23.mono (by omega)))
      have hq3 := (unhide HQX).kept hb23 hnz
      have hx3 := (unhide HX2).kept hb23 hnw
      have ht3 : Bx w3 w2.heap.size (.int .i64 k') (.bool y') (.slice b1 n1 d1) (.slice b2 n2 d2) (.slice b3 n3 d3) := (bx_new w2 _ _ _ _ _).kept hb3 (by simp)
      have HL3 := hide ((unhide HL2).1.kept hb23 (Nat.le_refl _))
      clear hb3 hb23 hba HC3 x0 x1 x2 x3 x4 g0 g1 g2 g3 g4 h0 h1 h2 f1
      obtain ⟨h0, h1, h2⟩ := hq3.cells
      have f1 := hq3.fr 1
      obtain ⟨x0, x1, x2, x3, x4⟩ := hx3.cells
      have g0 := hx3.fr 0
      have g1 := hx3.fr 1
      have g2 := hx3.fr 2
      have g3 := hx3.fr 3
      have g4 := hx3.fr 4
      obtain ⟨y0, y1, y2, y3, y4⟩ := ht3.cells
      have hne2 : w2.heap.size ≠ w.heap.size + 1 := by omega
      have hne3 : w2.heap.size ≠ w.heap.size := by omega
      clear hq3 hx3 ht3 hz3
      generalize hE : (chk T 1 0).1 = E at *
      clear hE
      by_cases hE0 : E = 0
      · have HE1 := hide ((unhide HF).1 hE0)
        subst hE0
        have HZ : Hid (QrA w T p 0 (.returned (.tuple #[.agg #[.int .i64 k', .bool y', .slice b1 n1 d1, .slice b2 n2 d2, .slice b3 n3 d3], .int .i64 (p : Int), .int .i64 0])) (set5 (w3.setCell ⟨w.heap.size + 1, 1, none⟩ (.int .i64 0)) w.heap.size (.int .i64 k') (.bool y') (.slice b1 n1 d1) (.slice b2 n2 d2) (.slice b3 n3 d3))) := by
          have hb1 : Below w.heap.size w (w3.setCell ⟨w.heap.size + 1, 1, none⟩ (.int .i64 0)) := (unhide HB3).setCell (show w.heap.size ≤ w.heap.size + 1 by omega) (.int .i64 0)
          have hb := below_set5 hb1 (Nat.le_refl _) (.int .i64 k') (.bool y') (.slice b1 n1 d1) (.slice b2 n2 d2) (.slice b3 n3 d3)
          refine ⟨hb, k', y', b1, n1, d1, b2, n2, d2, b3, n3, d3, rfl, ?_⟩
          have hl := unhide HL3
          have hle := unhide HLE
          refine Lies.mono (hl.same (fun k hk1 hk2 => ?_)) (by omega) (by have := cell_lt y0; simp at this ⊢; omega)
          rw [set5_other _ _ _ _ _ _ _ _ (by omega), set_other _ _ _ _ _ (by omega)]
        clear HL3 HB3 HF
        go_wp2_with fail
        go_region
        all_goals
          go_wp2_with fail
          refine bodyPost_ret (v := .tuple #[.agg #[.int .i64 k', .bool y', .slice b1 n1 d1, .slice b2 n2 d2, .slice b3 n3 d3], .int .i64 (p : Int), .int .i64 0]) (by simp [results, Try.results42, go_sem, x0, x1, x2, x3, x4, hpw]) rfl ?_
          rw [unhide HQ, unhide HE1]
          exact qr_drew (unhide HZ)
      · have hne : (((E : Nat) : Int) == 0) = false := by rw [beq_eq_false_iff_ne]; omega
        have HE1 := hide ((unhide HF).2 hE0)
        clear hE0 HF
        go_wp2_with fail
        go_region
        all_goals
          have HZ : Hid (QrA w tr0 0 ((E : Nat) : Int) (.returned (.tuple #[.agg #[.int .i64 0, .bool false, .slice none 0 0, .slice none 0 0, .slice none 0 0], .int .i64 0, .int .i64 ((E : Nat) : Int)])) (set5 (w3.setCell ⟨w.heap.size + 1, 1, none⟩ (.int .i64 (E : Int))) w.heap.size (.int .i64 0) (.bool false) (.slice none 0 0) (.slice none 0 0) (.slice none 0 0)).drew) := by
            have hb1 : Below w.heap.size w (w3.setCell ⟨w.heap.size + 1, 1, none⟩ (.int .i64 (E : Int))) := (unhide HB3).setCell (show w.heap.size ≤ w.heap.size + 1 by omega) (.int .i64 (E : Int))
            have hb := below_set5 hb1 (Nat.le_refl _) (.int .i64 0) (.bool false) (.slice none 0 0) (.slice none 0 0) (.slice none 0 0)
            exact ⟨hb.drew, 0, false, none, 0, 0, none, 0, 0, none, 0, 0, rfl, tr0_lies _ _ _⟩
          go_wp2_with fail
          refine bodyPost_ret (v := .tuple #[.agg #[.int .i64 0, .bool false, .slice none 0 0, .slice none 0 0, .slice none 0 0], .int .i64 0, .int .i64 ((E : Nat) : Int)]) (by simp [results, Try.results42, go_sem, x0, x1, x2, x3, x4]) rfl ?_
          rw [unhide HQ, unhide HE1]
          exact unhide HZ
theorem rdR_dec (B : List UInt8) : (rdR B false).1 = (decS B).1 ∧ (rdR B false).2.2 = (decS B).2 := by
  unfold rdR rdS decS
  rw [if_neg (by decide)]
  generalize chkS (treeS B (.ok (0, 0))).2 (endS B (treeS B (.ok (0, 0))).1) = R
  match R with
  | .error E => exact ⟨rfl, rfl⟩
  | .ok (p, m) => exact ⟨rfl, rfl⟩
theorem rdR_spl (B : List UInt8) : (rdR B true).2.1 = (splS B).1 ∧ (rdR B true).2.2 = (splS B).2 := by
  unfold rdR rdS splS
  rw [if_pos rfl]
  generalize chkS (treeS B (.ok (0, 0))).2 (treeS B (.ok (0, 0))).1 = R
  match R with
  | .error E => exact ⟨rfl, rfl⟩
  | .ok (p, m) => exact ⟨rfl, rfl⟩
def DecQ (T : Tr) (E : Int) (w : World) (e : Ending) (w' : World) : Prop := Below w.heap.size w w' ∧ ∃ k x a1 n1 c1 a2 n2 c2 a3 n3 c3, e = .returned (.tuple #[.agg #[.int .i64 k, .bool x, .slice a1 n1 c1, .slice a2 n2 c2, .slice a3 n3 c3], .int .i64 E]) ∧
  Lies w.heap.size w'.heap.size w' T [.int .i64 k, .bool x, .slice a1 n1 c1, .slice a2 n2 c2, .slice a3 n3 c3]
set_option maxRecDepth 20000 in
set_option maxHeartbeats 1000000 in
theorem qdecode_any (lo hi : Nat) (b : Value) (B : List UInt8) (w : World) (hr : Row lo hi w b B.length (bv B)) (hhi : hi ≤ w.heap.size) (hB : B.length ≤ 4000000) (hW : ∀ p m, (treeS B (.ok (0, 0))).1 = .ok (p, m) → wt (treeS B (.ok (0, 0))).2 ≤ 100000) :
    Calls Try.prog 20 #[b] w (DecQ (decS B).1 (decS B).2 w) := by
  obtain ⟨e1, e2⟩ := rdR_dec B
  rw [← e1, ← e2]
  obtain ⟨a, c, rfl, hc⟩ := hr.slice
  obtain ⟨W0, hW0⟩ : ∃ W0, W0 = w.alloc (.cells #[.int .i64 0, .bool false, .slice none 0 0, .slice none 0 0, .slice none 0 0] 26) := ⟨_, rfl⟩
  have hb0 : Below w.heap.size w W0 := by rw [hW0]; exact (Below.refl _ _).alloc (Nat.le_refl _) _
  have hx0 : Bx W0 w.heap.size (.int .i64 0) (.bool false) (.slice none 0 0) (.slice none 0 0) (.slice none 0 0) := by rw [hW0]; exact bx_new _ _ _ _ _ _
  have hs0 : W0.heap.size = w.heap.size + 1 := by rw [hW0]; simp
  have H1 := hide (qread_any lo hi _ B false W0 (hr.below hb0 hhi) (by omega) hB hW)
  generalize rdR B false = R at *
  obtain ⟨T, p, E⟩ := R
  have HX0 := hide (And.intro hb0 hx0)
  have HW0 := hide hW0
  have HS0 := hide hs0
  clear hr hb0 hx0 hW0 hs0 hW e1 e2 hhi hB hc
  generalize B.length = N at *
  go_enter Try.func20, Try.ntmps20
  go_wp2_with fail
  rw [← unhide HW0]
  refine (unhide H1).mono ?_
  rintro x w1 ⟨hb1, k, x1, a1, n1, c1, a2, n2, c2, a3, n3, c3, rfl, hL1⟩
  have hz1 := hb1.size
  rw [unhide HS0] at hz1
  have hx1 := (unhide HX0).2.kept hb1 (by rw [unhide HS0]; omega)
  have hbw := (unhide HX0).1.trans (hb1.mono (by rw [unhide HS0]; omega))
  obtain ⟨x0, x1', x2, x3, x4⟩ := hx1.cells
  have g0 := hx1.fr 0
  have g1 := hx1.fr 1
  have g2 := hx1.fr 2
  have g3 := hx1.fr 3
  have g4 := hx1.fr 4
  have hnw : w.heap.size < w1.heap.size := by omega
  have HE : Hid (DecQ T E w (.returned (.tuple #[.agg #[.int .i64 k, .bool x1, .slice a1 n1 c1, .slice a2 n2 c2, .slice a3 n3 c3], .int .i64 E])) ((set5 w1 w.heap.size (.int .i64 k) (.bool x1) (.slice a1 n1 c1) (.slice a2 n2 c2) (.slice a3 n3 c3)).alloc (.cells #[.int .i64 k, .bool x1, .slice a1 n1 c1, .slice a2 n2 c2, .slice a3 n3 c3] 26))) := by
    have hb := below_set5 hbw (Nat.le_refl _) (.int .i64 k) (.bool x1) (.slice a1 n1 c1) (.slice a2 n2 c2) (.slice a3 n3 c3)
    have hb' : Below (set5 w1 w.heap.size (.int .i64 k) (.bool x1) (.slice a1 n1 c1) (.slice a2 n2 c2) (.slice a3 n3 c3)).heap.size (set5 w1 w.heap.size (.int .i64 k) (.bool x1) (.slice a1 n1 c1) (.slice a2 n2 c2) (.slice a3 n3 c3)) ((set5 w1 w.heap.size (.int .i64 k) (.bool x1) (.slice a1 n1 c1) (.slice a2 n2 c2) (.slice a3 n3 c3)).alloc (.cells #[.int .i64 k, .bool x1, .slice a1 n1 c1, .slice a2 n2 c2, .slice a3 n3 c3] 26)) := (Below.refl _ _).alloc (Nat.le_refl _) _
    refine ⟨hb.trans (hb'.mono (by simp; omega)), k, x1, a1, n1, c1, a2, n2, c2, a3, n3, c3, rfl, ?_⟩
    have h1 := hL1.same (w' := set5 w1 w.heap.size (.int .i64 k) (.bool x1) (.slice a1 n1 c1) (.slice a2 n2 c2) (.slice a3 n3 c3)) (fun k hk _ => set5_other _ _ _ _ _ _ _ _ (by rw [unhide HS0] at hk; omega))
    exact (h1.kept hb' (by simp)).mono (by rw [unhide HS0]; omega) (by simp)
  clear hb1 hL1 hx1 hbw H1 HX0 hz1
  go_wp2_with fail
  exact bodyPost_ret (v := .tuple #[.agg #[.int .i64 k, .bool x1, .slice a1 n1 c1, .slice a2 n2 c2, .slice a3 n3 c3], .int .i64 E]) (by simp [results, Try.results20, go_sem, x0, x1', x2, x3, x4, hnw]) rfl (unhide HE)
set_option maxRecDepth 20000 in
set_option maxHeartbeats 1000000 in
theorem qsplit_any (lo hi : Nat) (b : Value) (B : List UInt8) (w : World) (hr : Row lo hi w b B.length (bv B)) (hhi : hi ≤ w.heap.size) (hB : B.length ≤ 4000000) (hW : ∀ p m, (treeS B (.ok (0, 0))).1 = .ok (p, m) → wt (treeS B (.ok (0, 0))).2 ≤ 100000) :
    Calls Try.prog 24 #[b] w fun e w' => e = .returned (.tuple #[.int .i64 ((splS B).1 : Nat), .int .i64 (splS B).2]) ∧ Below w.heap.size w w' := by
  obtain ⟨e1, e2⟩ := rdR_spl B
  rw [← e1, ← e2]
  obtain ⟨a, c, rfl, hc⟩ := hr.slice
  have H1 := hide (qread_any lo hi _ B true w hr hhi hB hW)
  generalize rdR B true = R at *
  obtain ⟨T, p, E⟩ := R
  clear hr hW e1 e2 hhi hB hc
  generalize B.length = N at *
  go_enter Try.func24, Try.ntmps24
  go_wp2_with fail
  refine (unhide H1).mono ?_
  rintro x w1 ⟨hb1, k, x1, a1, n1, c1, a2, n2, c2, a3, n3, c3, rfl, hL1⟩
  have HB := hide (hb1.trans ((Below.refl w1.heap.size w1).alloc (Nat.le_refl _) (.cells #[.int .i64 k, .bool x1, .slice a1 n1 c1, .slice a2 n2 c2, .slice a3 n3 c3] 26) |>.mono hb1.size))
  clear hb1 hL1 H1
  go_wp2_with fail
  exact bodyPost_ret (v := .tuple #[.int .i64 (p : Int), .int .i64 E]) (by simp [results, Try.results24, go_sem]) rfl ⟨rfl, unhide HB⟩
end Go.Proofs.Ytikamklgelcnhaa
