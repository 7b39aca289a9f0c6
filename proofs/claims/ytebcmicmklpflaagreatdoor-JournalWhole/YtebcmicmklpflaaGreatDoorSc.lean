/- Two lists of groups that are the same. -/
import Derived.Test.YtebcmicmklpflaaGreatDoorSb
import Derived.Test.YtebcmicmklpflaaGreatDoorHe
namespace Go.Proofs.YtebcmicmklpflaaGreatDoor
open Go.RowKit Go.Maps
set_option linter.unusedSimpArgs false
/-- Rows of records in memory, to be read. -/
def RR (w : World) (v : Value) (G : List (List (List UInt8))) : Prop := ∃ a c, v = .slice a G.length c ∧ ∀ (i : Nat) (ds : List (List UInt8)), G[i]? = some ds → ∃ b0 a' c', a = some ⟨b0, 0, none⟩ ∧ w.cell? ⟨b0, i, none⟩ = some (.slice a' ds.length c') ∧ ∀ (k : Nat) (d : List UInt8), ds[k]? = some d → ∃ b1 x y, a' = some ⟨b1, 0, none⟩ ∧ w.cell? ⟨b1, k, none⟩ = some (.slice x d.length y) ∧ Row w.heap.size w (.slice x d.length y) d
theorem CpG.rr {w W : World} {G : List (List (List UInt8))} (h : CpG w W G G.length) : RR W (.slice (some ⟨w.heap.size, 0, none⟩) G.length G.length) G := by
  obtain ⟨cur, h1, h2, h3⟩ := h.row
  refine ⟨_, _, rfl, fun i ds hi => ?_⟩
  obtain ⟨b, hb, hlo, cur2, k1, k2, k3⟩ := h3 i ds (List.getElem?_eq_some_iff.1 hi).1 hi
  refine ⟨w.heap.size, some ⟨b, 0, none⟩, ds.length, rfl, by simp only [World.cell?, h1]; exact hb, fun k d hd => ?_⟩
  obtain ⟨x, hx, hR⟩ := k3 k d hd
  have hrow := hR.row
  obtain ⟨x', y', e, _⟩ := id hR.toRec
  subst e
  refine ⟨b, x', y', rfl, by simp only [World.cell?, k1]; exact hx, ?_⟩
  obtain ⟨a1, c1, e1, e2, e3⟩ := hrow
  exact ⟨a1, c1, e1, e2, fun h0 => by obtain ⟨g, o, g1, g2, g3⟩ := e3 h0; exact ⟨g, o, g1, g2, g3⟩⟩
/-- What the walk asks for. -/
theorem rr_two {w : World} {a b : Option Addr} {n m c d : Nat} {G : List (List (List UInt8))} (ha : RR w (.slice a n c) G) (hb : RR w (.slice b m d) G) (hG : ∀ ds ∈ G, ds.length ≤ 100000 ∧ ∀ x ∈ ds, x.length ≤ 100000000) : ∀ i, i < G.length → ∃ (b0 b1 L c0 c1 : Nat) (a0 a1 : Option Addr), a = some ⟨b0, 0, none⟩ ∧ b = some ⟨b1, 0, none⟩ ∧ L ≤ 100000 ∧ w.cell? ⟨b0, i, none⟩ = some (.slice a0 L c0) ∧ w.cell? ⟨b1, i, none⟩ = some (.slice a1 L c1) ∧ ∀ k, k < L → ∃ (e0 e1 M y0 y1 : Nat) (x0 x1 : Option Addr), a0 = some ⟨e0, 0, none⟩ ∧ a1 = some ⟨e1, 0, none⟩ ∧ w.cell? ⟨e0, k, none⟩ = some (.slice x0 M y0) ∧ w.cell? ⟨e1, k, none⟩ = some (.slice x1 M y1) ∧ ∀ p, Calls Tryz.prog 31 #[.slice x0 M y0, .slice x1 M y1] (w.drewN p) fun e w' => (∃ q, w' = (w.drewN p).drewN q) ∧ e = .returned (.bool true) := fun i hi => by
  obtain ⟨a', c', ea, h1⟩ := ha
  obtain ⟨b', d', eb, h2⟩ := hb
  injection ea with ea _ _
  injection eb with eb _ _
  subst ea eb
  have e2 : G[i]? = some G[i] := List.getElem?_eq_getElem hi
  obtain ⟨b0, a0, c0, f1, f2, f3⟩ := h1 i _ e2
  obtain ⟨b1, a1, c1, g1, g2, g3⟩ := h2 i _ e2
  have hd := hG _ (List.getElem_mem hi)
  refine ⟨b0, b1, G[i].length, c0, c1, a0, a1, f1, g1, hd.1, f2, g2, fun k hk => ?_⟩
  have e3 : G[i][k]? = some G[i][k] := List.getElem?_eq_getElem hk
  obtain ⟨e0, x0, y0, f4, f5, f6⟩ := f3 k _ e3
  obtain ⟨e1, x1, y1, g4, g5, g6⟩ := g3 k _ e3
  have hm := hd.2 _ (List.getElem_mem hk)
  refine ⟨e0, e1, G[i][k].length, y0, y1, x0, x1, f4, g4, f5, g5, fun p => ?_⟩
  refine (same_any w.heap.size w.heap.size x0 x1 _ _ y0 y1 G[i][k] G[i][k] (w.drewN p) f6 g6 rfl rfl hm hm).mono fun e w' ⟨h5, h6⟩ => ⟨h5, by rw [h6]; simp⟩
set_option maxRecDepth 20000 in
set_option maxHeartbeats 2000000 in
theorem groups_true (a b : Option Addr) (c d : Nat) (G : List (List (List UInt8))) (w : World) (ha : RR w (.slice a G.length c) G) (hb : RR w (.slice b G.length d) G) (hl : G.length ≤ 100000) (hG : ∀ ds ∈ G, ds.length ≤ 100000 ∧ ∀ x ∈ ds, x.length ≤ 100000000) :
    Calls Tryz.prog 19 #[.slice a G.length c, .slice b G.length d] w fun e w' => e = .returned (.bool true) ∧ ∃ q, w' = w.drewN q := by
  have HT := hide (rr_two ha hb hG)
  obtain ⟨N, hN⟩ : ∃ N, N = G.length := ⟨_, rfl⟩
  have HNb := hide (show N ≤ 100000 by omega)
  rw [← hN] at HT ⊢
  clear ha hb hl hG hN
  go_enter Tryz.func19, Tryz.ntmps19
  go_wp2_with fail
  go_loopw [5] (fun i wr => ∃ k p : Nat, k ≤ N ∧ i = .int .i64 k ∧ wr = w.drewN p) (fun i _ => N - (intOf i).toNat)
  case atStart => exact ⟨0, 0, Nat.zero_le _, rfl, rfl⟩
  case round =>
    obtain ⟨k, p, hk, rfl, rfl⟩ := hrel
    by_cases hlt : k < N
    · obtain ⟨b0, b1, L, c0, c1, a0, a1, rfl, rfl, hL, hc0, hc1, hin⟩ := unhide HT k hlt
      have HIn := hide hin
      have HL := hide hL
      have hlt2 : (k : Int) < (N : Int) := by omega
      clear hin HT hk hL
      go_wp2_with fail
      refine wp_region_noPanic ?_
      go_region_with fail
      all_goals
        refine NoPanic.normal ?_
        go_wp2_with fail
        go_loopw [6] (fun i wr => ∃ m q : Nat, m ≤ L ∧ i = .int .i64 m ∧ wr = w.drewN q) (fun i _ => L - (intOf i).toNat)
        case atStart => exact ⟨0, _, Nat.zero_le _, rfl, rfl⟩
        case round =>
          obtain ⟨m, q, hm, rfl, rfl⟩ := hrel
          by_cases hml : m < L
          · obtain ⟨e0, e1, M, y0, y1, x0, x1, rfl, rfl, hd0, hd1, hsame⟩ := unhide HIn m hml
            have HSm := hide (hsame (q + 1))
            have hml2 : (m : Int) < (L : Int) := by omega
            clear hsame HIn hm
            go_wp2_with fail
            refine wp_region_noPanic ?_
            go_region_law (go_simp; refine (unhide HSm).mono ?_; rintro e w5 ⟨⟨q2, rfl⟩, rfl⟩; simp only [])
            all_goals
              refine NoPanic.normal ?_
              go_wp2_with fail
              have hLb := unhide HL
              have e1 : Go.RowKit.wrap64 ((m : Int) + 1) = ((m + 1 : Nat) : Int) := by unfold Go.RowKit.wrap64; omega
              rw [e1]
              exact ⟨⟨m + 1, _, by omega, rfl, rfl⟩, by simp only [intOf, Int.toNat_natCast]; omega⟩
          · obtain rfl : m = L := by omega
            clear HIn hm
            go_wp2_with fail
            have hNb := unhide HNb
            have e1 : Go.RowKit.wrap64 ((k : Int) + 1) = ((k + 1 : Nat) : Int) := by unfold Go.RowKit.wrap64; omega
            rw [e1]
            exact ⟨⟨k + 1, _, by omega, rfl, rfl⟩, by simp only [intOf, Int.toNat_natCast]; omega⟩
    · obtain rfl : k = N := by omega
      clear HT hk
      go_wp2_with fail
      go_ret
      exact ⟨rfl, p, rfl⟩
end Go.Proofs.YtebcmicmklpflaaGreatDoor
