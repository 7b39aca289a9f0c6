/- A Hasher as a sink: what Hash hands to it. -/
import Derived.Test.YtikamklgelcnhabK7
import Derived.Test.YtikamklgelcnhabK3
namespace Go.Proofs.Ytikamklgelcnhab
open Go.RowKit
set_option linter.unusedSimpArgs false
def nats (xs : List UInt8) : List Nat := xs.map UInt8.toNat
theorem nats_append (a b : List UInt8) : nats (a ++ b) = nats a ++ nats b := by unfold nats; rw [List.map_append]
theorem nats_length (a : List UInt8) : (nats a).length = a.length := by unfold nats; rw [List.length_map]
theorem nats_bytes (a : List UInt8) : Dg.Sha.Bytes (nats a) := fun y hy => by
  obtain ⟨b, _, rfl⟩ := List.mem_map.1 hy
  exact b.toNat_lt
theorem row_bytes {lo hi : Nat} {w : World} {a : Option Addr} {n c : Nat} {ys : List UInt8} (h : Row lo hi w (.slice a n c) n (bv ys)) (hn : ys.length = n) : Dg.BytesAt w (.slice a n c) (nats ys) := by
  obtain ⟨a', c', e, hc, hx⟩ := h
  cases e
  have hl : (nats ys).length = n := by rw [nats_length]; exact hn
  refine ⟨a, c, by rw [hl], by omega, fun h0 => ?_⟩
  obtain ⟨g, o, rfl, h1, h2, hcell⟩ := hx (by omega)
  have hcell' : ∀ i, i < n → w.cell? ⟨g, o + i, none⟩ = some (.int .u8 ((Dg.Sha.nth (nats ys) i : Nat) : Int)) := fun i hi => by
    refine hcell i _ ?_
    unfold bv nats
    rw [List.getElem?_map, List.getElem?_eq_getElem (by omega)]
    simp [Dg.Sha.nth, hn, hi]
  exact ⟨g, o, rfl, cell_lt (hcell' 0 (by omega)), fun i hi => hcell' i (by omega)⟩
/-- The Hasher has these bytes; a variable names it. -/
def HKd (pc : Nat) (w : World) (c : Nat) (xs : List UInt8) : Prop := Dg.Kept w c (nats xs) (Dg.zs 32) ∧ w.cell? ⟨pc, 0, none⟩ = some (.pointer (some ⟨c, 0, none⟩)) ∧ pc ≠ c ∧ c < w.heap.size
theorem sole_dg {g : Nat} {w w' : World} (h : Dg.Sole g w w') : Sole g w w' := ⟨h.1, h.2, h.3, h.4, h.5⟩
set_option maxRecDepth 20000 in
set_option maxHeartbeats 1000000 in
theorem hput_any (pc c : Nat) (xs ys : List UInt8) (lo hi : Nat) (b : Option Addr) (m d : Nat) (w : World) (hk : HKd pc w c xs) (hr : Row lo hi w (.slice b m d) m (bv ys)) (hd : c < lo ∨ hi ≤ c) (hm : ys.length = m) (hmax : xs.length + m ≤ 10000000) :
    Calls Try.prog 14 #[.slice b m d, .pointer (some ⟨pc, 0, none⟩)] w fun e w' => e = .returned (.tuple #[]) ∧ Sole c w w' ∧ HKd pc w' c (xs ++ ys) := by
  obtain ⟨h1, h2, h3, h4⟩ := hk
  have H1 := hide (Dg.write_any c (nats xs) (Dg.zs 32) m d b (nats ys) w h1 (nats_bytes xs) (by rw [nats_length]; exact hm) (nats_bytes ys) (row_bytes hr hm) (fun x hx h0 => by
    rw [nats_length] at h0
    obtain ⟨g, o, e, k1, k2, _⟩ := hr.at (by omega)
    rw [e] at hx
    cases hx
    show g ≠ c
    omega) (by rw [nats_length]; omega))
  have HP := hide (And.intro h2 (And.intro h3 h4))
  clear h1 hr hmax
  go_enter Try.func14, Try.ntmps14
  go_wp2_with fail
  refine (unhide H1).mono ?_
  rintro e w1 ⟨rfl, hk1, hs1⟩
  have hs := sole_dg hs1
  have HZ : Hid (Sole c w w1 ∧ HKd pc w1 c (xs ++ ys)) := by
    refine ⟨hs, by rw [nats_append]; exact hk1, ?_, (unhide HP).2.1, Nat.lt_of_lt_of_le (unhide HP).2.2 hs.size⟩
    rw [World.cell?_of_block (w := w) (a := ⟨pc, 0, none⟩) (hs.block pc (cell_lt (unhide HP).1) (unhide HP).2.1)]
    exact (unhide HP).1
  clear hk1 hs1 hs H1
  go_wp2_with fail
  exact bodyPost_end (v := .tuple #[]) (by simp [results, Try.results14, go_sem]) rfl ⟨rfl, unhide HZ⟩
theorem sinkH (pc : Nat) : SinkD pc (HKd pc) where
  same := fun w w' c xs h hb => by
    obtain ⟨⟨st, rest, hh, h1⟩, h2, h3, h4⟩ := h
    refine ⟨⟨st, rest, ⟨by rw [hb.block c h4]; exact hh.1, hh.2⟩, h1⟩, ?_, h3, Nat.lt_of_lt_of_le h4 hb.size⟩
    rw [World.cell?_of_block (w := w) (a := ⟨pc, 0, none⟩) (hb.block pc (cell_lt h2))]
    exact h2
  put := fun c xs ys lo hi b m d w hk _ hr hd hm hmax => hput_any pc c xs ys lo hi b m d w hk hr hd hm hmax
end Go.Proofs.Ytikamklgelcnhab
