/- Refs: those of some paths that stand in bytes, rising, each once. -/
import Derived.Test.YtlbfcneboaihnaaMet
namespace Go.Proofs.Ytlbfcneboaihnaa
open Go.RowKit Go.Great Go.ChangeMaps Go.MapKept
set_option linter.unusedSimpArgs false
theorem strs_solo {w w' : World} {v : Value} {mb n : Nat} {D : DataW Unit} {Z : List Ord.S} (h : StrsAt w v Z) (hs : Solo mb w w') (ho : w.ownsMap Try.prog 82 unitElem mb n D) : StrsAt w' v Z := by
  obtain ⟨a, cap, e, hc, hm⟩ := h
  refine ⟨a, cap, e, hc, fun h0 => ?_⟩
  obtain ⟨b, o, ea, hl, hcell⟩ := hm h0
  have hne : b ≠ mb := by
    rintro rfl
    obtain ⟨es, clock, hb, _⟩ := ho
    have := hcell 0 h0
    simp [World.cell?, hb] at this
  exact ⟨b, o, ea, Nat.lt_of_lt_of_le hl hs.size, fun i hi => by rw [World.cell?_of_block (w := w) (a := ⟨b, o + i, none⟩) (hs.block b hl hne)]; exact hcell i hi⟩
theorem below_solo {B mb : Nat} {w0 w w' : World} (h : Below B w0 w) (hs : Solo mb w w') (hm : B ≤ mb) (hB : B ≤ w.heap.size) : Below B w0 w' :=
  ⟨hs.os.trans h.os, hs.tape.trans h.tape, hs.output.trans h.output, Nat.le_trans h.size hs.size, fun k hk => (hs.block k (by omega) (by omega)).trans (h.block k hk)⟩
theorem digs_ok {p : Ord.S} (h : IsP p) : (digsOf p).length = 32 ∧ Sha.Bytes (digsOf p) ∧ ∀ j, j < 32 → digB ((digsOf p).getD j 0) = true := by
  obtain ⟨h1, h2⟩ := path_digits h
  exact ⟨h1, (natsOf_bytes p).take 32, h2⟩
open Classical in
theorem metOf_refs {B : List Nat} {of : List Ord.S} {D : DataW Unit} (h : ∀ p, IsP p → p ∈ of → (Maps.has D (rowKey (digsOf p)) = true ↔ ¬ Stands B (digsOf p))) : metOf D (Ord.uniq (pathsOf of)) = refsOf B of := by
  rw [← met_refs]
  refine List.filter_congr fun p hp => ?_
  rw [Ord.uniq_mem, pathsOf_mem] at hp
  have := h p hp.2 hp.1
  by_cases hs : Stands B (digsOf p)
  · rw [decide_eq_true hs]
    cases hh : Maps.has D (rowKey (digsOf p)) with
    | false => rfl
    | true => exact absurd hs (this.1 hh)
  · rw [decide_eq_false hs, this.2 hs]; rfl
set_option maxRecDepth 20000 in
set_option maxHeartbeats 1000000 in
theorem refs_any (a : Option Addr) (n c : Nat) (B : List Nat) (a' : Option Addr) (m c' : Nat) (of : List Ord.S) (w : World) (hb : BytesAt w (.slice a n c) B) (hB : Sha.Bytes B) (hn : B.length = n) (hnm : n ≤ 100000000)
    (hx : StrsAt w (.slice a' m c') of) (hm : of.length = m) (hz : ∀ z ∈ of, z.length ≤ 281474976710656) (hmax : m ≤ 100000) :
    Calls Try.prog 9 #[.slice a n c, .slice a' m c'] w fun e w' => ∃ u, e = .returned u ∧ StrsAt w' u (refsOf B of) ∧ Below w.heap.size w w' := by
  have HS := hide (searchFor_any a' m c' of w hx hm hz hmax)
  have HB := hide hb
  have HF := hide (And.intro hB (And.intro hn hz))
  have HM := hide hm
  clear hb hB hn hx hz hm
  go_enter Try.func9, Try.ntmps9
  go_wp2_with fail
  refine (unhide HS).mono ?_
  rintro e w1 ⟨rfl, vp, hm1, hp1⟩
  obtain ⟨D, ho1, hD1⟩ := hm1.set
  have hat1 : BytesAt w1 (.slice a n c) B := (unhide HB).below hm1.below
  have HL := hide (look_any (w.heap.size + 1) w.heap.size m D a n c B w1 hm1.cell1 ho1 (unhide HF).2.1 hat1 (unhide HF).1 hnm)
  have HM1 := hide hm1
  have HP1 := hide hp1
  have HD1 := hide hD1
  have HO1 := hide ho1
  clear hm1 hp1 hD1 ho1 hat1 HS
  go_wp2_with fail
  refine (unhide HL).mono ?_
  rintro e w2 ⟨rfl, i, r, D', hI, hend⟩
  have hp2 := strs_solo (unhide HP1) hI.solo (unhide HO1)
  have hsz1 := (unhide HM1).size
  have hc0 : w2.cell? ⟨w.heap.size + 1, 0, none⟩ = some vp := by
    rw [World.cell?_of_block (w := w1) (a := ⟨w.heap.size + 1, 0, none⟩) (hI.solo.block (w.heap.size + 1) (by omega) (by omega))]; exact (unhide HM1).cell0
  have hdone := hI.done (unhide HF).2.1 hend
  have hbl2 : Below w.heap.size w w2 := below_solo (unhide HM1).below hI.solo (Nat.le_refl _) (by omega)
  obtain ⟨a3, m3, c3, rfl, hm3⟩ : ∃ a3 m3 c3, vp = .slice a3 m3 c3 ∧ (Ord.uniq (pathsOf of)).length = m3 := by
    obtain ⟨a3, c3, e, _⟩ := hp2
    exact ⟨a3, _, c3, e, rfl⟩
  have hle : m3 ≤ m := by
    have h1 := Ord.uniq_length (pathsOf of)
    have h2 := pathsOf_length of
    have h3 := unhide HM
    omega
  have HMT := hide (met_any (w.heap.size + 1) w.heap.size m D' a3 m3 c3 (Ord.uniq (pathsOf of)) w2 hc0 hI.cell hI.own hp2 hm3 (fun z hz => by
    rw [Ord.uniq_mem, pathsOf_mem] at hz
    exact ⟨hz.2, (unhide HF).2.2 z hz.1⟩) (by omega))
  have HR : Hid (metOf D' (Ord.uniq (pathsOf of)) = refsOf B of) := metOf_refs fun p hp hpo => by
    obtain ⟨h1, h2, h3⟩ := digs_ok hp
    rw [hdone _ h1 h2 h3, unhide HD1 _ h1 h2]
    exact ⟨fun h => h.2, fun h => ⟨⟨p, (pathsOf_mem _ _).2 ⟨hpo, hp⟩, rfl⟩, h⟩⟩
  have HB2 := hide hbl2
  clear hp2 hc0 hdone hbl2 hend hI HL
  go_wp2_with fail
  refine (unhide HMT).mono ?_
  rintro e w3 ⟨u, rfl, hu, hb3⟩
  have HE : Hid (StrsAt w3 u (refsOf B of) ∧ Below w.heap.size w w3) := ⟨by rw [← unhide HR]; exact hu, (unhide HB2).trans (hb3.mono (unhide HB2).size)⟩
  clear hu hb3 HMT
  go_wp2_with fail
  go_ret
  exact ⟨_, rfl, unhide HE⟩
end Go.Proofs.Ytlbfcneboaihnaa
