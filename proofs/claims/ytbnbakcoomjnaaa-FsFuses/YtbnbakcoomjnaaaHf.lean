/- known: one file under two names. -/
import Derived.Test.YtbnbakcoomjnaaaHb
import Derived.Test.YtbnbakcoomjnaaaHd
import Derived.Test.YtbnbakcoomjnaaaHe
import Derived.Lib.SlBytesConst
namespace Go.Proofs.Ytbnbakcoomjnaaa
open Go.RowKit Go.Maps
set_option linter.unusedSimpArgs false
@[go_sem] theorem conv22 (w : World) (C : Array Value) (n l c : Nat) (hn : n = w.heap.size) :
    (convert 22 22 (.slice (some ⟨n, 0, none⟩) l c)).run Try.prog (w.alloc (.cells C 5)) = .ok (.slice (some ⟨n, 0, none⟩) l c) (w.alloc (.cells C 5 (C.size, C.size + 1))) := by
  subst hn; exact Lib.run_convert_bytes_const w 22 5 C l c Try.underlying22 Try.underlying5
/-- A name of one byte. -/
def nm (b : UInt8) : ByteArray := ⟨#[b]⟩
theorem Row.one {w : World} (b : UInt8) {g : Nat} {fz : Nat × Nat} (h : w.heap[g]? = some (.cells #[.int .u8 (b.toNat : Int)] 5 fz)) : Row w.heap.size w (.slice (some ⟨g, 0, none⟩) 1 1) [b] := by
  refine ⟨_, 1, rfl, Nat.le_refl _, fun _ => ⟨g, 0, rfl, (Array.getElem?_eq_some_iff.1 h).1, fun j u hj => ?_⟩⟩
  simp only [World.cell?, h, Nat.zero_add]
  cases j with
  | zero => simpa [byteVals] using hj
  | succ j => simp [byteVals] at hj
theorem Row.two {w : World} (b c : UInt8) {g : Nat} {fz : Nat × Nat} (h : w.heap[g]? = some (.cells #[.int .u8 (b.toNat : Int), .int .u8 (c.toNat : Int)] 5 fz)) : Row w.heap.size w (.slice (some ⟨g, 0, none⟩) 2 2) [b, c] := by
  refine ⟨_, 2, rfl, Nat.le_refl _, fun _ => ⟨g, 0, rfl, (Array.getElem?_eq_some_iff.1 h).1, fun j u hj => ?_⟩⟩
  simp only [World.cell?, h, Nat.zero_add]
  match j with
  | 0 => simpa [byteVals] using hj
  | 1 => simpa [byteVals] using hj
  | j + 2 => simp [byteVals] at hj
/-- A row that was answered. -/
theorem NewData.row {lo : Nat} {w : World} {L : List (Nat × Obj)} {v : Value} {d : List UInt8} (h : NewData lo L v d) (hL : ∀ p ∈ L, w.heap[p.1]? = some p.2) : Row w.heap.size w v d := by
  rcases h with ⟨rfl, rfl, rfl⟩ | ⟨g, cap, cur, rfl, rfl, _, hc, _, hs, ht⟩
  · exact ⟨none, 0, rfl, Nat.le_refl _, fun h => by simp at h⟩
  · have hg := hL _ (List.mem_singleton.2 rfl)
    simp only at hg
    refine ⟨_, cap, rfl, hc, fun _ => ⟨g, 0, rfl, (Array.getElem?_eq_some_iff.1 hg).1, fun j u hj => ?_⟩⟩
    simp only [World.cell?, hg, Nat.zero_add]
    rw [← ht] at hj
    have hj2 := (List.getElem?_eq_some_iff.1 hj).1
    rw [List.length_take] at hj2
    rw [List.getElem?_take_of_lt (by omega)] at hj
    simpa using hj
/-- The FS of known behind its three things. -/
def kS0 : Fs := Fs.new 100
def kS1 (z : Nat) : Fs := kS0.done (kS0.now.write (nm 97) [120] z) (.write (nm 97) [120] z)
def kS2 (z : Nat) : Fs := (kS1 z).done ((kS1 z).now.lay (nm 98) z) (.lay (nm 98) (nm 97))
def kS3 (z : Nat) : Fs := (kS2 z).done ((kS2 z).now.put z ((kS2 z).now.D z ++ [121])) (.fill (nm 98) ((kS2 z).now.D z ++ [121]))
theorem nm_ne : nm 98 ≠ nm 97 := fun h => by simp [nm] at h
theorem k1a (z : Nat) : (kS1 z).now.N (nm 97) = some z := by simp [kS1, Fs.done, Tb.write, Tb.lay, Tb.set, upd]
theorem k1b (z : Nat) : (kS1 z).now.N (nm 98) = none := by simp [kS1, kS0, Fs.new, Fs.done, Tb.write, Tb.lay, Tb.set, Tb.drop, Tb.add, Tb.none, upd, nm_ne]
theorem k2N (z : Nat) (s : ByteArray) : (kS2 z).now.N s = if s = nm 98 then some z else if s = nm 97 then some z else none := by
  simp [kS2, kS1, kS0, Fs.new, Fs.done, Tb.write, Tb.lay, Tb.set, Tb.drop, Tb.add, Tb.none, upd, nm_ne]
theorem k2D (z : Nat) : (kS2 z).now.D z = [120] := by simp [kS2, kS1, kS0, Fs.new, Fs.done, Tb.write, Tb.lay, Tb.set, Tb.drop, Tb.add, Tb.none, upd, nm_ne, updN]
theorem k2u (z : Nat) : (kS2 z).now.u = 1 := by simp [kS2, kS1, kS0, Fs.new, Fs.done, Tb.write, Tb.lay, Tb.set, Tb.drop, Tb.add, Tb.none, upd, nm_ne, updN]
theorem k3N (z : Nat) (s : ByteArray) : (kS3 z).now.N s = if s = nm 98 then some z else if s = nm 97 then some z else none := k2N z s
theorem k3D (z : Nat) : (kS3 z).now.D z = [120, 121] := by
  show updN (kS2 z).now.D z ((kS2 z).now.D z ++ [121]) z = _
  rw [updN_same, k2D]; rfl
theorem k3c (z : Nat) : (kS3 z).now.c z = 2 := by simp [kS3, kS2, kS1, kS0, Fs.new, Fs.done, Tb.write, Tb.lay, Tb.set, Tb.drop, Tb.add, Tb.put, Tb.none, upd, nm_ne, updN]
theorem k3f (z : Nat) (r : ByteArray) (h : ((kS3 z).now.c z = 1 ∧ r = nm 98) ∨ Least (kS3 z).now z (fun _ => false) r) : r = nm 97 := by
  rcases h with ⟨h, _⟩ | ⟨h1, h2⟩
  · rw [k3c] at h; cases h
  · rw [k3N] at h1
    split at h1
    · rename_i e
      have := h2 (nm 97) (by rw [k3N]; simp [nm_ne.symm]) (by simp [nm, ByteArray.size, maxLen]) rfl
      rw [e] at this
      simp [toList_data, nm, Op.bytesLess] at this
    · split at h1
      · assumption
      · cases h1
theorem FFr.toBelow {B : Nat} {O O' : Nat → Prop} {w w1 w2 : World} (hB : Below B w w1) (hF : FFr O O' w1 w2) (hO : ∀ q, O q → B ≤ q) (hs : B ≤ w1.heap.size) : Below B w w2 ∧ ∀ q, O' q → B ≤ q :=
  ⟨hB.trans ⟨hF.os, hF.tape, hF.output, hF.size, fun q hq => hF.rest q (by omega) (fun o => by have := hO q o; omega)⟩, fun q o => by
    rcases hF.new q o with o | o
    · exact hO q o
    · omega⟩
theorem FsIs.below {w w' : World} {f : Nat} {lk : Int} {S : Fs} {O : Nat → Prop} {k : Nat} (h : FsIs w f lk S O k) (hb : Below w.heap.size w w') : FsIs w' f lk S O k := by
  obtain ⟨K, n, l, pv, ps, hM, hk⟩ := h
  exact ⟨K, n, l, pv, ps, hM.below hb, hk⟩
theorem FsIs.alloc {w : World} {f : Nat} {lk : Int} {S : Fs} {O : Nat → Prop} {k : Nat} (h : FsIs w f lk S O k) (o : Obj) : FsIs (w.alloc o) f lk S O k := h.below ((Below.refl _ _).alloc (Nat.le_refl _) o)
set_option maxRecDepth 20000 in
set_option maxHeartbeats 4000000 in
theorem known_any (w : World) : Calls Try.prog 8 #[] w fun e w' => e = .returned (.bool true) ∧ Below w.heap.size w w' := by
  have H0 : Hid (Calls Try.prog 9 #[.int .i64 100] w fun e w' => e = .returned (.tuple #[.pointer (some ⟨w.heap.size, 0, none⟩), .int .i64 0]) ∧ FsIs w' w.heap.size 0 kS0 (fun q => q = w.heap.size) 0 ∧ Below w.heap.size w w') := new_ok 100 w (by omega)
  go_enter Try.func8, Try.ntmps8
  go_wp2_with fail
  refine (unhide H0).mono ?_
  rintro e w1 ⟨rfl, hS1, hb1⟩
  have hz1 : w.heap.size < w1.heap.size := by
    obtain ⟨K, n, l, pv, ps, hM, _⟩ := hS1
    exact hM.lt _ hM.of
  have HW : Hid (∀ fz : Nat × Nat, Calls Try.prog 10 #[.pointer (some ⟨w.heap.size, 0, none⟩), .string (nm 97), .slice (some ⟨w1.heap.size, 0, none⟩) 1 1] (w1.alloc (.cells #[.int .u8 120] 5 fz)) fun e w' => e = .returned (.int .i64 0) ∧ ∃ z O', Hid (FsIs w' w.heap.size 0 (kS1 z) O' 3 ∧ Below w.heap.size w w' ∧ ∀ q, O' q → w.heap.size ≤ q)) := fun fz => by
    refine (write_ok w.heap.size kS0 _ 0 (nm 97) (some ⟨w1.heap.size, 0, none⟩) 1 [120] _ (w1.alloc (.cells #[.int .u8 120] 5 fz)) (hS1.alloc _) (by omega) (by simp [kS0, Fs.new]) (by simp [kS0, Fs.new]) (by simp [nm, ByteArray.size]) (by simp) (by simp [kS0, Fs.new, Tb.none, Tb.alone]) (Row.one 120 (heap_alloc_new w1 _)) (Nat.le_refl _)).mono ?_
    rintro e w' ⟨rfl, z, O', _, h1, h2⟩
    obtain ⟨b1, b2⟩ := FFr.toBelow (hb1.alloc (by omega) (.cells #[.int .u8 120] 5 fz)) h2 (fun q e => by rw [e]; exact Nat.le_refl _) (by simp; omega)
    exact ⟨rfl, z, O', h1, b1, b2⟩
  clear hS1 hb1
  go_wp2_with fail
  refine (unhide HW _).mono ?_
  rintro e w2 ⟨rfl, z, O2, hX2⟩
  have HL : Hid (Calls Try.prog 21 #[.pointer (some ⟨w.heap.size, 0, none⟩), .string (nm 97), .string (nm 98)] w2 fun e w' => e = .returned (.int .i64 0) ∧ ∃ O', Hid (FsIs w' w.heap.size 0 (kS2 z) O' 6 ∧ Below w.heap.size w w' ∧ ∀ q, O' q → w.heap.size ≤ q)) := by
    obtain ⟨hS2, hb2, hO2⟩ := unhide hX2
    refine (link_ok w.heap.size (kS1 z) _ 3 (nm 97) (nm 98) z w2 hS2 (by omega) (by simp [kS1, kS0, Fs.done, Fs.new]) (by simp [kS1, kS0, Fs.done, Fs.new]) (by simp [nm, ByteArray.size]) (by simp [nm, ByteArray.size]) (k1a z) (k1b z)).mono ?_
    rintro e w' ⟨rfl, O', h1, h2⟩
    obtain ⟨b1, b2⟩ := FFr.toBelow hb2 h2 hO2 hb2.size
    exact ⟨rfl, O', h1, b1, b2⟩
  clear hX2 HW
  go_wp2_with fail
  refine (unhide HL).mono ?_
  rintro e w3 ⟨rfl, O3, hX3⟩
  have HA : Hid (∀ fz : Nat × Nat, Calls Try.prog 20 #[.pointer (some ⟨w.heap.size, 0, none⟩), .string (nm 98), .slice (some ⟨w3.heap.size, 0, none⟩) 1 1] (w3.alloc (.cells #[.int .u8 121] 5 fz)) fun e w' => e = .returned (.int .i64 0) ∧ ∃ O', Hid (FsIs w' w.heap.size 0 (kS3 z) O' 9 ∧ Below w.heap.size w w' ∧ ∀ q, O' q → w.heap.size ≤ q)) := fun fz => by
    obtain ⟨hS3, hb3, hO3⟩ := unhide hX3
    refine (append_ok w.heap.size (kS2 z) _ 6 (nm 98) z (some ⟨w3.heap.size, 0, none⟩) 1 [121] _ (w3.alloc (.cells #[.int .u8 121] 5 fz)) (hS3.alloc _) (by omega) (by simp [kS2, kS1, kS0, Fs.done, Fs.new]) (by simp [kS2, kS1, kS0, Fs.done, Fs.new]) (by simp [nm, ByteArray.size]) (by rw [k2N]; simp) (by rw [k2D]; simp) (by rw [k2u]; simp [kS2, kS1, kS0, Fs.done, Fs.new]) (Row.one 121 (heap_alloc_new w3 _))).mono ?_
    rintro e w' ⟨rfl, O', h1, h2⟩
    obtain ⟨b1, b2⟩ := FFr.toBelow (hb3.alloc hb3.size (.cells #[.int .u8 121] 5 fz)) h2 hO3 (by have := hb3.size; simp; omega)
    exact ⟨rfl, O', h1, b1, b2⟩
  clear hX3 HL
  go_wp2_with fail
  refine (unhide HA _).mono ?_
  rintro e w4 ⟨rfl, O4, hX4⟩
  have HR : Hid (Calls Try.prog 15 #[.pointer (some ⟨w.heap.size, 0, none⟩), .string (nm 97)] w4 fun e w' => ∃ a c, e = .returned (.tuple #[.slice a 2 c, .int .i64 0]) ∧ Hid (∃ L, NewData w4.heap.size L (.slice a 2 c) [120, 121] ∧ (∀ p ∈ L, w'.heap[p.1]? = some p.2) ∧ FsIs w' w.heap.size 0 (kS3 z) O4 9 ∧ Below w.heap.size w w')) := by
    obtain ⟨hS4, hb4, hO4⟩ := unhide hX4
    refine (read_ok w.heap.size (kS3 z) _ 9 (nm 97) z w4 hS4 (by simp [nm, ByteArray.size, maxLen]) (by rw [k3N]; simp)).mono ?_
    rintro e w' ⟨a, c, L, e1, h1, h2, h3, h4⟩
    rw [k3D] at e1 h1
    exact ⟨a, c, e1, L, h1, h2, h3, hb4.trans (h4.mono hb4.size)⟩
  clear hX4 HA
  go_wp2_with fail
  refine (unhide HR).mono ?_
  rintro e w5 ⟨ra, rc, rfl, hX5⟩
  have HN : Hid (Calls Try.prog 19 #[.pointer (some ⟨w.heap.size, 0, none⟩), .string (nm 98)] w5 fun e w' => e = .returned (.tuple #[.string ⟨#[97]⟩, .int .i64 2]) ∧ Hid (Row w'.heap.size w' (.slice ra 2 rc) [120, 121] ∧ Below w.heap.size w w')) := by
    obtain ⟨L, hN5, hL5, hS5, hb5⟩ := unhide hX5
    refine (node_ok w.heap.size (kS3 z) _ 9 (nm 98) z w5 hS5 (by omega) (by simp [nm, ByteArray.size]) (fun s' hs' => by
      rw [k3N] at hs'
      split at hs'
      · rename_i e; rw [e]; simp [nm, ByteArray.size]
      · split at hs'
        · rename_i e; rw [e]; simp [nm, ByteArray.size]
        · cases hs') (by rw [k3N]; simp)).mono ?_
    rintro e w' ⟨r, e1, h1, _, _, h4⟩
    have hr := k3f z r h1
    rw [k3c, hr] at e1
    refine ⟨e1, hN5.row (fun p hp => ?_), hb5.trans (h4.mono hb5.size)⟩
    rw [h4.block p.1 (Array.getElem?_eq_some_iff.1 (hL5 p hp)).1]
    exact hL5 p hp
  clear hX5 HR
  go_wp2_with fail
  refine (unhide HN).mono ?_
  rintro e w6 ⟨rfl, hX6⟩
  have HS : Hid (∀ fz : Nat × Nat, Calls Try.prog 16 #[.slice ra 2 rc, .slice (some ⟨w6.heap.size, 0, none⟩) 2 2] (w6.alloc (.cells #[.int .u8 120, .int .u8 121] 5 fz)) fun e w' => e = .returned (.bool true) ∧ Hid (Below w.heap.size w w')) := fun fz => by
    obtain ⟨hR6, hb6⟩ := unhide hX6
    refine (same_any _ _ ra (some ⟨w6.heap.size, 0, none⟩) 2 2 rc 2 [120, 121] [120, 121] (w6.alloc (.cells #[.int .u8 120, .int .u8 121] 5 fz)) (hR6.below ((Below.refl _ _).alloc (Nat.le_refl _) _)) (Row.two 120 121 (heap_alloc_new w6 _)) rfl rfl (by omega) (by omega)).mono ?_
    rintro e w' ⟨⟨q, rfl⟩, e1⟩
    refine ⟨by rw [e1]; simp, ?_⟩
    have := hb6.alloc hb6.size (.cells #[.int .u8 120, .int .u8 121] 5 fz)
    exact ⟨this.os, this.tape, this.output, this.size, this.block⟩
  clear hX6 HN
  go_wp2_with fail
  refine (unhide HS _).mono ?_
  rintro e w7 ⟨rfl, hX7⟩
  go_wp2_with fail
  go_ret
  exact ⟨rfl, unhide hX7⟩
end Go.Proofs.Ytbnbakcoomjnaaa
