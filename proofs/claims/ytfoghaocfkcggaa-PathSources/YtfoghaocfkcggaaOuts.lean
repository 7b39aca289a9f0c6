/- Source, Text, Fixed and Output, in the code and in the document's own answer: one answer. -/
import Derived.Test.YtfoghaocfkcggaaWith
namespace Go.Proofs.Ytfoghaocfkcggaa
open Go.RowKit Go.Great
/-- A call that answers a path and an error, and leaves all that was there. -/
def Tells (f : Nat) (args : Array Value) (w : World) (p : ByteArray) (x : Int) : Prop :=
  Calls Try.prog f args w fun e w' => e = .returned (.tuple #[.string p, .int .i64 x]) ∧ Below w.heap.size w w'
theorem added_both (k : Ord.S) (Z : List Ord.S) (n l : List Nat) (hl : l.length = 32) (hlb : Sha.Bytes l) (hk : k.length ≤ 10) (hnb : Sha.Bytes n) (hnl : n.length ≤ 9223372036854775807) (hZl : ∀ z ∈ Z, z.length ≤ 281474976710656) :
    ∃ (p : ByteArray) (x : Int), ∀ (Z' : List Ord.S), (∀ z, z ∈ Z' ↔ z ∈ Z) → Z'.length ≤ 600 → ∀ (w : World) (v : Value), StrsAt w v Z' →
      Tells 36 #[.string ⟨k.toArray⟩, .agg (E8 l), v, .string (strOf n)] w p x ∧ Tells 37 #[.string ⟨k.toArray⟩, .agg (E8 l), v, .string (strOf n)] w p x := by
  cases hn : Sha.isNm n with
  | false => exact ⟨⟨#[]⟩, 9, fun Z' _ _ w v _ => ⟨added_no _ v n l w hnb hnl hn, with_no _ v n l w hnb hnl hn⟩⟩
  | true =>
    by_cases hall : ∀ z ∈ Z, Sha.isPth (natsOf z)
    · refine ⟨strOf (Sha.pathOf (natsOf (Ord.kindU k (Ord.uniq Z))) l n), 0, fun Z' hs hlen w v hv => ?_⟩
      have hu : Ord.uniq Z = Ord.uniq Z' := Ord.uniq_same fun z => (hs z).symm
      have hall' : ∀ z ∈ Z', Sha.isPth (natsOf z) := fun z hz => hall z ((hs z).1 hz)
      have hZl' : ∀ z ∈ Z', z.length ≤ 281474976710656 := fun z hz => hZl z ((hs z).1 hz)
      rw [hu]
      have hv' := hv
      obtain ⟨a, c, rfl, hc, hx⟩ := hv
      by_cases h0 : 0 < Z'.length
      · obtain ⟨g, o, rfl, hg, hcell⟩ := hx h0
        constructor
        · refine (added_some k g o c Z' n l w hl hlb hk hnb hn hv' hZl' h0 hlen).mono fun e w' h => ?_
          rcases h with ⟨hb, ⟨_, he⟩ | ⟨⟨z, hz, hnp⟩, _⟩⟩
          · exact ⟨he, hb⟩
          · exact absurd (hall' z hz) hnp
        · refine (with_some k g o c Z' n l w hl hlb hk hnb hn hv' hZl' h0 hlen).mono fun e w' h => ?_
          rcases h with ⟨hb, ⟨_, he⟩ | ⟨⟨z, hz, hnp⟩, _⟩⟩
          · exact ⟨he, hb⟩
          · exact absurd (hall' z hz) hnp
      · obtain rfl : Z' = [] := List.eq_nil_of_length_eq_zero (by omega)
        exact ⟨(added_none k a c n l w hl hlb hk hnb hn).mono fun e w' h => ⟨h.2, h.1⟩, (with_none k a c n l w hl hlb hk hnb hn).mono fun e w' h => ⟨h.2, h.1⟩⟩
    · have hex : ∃ z ∈ Z, ¬ Sha.isPth (natsOf z) := Classical.byContradiction fun h => hall fun z hz => Classical.byContradiction fun h2 => h ⟨z, hz, h2⟩
      refine ⟨⟨#[]⟩, 3, fun Z' hs hlen w v hv => ?_⟩
      obtain ⟨z, hz, hnp⟩ := hex
      have hz' : z ∈ Z' := (hs z).2 hz
      have h0 : 0 < Z'.length := List.length_pos_of_mem hz'
      have hZl' : ∀ z ∈ Z', z.length ≤ 281474976710656 := fun z hz => hZl z ((hs z).1 hz)
      have hv' := hv
      obtain ⟨a, c, rfl, hc, hx⟩ := hv
      obtain ⟨g, o, rfl, hg, hcell⟩ := hx h0
      constructor
      · refine (added_some k g o c Z' n l w hl hlb hk hnb hn hv' hZl' h0 hlen).mono fun e w' h => ?_
        rcases h with ⟨hb, ⟨h, _⟩ | ⟨_, he⟩⟩
        · exact absurd (h z hz') hnp
        · exact ⟨he, hb⟩
      · refine (with_some k g o c Z' n l w hl hlb hk hnb hn hv' hZl' h0 hlen).mono fun e w' h => ?_
        rcases h with ⟨hb, ⟨h, _⟩ | ⟨_, he⟩⟩
        · exact absurd (h z hz') hnp
        · exact ⟨he, hb⟩
theorem make_both (k : Ord.S) (n l : List Nat) (hl : l.length = 32) (hlb : Sha.Bytes l) (hk : k.length ≤ 150000) (hnb : Sha.Bytes n) (hnl : n.length ≤ 9223372036854775807) :
    ∃ (p : ByteArray) (x : Int), ∀ w : World, Tells 11 #[.string ⟨k.toArray⟩, .agg (E8 l), .string (strOf n)] w p x ∧ Tells 12 #[.string ⟨k.toArray⟩, .agg (E8 l), .string (strOf n)] w p x := by
  cases hn : Sha.isNm n with
  | false => exact ⟨⟨#[]⟩, 9, fun w => ⟨make_no _ n l w hnb hnl hn, makeRef_no _ n l w hnb hnl hn⟩⟩
  | true => exact ⟨_, 0, fun w => ⟨makeA_yes k n l w hl hlb hk hnb hn, makeRefA_yes k n l w hl hlb hk hnb hn⟩⟩
def uSrc : Ord.S := [115, 111, 117, 114, 99, 101]
def uText : Ord.S := [116, 101, 120, 116]
def uFixed : Ord.S := [102, 105, 120, 101, 100]
def uOutput : Ord.S := [111, 117, 116, 112, 117, 116]
theorem src_arr : (⟨#[115, 111, 117, 114, 99, 101]⟩ : ByteArray) = ⟨uSrc.toArray⟩ := rfl
theorem text_arr : (⟨#[116, 101, 120, 116]⟩ : ByteArray) = ⟨uText.toArray⟩ := rfl
theorem fixed_arr : (⟨#[102, 105, 120, 101, 100]⟩ : ByteArray) = ⟨uFixed.toArray⟩ := rfl
theorem output_arr : (⟨#[111, 117, 116, 112, 117, 116]⟩ : ByteArray) = ⟨uOutput.toArray⟩ := rfl
set_option maxRecDepth 20000 in
set_option maxHeartbeats 1000000 in
theorem source_of (l : List Nat) (v : Value) (s p : ByteArray) (x : Int) (hl : l.length = 32) (w : World) (h : ∀ w', Below w.heap.size w w' → Tells 36 #[.string ⟨uSrc.toArray⟩, .agg (E8 l), v, .string s] w' p x) :
    Tells 15 #[.agg (E8 l), v, .string s] w p x := by
  have hb0 : Below w.heap.size w (w.alloc (.cells (E8 l) 25)) := (Below.refl _ _).alloc (Nat.le_refl _) _
  have H := hide h
  clear h
  unfold Tells
  go_enter Try.func15, Try.ntmps15
  go_wp2_with fail
  rw [src_arr]
  refine (unhide H _ hb0).mono ?_
  rintro e w1 ⟨rfl, hb1⟩
  have hbl1 : Below w.heap.size w w1 := hb0.trans (hb1.mono (by simp))
  clear hb0 hb1
  go_wp2
  go_ret2
  exact ⟨rfl, hbl1⟩
set_option maxRecDepth 20000 in
set_option maxHeartbeats 1000000 in
theorem sourceRef_of (l : List Nat) (v : Value) (s p : ByteArray) (x : Int) (hl : l.length = 32) (w : World) (h : ∀ w', Below w.heap.size w w' → Tells 37 #[.string ⟨uSrc.toArray⟩, .agg (E8 l), v, .string s] w' p x) :
    Tells 16 #[.agg (E8 l), v, .string s] w p x := by
  have hb0 : Below w.heap.size w (w.alloc (.cells (E8 l) 25)) := (Below.refl _ _).alloc (Nat.le_refl _) _
  have H := hide h
  clear h
  unfold Tells
  go_enter Try.func16, Try.ntmps16
  go_wp2_with fail
  rw [src_arr]
  refine (unhide H _ hb0).mono ?_
  rintro e w1 ⟨rfl, hb1⟩
  have hbl1 : Below w.heap.size w w1 := hb0.trans (hb1.mono (by simp))
  clear hb0 hb1
  go_wp2
  go_ret2
  exact ⟨rfl, hbl1⟩
set_option maxRecDepth 20000 in
set_option maxHeartbeats 1000000 in
theorem text_of (l : List Nat) (v : Value) (s p : ByteArray) (x : Int) (hl : l.length = 32) (w : World) (h : ∀ w', Below w.heap.size w w' → Tells 36 #[.string ⟨uText.toArray⟩, .agg (E8 l), v, .string s] w' p x) :
    Tells 17 #[.agg (E8 l), v, .string s] w p x := by
  have hb0 : Below w.heap.size w (w.alloc (.cells (E8 l) 25)) := (Below.refl _ _).alloc (Nat.le_refl _) _
  have H := hide h
  clear h
  unfold Tells
  go_enter Try.func17, Try.ntmps17
  go_wp2_with fail
  rw [text_arr]
  refine (unhide H _ hb0).mono ?_
  rintro e w1 ⟨rfl, hb1⟩
  have hbl1 : Below w.heap.size w w1 := hb0.trans (hb1.mono (by simp))
  clear hb0 hb1
  go_wp2
  go_ret2
  exact ⟨rfl, hbl1⟩
set_option maxRecDepth 20000 in
set_option maxHeartbeats 1000000 in
theorem textRef_of (l : List Nat) (v : Value) (s p : ByteArray) (x : Int) (hl : l.length = 32) (w : World) (h : ∀ w', Below w.heap.size w w' → Tells 37 #[.string ⟨uText.toArray⟩, .agg (E8 l), v, .string s] w' p x) :
    Tells 18 #[.agg (E8 l), v, .string s] w p x := by
  have hb0 : Below w.heap.size w (w.alloc (.cells (E8 l) 25)) := (Below.refl _ _).alloc (Nat.le_refl _) _
  have H := hide h
  clear h
  unfold Tells
  go_enter Try.func18, Try.ntmps18
  go_wp2_with fail
  rw [text_arr]
  refine (unhide H _ hb0).mono ?_
  rintro e w1 ⟨rfl, hb1⟩
  have hbl1 : Below w.heap.size w w1 := hb0.trans (hb1.mono (by simp))
  clear hb0 hb1
  go_wp2
  go_ret2
  exact ⟨rfl, hbl1⟩
set_option maxRecDepth 20000 in
set_option maxHeartbeats 1000000 in
theorem fixed_of (l : List Nat) (s p : ByteArray) (x : Int) (hl : l.length = 32) (w : World) (h : ∀ w', Below w.heap.size w w' → Tells 11 #[.string ⟨uFixed.toArray⟩, .agg (E8 l), .string s] w' p x) :
    Tells 19 #[.agg (E8 l), .string s] w p x := by
  have hb0 : Below w.heap.size w (w.alloc (.cells (E8 l) 25)) := (Below.refl _ _).alloc (Nat.le_refl _) _
  have H := hide h
  clear h
  unfold Tells
  go_enter Try.func19, Try.ntmps19
  go_wp2_with fail
  rw [fixed_arr]
  refine (unhide H _ hb0).mono ?_
  rintro e w1 ⟨rfl, hb1⟩
  have hbl1 : Below w.heap.size w w1 := hb0.trans (hb1.mono (by simp))
  clear hb0 hb1
  go_wp2
  go_ret2
  exact ⟨rfl, hbl1⟩
set_option maxRecDepth 20000 in
set_option maxHeartbeats 1000000 in
theorem fixedRef_of (l : List Nat) (s p : ByteArray) (x : Int) (hl : l.length = 32) (w : World) (h : ∀ w', Below w.heap.size w w' → Tells 12 #[.string ⟨uFixed.toArray⟩, .agg (E8 l), .string s] w' p x) :
    Tells 20 #[.agg (E8 l), .string s] w p x := by
  have hb0 : Below w.heap.size w (w.alloc (.cells (E8 l) 25)) := (Below.refl _ _).alloc (Nat.le_refl _) _
  have H := hide h
  clear h
  unfold Tells
  go_enter Try.func20, Try.ntmps20
  go_wp2_with fail
  rw [fixed_arr]
  refine (unhide H _ hb0).mono ?_
  rintro e w1 ⟨rfl, hb1⟩
  have hbl1 : Below w.heap.size w w1 := hb0.trans (hb1.mono (by simp))
  clear hb0 hb1
  go_wp2
  go_ret2
  exact ⟨rfl, hbl1⟩
theorem source_both (Z : List Ord.S) (n l : List Nat) (hl : l.length = 32) (hlb : Sha.Bytes l) (hnb : Sha.Bytes n) (hnl : n.length ≤ 9223372036854775807) (hZl : ∀ z ∈ Z, z.length ≤ 281474976710656) :
    ∃ (p : ByteArray) (x : Int), ∀ (Z' : List Ord.S), (∀ z, z ∈ Z' ↔ z ∈ Z) → Z'.length ≤ 600 → ∀ (w : World) (v : Value), StrsAt w v Z' →
      Tells 15 #[.agg (E8 l), v, .string (strOf n)] w p x ∧ Tells 16 #[.agg (E8 l), v, .string (strOf n)] w p x := by
  obtain ⟨p, x, h⟩ := added_both uSrc Z n l hl hlb (by unfold uSrc; decide) hnb hnl hZl
  exact ⟨p, x, fun Z' hs hlen w v hv => ⟨source_of l v _ p x hl w fun w' hb => (h Z' hs hlen w' v (hv.below hb)).1, sourceRef_of l v _ p x hl w fun w' hb => (h Z' hs hlen w' v (hv.below hb)).2⟩⟩
theorem text_both (Z : List Ord.S) (n l : List Nat) (hl : l.length = 32) (hlb : Sha.Bytes l) (hnb : Sha.Bytes n) (hnl : n.length ≤ 9223372036854775807) (hZl : ∀ z ∈ Z, z.length ≤ 281474976710656) :
    ∃ (p : ByteArray) (x : Int), ∀ (Z' : List Ord.S), (∀ z, z ∈ Z' ↔ z ∈ Z) → Z'.length ≤ 600 → ∀ (w : World) (v : Value), StrsAt w v Z' →
      Tells 17 #[.agg (E8 l), v, .string (strOf n)] w p x ∧ Tells 18 #[.agg (E8 l), v, .string (strOf n)] w p x := by
  obtain ⟨p, x, h⟩ := added_both uText Z n l hl hlb (by unfold uText; decide) hnb hnl hZl
  exact ⟨p, x, fun Z' hs hlen w v hv => ⟨text_of l v _ p x hl w fun w' hb => (h Z' hs hlen w' v (hv.below hb)).1, textRef_of l v _ p x hl w fun w' hb => (h Z' hs hlen w' v (hv.below hb)).2⟩⟩
theorem fixed_both (n l : List Nat) (hl : l.length = 32) (hlb : Sha.Bytes l) (hnb : Sha.Bytes n) (hnl : n.length ≤ 9223372036854775807) :
    ∃ (p : ByteArray) (x : Int), ∀ (w : World), Tells 19 #[.agg (E8 l), .string (strOf n)] w p x ∧ Tells 20 #[.agg (E8 l), .string (strOf n)] w p x := by
  obtain ⟨p, x, h⟩ := make_both uFixed n l hl hlb (by unfold uFixed; decide) hnb hnl
  exact ⟨p, x, fun w => ⟨fixed_of l _ p x hl w fun w' _ => (h w').1, fixedRef_of l _ p x hl w fun w' _ => (h w').2⟩⟩
/-- The name of an output's path: the name, or the name, a hyphen and the output's name. -/
def outName (o n : List Nat) : List Nat := if o = [111, 117, 116] then n else n ++ [45] ++ o
theorem outName_bytes {o n : List Nat} (ho : Sha.Bytes o) (hn : Sha.Bytes n) : Sha.Bytes (outName o n) := by
  unfold outName
  split
  · exact hn
  · exact (hn.append (Sha.Bytes.one (by omega))).append ho
def outKind (o : Ord.S) : Ord.S := uOutput ++ (58 :: o)
theorem isNameA (z : Ord.S) (w : World) (hm : z.length ≤ 9223372036854775807) : Calls Try.prog 8 #[.string ⟨z.toArray⟩] w fun e w' => e = .returned (.bool (Sha.isNm (natsOf z))) ∧ w' = w := by
  rw [← strOf_nats]; exact isName_l _ w (natsOf_bytes z) (by rw [natsOf_length]; exact hm)
theorem isNameRefA (z : Ord.S) (w : World) (hm : z.length ≤ 9223372036854775807) : Calls Try.prog 9 #[.string ⟨z.toArray⟩] w fun e w' => e = .returned (.bool (Sha.isNm (natsOf z))) ∧ w' = w := by
  rw [← strOf_nats]; exact isNameRef_l _ w (natsOf_bytes z) (by rw [natsOf_length]; exact hm)
theorem out_is (o : Ord.S) : natsOf o = [111, 117, 116] ↔ o = [111, 117, 116] := by
  constructor
  · intro h; exact natsOf_inj (h.trans (show [111, 117, 116] = natsOf [111, 117, 116] from rfl))
  · rintro rfl; rfl
theorem cat_tail (o : Ord.S) (n : List Nat) : strOf n ++ (⟨#[45]⟩ ++ ⟨o.toArray⟩) = strOf (n ++ [45] ++ natsOf o) := by
  rw [hyphen, ← strOf_nats o, strOf_append, strOf_append, List.append_assoc]
theorem cat_tail2 (o : Ord.S) (n : List Nat) : strOf n ++ ⟨#[45]⟩ ++ ⟨o.toArray⟩ = strOf (n ++ [45] ++ natsOf o) := by
  rw [hyphen, ← strOf_nats o, strOf_append, strOf_append]
theorem outKind_of (o : Ord.S) : Ord.kindU uOutput [o] = outKind o := rfl
set_option maxRecDepth 20000 in
set_option maxHeartbeats 1000000 in
theorem output_no (l : List Nat) (o n : List Nat) (w : World) (hob : Sha.Bytes o) (hnb : Sha.Bytes n) (hol : o.length ≤ 9223372036854775807) (hnl : n.length ≤ 9223372036854775807) (h : Sha.isNm o = false ∨ Sha.isNm n = false) :
    Tells 21 #[.agg (E8 l), .string (strOf o), .string (strOf n)] w ⟨#[]⟩ 9 ∧ Tells 22 #[.agg (E8 l), .string (strOf o), .string (strOf n)] w ⟨#[]⟩ 9 := by
  unfold Tells
  cases hO : Sha.isNm o with
  | false =>
    constructor
    · go_enter Try.func21, Try.ntmps21
      go_wp2_with (go_at_call 8; refine (isName_l o _ hob hol).mono ?_; rintro e w' ⟨rfl, hw'⟩; rw [hw', hO]; clear hw' w')
      go_ret2
      exact ⟨rfl, (Below.refl _ _).alloc (Nat.le_refl _) _⟩
    · go_enter Try.func22, Try.ntmps22
      go_wp2_with (go_at_call 9; refine (isNameRef_l o _ hob hol).mono ?_; rintro e w' ⟨rfl, hw'⟩; rw [hw', hO]; clear hw' w')
      go_ret2
      exact ⟨rfl, (Below.refl _ _).alloc (Nat.le_refl _) _⟩
  | true =>
    have hN : Sha.isNm n = false := by
      rcases h with h | h
      · rw [hO] at h; cases h
      · exact h
    constructor
    · go_enter Try.func21, Try.ntmps21
      go_wp2_with fail
      refine (isName_l o _ hob hol).mono ?_
      rintro e w' ⟨rfl, hw'⟩; rw [hw', hO]; clear hw' w'
      go_wp2_with fail
      refine (isName_l n _ hnb hnl).mono ?_
      rintro e w' ⟨rfl, hw'⟩; rw [hw', hN]; clear hw' w'
      go_wp2
      go_ret2
      exact ⟨rfl, (Below.refl _ _).alloc (Nat.le_refl _) _⟩
    · go_enter Try.func22, Try.ntmps22
      go_wp2_with fail
      refine (isNameRef_l o _ hob hol).mono ?_
      rintro e w' ⟨rfl, hw'⟩; rw [hw', hO]; clear hw' w'
      go_wp2_with fail
      refine (isNameRef_l n _ hnb hnl).mono ?_
      rintro e w' ⟨rfl, hw'⟩; rw [hw', hN]; clear hw' w'
      go_wp2
      go_ret2
      exact ⟨rfl, (Below.refl _ _).alloc (Nat.le_refl _) _⟩
set_option maxRecDepth 20000 in
set_option maxHeartbeats 1000000 in
theorem output_yes (l : List Nat) (o : Ord.S) (n : List Nat) (p : ByteArray) (x : Int) (w : World) (hl : l.length = 32) (hnb : Sha.Bytes n) (hO : Sha.isNm (natsOf o) = true) (hN : Sha.isNm n = true)
    (h : ∀ w, Tells 11 #[.string ⟨(outKind o).toArray⟩, .agg (E8 l), .string (strOf (outName (natsOf o) n))] w p x) :
    Tells 21 #[.agg (E8 l), .string ⟨o.toArray⟩, .string (strOf n)] w p x := by
  have hol := isNm_len hO
  rw [natsOf_length] at hol
  have hnl := isNm_len hN
  have H := hide h
  clear h
  have hwA : Below w.heap.size w (w.alloc (.cells (E8 l) 25)) := (Below.refl _ _).alloc (Nat.le_refl _) _
  have hrA : rowOf (w.alloc (.cells (E8 l) 25)) w.heap.size = E8 l := by simp [go_sem]
  have hzA : w.heap.size + 1 ≤ (w.alloc (.cells (E8 l) 25)).heap.size := by simp
  unfold Tells
  go_enter Try.func21, Try.ntmps21
  go_wp2_with fail
  refine (isNameA o _ (by omega)).mono ?_
  rintro e w' ⟨rfl, hw'⟩; rw [hw', hO]; clear hw' w'
  go_wp2_with fail
  refine (isName_l n _ hnb (by omega)).mono ?_
  rintro e w' ⟨rfl, hw'⟩; rw [hw', hN]; clear hw' w'
  generalize w.alloc (.cells (E8 l) 25) = wA at *
  go_wp2_with fail
  rw [output_arr]
  have hcell : ∀ i, i < 1 → (wA.alloc (.cells #[.string ⟨o.toArray⟩] 9)).cell? ⟨wA.heap.size, 0 + i, none⟩ = some (encStr (([o] : List Ord.S).getD i [])) := fun i hi => by
    obtain rfl : i = 0 := by omega
    simp [go_sem, encStr]
  refine (kindS_some uOutput wA.heap.size 0 1 1 [o] _ rfl (by simp) hcell (by unfold uOutput; decide) (fun z hz => by simp at hz; subst hz; omega) (by omega)).mono ?_
  rw [outKind_of]
  rintro e w2 ⟨rfl, hb2⟩
  have hbl2 : Below w.heap.size w w2 := (hwA.alloc (by omega) _).trans (hb2.mono (by simp; omega))
  have hrow2 : rowOf w2 w.heap.size = E8 l := by
    rw [below_rowOf hb2 (by simp; omega), rowOf_alloc_past _ _ _ (by omega)]; exact hrA
  have hz2 : w.heap.size + 1 ≤ w2.heap.size := by have := hb2.size; simp at this; omega
  clear hb2 hcell hwA hrA hzA
  by_cases hout : o = [111, 117, 116]
  · have HNm : Hid (outName (natsOf o) n = n) := by unfold outName; rw [if_pos ((out_is o).2 hout)]; exact rfl
    have hne : (o == [111, 117, 116]) = true := by rw [hout]; rfl
    clear hout
    go_wp2_with fail
    have h3 := unhide H w2
    rw [unhide HNm] at h3
    refine Calls.mono h3 ?_
    rintro e w3 ⟨rfl, hb3⟩
    have hbl3 : Below w.heap.size w w3 := hbl2.trans (hb3.mono (by omega))
    go_wp2
    go_ret2
    exact ⟨rfl, hbl3⟩
  · have HNm : Hid (outName (natsOf o) n = n ++ [45] ++ natsOf o) := by unfold outName; rw [if_neg (fun h => hout ((out_is o).1 h))]; exact rfl
    have hne : (o == [111, 117, 116]) = false := by rw [beq_eq_false_iff_ne]; exact hout
    clear hout
    have hn1 : ¬ (9223372036854775807 < 1 + o.length) := by omega
    have hn2 : ¬ (9223372036854775807 < n.length + (1 + o.length)) := by omega
    go_wp2_with fail
    rw [cat_tail o n]
    have h3 := unhide H w2
    rw [unhide HNm] at h3
    refine Calls.mono h3 ?_
    rintro e w3 ⟨rfl, hb3⟩
    have hbl3 : Below w.heap.size w w3 := hbl2.trans (hb3.mono (by omega))
    go_wp2
    go_ret2
    exact ⟨rfl, hbl3⟩
theorem kind_cat (o : Ord.S) : (⟨#[111, 117, 116, 112, 117, 116, 58]⟩ : ByteArray) ++ ⟨o.toArray⟩ = ⟨(outKind o).toArray⟩ := by
  apply ByteArray.ext
  unfold outKind uOutput
  simp [ByteArray.data_append]
set_option maxRecDepth 20000 in
set_option maxHeartbeats 1000000 in
theorem outputRef_yes (l : List Nat) (o : Ord.S) (n : List Nat) (p : ByteArray) (x : Int) (w : World) (hl : l.length = 32) (hnb : Sha.Bytes n) (hO : Sha.isNm (natsOf o) = true) (hN : Sha.isNm n = true)
    (h : ∀ w, Tells 12 #[.string ⟨(outKind o).toArray⟩, .agg (E8 l), .string (strOf (outName (natsOf o) n))] w p x) :
    Tells 22 #[.agg (E8 l), .string ⟨o.toArray⟩, .string (strOf n)] w p x := by
  have hol := isNm_len hO
  rw [natsOf_length] at hol
  have hnl := isNm_len hN
  have H := hide h
  clear h
  have hwA : Below w.heap.size w (w.alloc (.cells (E8 l) 25)) := (Below.refl _ _).alloc (Nat.le_refl _) _
  have hrA : rowOf (w.alloc (.cells (E8 l) 25)) w.heap.size = E8 l := by simp [go_sem]
  have hzA : w.heap.size + 1 ≤ (w.alloc (.cells (E8 l) 25)).heap.size := by simp
  have hkc := kind_cat o
  have hn0 : ¬ (9223372036854775807 < 7 + o.length) := by omega
  unfold Tells
  go_enter Try.func22, Try.ntmps22
  go_wp2_with fail
  refine (isNameRefA o _ (by omega)).mono ?_
  rintro e w' ⟨rfl, hw'⟩; rw [hw', hO]; clear hw' w'
  go_wp2_with fail
  refine (isNameRef_l n _ hnb (by omega)).mono ?_
  rintro e w' ⟨rfl, hw'⟩; rw [hw', hN]; clear hw' w'
  generalize w.alloc (.cells (E8 l) 25) = wA at *
  by_cases hout : o = [111, 117, 116]
  · have HNm : Hid (outName (natsOf o) n = n) := by unfold outName; rw [if_pos ((out_is o).2 hout)]; exact rfl
    have hne : (o == [111, 117, 116]) = true := by rw [hout]; rfl
    clear hout
    go_wp2_with fail
    have h3 := unhide H wA
    rw [unhide HNm] at h3
    refine Calls.mono h3 ?_
    rintro e w3 ⟨rfl, hb3⟩
    have hbl3 : Below w.heap.size w w3 := hwA.trans (hb3.mono (by omega))
    go_wp2
    go_ret2
    exact ⟨rfl, hbl3⟩
  · have HNm : Hid (outName (natsOf o) n = n ++ [45] ++ natsOf o) := by unfold outName; rw [if_neg (fun h => hout ((out_is o).1 h))]; exact rfl
    have hne : (o == [111, 117, 116]) = false := by rw [beq_eq_false_iff_ne]; exact hout
    clear hout
    have hn1 : ¬ (9223372036854775807 < n.length + 1) := by omega
    have hn2 : ¬ (9223372036854775807 < n.length + 1 + o.length) := by omega
    go_wp2_with fail
    rw [cat_tail2 o n]
    have h3 := unhide H wA
    rw [unhide HNm] at h3
    refine Calls.mono h3 ?_
    rintro e w3 ⟨rfl, hb3⟩
    have hbl3 : Below w.heap.size w w3 := hwA.trans (hb3.mono (by omega))
    go_wp2
    go_ret2
    exact ⟨rfl, hbl3⟩
theorem output_both (l : List Nat) (o : Ord.S) (n : List Nat) (hl : l.length = 32) (hlb : Sha.Bytes l) (hnb : Sha.Bytes n) (hol : o.length ≤ 9223372036854775807) (hnl : n.length ≤ 9223372036854775807) :
    ∃ (p : ByteArray) (x : Int), ∀ (w : World), Tells 21 #[.agg (E8 l), .string ⟨o.toArray⟩, .string (strOf n)] w p x ∧ Tells 22 #[.agg (E8 l), .string ⟨o.toArray⟩, .string (strOf n)] w p x := by
  by_cases h : Sha.isNm (natsOf o) = true ∧ Sha.isNm n = true
  · obtain ⟨hO, hN⟩ := h
    have h1 := isNm_len hO
    rw [natsOf_length] at h1
    have h2 := isNm_len hN
    have hlen : (outName (natsOf o) n).length ≤ 9223372036854775807 := by
      unfold outName
      split
      · omega
      · simp [natsOf_length]; omega
    obtain ⟨p, x, hm⟩ := make_both (outKind o) (outName (natsOf o) n) l hl hlb (by unfold outKind uOutput; simp; omega) (outName_bytes (natsOf_bytes o) hnb) hlen
    exact ⟨p, x, fun w => ⟨output_yes l o n p x w hl hnb hO hN fun w => (hm w).1, outputRef_yes l o n p x w hl hnb hO hN fun w => (hm w).2⟩⟩
  · refine ⟨⟨#[]⟩, 9, fun w => ?_⟩
    have := output_no l (natsOf o) n w (natsOf_bytes o) hnb (by rw [natsOf_length]; exact hol) hnl (by
      cases hO : Sha.isNm (natsOf o) with
      | false => exact .inl rfl
      | true =>
        cases hN : Sha.isNm n with
        | false => exact .inr rfl
        | true => exact absurd ⟨hO, hN⟩ h)
    rwa [strOf_nats] at this
end Go.Proofs.Ytfoghaocfkcggaa
