/- isPath and Split, in the code and in the document's own answer. -/
import Derived.Test.YtlbfcneboaihnaaMake
import Derived.Test.YtlbfcneboaihnaaClone
import Derived.OwnWalk
namespace Go.Proofs.Ytlbfcneboaihnaa
namespace Sha
/-- A path: thirty-two digits of twenty bytes, a hyphen, a name. -/
def isPth (p : List Nat) : Prop := 33 ≤ p.length ∧ nth p 32 = 45 ∧ isNm (p.drop 33) = true ∧ good (p.take 32) 20
end Sha
open Go.RowKit Go.Great
def pIx (s : ByteArray) (v : Value) : Sem Value := Instr.index 25 (.string s) v
theorem index_pIx (s : ByteArray) (v : Value) : Instr.index 25 (.string s) v = pIx s v := rfl
theorem run_pIx (p : List Nat) (hb : Sha.Bytes p) (x : Int) (i : Nat) (hx : x = (i : Int)) (h : i < p.length) : ∀ w, (pIx (strOf p) (.int .i64 x)).run Try.prog w = .ok (.int .u8 ((Sha.nth p i : Nat) : Int)) w := by
  subst hx
  intro w
  obtain ⟨h1, h2⟩ := bytesOf_get (strOf p) i (by rw [strOf_size]; exact h)
  rw [bytesOf_strOf p hb] at h2
  unfold pIx
  simp only [Instr.index, asIntOf, Sem.run_bind, Sem.run_pure, Result.andThen_ok, run_underlying Try.underlying25, Int.natCast_nonneg, if_true, Int.toNat_natCast, h1, h2]
theorem run_sIx (p : List Nat) (hb : Sha.Bytes p) (x : Int) (i : Nat) (hx : x = (i : Int)) (h : i < p.length) : ∀ w, (strIx (strOf p) (.int .i64 x)).run Try.prog w = .ok (.int .u8 ((Sha.nth p i : Nat) : Int)) w := by
  have := run_strIx_i (strOf p) x i hx (by rw [strOf_size]; exact h)
  rwa [bytesOf_strOf p hb] at this
theorem strOf_extract (p : List Nat) (a b : Nat) : (strOf p).extract a b = strOf ((p.take b).drop a) := by
  apply ByteArray.ext
  rw [ByteArray.data_extract]
  unfold strOf
  apply Array.ext'
  rw [Array.toList_extract]
  simp [List.drop_take]
theorem parse_20 (q : List Nat) (w : World) (hb : Sha.Bytes q) (hl : q.length = 32) :
    Calls Try.prog 70 #[.string (strOf q), .int .i64 20] w fun e w' => Below w.heap.size w w' ∧ ((Sha.good q 20 ∧ ∃ v, e = .returned (.tuple #[v, .int .i64 0])) ∨ (¬ Sha.good q 20 ∧ e = .returned (.tuple #[.slice none 0 0, .int .i64 3]))) := by
  have := parse_main (strOf q) 20 w (by rw [strOf_size, hl]; rfl) (by omega)
  rw [bytesOf_strOf q hb] at this
  refine Calls.mono this fun e w' h => ⟨h.1, ?_⟩
  rcases h.2 with ⟨h1, v, h2, -⟩ | h
  · exact .inl ⟨h1, v, h2⟩
  · exact .inr h
theorem parseRef_20 (q : List Nat) (w : World) (hb : Sha.Bytes q) (hl : q.length = 32) :
    Calls Try.prog 47 #[.string (strOf q), .int .i64 20] w fun e w' => Below w.heap.size w w' ∧ ((Sha.good q 20 ∧ ∃ v, e = .returned (.tuple #[v, .int .i64 0])) ∨ (¬ Sha.good q 20 ∧ e = .returned (.tuple #[.slice none 0 0, .int .i64 3]))) := by
  have := parseRef_main (strOf q) 20 w (by rw [strOf_size, hl]; rfl) (by omega)
  rw [bytesOf_strOf q hb] at this
  refine Calls.mono this fun e w' h => ⟨h.1, ?_⟩
  rcases h.2 with ⟨h1, v, h2, -⟩ | h
  · exact .inl ⟨h1, v, h2⟩
  · exact .inr h
attribute [local go_sem] index_pIx index_strIx
set_option maxRecDepth 20000 in
set_option maxHeartbeats 1000000 in
theorem isPath_any (p : List Nat) (w : World) (hb : Sha.Bytes p) (hm : p.length ≤ 9223372036854775807) :
    Calls Try.prog 57 #[.string (strOf p)] w fun e w' => Below w.heap.size w w' ∧ ((Sha.isPth p ∧ e = .returned (.bool true)) ∨ (¬ Sha.isPth p ∧ e = .returned (.bool false))) := by
  by_cases h32 : p.length ≤ 32
  · go_enter Try.func57, Try.ntmps57
    go_wp2
    go_ret
    exact ⟨Below.refl _ _, .inr ⟨fun h => by have := h.1; omega, rfl⟩⟩
  · have hix := run_pIx p hb 32 32 rfl (by omega)
    by_cases h45 : Sha.nth p 32 = 45
    · have hx1 : (strOf p).extract 33 p.length = strOf (p.drop 33) := by rw [strOf_extract, List.take_length]
      have hx2 : (strOf p).extract 0 32 = strOf (p.take 32) := by rw [strOf_extract]; rfl
      have hne : (((Sha.nth p 32 : Nat) : Int) != 45) = false := by rw [h45]; rfl
      have hdl : (p.drop 33).length ≤ 9223372036854775807 := by rw [List.length_drop]; omega
      have htl : (p.take 32).length = 32 := by rw [List.length_take]; omega
      have HI : Hid (Sha.isPth p ↔ (Sha.isNm (p.drop 33) = true ∧ Sha.good (p.take 32) 20)) := ⟨fun h => h.2.2, fun h => ⟨by omega, h45, h.1, h.2⟩⟩
      have hb1 := hb.drop 33
      have hb2 := hb.take 32
      generalize List.drop 33 p = N at *
      generalize List.take 32 p = D at *
      cases hN : Sha.isNm N with
      | false =>
        go_enter Try.func57, Try.ntmps57
        go_wp2_with (go_at_call 69; refine (isName_l N _ hb1 hdl).mono ?_; rintro e w' ⟨rfl, hw'⟩; rw [hw', hN]; clear hw' w')
        go_ret
        exact ⟨Below.refl _ _, .inr ⟨fun h => Bool.noConfusion (hN.symm.trans ((unhide HI).1 h).1), rfl⟩⟩
      | true =>
        go_enter Try.func57, Try.ntmps57
        go_wp2_with (first
          | (go_at_call 69; refine (isName_l N _ hb1 hdl).mono ?_; rintro e w' ⟨rfl, hw'⟩; rw [hw', hN]; clear hw' w')
          | (go_at_call 70; fail))
        refine (parse_20 D _ hb2 htl).mono ?_
        rintro e w' ⟨hbl, ⟨hg, v, rfl⟩ | ⟨hg, rfl⟩⟩
        · have HG := hide hg
          clear hg
          go_wp2
          go_ret
          exact ⟨hbl, .inl ⟨(unhide HI).2 ⟨hN, unhide HG⟩, rfl⟩⟩
        · have HG := hide hg
          clear hg
          go_wp2
          go_ret
          exact ⟨hbl, .inr ⟨fun h => unhide HG ((unhide HI).1 h).2, rfl⟩⟩
    · have hne : (((Sha.nth p 32 : Nat) : Int) != 45) = true := by rw [bne_iff_ne]; omega
      go_enter Try.func57, Try.ntmps57
      go_wp2
      go_ret
      exact ⟨Below.refl _ _, .inr ⟨fun h => h45 h.2.1, rfl⟩⟩
/-- What Split answers: the digits and the name, or nothing and an error. -/
def splitV (p : List Nat) (ok : Bool) : Value := if ok then .tuple #[.string (strOf (p.take 32)), .string (strOf (p.drop 33)), .int .i64 0] else .tuple #[.string ⟨#[]⟩, .string ⟨#[]⟩, .int .i64 3]
set_option maxRecDepth 20000 in
set_option maxHeartbeats 1000000 in
theorem split_any (p : List Nat) (w : World) (hb : Sha.Bytes p) (hm : p.length ≤ 281474976710656) :
    Calls Try.prog 41 #[.string (strOf p)] w fun e w' => Below w.heap.size w w' ∧ ((Sha.isPth p ∧ e = .returned (splitV p true)) ∨ (¬ Sha.isPth p ∧ e = .returned (splitV p false))) := by
  go_enter Try.func41, Try.ntmps41
  go_wp2_with fail
  refine (isPath_any p _ hb (by omega)).mono ?_
  rintro e w1 ⟨hbl, ⟨hp, rfl⟩ | ⟨hp, rfl⟩⟩
  · have h33 := hp.1
    have HP := hide hp
    clear hp
    have hx1 : (strOf p).extract 33 p.length = strOf (p.drop 33) := by rw [strOf_extract, List.take_length]
    have hx2 : (strOf p).extract 0 32 = strOf (p.take 32) := by rw [strOf_extract]; rfl
    have hdl : (p.drop 33).length ≤ 281474976710656 := by rw [List.length_drop]; omega
    have htl : (p.take 32).length = 32 := by rw [List.length_take]; omega
    have HV : Hid (splitV p true = .tuple #[.string (strOf (p.take 32)), .string (strOf (p.drop 33)), .int .i64 0]) := rfl
    generalize List.drop 33 p = N at *
    generalize List.take 32 p = D at *
    have hbz := hbl.size
    go_wp2
    go_region_with (go_at_call 45
                    refine (clone_any _ _ (by rw [strOf_size]; omega)).mono ?_
                    rintro e w2 ⟨rfl, hb2⟩
                    have hbl : Below w.heap.size w w2 := (by first | exact hbl | exact hbl.drew : Below w.heap.size w _).trans (hb2.mono (by first | exact hbz | (simp; exact hbz)))
                    have hbz : w.heap.size ≤ w2.heap.size := hbl.size
                    clear hb2)
    all_goals
      go_wp2
      go_ret3
      exact ⟨hbl, .inl ⟨unhide HP, by rw [unhide HV]; rfl⟩⟩
  · have HP := hide hp
    clear hp
    go_wp2
    go_ret3
    exact ⟨hbl, .inr ⟨unhide HP, rfl⟩⟩
set_option maxRecDepth 20000 in
set_option maxHeartbeats 1000000 in
theorem splitRef_any (p : List Nat) (w : World) (hb : Sha.Bytes p) (hm : p.length ≤ 281474976710656) :
    Calls Try.prog 27 #[.string (strOf p)] w fun e w' => Below w.heap.size w w' ∧ ((Sha.isPth p ∧ e = .returned (splitV p true)) ∨ (¬ Sha.isPth p ∧ e = .returned (splitV p false))) := by
  by_cases h32 : p.length < 34
  · go_enter Try.func27, Try.ntmps27
    go_wp2
    go_ret3
    refine ⟨Below.refl _ _, .inr ⟨fun h => ?_, rfl⟩⟩
    have h1 := (isNm_len h.2.2.1).1
    rw [List.length_drop] at h1
    omega
  · have hix := run_sIx p hb 32 32 rfl (by omega)
    by_cases h45 : Sha.nth p 32 = 45
    · have hx1 : (strOf p).extract 33 p.length = strOf (p.drop 33) := by rw [strOf_extract, List.take_length]
      have hx2 : (strOf p).extract 0 32 = strOf (p.take 32) := by rw [strOf_extract]; rfl
      have hne : (((Sha.nth p 32 : Nat) : Int) != 45) = false := by rw [h45]; rfl
      have hdl : (p.drop 33).length ≤ 9223372036854775807 := by rw [List.length_drop]; omega
      have htl : (p.take 32).length = 32 := by rw [List.length_take]; omega
      have HI : Hid (Sha.isPth p ↔ (Sha.isNm (p.drop 33) = true ∧ Sha.good (p.take 32) 20)) := ⟨fun h => h.2.2, fun h => ⟨by omega, h45, h.1, h.2⟩⟩
      have HV : Hid (splitV p true = .tuple #[.string (strOf (p.take 32)), .string (strOf (p.drop 33)), .int .i64 0]) := rfl
      have hb1 := hb.drop 33
      have hb2 := hb.take 32
      generalize List.drop 33 p = N at *
      generalize List.take 32 p = D at *
      cases hN : Sha.isNm N with
      | false =>
        go_enter Try.func27, Try.ntmps27
        go_wp2_with (go_at_call 46; refine (isNameRef_l N _ hb1 hdl).mono ?_; rintro e w' ⟨rfl, hw'⟩; rw [hw', hN]; clear hw' w')
        go_ret3
        exact ⟨Below.refl _ _, .inr ⟨fun h => Bool.noConfusion (hN.symm.trans ((unhide HI).1 h).1), rfl⟩⟩
      | true =>
        go_enter Try.func27, Try.ntmps27
        go_wp2_with (first
          | (go_at_call 46; refine (isNameRef_l N _ hb1 hdl).mono ?_; rintro e w' ⟨rfl, hw'⟩; rw [hw', hN]; clear hw' w')
          | (go_at_call 47; fail))
        refine (parseRef_20 D _ hb2 htl).mono ?_
        rintro e w' ⟨hbl, ⟨hg, v, rfl⟩ | ⟨hg, rfl⟩⟩
        · have HG := hide hg
          clear hg
          go_wp2
          go_region
          all_goals
            go_wp2
            go_ret3
            exact ⟨by first | exact hbl | exact hbl.drew, .inl ⟨(unhide HI).2 ⟨hN, unhide HG⟩, by rw [unhide HV]; rfl⟩⟩
        · have HG := hide hg
          clear hg
          go_wp2
          go_ret3
          exact ⟨hbl, .inr ⟨fun h => unhide HG ((unhide HI).1 h).2, rfl⟩⟩
    · have hne : (((Sha.nth p 32 : Nat) : Int) != 45) = true := by rw [bne_iff_ne]; omega
      go_enter Try.func27, Try.ntmps27
      go_wp2
      go_ret3
      exact ⟨Below.refl _ _, .inr ⟨fun h => h45 h.2.1, rfl⟩⟩
end Go.Proofs.Ytlbfcneboaihnaa
