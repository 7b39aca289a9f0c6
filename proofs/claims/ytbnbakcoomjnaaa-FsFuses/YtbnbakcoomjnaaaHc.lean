/- first: the least name of a file. -/
import Derived.Test.YtbnbakcoomjnaaaGa
import Derived.Maps.RangeWalk
import Derived.Sort.KeysCollected
import Derived.LaidEqlPtr
namespace Go.Proofs.Ytbnbakcoomjnaaa
open Go.RowKit Go.Maps
set_option linter.unusedSimpArgs false
theorem fileElem_shape (v : Value) (y : DataW Unit × List MemPlace) (h : fileElem v = some y) : ∃ c, v = ptr c := by
  unfold fileElem at h
  split at h
  · exact ⟨none, rfl⟩
  · rename_i g
    exact ⟨some g, rfl⟩
  · cases h
theorem ptrD_inj {a b : Option Nat} (h : ptrD a = ptrD b) : a = b := by
  cases a with
  | none =>
    cases b with
    | none => rfl
    | some g => simp [ptrD] at h
  | some g =>
    cases b with
    | none => simp [ptrD] at h
    | some g' =>
      simp [ptrD] at h
      have : g = g' := by omega
      rw [this]
theorem info94 : ∃ j, Try.prog.info? 94 = some j ∧ j.size ≠ 0 := by
  have h : (Try.prog.info? 94).map (fun i => i.size) = some 2 := by kernel_rfl
  cases hq : Try.prog.info? 94 with
  | none => simp [hq] at h
  | some i => simp [hq] at h; exact ⟨i, rfl, by omega⟩
theorem eq95_nil (a : Addr) (w : World) : (binOp BinOp.eql 95 (.pointer none) (.pointer (some a))).run Try.prog w = .ok (.bool false) w := by
  obtain ⟨j, hj, _⟩ := info94
  have h : ∀ d : Nat, (Op.equalIn (d + 1) 95 (.pointer none) (.pointer (some a))).run Try.prog w = .ok false w := fun d => by
    simp [Op.equalIn, run_underlying Try.underlying95]
  simp only [binOp]
  simp [Op.equal, Op.maxDepth, h 9999]
theorem eq95_same (a : Addr) (w : World) : (binOp BinOp.eql 95 (.pointer (some a)) (.pointer (some a))).run Try.prog w = .ok (.bool true) w := by
  obtain ⟨j, hj, _⟩ := info94
  exact run_eql_ptr_same w a Try.underlying95 hj
theorem eq95_other {g g' : Nat} {x y : Array Value} {w : World} (hne : g ≠ g') (h1 : w.heap[g]? = some (.cells x 94 (0, 0))) (h2 : w.heap[g']? = some (.cells y 94 (0, 0))) : (binOp BinOp.eql 95 (.pointer (some ⟨g, 0, none⟩)) (.pointer (some ⟨g', 0, none⟩))).run Try.prog w = .ok (.bool false) w := by
  obtain ⟨j, hj, hs⟩ := info94
  exact run_eql_ptr_other w Try.underlying95 hj hs (by simp [hne]) h1 h2
theorem less_irr : ∀ a : List UInt8, Op.bytesLess a a = false
  | [] => rfl
  | x :: a => by simp [Op.bytesLess, less_irr a]
theorem less_trans : ∀ (a b c : List UInt8), Op.bytesLess a b = true → Op.bytesLess b c = true → Op.bytesLess a c = true
  | _, b, [], _, h => by cases b <;> simp [Op.bytesLess] at h
  | [], _, _ :: _, _, _ => by simp [Op.bytesLess]
  | _ :: _, [], _ :: _, h, _ => by simp [Op.bytesLess] at h
  | x :: a, y :: b, z :: c, h, k => by
    simp [Op.bytesLess] at h k ⊢
    rcases h with h | ⟨rfl, h⟩ <;> rcases k with k | ⟨rfl, k⟩
    · exact .inl (UInt8.lt_trans h k)
    · exact .inl h
    · exact .inl k
    · exact .inr ⟨rfl, less_trans a b c h k⟩
theorem toList_data (s : ByteArray) : s.toList = s.data.toList := ByteArray.toList_eq s
theorem bytes_eq {s t : ByteArray} (h : s.data.toList = t.data.toList) : s = t := by
  cases s; cases t
  simp at h
  rw [h]
/-- r is the least name that was met of a file. -/
def Least (T : Tb) (i : Nat) (left : Lit → Bool) (r : ByteArray) : Prop := T.N r = some i ∧ ∀ s', T.N s' = some i → s'.size ≤ maxLen → left (.string s'.data.toList) = false → Op.bytesLess s'.toList r.toList = false
theorem Least.skip {T : Tb} {i : Nat} {left : Lit → Bool} {r q : ByteArray} (h : Least T i left r) (hq : T.N q ≠ some i ∨ Op.bytesLess q.toList r.toList = false) : Least T i (fun z => left z && !z.sameKey (.string q.data.toList)) r :=
  ⟨h.1, fun s' h1 h2 h3 => by
    simp only [Bool.and_eq_false_iff, Bool.not_eq_false'] at h3
    rcases h3 with h3 | h3
    · exact h.2 s' h1 h2 h3
    · have e := WideAt.sameKey_eq h3
      injection e with e
      have e2 := bytes_eq e
      subst e2
      rcases hq with hq | hq
      · exact absurd h1 hq
      · exact hq⟩
theorem Least.take {T : Tb} {i : Nat} {left : Lit → Bool} {r q : ByteArray} (h : Least T i left r) (hN : T.N q = some i) (hq : Op.bytesLess q.toList r.toList = true) : Least T i (fun z => left z && !z.sameKey (.string q.data.toList)) q :=
  ⟨hN, fun s' h1 h2 h3 => by
    simp only [Bool.and_eq_false_iff, Bool.not_eq_false'] at h3
    rcases h3 with h3 | h3
    · have h4 := h.2 s' h1 h2 h3
      cases h5 : Op.bytesLess s'.toList q.toList with
      | false => rfl
      | true => rw [less_trans _ _ _ h5 hq] at h4; cases h4
    · have e := WideAt.sameKey_eq h3
      injection e with e
      have e2 := bytes_eq e
      subst e2
      exact less_irr _⟩
/-- A key at which something stands is there. -/
theorem has_of {w : World} {mb n : Nat} {D : DataW Unit} (ho : w.ownsMap Try.prog 9 fileElem mb n D) {s : ByteArray} {o : Option Nat} (h : D.atKey (.string s.data.toList) .nil = ptrD o) (hn : o.isSome = true) : Maps.has D (.string s.data.toList) = true := by
  have hm : ∃ E, D = .map E := by
    obtain ⟨es, cl, hb, _, _, e⟩ := ho
    exact ⟨_, e⟩
  obtain ⟨E, rfl⟩ := hm
  simp only [DataW.atKey] at h
  rw [Maps.has_eq]
  cases hf : List.find? (fun p => p.1.sameKey (Lit.string s.data.toList)) E with
  | none =>
    rw [hf] at h
    cases o with
    | none => cases hn
    | some g => simp [ptrD] at h
  | some p =>
    have h2 := List.find?_some hf
    exact List.any_eq_true.2 ⟨p, List.mem_of_find?_eq_some hf, h2⟩
def FirstR (mb n : Nat) (D : DataW Unit) (T : Tb) (i : Nat) (w' : World) (x : Value) (wr : World) : Prop :=
  ∃ (r : ByteArray) (left : Lit → Bool) (cnt : Nat), x = .string r ∧ r.size ≤ maxLen ∧ Least T i left r ∧ wr.ranges Try.prog 9 fileElem mb w'.heap.size n D left cnt ∧ Below w'.heap.size w' wr
set_option maxRecDepth 20000 in
set_option maxHeartbeats 1000000 in
theorem first_any (f o : Nat) (K : Nat → Option (List UInt8)) (m : Option Nat) (n : Nat) (T : Tb) (F : Nat → Prop) (b : Nat → Nat) (h : Nat → Value) (s : ByteArray) (i : Nat) (w : World) (hc : w.cell? ⟨f, o, none⟩ = some (.map m)) (hT : TabM w K m n T F b h) (hs : s.size ≤ maxLen) (hN : T.N s = some i) :
    Calls Try.prog 55 #[.pointer (some ⟨f, o, none⟩), .string s] w fun e w' => ∃ r : ByteArray, e = .returned (.string r) ∧ r.size ≤ maxLen ∧ Below w.heap.size w w' ∧ ((T.c i = 1 ∧ r = s) ∨ Least T i (fun _ => false) r) := by
  have hi := hT.live s i hN
  have hfi := hT.file i hi
  have hg1 : w.cell? ⟨b i, 1, none⟩ = some (.int .i32 (T.c i)) := by simp [World.cell?, hfi]
  have hl := tab_look hT.tab hs
  simp only [hN, Option.map_some] at hl
  unfold ptr at hl
  have HL := hide (load32 ⟨b i, 1, none⟩ (T.c i) w hg1)
  have hmn : ∃ mb, m = some mb := by
    cases m with
    | none => have := hT.tab s; simp [hN] at this
    | some mb => exact ⟨mb, rfl⟩
  obtain ⟨mb, rfl⟩ := hmn
  by_cases h1 : T.c i = 1
  · have HE : Hid (∃ r : ByteArray, (Ending.returned (.string s)) = .returned (.string r) ∧ r.size ≤ maxLen ∧ Below w.heap.size w w ∧ ((T.c i = 1 ∧ r = s) ∨ Least T i (fun _ => false) r)) := ⟨s, rfl, hs, Below.refl _ _, .inl ⟨h1, rfl⟩⟩
    clear hT hfi hi hN
    rw [h1] at HL
    go_enter Try.func55, Try.ntmps55
    go_wp2_with fail
    refine (unhide HL).mono ?_
    rintro e w' ⟨rfl, rfl⟩
    go_wp2_with fail
    go_ret
    exact unhide HE
  · obtain ⟨D, ho, hD⟩ := id hT.tab
    have HO := hide ho
    have HD : Hid (∀ s : ByteArray, s.size ≤ maxLen → D.atKey (.string s.data.toList) .nil = ptrD ((T.N s).map b)) := fun s hs => (hD s hs .nil).trans (atD_nil _)
    have HT := hide hT
    clear hT ho hD
    have h1' : ¬ (T.c i = 1) := h1
    generalize T.c i = ci at *
    have HN := hide hN
    have HFI := hide hfi
    have HS := hide hs
    clear hN hfi hs hi
    go_enter Try.func55, Try.ntmps55
    go_wp2_with fail
    refine (unhide HL).mono ?_
    rintro e w' ⟨rfl, rfl⟩
    go_wp2_with (first | (at_range; refine wpList_range_own _ rfl _ 62 rfl 9 95 strK Try.underlying62 _ mb n _ rfl (unhide HO) ?_; intro w0 hrg0 hg0 hs0) | go_in)
    go_frame
    go_loopw [1] (fun x wr => FirstR mb n D T i w' x wr) (fun _ wr => wr.rangeLeft mb w'.heap.size)
    case atStart =>
      refine ⟨s, _, _, rfl, unhide HS, ⟨unhide HN, fun s' h1 h2 h3 => ?_⟩, hrg0, (Below.refl _ _).grown hg0 (Nat.le_refl _) (fun j hj => by cases hj)⟩
      exact absurd h3 (by rw [has_of (unhide HO) (unhide HD s' h2) (by rw [h1]; rfl)]; simp)
    case round =>
      obtain ⟨r, left, cnt, rfl, hrs, hlst, hrg, hbw⟩ := hrel
      have HLS := hide hlst
      clear hlst
      go_wp2_with (first | (at_next; refine wpList_next_ranges _ rfl _ rfl 9 strK fileElem encStr ptr (fun key kl hk => by obtain ⟨x, hx, _⟩ := Maps.keyOf_str Try.underlying9 hk; exact ⟨x, hx⟩) fileElem_shape mb w'.heap.size n _ _ _ rfl hrg ?_ ?_) | go_in)
      · intro hc0 hl0
        go_wp2_with fail
        go_ret
        exact ⟨r, rfl, hrs, hbw, .inr ⟨(unhide HLS).1, fun s' h1 h2 _ => (unhide HLS).2 s' h1 h2 (hl0 _)⟩⟩
      · intro x c kl yd yp w2 cnt2 hkey hlk hv hat hrg2 hlt hg2 hs2 hen
        obtain ⟨x', ex, rfl, hxl⟩ := Maps.keyOf_str Try.underlying9 hkey
        obtain rfl : x = x' := encStr_inj ex
        obtain ⟨q, hq⟩ : ∃ q : ByteArray, q = ⟨x.toArray⟩ := ⟨_, rfl⟩
        have hqe : encStr x = .string q := congrArg Value.string hq.symm
        rw [hqe] at hen ⊢
        have hqs : q.size ≤ maxLen := by rw [hq]; exact hxl
        have hqx : q.data.toList = x := congrArg (fun t : ByteArray => t.data.toList) hq
        have hbw2 : Below w'.heap.size w' w2 := hbw.grown hg2 hbw.size (fun j hj => by cases hj; exact Nat.le_refl _)
        have HR : Hid (w2.rangeLeft mb w'.heap.size < wr.rangeLeft mb w'.heap.size) := by rw [hrg2.left_eq, hrg.left_eq]; exact hlt
        have HLq : Hid ((T.N q).map b = c) := by
          have h1 := unhide HD q hqs
          rw [hqx, hat .nil] at h1
          rw [fileElem_ptr] at hv
          injection hv with hv
          injection hv with hv
          exact ptrD_inj (h1.symm.trans hv.symm)
        have HFB : Hid (∀ j, F j → w2.heap[b j]? = some (.cells #[h j, .int .i32 (T.c j)] 94 (0, 0))) := fun j hj => by
          have hf := (unhide HT).file j hj
          rw [hbw2.block (b j) (Array.getElem?_eq_some_iff.1 hf).1]
          exact hf
        have HG := hide hrg2
        have HB := hide hbw2
        have HQ := hide hqs
        clear hrg2 hbw2 hrg hbw hg2 hs2 hq hqe hkey hqs hv hat
        have hiF : Hid (F i) := (unhide HT).live s i (unhide HN)
        cases c with
        | none =>
          have HK : Hid (FirstR mb n D T i w' (.string r) w2) := ⟨r, _, _, rfl, hrs, hqx ▸ (unhide HLS).skip (.inl fun e => by have := unhide HLq; rw [e] at this; cases this), unhide HG, unhide HB⟩
          have hq0 := eq95_nil
          unfold ptr at hen ⊢
          go_wp2_with fail
          go_roundw
          case rel => exact unhide HK
          case measure => exact unhide HR
        | some g =>
          unfold ptr at hen ⊢
          by_cases hgb : g = b i
          · have hq0 := eq95_same
            subst hgb
            have hNq : T.N q = some i := by
              have h1 := unhide HLq
              cases hNq : T.N q with
              | none => rw [hNq] at h1; cases h1
              | some j =>
                rw [hNq] at h1
                simp only [Option.map_some, Option.some.injEq] at h1
                rw [(unhide HT).inj j i ((unhide HT).live q j hNq) (unhide hiF) h1]
            cases hcmp : Op.bytesLess q.toList r.toList with
            | false =>
              have HK : Hid (FirstR mb n D T i w' (.string r) w2) := ⟨r, _, _, rfl, hrs, hqx ▸ (unhide HLS).skip (.inr hcmp), unhide HG, unhide HB⟩
              clear hNq
              go_wp2_with fail
              go_roundw
              case rel => exact unhide HK
              case measure => exact unhide HR
            | true =>
              have HK : Hid (FirstR mb n D T i w' (.string q) w2) := ⟨q, _, _, rfl, unhide HQ, hqx ▸ (unhide HLS).take hNq hcmp, unhide HG, unhide HB⟩
              clear hNq
              go_wp2_with fail
              go_roundw
              case rel => exact unhide HK
              case measure => exact unhide HR
          · have hq0 : (binOp BinOp.eql 95 (.pointer (some ⟨g, 0, none⟩)) (.pointer (some ⟨b i, 0, none⟩))).run Try.prog w2 = .ok (.bool false) w2 := by
              obtain ⟨j, hj, e⟩ : ∃ j, F j ∧ b j = g := by
                have h1 := unhide HLq
                cases hNq : T.N q with
                | none => rw [hNq] at h1; cases h1
                | some j =>
                  rw [hNq] at h1
                  simp only [Option.map_some, Option.some.injEq] at h1
                  exact ⟨j, (unhide HT).live q j hNq, h1⟩
              rw [← e] at hgb ⊢
              exact eq95_other hgb (unhide HFB j hj) (unhide HFB i (unhide hiF))
            have HK : Hid (FirstR mb n D T i w' (.string r) w2) := ⟨r, _, _, rfl, hrs, hqx ▸ (unhide HLS).skip (.inl fun e => by
              have := unhide HLq
              rw [e] at this
              simp only [Option.map_some, Option.some.injEq] at this
              exact hgb this.symm), unhide HG, unhide HB⟩
            go_wp2_with fail
            go_roundw
            case rel => exact unhide HK
            case measure => exact unhide HR
end Go.Proofs.Ytbnbakcoomjnaaa
