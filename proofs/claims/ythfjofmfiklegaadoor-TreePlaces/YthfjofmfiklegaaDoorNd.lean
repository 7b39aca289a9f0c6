/- A node alone, in the code. -/
import Derived.Test.YthfjofmfiklegaaDoorCk
import Derived.Test.YthfjofmfiklegaaDoorOrd
namespace Go.Proofs.YthfjofmfiklegaaDoor
open Go.RowKit
set_option maxRecDepth 20000 in
set_option maxHeartbeats 1000000 in
theorem node_any (lo hi : Nat) (k : Int) (x : Bool) (d : Nat) (ns : List ByteArray) (ad an ak : Option Addr) (nk cd cn ck : Nat) (w : World) (hd : d ≤ 100000000) (hn : ns.length ≤ 100000000) (hk : nk ≤ 100000000) (hs : ∀ s ∈ ns, s.size ≤ 100000000)
    (hR : Row lo hi w (.slice an ns.length cn) ns.length (ns.map .string)) (hhi : hi ≤ w.heap.size) :
    Calls Tryd.prog 44 #[nodeV k x (.slice ad d cd) (.slice an ns.length cn) (.slice ak nk ck)] w fun e w' => e = .returned (.int .i64 ((locErr k x d ns nk : Nat) : Int)) ∧ Below w.heap.size w w' := by
  have HF := hide (fun w => formed_any k x ad an ak d ns.length nk cd cn ck w)
  have hb0 : Below w.heap.size w (w.alloc (.cells #[.int .i64 k, .bool x, .slice ad d cd, .slice an ns.length cn, .slice ak nk ck] 26)) := (Below.refl _ _).alloc (Nat.le_refl _) _
  have hB0 := bx_new w (.int .i64 k) (.bool x) (.slice ad d cd) (.slice an ns.length cn) (.slice ak nk ck)
  go_enter Tryd.func44, Tryd.ntmps44
  go_wp2_with fail
  refine (unhide HF _).mono ?_
  rintro e w1 ⟨rfl, hb1⟩
  have hB1 := hB0.kept hb1 (by simp)
  have hbl : Below w.heap.size w w1 := hb0.trans (hb1.mono (by simp))
  obtain ⟨c0, c1, c2, c3, c4⟩ := hB1.cells
  clear hb0 hb1 hB0
  cases hform : formB k x d ns.length nk
  case false =>
    have HE := hide (form_no hform)
    go_wp2_with fail
    go_ret
    exact ⟨by rw [unhide HE]; rfl, hbl⟩
  have hf := form_yes hform
  by_cases h5 : (k = 1 ∧ 1048576 < d) ∨ (k = 3 ∧ 1000 < d)
  · have HE : Hid (locErr k x d ns nk = 5) := by
      show locErr k x d ns nk = 5
      rcases hf with ⟨rfl, h0, hk⟩ | ⟨rfl, rfl, h0, hk⟩ | ⟨rfl, _⟩
      · rw [loc_file h0 hk, if_pos (by omega)]
      · rw [loc_link h0 hk, if_pos (by omega)]
      · omega
    clear hf
    rcases h5 with ⟨rfl, h5⟩ | ⟨rfl, h5⟩
    all_goals
      go_wp2_with fail
      go_ret
      exact ⟨by rw [unhide HE]; rfl, hbl⟩
  by_cases hl0 : k = 3 ∧ d = 0
  · obtain ⟨rfl, rfl⟩ := hl0
    have HE : Hid (locErr 3 x 0 ns nk = 3) := by
      show locErr 3 x 0 ns nk = 3
      rcases hf with ⟨h, _⟩ | ⟨_, rfl, h0, hk⟩ | ⟨h, _⟩
      · omega
      · rw [loc_link h0 hk, if_neg (by omega), if_pos rfl]
      · omega
    clear hf h5
    go_wp2_with fail
    go_ret
    exact ⟨by rw [unhide HE]; rfl, hbl⟩
  have HE0 : Hid (okNames ns → locErr k x d ns nk = 0) := fun hok => by
    rcases hf with ⟨rfl, h0, hk⟩ | ⟨rfl, rfl, h0, hk⟩ | ⟨rfl, rfl, rfl, rfl⟩
    · rw [loc_file h0 hk, if_neg (by omega)]
    · rw [loc_link h0 hk, if_neg (by omega), if_neg (by omega)]
    · exact loc_dir_ok hok
  have HE9 : Hid (¬ okNames ns → locErr k x d ns nk = 9) := fun hok => by
    rcases hf with ⟨rfl, h0, hk⟩ | ⟨rfl, rfl, h0, hk⟩ | ⟨rfl, rfl, rfl, rfl⟩
    · exact absurd (okNames_nil h0) hok
    · exact absurd (okNames_nil h0) hok
    · exact loc_dir_no hok
  have HR := hide (hR.below hbl hhi)
  have HS := hide hs
  clear hR hs
  have hcat : (k = 1 ∧ ¬ 1048576 < d ∧ ns.length = 0) ∨ (k = 3 ∧ ¬ 1000 < d ∧ ¬ d = 0 ∧ ns.length = 0) ∨ k = 2 := by
    rcases hf with ⟨rfl, h, _⟩ | ⟨rfl, _, h, _⟩ | ⟨rfl, _⟩
    · exact .inl ⟨rfl, by omega, h⟩
    · exact .inr (.inl ⟨rfl, by omega, by omega, h⟩)
    · exact .inr (.inr rfl)
  clear hf h5 hl0
  rcases hcat with ⟨rfl, h5, hz⟩ | ⟨rfl, h5, h6, hz⟩ | rfl
  · have HK := hide (unhide HE0 (okNames_nil hz))
    obtain rfl : ns = [] := List.eq_nil_of_length_eq_zero hz
    clear hz
    go_wp2_with fail
    go_loop [41] (fun vi => vi = .int .i64 0) (fun _ => 0)
    case atStart => rfl
    case round =>
      subst hrel
      go_wp2_with fail
      go_ret
      exact ⟨by rw [unhide HK]; rfl, hbl⟩
  · have HK := hide (unhide HE0 (okNames_nil hz))
    obtain rfl : ns = [] := List.eq_nil_of_length_eq_zero hz
    clear hz
    go_wp2_with fail
    go_loop [41] (fun vi => vi = .int .i64 0) (fun _ => 0)
    case atStart => rfl
    case round =>
      subst hrel
      go_wp2_with fail
      go_ret
      exact ⟨by rw [unhide HK]; rfl, hbl⟩
  all_goals
    go_wp2_with fail
    go_loop [41] (fun vi => ∃ i : Nat, i ≤ ns.length ∧ vi = .int .i64 (i : Int) ∧ Hid (∀ j, j < i → okName ns j = true)) (fun vi => ns.length - (intOf vi).toNat)
    case atStart => exact ⟨0, by omega, rfl, fun j h => by omega⟩
    case round =>
      obtain ⟨i, hin, rfl, hall⟩ := hrel
      by_cases hlt : i < ns.length
      · obtain ⟨g, o, rfl, hg1, hg2, hcell⟩ := (unhide HR).at (by omega)
        have hci : w1.cell? ⟨g, o + i, none⟩ = some (.string ns[i]) := hcell i _ (by simp [List.getElem?_eq_getElem hlt])
        have HEn := hide (fun w => ent_any ns[i] w (by have := unhide HS ns[i] (List.getElem_mem hlt); omega))
        have hsi := unhide HS ns[i] (List.getElem_mem hlt)
        cases i with
        | zero =>
          have HO := hide (okName_first hlt)
          simp only [Nat.add_zero] at hci
          clear hcell
          generalize ns[0] = s at *
          cases hent : entB s
          case false =>
            have HB : Hid (¬ okNames ns) := fun h => by have := h 0 hlt; rw [unhide HO, hent] at this; simp at this
            have HK := hide (unhide HE9 (unhide HB))
            go_wp2_with (go_at_call 52; refine (unhide HEn _).mono ?_; rintro e w2 ⟨rfl, hw2⟩; rw [hw2, hent]; clear hw2 w2)
            go_ret
            exact ⟨by rw [unhide HK]; rfl, hbl⟩
          case true =>
            go_wp2_with (go_at_call 52; refine (unhide HEn _).mono ?_; rintro e w2 ⟨rfl, hw2⟩; rw [hw2, hent]; clear hw2 w2)
            go_round
            case rel => exact ⟨1, by omega, by go_num, fun j hj => by
              obtain rfl : j = 0 := by omega
              rw [unhide HO, hent]⟩
            case measure => simp [intOf]; omega
        | succ i =>
          have hcj : w1.cell? ⟨g, o + i, none⟩ = some (.string (ns.getD i ⟨#[]⟩)) := hcell i _ (by simp [List.getElem?_eq_getElem (show i < ns.length by omega), List.getD_eq_getElem?_getD])
          have HO := hide (okName_next hlt)
          clear hcell
          generalize ns.getD i ⟨#[]⟩ = q at *
          generalize ns[i + 1] = s at *
          cases hent : entB s
          case false =>
            have HB : Hid (¬ okNames ns) := fun h => by have := h (i + 1) hlt; rw [unhide HO, hent] at this; simp at this
            have HK := hide (unhide HE9 (unhide HB))
            go_wp2_with (go_at_call 52; refine (unhide HEn _).mono ?_; rintro e w2 ⟨rfl, hw2⟩; rw [hw2, hent]; clear hw2 w2)
            go_ret
            exact ⟨by rw [unhide HK]; rfl, hbl⟩
          case true =>
            go_wp2_with (go_at_call 52; refine (unhide HEn _).mono ?_; rintro e w2 ⟨rfl, hw2⟩; rw [hw2, hent]; clear hw2 w2)
            · rename_i hle
              have hno : ¬ okNames ns := fun h => by have := h (i + 1) hlt; rw [unhide HO, hent] at this; exact less_yes hle (by simpa using this)
              have HK := hide (unhide HE9 hno)
              go_ret
              exact ⟨by rw [unhide HK]; rfl, hbl⟩
            · rename_i hle
              have HY : Hid (okName ns (i + 1) = true) := by show okName ns (i + 1) = true; rw [unhide HO, hent]; simpa using less_no hle
              go_round
              case rel => exact ⟨i + 1 + 1, by omega, by go_num, fun j hj => by
                by_cases e : j = i + 1
                · subst e; exact unhide HY
                · exact unhide hall j (by omega)⟩
              case measure => simp [intOf]; omega
      · have HK := hide (unhide HE0 (fun j hj => unhide hall j (by omega)))
        go_wp2_with fail
        go_ret
        exact ⟨by rw [unhide HK]; rfl, hbl⟩
end Go.Proofs.YthfjofmfiklegaaDoor
