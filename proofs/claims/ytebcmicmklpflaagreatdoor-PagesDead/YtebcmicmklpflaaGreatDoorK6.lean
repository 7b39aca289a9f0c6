import Derived.Test.YtebcmicmklpflaaGreatDoorK1
import Derived.Test.YtebcmicmklpflaaGreatDoorK4
import Derived.Test.YtebcmicmklpflaaGreatDoorK5
import Derived.Deep.RegionHeld3
import Derived.Maps.AppendAt
import Derived.LoopN
import Derived.Deep.RegionLaw
/- The journal's bytes, as mathematics. No Go text is named here. -/
namespace Go.Proofs.YtebcmicmklpflaaGreatDoor
/-- Bytes as numbers. -/
def nats (d : List UInt8) : List Nat := d.map UInt8.toNat
theorem nats_len (d : List UInt8) : (nats d).length = d.length := List.length_map _
theorem nats_append (a b : List UInt8) : nats (a ++ b) = nats a ++ nats b := List.map_append
theorem nats_bytes (d : List UInt8) : Dg.Sha.Bytes (nats d) := fun x hx => by
  obtain ⟨b, -, rfl⟩ := List.mem_map.1 hx
  exact b.toNat_lt
/-- The digest of bytes. -/
def sumB (d : List UInt8) : List UInt8 := (Dg.Sha.sum (nats d)).map UInt8.ofNat
theorem sumB_len (d : List UInt8) : (sumB d).length = 32 := by
  unfold sumB
  rw [List.length_map]
  exact Dg.Sha.sumBehind_length _ _ _
theorem nats_sumB (d : List UInt8) : nats (sumB d) = Dg.Sha.sum (nats d) := by
  unfold nats sumB
  rw [List.map_map]
  have hb : Dg.Sha.Bytes (Dg.Sha.sum (nats d)) := Dg.Sha.sumBehind_bytes _ _ _
  have : ∀ l : List Nat, Dg.Sha.Bytes l → l.map (UInt8.toNat ∘ UInt8.ofNat) = l := by
    intro l
    induction l with
    | nil => intro _; rfl
    | cons a l ih =>
      intro h
      have ha : a < 256 := h a (List.mem_cons_self ..)
      simp only [List.map_cons, Function.comp]
      rw [ih (fun x hx => h x (List.mem_cons_of_mem _ hx))]
      rw [UInt8.toNat_ofNat', Nat.mod_eq_of_lt ha]
  exact this _ hb
/-- A number in three bytes. -/
def num (n : Nat) : List UInt8 := [UInt8.ofNat (n / 65536), UInt8.ofNat (n / 256), UInt8.ofNat n]
theorem num_len (n : Nat) : (num n).length = 3 := rfl
/-- Records behind their lengths. -/
def recB : List (List UInt8) → List UInt8
  | [] => []
  | p :: l => num p.length ++ (p ++ recB l)
theorem recB_append (a b : List (List UInt8)) : recB (a ++ b) = recB a ++ recB b := by
  induction a with
  | nil => rfl
  | cons p l ih => simp only [List.cons_append, recB, ih, List.append_assoc]
/-- What lies in a file ahead of the digest. -/
def pcs (l : List (List UInt8)) : List UInt8 := num l.length ++ recB l
def dig (prev : List UInt8) (l : List (List UInt8)) : List UInt8 := sumB (prev ++ pcs l)
theorem dig_len (prev : List UInt8) (l : List (List UInt8)) : (dig prev l).length = 32 := sumB_len _
def enc (prev : List UInt8) (l : List (List UInt8)) : List UInt8 := pcs l ++ dig prev l
/-- The digest of the last group. -/
def digs : List UInt8 → List (List (List UInt8)) → List UInt8
  | prev, [] => prev
  | prev, g :: gs => digs (dig prev g) gs
def encs : List UInt8 → List (List (List UInt8)) → List UInt8
  | _, [] => []
  | prev, g :: gs => enc prev g ++ encs (dig prev g) gs
theorem digs_snoc (gs : List (List (List UInt8))) (g : List (List UInt8)) : ∀ prev, digs prev (gs ++ [g]) = dig (digs prev gs) g := by
  induction gs with
  | nil => intro prev; simp only [List.nil_append, digs]
  | cons a l ih => intro prev; simp only [List.cons_append, digs]; exact ih _
theorem encs_snoc (gs : List (List (List UInt8))) (g : List (List UInt8)) : ∀ prev, encs prev (gs ++ [g]) = encs prev gs ++ enc (digs prev gs) g := by
  induction gs with
  | nil => intro prev; simp [encs, digs]
  | cons a l ih => intro prev; simp only [List.cons_append, encs, digs, ih, List.append_assoc]
theorem digs_append (a b : List (List (List UInt8))) : ∀ prev, digs prev (a ++ b) = digs (digs prev a) b := by
  induction a with
  | nil => intro prev; simp only [List.nil_append, digs]
  | cons x l ih => intro prev; simp only [List.cons_append, digs]; exact ih _
/-- No group: thirty-two noughts. -/
def z32 : List UInt8 := List.replicate 32 0
/-- How many bytes records have. -/
def wt : List (List UInt8) → Nat
  | [] => 0
  | p :: l => p.length + wt l
theorem wt_append (a b : List (List UInt8)) : wt (a ++ b) = wt a + wt b := by
  induction a with
  | nil => simp [wt]
  | cons p l ih => simp only [List.cons_append, wt, ih]; omega
def wts : List (List (List UInt8)) → Nat
  | [] => 0
  | g :: l => wt g + wts l
theorem wts_append (a b : List (List (List UInt8))) : wts (a ++ b) = wts a + wts b := by
  induction a with
  | nil => simp [wts]
  | cons p l ih => simp only [List.cons_append, wts, ih]; omega
theorem recB_len (l : List (List UInt8)) : (recB l).length = 3 * l.length + wt l := by
  induction l with
  | nil => rfl
  | cons p l ih => simp only [recB, List.length_append, num_len, ih, wt, List.length_cons]; omega
theorem pcs_len (l : List (List UInt8)) : (pcs l).length = 3 + (3 * l.length + wt l) := by
  unfold pcs
  rw [List.length_append, num_len, recB_len]
theorem enc_len (prev : List UInt8) (l : List (List UInt8)) : (enc prev l).length = 35 + (3 * l.length + wt l) := by
  unfold enc
  rw [List.length_append, pcs_len, dig_len]
  omega
theorem digs_len {prev : List UInt8} (h : prev.length = 32) (gs : List (List (List UInt8))) : (digs prev gs).length = 32 := by
  induction gs generalizing prev with
  | nil => exact h
  | cons a l ih => simp only [digs]; exact ih (dig_len _ _)
/-- The number that three bytes are. -/
theorem num_val (n : Nat) (h : n < 16777216) : ((UInt8.ofNat (n / 65536)).toNat * 256 + (UInt8.ofNat (n / 256)).toNat) * 256 + (UInt8.ofNat n).toNat = n := by
  simp only [UInt8.toNat_ofNat']
  omega
theorem wt_mem {l : List (List UInt8)} {p : List UInt8} (h : p ∈ l) : p.length ≤ wt l := by
  induction l with
  | nil => cases h
  | cons a l ih =>
    rcases List.mem_cons.1 h with rfl | h
    · simp only [wt]; omega
    · have := ih h; simp only [wt]; omega
end Go.Proofs.YtebcmicmklpflaaGreatDoor
/- move, and the things that Rename and Remove do, to any table. -/
namespace Go.Proofs.YtebcmicmklpflaaGreatDoor
open Go.RowKit Go.Maps
set_option linter.unusedSimpArgs false
set_option maxRecDepth 20000 in
set_option maxHeartbeats 1000000 in
theorem do_drop_any (f o pn : Nat) (K : Nat → Option (List UInt8)) (m : Option Nat) (n k : Nat) (T : Tb) (F : Nat → Prop) (b : Nat → Nat) (h : Nat → Value) (s : ByteArray) (w : World) (hc : w.cell? ⟨f, o, none⟩ = some (.map m)) (hu : w.cell? ⟨f, o + 1, none⟩ = some (.int .i64 T.u)) (hfz : ∀ j, w.frozen? ⟨f, j, none⟩ = false)
    (hT : TabM w K m n T F b h) (hok : T.Ok k) (hk : k < 100000) (hs : s.size ≤ maxLen) (hbf : ∀ i, F i → b i ≠ f) (h1 : w.cell? ⟨pn, 0, none⟩ = some (.string s)) :
    Calls Tryz.prog 196 #[.pointer (some ⟨f, o, none⟩), .pointer (some ⟨pn, 0, none⟩)] w fun e w' => e = .returned (.tuple #[]) ∧ TabM w' K m n (T.drop s) F b h ∧ Kept f o m F b (T.drop s).u w w' := by
  have HW := hide (drop_any f o K m n k T F b h s w hc hu (hfz (o + 1)) hT hok (by omega) hs hbf)
  clear hT hfz hok hbf
  go_enter Tryz.func196, Tryz.ntmps196
  go_wp2_with fail
  refine (unhide HW).mono ?_
  rintro e w2 ⟨rfl, hM, hF, hB⟩
  have HE : Hid (TabM w2 K m n (T.drop s) F b h ∧ Kept f o m F b (T.drop s).u w w2) := ⟨hM, hF, hB⟩
  clear hM hF hB
  go_wp2_with fail
  go_end0
  exact ⟨rfl, unhide HE⟩
/-- What is left where a thing may lay a name. -/
structure Moved (f o : Nat) (m m' : Option Nat) (F : Nat → Prop) (b : Nat → Nat) (u : Int) (w w' : World) : Prop where
  fr : TFr f m F b w w'
  new : m' = m ∨ ∃ mb, m' = some mb ∧ w.heap.size ≤ mb
  blk : w'.heap[f]? = ((w.setCell ⟨f, o + 1, none⟩ (.int .i64 u)).setCell ⟨f, o, none⟩ (.map m')).heap[f]?
set_option maxRecDepth 20000 in
set_option maxHeartbeats 1000000 in
theorem move_any (f o : Nat) (K : Nat → Option (List UInt8)) (m : Option Nat) (n k : Nat) (T : Tb) (F : Nat → Prop) (b : Nat → Nat) (h : Nat → Value) (old s : ByteArray) (i : Nat) (w : World) (hc : w.cell? ⟨f, o, none⟩ = some (.map m)) (hu : w.cell? ⟨f, o + 1, none⟩ = some (.int .i64 T.u)) (hfz : ∀ j, w.frozen? ⟨f, j, none⟩ = false)
    (hT : TabM w K m n T F b h) (hok : T.Ok k) (hk : k + 2 < 100000) (hs : s.size ≤ maxLen) (hso : old.size ≤ maxLen) (hn : n < maxLen) (hbf : ∀ i, F i → b i ≠ f) (hN : T.N old = some i) :
    Calls Tryz.prog 208 #[.pointer (some ⟨f, o, none⟩), .string old, .string s] w fun e w' => e = .returned (.tuple #[]) ∧ ∃ m', TabM w' K m' (n + 1) (T.move old s) F b h ∧ Moved f o m m' F b (T.move old s).u w w' := by
  have hmn : m ≠ none := by
    rintro rfl
    have := hT.tab old
    simp [hN] at this
  by_cases he : old = s
  · subst he
    have hm : T.move old old = T := by unfold Tb.move; rw [if_pos rfl]
    have HE : Hid (∃ m', TabM w K m' (n + 1) (T.move old old) F b h ∧ Moved f o m m' F b (T.move old old).u w w) := by
      rw [hm]
      refine ⟨m, hT.mono (by omega) (fun e => absurd e hmn), TFr.refl _ _ _ _ _, .inl rfl, ?_⟩
      rw [set_self (v := .map m) (o := o)]
      · rw [set_self hu]
      · rw [World.cell?_setCell_other _ ⟨f, o + 1, none⟩ ⟨f, o, none⟩ _ (by simp)]; exact hc
    clear hT hok hbf hN hm
    go_enter Tryz.func208, Tryz.ntmps208
    go_wp2_with fail
    refine bodyPost_ret (results_none rfl _ _ _) rfl ⟨rfl, unhide HE⟩
  · have hm : T.move old s = (T.lay s i).drop old := by unfold Tb.move; rw [if_neg he, hN]
    have hi := hT.live old i hN
    have hl := tab_look hT.tab hso
    simp only [hN, Option.map_some] at hl
    unfold ptr at hl
    have HL := hide (lay_any f o K m n k T F b h s i w hc hu hfz hT hok (by omega) hs hn hbf hi)
    have hfl : f < w.heap.size := cellLt hc
    have HX : Hid (∀ w1 mb, TabM w1 K (some mb) (n + 1) (T.lay s i) F b h → TFr f m F b w w1 → (m = some mb ∨ (m = none ∧ w.heap.size ≤ mb)) → w1.heap[f]? = ((w.setCell ⟨f, o + 1, none⟩ (.int .i64 (T.lay s i).u)).setCell ⟨f, o, none⟩ (.map (some mb))).heap[f]? →
        Calls Tryz.prog 159 #[.pointer (some ⟨f, o, none⟩), .string old] w1 fun e w' => e = .returned (.tuple #[]) ∧ ∃ m', TabM w' K m' (n + 1) (T.move old s) F b h ∧ Moved f o m m' F b (T.move old s).u w w') := by
      intro w1 mb hM hF hmb hB
      have hc1 : w1.cell? ⟨f, o, none⟩ = some (.map (some mb)) := by
        rw [World.cell?_of_block (w := (w.setCell ⟨f, o + 1, none⟩ (.int .i64 (T.lay s i).u)).setCell ⟨f, o, none⟩ (.map (some mb))) (a := ⟨f, o, none⟩) hB]
        exact World.cell?_setCell_same _ ⟨f, o, none⟩ _ (by rw [World.cell?_setCell_other _ ⟨f, o + 1, none⟩ ⟨f, o, none⟩ _ (by simp)]; exact hc)
      have hu1 : w1.cell? ⟨f, o + 1, none⟩ = some (.int .i64 (T.lay s i).u) := by
        rw [World.cell?_of_block (w := (w.setCell ⟨f, o + 1, none⟩ (.int .i64 (T.lay s i).u)).setCell ⟨f, o, none⟩ (.map (some mb))) (a := ⟨f, o + 1, none⟩) hB, World.cell?_setCell_other _ ⟨f, o, none⟩ ⟨f, o + 1, none⟩ _ (by simp)]
        exact World.cell?_setCell_same _ ⟨f, o + 1, none⟩ _ hu
      have hz1 : w1.frozen? ⟨f, o + 1, none⟩ = false := by
        rw [World.frozen?_of_block (w := (w.setCell ⟨f, o + 1, none⟩ (.int .i64 (T.lay s i).u)).setCell ⟨f, o, none⟩ (.map (some mb))) (a := ⟨f, o + 1, none⟩) hB, World.frozen?_setCell, World.frozen?_setCell]
        exact hfz (o + 1)
      refine (drop_any f o K (some mb) (n + 1) (k + 2) (T.lay s i) F b h old w1 hc1 hu1 hz1 hM (hok.lay s i) (by omega) hso hbf).mono ?_
      rintro e w' ⟨rfl, hM2, hF2, hB2⟩
      rw [hm]
      refine ⟨rfl, some mb, hM2, hF.trans hF2 (fun q e => ?_) (fun j hj => .inl ⟨hj, rfl⟩), ?_, ?_⟩
      · cases e
        rcases hmb with e | ⟨_, e⟩
        · exact .inl e
        · exact .inr e
      · rcases hmb with e | ⟨_, e⟩
        · exact .inl e.symm
        · exact .inr ⟨mb, rfl, e⟩
      · rw [hB2]
        simp only [World.setCell, Array.getElem?_modify, if_true] at hB ⊢
        rw [hB]
        cases w.heap[f]? with
        | none => rfl
        | some x => cases x <;> simp [Array.setIfInBounds_comm]
    have hne2 : (old.toList == s.toList) = false := by
      rw [beq_eq_false_iff_ne]
      intro e
      rw [ByteArray.toList_eq, ByteArray.toList_eq] at e
      apply he
      cases old; cases s
      simp at e
      rw [e]
    clear hT hok hbf hN hm
    go_enter Tryz.func208, Tryz.ntmps208
    go_wp2_with fail
    refine (unhide HL).mono ?_
    rintro e w1 ⟨rfl, mb, hM, hF, hmb, hB⟩
    have HD := hide (unhide HX w1 mb hM hF hmb hB)
    clear hM hF hmb hB
    go_wp2_with fail
    refine (unhide HD).mono ?_
    rintro e w2 ⟨rfl, hE⟩
    have HE := hide hE
    clear hE
    go_wp2_with fail
    go_end0
    exact ⟨rfl, unhide HE⟩
set_option maxRecDepth 20000 in
set_option maxHeartbeats 1000000 in
theorem do_move_any (f o po pn : Nat) (K : Nat → Option (List UInt8)) (m : Option Nat) (n k : Nat) (T : Tb) (F : Nat → Prop) (b : Nat → Nat) (h : Nat → Value) (old s : ByteArray) (i : Nat) (w : World) (hc : w.cell? ⟨f, o, none⟩ = some (.map m)) (hu : w.cell? ⟨f, o + 1, none⟩ = some (.int .i64 T.u)) (hfz : ∀ j, w.frozen? ⟨f, j, none⟩ = false)
    (hT : TabM w K m n T F b h) (hok : T.Ok k) (hk : k + 2 < 100000) (hs : s.size ≤ maxLen) (hso : old.size ≤ maxLen) (hn : n < maxLen) (hbf : ∀ i, F i → b i ≠ f) (hN : T.N old = some i) (h1 : w.cell? ⟨po, 0, none⟩ = some (.string old)) (h2 : w.cell? ⟨pn, 0, none⟩ = some (.string s)) :
    Calls Tryz.prog 207 #[.pointer (some ⟨f, o, none⟩), .pointer (some ⟨po, 0, none⟩), .pointer (some ⟨pn, 0, none⟩)] w fun e w' => e = .returned (.tuple #[]) ∧ ∃ m', TabM w' K m' (n + 1) (T.move old s) F b h ∧ Moved f o m m' F b (T.move old s).u w w' := by
  have HW := hide (move_any f o K m n k T F b h old s i w hc hu hfz hT hok hk hs hso hn hbf hN)
  clear hT hfz hok hbf hN
  go_enter Tryz.func207, Tryz.ntmps207
  go_wp2_with fail
  refine (unhide HW).mono ?_
  rintro e w2 ⟨rfl, hE⟩
  have HE := hide hE
  clear hE
  go_wp2_with fail
  go_end0
  exact ⟨rfl, unhide HE⟩
end Go.Proofs.YtebcmicmklpflaaGreatDoor
/- What Write plans. -/
namespace Go.Proofs.YtebcmicmklpflaaGreatDoor
open Go.RowKit Go.Maps
set_option linter.unusedSimpArgs false
set_option maxRecDepth 20000 in
set_option maxHeartbeats 4000000 in
theorem plan_write_ok (f bb bf bn : Nat) (K : Nat → Option (List UInt8)) (m : Option Nat) (n k : Nat) (T : Tb) (F : Nat → Prop) (b : Nat → Nat) (h : Nat → Value) (s : ByteArray) (a : Option Addr) (c : Nat) (d : List UInt8) (hi : Nat) (room : Nat) (w : World)
    (hr : w.cell? ⟨f, 2, none⟩ = some (.int .i64 (room : Int))) (hc : w.cell? ⟨f, 3, none⟩ = some (.map m)) (hu : w.cell? ⟨f, 4, none⟩ = some (.int .i64 T.u))
    (hT : TabM w K m n T F b h) (hok : T.Ok k) (hk : k ≤ 100000) (hs : s.size ≤ 300) (hn : n ≤ 16383) (hb : T.u - (T.alone s : Int) + (d.length : Int) ≤ (room : Int)) (hroom : room ≤ 1073741824) (hd : d.length ≤ 1048576) (hrow : Row hi w (.slice a d.length c) d) (hhi : hi ≤ w.heap.size)
    (h1 : w.cell? ⟨bb, 0, none⟩ = some (.slice a d.length c)) (h2 : w.cell? ⟨bf, 0, none⟩ = some (.pointer (some ⟨f, 0, none⟩))) (h3 : w.cell? ⟨bn, 0, none⟩ = some (.string s)) :
    Calls Tryz.prog 66 #[.pointer (some ⟨bb, 0, none⟩), .pointer (some ⟨bf, 0, none⟩), .pointer (some ⟨bn, 0, none⟩)] w fun e w' => ∃ pn pd a' c' L, e = .returned (.tuple #[.func (.func 70) #[] #[.pointer (some ⟨pn, 0, none⟩), .pointer (some ⟨pd, 0, none⟩)], .int .i64 0]) ∧ NewData w.heap.size L (.slice a' d.length c') d ∧ Inv (fun _ => False) w w' ((pd, .cells #[.slice a' d.length c'] 39 (0, 0)) :: (pn, .cells #[.string s] 9 (0, 0)) :: L) := by
  have hs2 : s.size ≤ maxLen := by simp only [maxLen]; omega
  have hTW : ∀ W : World, W.heap = w.heap → TabM W K m n T F b h := fun W hW => hT.kept (fun _ _ => by rw [hW]) (fun _ _ => by rw [hW])
  have hC : ∀ W : World, W.heap = w.heap → W.cell? ⟨f, 3, none⟩ = some (.map m) := fun W hW => by rw [World.cell?_of_block (w := w) (a := ⟨f, 3, none⟩) (by rw [hW])]; exact hc
  have HH := hide (fun W (hW : W.heap = w.heap) => has_tab f 3 K m n T F b h s W (hC W hW) (hTW W hW) hs2)
  have HF := hide (fun W (hW : W.heap = w.heap) => full_not f 3 m n _ W (hC W hW) (hTW W hW).tab hn)
  have HA := hide (fun W (hW : W.heap = w.heap) => alone_any f 3 K m n T F b h s W (hC W hW) (hTW W hW) hs2)
  have HN := hide (fun (W : World) (L : List (Nat × Obj)) (hI : Inv (fun _ => False) w W L) => clone_inv s W (by omega) hI)
  have HB := hide (fun (W : World) (L : List (Nat × Obj)) (hI : Inv (fun _ => False) w W L) => bclone_inv hi a d.length c d W hrow rfl hhi (fun _ _ h => h) (by omega) hI)
  have hub := hok.ub
  have hal : T.alone s ≤ 1048576 := by
    unfold Tb.alone
    split
    · omega
    · split
      · omega
      · exact hok.dl _
  clear hTW hC hT hrow hok
  generalize T.alone s = al at *
  generalize T.u = u at *
  cases hNs : (T.N s).isSome
  all_goals
    rw [hNs] at HH
    clear hNs
    generalize hN0 : d.length = N at *
    have HN0 := hide hN0
    clear hN0
    go_enter Tryz.func66, Tryz.ntmps66
    go_wp2_with fail
    go_quiet (first | (go_at_call 67; exact Calls.quiet_of_same (unhide HH _ rfl)) | (go_at_call 68; exact Calls.quiet_of_same (unhide HF _ rfl)))
    obtain ⟨W1, hW1, hx1⟩ : ∃ W1 : World, W1.heap = w.heap ∧ W1 = w.drewN nq := ⟨w.drewN nq, rfl, rfl⟩
    have hI1 : Inv (fun _ => False) w W1 [] := by rw [hx1]; exact (Inv.refl _ _).drewN _
    have e1 : W1.cell? ⟨bb, 0, none⟩ = some (.slice a N c) := hI1.cell h1 id
    have e2 : W1.cell? ⟨bf, 0, none⟩ = some (.pointer (some ⟨f, 0, none⟩)) := hI1.cell h2 id
    have e3 : W1.cell? ⟨bn, 0, none⟩ = some (.string s) := hI1.cell h3 id
    have e4 : W1.cell? ⟨f, 4, none⟩ = some (.int .i64 u) := hI1.cell hu id
    have e5 : W1.cell? ⟨f, 2, none⟩ = some (.int .i64 (room : Int)) := hI1.cell hr id
    rw [← hx1]
    have HA2 := hide (fun q => unhide HA (W1.drewN q) hW1)
    have hw1 : IntKind.i64.wrap (u - (al : Int)) = u - (al : Int) := wrap64 (by omega)
    have hw2 : IntKind.i64.wrap (u - (al : Int) + (N : Int)) = u - (al : Int) + (N : Int) := wrap64 (by omega)
    have hbI : ¬ ((room : Int) < u - (al : Int) + (N : Int)) := by omega
    have HI1 := hide hI1
    clear hx1 hW1 hI1 hb hub hal
    go_wp2_with fail
    go_quiet (first | (go_at_call 69; exact Calls.quiet_of_same (unhide HA2 _)))
    go_wp2_with fail
    obtain ⟨W2, hx2⟩ : ∃ W2 : World, W2 = W1.drewN nq := ⟨W1.drewN nq, rfl⟩
    have hst : Inv (fun _ => False) w W2 [] := by rw [hx2]; exact (unhide HI1).drewN _
    rw [← hx2]
    clear hx2 e1 e2 e3 e4 e5 HA HA2 HF HH HI1
    have k1 : W2.cell? ⟨bb, 0, none⟩ = some (.slice a N c) := hst.cell h1 id
    have k3 : W2.cell? ⟨bn, 0, none⟩ = some (.string s) := hst.cell h3 id
    have kl1 := hst.clt h1
    have kl3 := hst.clt h3
    go_region_held3 (fun W' => W'.cell? ⟨bb, 0, none⟩ = some (.slice a N c) ∧ W'.cell? ⟨bn, 0, none⟩ = some (.string s)) (go_keep) (first | (go_at_call 48; refine Calls.mono (unhide HN _ ?_ ?_) ?_; rotate_left; (first | exact hst | exact hst.drew | exact hst.alloc _ | exact hst.dalloc _ | exact hst.alloc2 _ _ | exact hst.dalloc2 _ _); rintro e w2 ⟨rfl, hst⟩; have kc1 := hst.cell h1 id; have kc3 := hst.cell h3 id; have kl1 := hst.clt h1; have kl3 := hst.clt h3; (try (obtain ⟨bx1, bz1, bl1, bm1, bo1⟩ := hst.bx (List.mem_cons_self ..); obtain ⟨nb1, nc1⟩ := hst.bne (List.mem_cons_self ..) h1; obtain ⟨nd1, ne1⟩ := hst.bne (List.mem_cons_self ..) h3)); (try (obtain ⟨bx2, bz2, bl2, bm2, bo2⟩ := hst.bx (List.mem_cons_of_mem _ (List.mem_cons_self ..)); obtain ⟨nb2, nc2⟩ := hst.bne (List.mem_cons_of_mem _ (List.mem_cons_self ..)) h1; obtain ⟨nd2, ne2⟩ := hst.bne (List.mem_cons_of_mem _ (List.mem_cons_self ..)) h3; obtain ⟨tn1, tn2⟩ := hst.tne (List.mem_cons_self ..) (List.mem_cons_of_mem _ (List.mem_cons_self ..)) rfl))) | (go_at_call 57; refine Calls.mono (unhide HB _ ?_ ?_) ?_; rotate_left; (first | exact hst | exact hst.drew | exact hst.alloc _ | exact hst.dalloc _ | exact hst.alloc2 _ _ | exact hst.dalloc2 _ _); rintro e w3 ⟨av, cv, L3, rfl, hND, hst⟩; have kc1 := hst.cell h1 id; have kc3 := hst.cell h3 id; have kl1 := hst.clt h1; have kl3 := hst.clt h3; (try (obtain ⟨bx1, bz1, bl1, bm1, bo1⟩ := hst.bx (List.mem_append_left _ (List.mem_cons_self ..)); obtain ⟨nb1, nc1⟩ := hst.bne (List.mem_append_left _ (List.mem_cons_self ..)) h1; obtain ⟨nd1, ne1⟩ := hst.bne (List.mem_append_left _ (List.mem_cons_self ..)) h3)); (try (obtain ⟨bx2, bz2, bl2, bm2, bo2⟩ := hst.bx (List.mem_append_left _ (List.mem_cons_of_mem _ (List.mem_cons_self ..))); obtain ⟨nb2, nc2⟩ := hst.bne (List.mem_append_left _ (List.mem_cons_of_mem _ (List.mem_cons_self ..))) h1; obtain ⟨nd2, ne2⟩ := hst.bne (List.mem_append_left _ (List.mem_cons_of_mem _ (List.mem_cons_self ..))) h3; obtain ⟨tn1, tn2⟩ := hst.tne (List.mem_append_left _ (List.mem_cons_self ..)) (List.mem_append_left _ (List.mem_cons_of_mem _ (List.mem_cons_self ..))) rfl))))
    all_goals
      have HST := hide hst
      have HND := hide hND
      clear hst hND
      go_wp2_with fail
      go_ret2
      have hst := unhide HST
      refine ⟨_, _, av, cv, L3, rfl, unhide HND, ?_⟩
      first
        | exact hst.finA
        | exact hst.finB
        | exact hst.finC (unhide HND).bytes rfl
        | exact hst.finD (unhide HND).bytes rfl
        | exact hst.finE (List.mem_cons_self ..) (List.mem_cons_of_mem _ (List.mem_cons_self ..)) (by omega) (unhide HND).bytes rfl rfl
        | exact hst.finE (List.mem_cons_of_mem _ (List.mem_cons_self ..)) (List.mem_cons_self ..) (by omega) (unhide HND).bytes rfl rfl
end Go.Proofs.YtebcmicmklpflaaGreatDoor
/- Steps of a FS in memory: what is laid ahead of a thing, and the thing done. -/
namespace Go.Proofs.YtebcmicmklpflaaGreatDoor
open Go.RowKit Go.Maps
set_option linter.unusedSimpArgs false
/-- What is new is its own. -/
def grow (O : Nat → Prop) (w w' : World) : Nat → Prop := fun q => O q ∨ (w.heap.size ≤ q ∧ q < w'.heap.size)
theorem Rm.kept {w w' : World} {K : Nat → Option (List UInt8)} {v : Value} (h : Rm w K v) (hw : ∀ g l, K g = some l → w'.heap[g]? = w.heap[g]?) : Rm w' K v := fun g n c e hlt => by
  obtain ⟨l, cur, h1, h2, h3, h4⟩ := h g n c e hlt
  exact ⟨l, cur, h1, h2, by rw [hw g l h1]; exact h3, h4⟩
theorem FsM.tagged {w w' : World} {f : Nat} {lk : Int} {S : Fs} {X : List Th} {O : Nat → Prop} {K : Nat → Option (List UInt8)} {n l : Lie} {pv : Value} {ps : List Value} (h : FsM w f lk S X O K n l pv ps) (hF : TFr f n.m n.F n.b w w') {q : Nat} {x : Array Value} {t : TypeId} {z : Nat × Nat} (hq : w.heap[q]? = some (.cells x t z)) (h1 : t ≠ 92) (h2 : t ≠ 129) : w'.heap[q]? = w.heap[q]? :=
  hF.rest q (Array.getElem?_eq_some_iff.1 hq).1 (tag_ne hq h.blk h1) (fun e => by
    have := h.now.tab.tab
    rw [e] at this
    exact map_ne this hq rfl) (fun i hi => tag_ne hq (h.now.tab.file i hi) h2)
/-- A thing is done. -/
theorem FsM.did {w w' : World} {f : Nat} {lk : Int} {S : Fs} {X : List Th} {O : Nat → Prop} {K : Nat → Option (List UInt8)} {n l : Lie} {pv : Value} {ps : List Value} (h : FsM w f lk S X O K n l pv ps) {T' : Tb} {n' : Lie} {t : Th} (hF : TFr f n.m n.F n.b w w') (hT : TabL w' K (grow O w w') T' n')
    (hb : w'.heap[f]? = some (fsBlk lk { S with now := T' } n'.m l.m pv)) (hd : ∀ i, n'.F i → (n.F i ∧ n'.b i = n.b i) ∨ w.heap.size ≤ n'.b i) (hm : ∀ q, n'.m = some q → n.m = some q ∨ w.heap.size ≤ q) (hr : ∀ i, n'.F i → Rm w K (n'.h i)) (ha : ∀ i j, n'.F i → n'.F j → i ≠ j → Apart (n'.h i) (n'.h j))
    (hrun : t.ap (S.now, n.z) = some (T', n'.z)) (hk : n.k + 3 ≤ n'.k) : FsM w' f lk { S with now := T' } (X ++ [t]) (grow O w w') K n' l pv ps := by
  have hK : ∀ g x, K g = some x → w'.heap[g]? = w.heap[g]? := fun g x hg => by
    obtain ⟨cur, hc, _⟩ := h.kok g x hg
    exact h.tagged hF hc (by decide) (by decide)
  have hl1 : ∀ q, l.m = some q → w'.heap[q]? = w.heap[q]? := fun q e => by
    refine hF.rest q (h.lt q (h.las.om q e)) (h.mne h.las q e) (fun e2 => h.mdis q e2 e) (fun i hi e2 => ?_)
    have := h.las.tab.tab
    rw [e] at this
    exact map_ne this (h.now.tab.file i hi) e2
  have hl2 : ∀ j, l.F j → w'.heap[l.b j]? = w.heap[l.b j]? := fun j hj => by
    refine hF.rest _ (h.lt _ (h.las.ob j hj)) (h.bne h.las j hj) (fun e2 => ?_) (fun i hi e2 => h.dis i j hi hj e2.symm)
    have := h.now.tab.tab
    rw [e2] at this
    exact map_ne this (h.las.tab.file j hj) rfl
  have hsz := hF.size
  have hrow : w'.ownsRow 0 120 1 pv S.pend.length ps := by
    refine ⟨h.row.1, h.row.2.imp id ?_⟩
    rintro ⟨g, cap, cur, e, h1, h2, h3⟩
    exact ⟨g, cap, cur, e, h1, by rw [h.tagged hF h2 (by decide) (by decide)]; exact h2, h3⟩
  refine ⟨hb, hT, ⟨h.las.tab.kept hl1 hl2, h.las.ok, h.las.nk, fun q e => .inl (h.las.om q e), fun i hi => .inl (h.las.ob i hi), h.las.st⟩, fun i j hi hj e => ?_, fun q e e2 => ?_, fun g x hg => ?_, fun i hi _ => (hr i hi).kept hK, fun i j hi hj _ _ hne => ha i j hi hj hne, hrow, fun j v t e1 e2 => (h.ths j v t e1 e2).mono (Kle.refl _) (fun _ o => .inl o) (fun q x ty _ hq ht => h.tagged hF hq (by rcases ht with rfl | rfl <;> decide) (by rcases ht with rfl | rfl <;> decide)), ?_, ?_, ?_, h.pl, h.room, h.fz, .inl h.of, fun g x hg => .inl (h.oK g x hg), fun q e => .inl (h.op q e), fun q o => ?_⟩
  · rcases hd i hi with ⟨hi', e'⟩ | e'
    · exact h.dis i j hi' hj (e'.symm.trans e)
    · have := h.lt _ (h.las.ob j hj)
      omega
  · rcases hm q e with e' | e'
    · exact h.mdis q e' e2
    · have := h.lt _ (h.las.om q e2)
      omega
  · obtain ⟨cur, hc, hp⟩ := h.kok g x hg
    exact ⟨cur, by rw [hK g x hg]; exact hc, hp⟩
  · rw [runs_snoc, h.run]; exact hrun
  · have := h.kb
    simp only [List.length_append, List.length_singleton]
    omega
  · have := h.nb
    simp only [List.length_append, List.length_singleton]
    omega
  · rcases o with o | o
    · have := h.lt q o; omega
    · exact o.2
theorem blk_done {w w' : World} {f mb : Nat} {lk : Int} {S : Fs} {mn ml : Option Nat} {pv : Value} {T' : Tb} (hb : w.heap[f]? = some (fsBlk lk S mn ml pv)) (h : w'.heap[f]? = ((w.setCell ⟨f, 3 + 1, none⟩ (.int .i64 T'.u)).setCell ⟨f, 3, none⟩ (.map (some mb))).heap[f]?) : w'.heap[f]? = some (fsBlk lk { S with now := T' } (some mb) ml pv) := by
  rw [h]
  simp [World.setCell, Array.getElem?_modify, hb, fsBlk]
theorem blk_kept {w w' : World} {f : Nat} {lk : Int} {S : Fs} {mn ml : Option Nat} {pv : Value} {T' : Tb} (hb : w.heap[f]? = some (fsBlk lk S mn ml pv)) (h : w'.heap[f]? = (w.setCell ⟨f, 3 + 1, none⟩ (.int .i64 T'.u)).heap[f]?) : w'.heap[f]? = some (fsBlk lk { S with now := T' } mn ml pv) := by
  rw [h]
  simp [World.setCell, Array.getElem?_modify, hb, fsBlk]
theorem FsM.wrote {w w' : World} {f : Nat} {lk : Int} {S : Fs} {X : List Th} {O : Nat → Prop} {K : Nat → Option (List UInt8)} {n l : Lie} {pv : Value} {ps : List Value} (h : FsM w f lk S X O K n l pv ps) {s : ByteArray} {d : List UInt8} {v : Value} {mb : Nat} (hd : d.length ≤ 1048576)
    (hT : TabM w' K (some mb) (n.n + 1) (S.now.write s d n.z) (addF n.F n.z) (updN n.b n.z w.heap.size) (updN n.h n.z v)) (hD : Done f 3 n.m n.F n.b (S.now.write s d n.z).u mb w w') (hr : Rm w K v) (ha : ∀ i, n.F i → Apart v (n.h i) ∧ Apart (n.h i) v) (he : ∀ i, ¬ n.e i) :
    FsM w' f lk { S with now := S.now.write s d n.z } (X ++ [.write s d n.z]) (grow O w w') K ⟨some mb, n.n + 1, addF n.F n.z, updN n.b n.z w.heap.size, updN n.h n.z v, n.k + 3, n.z + 1, fun _ => False⟩ l pv ps := by
  have hni : ∀ i, n.F i → i ≠ n.z := fun i hi => Nat.ne_of_lt (h.now.st i hi)
  have hnew : w.heap.size < w'.heap.size := by
    have := hT.file n.z (.inl rfl)
    rw [updN_same] at this
    exact (Array.getElem?_eq_some_iff.1 this).1
  have hmb : mb < w'.heap.size := by
    obtain ⟨es, cl, hb⟩ := hT.tab.block
    exact (Array.getElem?_eq_some_iff.1 hb).1
  refine h.did hD.fr ⟨hT, h.now.ok.write s d n.z hd, by have := h.now.nk; show n.n + 1 ≤ n.k + 3; omega, fun q e => ?_, fun i hi => ?_, fun i hi => ?_⟩ (blk_done h.blk hD.blk) (fun i hi => ?_) (fun q e => ?_) (fun i hi => ?_) (fun i j hi hj hne => ?_) (by simp [Th.ap]) (Nat.le_refl _)
  · cases e
    rcases hD.new with e | ⟨_, e⟩
    · exact .inl (h.now.om _ e)
    · exact .inr ⟨e, hmb⟩
  · show grow O w w' (updN n.b n.z w.heap.size i)
    by_cases e : i = n.z
    · rw [e, updN_same]; exact .inr ⟨Nat.le_refl _, hnew⟩
    · rw [updN_ne _ _ e]; exact .inl (h.now.ob i (hi.resolve_left e))
  · show i < n.z + 1
    rcases hi with e | hi
    · omega
    · have := h.now.st i hi; omega
  · show (n.F i ∧ updN n.b n.z w.heap.size i = n.b i) ∨ w.heap.size ≤ updN n.b n.z w.heap.size i
    by_cases e : i = n.z
    · rw [e, updN_same]; exact .inr (Nat.le_refl _)
    · rw [updN_ne _ _ e]; exact .inl ⟨hi.resolve_left e, rfl⟩
  · cases e
    rcases hD.new with e | ⟨_, e⟩
    · exact .inl e
    · exact .inr e
  · show Rm w K (updN n.h n.z v i)
    by_cases e : i = n.z
    · rw [e, updN_same]; exact hr
    · rw [updN_ne _ _ e]; exact h.rm i (hi.resolve_left e) (he i)
  · show Apart (updN n.h n.z v i) (updN n.h n.z v j)
    by_cases ei : i = n.z
    · by_cases ej : j = n.z
      · exact absurd (ei.trans ej.symm) hne
      · rw [ei, updN_same, updN_ne _ _ ej]; exact (ha j (hj.resolve_left ej)).1
    · by_cases ej : j = n.z
      · rw [ej, updN_same, updN_ne _ _ ei]; exact (ha i (hi.resolve_left ei)).2
      · rw [updN_ne _ _ ei, updN_ne _ _ ej]; exact h.ap i j (hi.resolve_left ei) (hj.resolve_left ej) (he i) (he j) hne
theorem FsM.linked {w w' : World} {f : Nat} {lk : Int} {S : Fs} {X : List Th} {O : Nat → Prop} {K : Nat → Option (List UInt8)} {n l : Lie} {pv : Value} {ps : List Value} (h : FsM w f lk S X O K n l pv ps) {s old : ByteArray} {i mb : Nat} (hN : S.now.N old = some i)
    (hT : TabM w' K (some mb) (n.n + 1) (S.now.lay s i) n.F n.b n.h) (hD : Done f 3 n.m n.F n.b (S.now.lay s i).u mb w w') (he : ∀ i, ¬ n.e i) :
    FsM w' f lk { S with now := S.now.lay s i } (X ++ [.lay s old]) (grow O w w') K ⟨some mb, n.n + 1, n.F, n.b, n.h, n.k + 3, n.z, fun _ => False⟩ l pv ps := by
  have hmb : mb < w'.heap.size := by
    obtain ⟨es, cl, hb⟩ := hT.tab.block
    exact (Array.getElem?_eq_some_iff.1 hb).1
  refine h.did hD.fr ⟨hT, (h.now.ok.lay s i).mono (by show n.k + 2 ≤ n.k + 3; omega), by have := h.now.nk; show n.n + 1 ≤ n.k + 3; omega, fun q e => ?_, fun i hi => .inl (h.now.ob i hi), h.now.st⟩ (blk_done h.blk hD.blk) (fun i hi => .inl ⟨hi, rfl⟩) (fun q e => ?_) (fun i hi => h.rm i hi (he i)) (fun i j hi hj hne => h.ap i j hi hj (he i) (he j) hne) (by simp [Th.ap, hN]) (Nat.le_refl _)
  · cases e
    rcases hD.new with e | ⟨_, e⟩
    · exact .inl (h.now.om _ e)
    · exact .inr ⟨e, hmb⟩
  · cases e
    rcases hD.new with e | ⟨_, e⟩
    · exact .inl e
    · exact .inr e
theorem FsM.filled {w w' : World} {f : Nat} {lk : Int} {S : Fs} {X : List Th} {O : Nat → Prop} {K : Nat → Option (List UInt8)} {n l : Lie} {pv : Value} {ps : List Value} (h : FsM w f lk S X O K n l pv ps) {s : ByteArray} {d : List UInt8} {v : Value} {i : Nat} (hN : S.now.N s = some i) (hd : d.length ≤ 1048576)
    (hT : TabM w' K n.m n.n (S.now.put i d) n.F n.b (updN n.h i v)) (hD : Kept f 3 n.m n.F n.b (S.now.put i d).u w w') (hr : Rm w K v) (ha : ∀ j, n.F j → j ≠ i → Apart v (n.h j) ∧ Apart (n.h j) v) (he : ∀ j, j ≠ i → ¬ n.e j) :
    FsM w' f lk { S with now := S.now.put i d } (X ++ [.fill s d]) (grow O w w') K ⟨n.m, n.n, n.F, n.b, updN n.h i v, n.k + 3, n.z, fun _ => False⟩ l pv ps := by
  refine h.did hD.fr ⟨hT, (h.now.ok.put i d hd).mono (by show n.k + 1 ≤ n.k + 3; omega), by have := h.now.nk; show n.n ≤ n.k + 3; omega, fun q e => .inl (h.now.om q e), fun i hi => .inl (h.now.ob i hi), h.now.st⟩ (blk_kept h.blk hD.blk) (fun i hi => .inl ⟨hi, rfl⟩) (fun q e => .inl e) (fun j hj => ?_) (fun j k hj hk hne => ?_) (by simp [Th.ap, hN]) (Nat.le_refl _)
  · show Rm w K (updN n.h i v j)
    by_cases e : j = i
    · rw [e, updN_same]; exact hr
    · rw [updN_ne _ _ e]; exact h.rm j hj (he j e)
  · show Apart (updN n.h i v j) (updN n.h i v k)
    by_cases ei : j = i
    · by_cases ej : k = i
      · exact absurd (ei.trans ej.symm) hne
      · rw [ei, updN_same, updN_ne _ _ ej]; exact (ha k hk ej).1
    · by_cases ej : k = i
      · rw [ej, updN_same, updN_ne _ _ ei]; exact (ha j hj ei).2
      · rw [updN_ne _ _ ei, updN_ne _ _ ej]; exact h.ap j k hj hk (he j ei) (he k ej) hne
end Go.Proofs.YtebcmicmklpflaaGreatDoor
/- What is learnt of new blocks; what is pending grows; the fuse. -/
namespace Go.Proofs.YtebcmicmklpflaaGreatDoor
open Go.RowKit Go.Maps
set_option linter.unusedSimpArgs false
theorem FsM.wider {w : World} {f : Nat} {lk : Int} {S : Fs} {X : List Th} {O O' : Nat → Prop} {K : Nat → Option (List UInt8)} {n l : Lie} {pv : Value} {ps : List Value} (h : FsM w f lk S X O K n l pv ps) (hO : ∀ q, O q → O' q) (hl : ∀ q, O' q → q < w.heap.size) : FsM w f lk S X O' K n l pv ps :=
  ⟨h.blk, ⟨h.now.tab, h.now.ok, h.now.nk, fun q e => hO q (h.now.om q e), fun i hi => hO _ (h.now.ob i hi), h.now.st⟩, ⟨h.las.tab, h.las.ok, h.las.nk, fun q e => hO q (h.las.om q e), fun i hi => hO _ (h.las.ob i hi), h.las.st⟩, h.dis, h.mdis, h.kok, h.rm, h.ap, h.row, fun j v t e1 e2 => (h.ths j v t e1 e2).mono (Kle.refl _) hO (fun _ _ _ _ _ _ => rfl), h.run, h.kb, h.nb, h.pl, h.room, h.fz, hO f h.of, fun g x e => hO g (h.oK g x e), fun q e => hO q (h.op q e), hl⟩
theorem FsM.grew {w w1 : World} {f : Nat} {lk : Int} {S : Fs} {X : List Th} {O : Nat → Prop} {K : Nat → Option (List UInt8)} {n l : Lie} {pv : Value} {ps : List Value} (h : FsM w f lk S X O K n l pv ps) (hs : w.heap.size ≤ w1.heap.size) (hw : ∀ q, q < w.heap.size → w1.heap[q]? = w.heap[q]?) : FsM w1 f lk S X (grow O w w1) K n l pv ps :=
  (h.kept hs (fun q o => hw q (h.lt q o))).wider (fun _ o => .inl o) (fun q o => by
    rcases o with o | o
    · have := h.lt q o; omega
    · exact o.2)
/-- A block's bytes are learnt. -/
def learn (K : Nat → Option (List UInt8)) (g : Nat) (d : List UInt8) : Nat → Option (List UInt8) := fun q => if q = g then some d else K q
theorem learn_ne {K : Nat → Option (List UInt8)} {g q : Nat} {d : List UInt8} (h : q ≠ g) : learn K g d q = K q := by simp [learn, h]
theorem learn_same {K : Nat → Option (List UInt8)} {g : Nat} {d : List UInt8} : learn K g d g = some d := by simp [learn]
theorem Kle.learn {K : Nat → Option (List UInt8)} {g : Nat} {d : List UInt8} (h : ∀ l, K g = some l → l <+: d) : Kle K (learn K g d) := fun q l hq => by
  by_cases e : q = g
  · subst e; exact ⟨d, learn_same, h l hq⟩
  · exact ⟨l, by rw [learn_ne e]; exact hq, List.prefix_refl l⟩
theorem TabM.learnt {w : World} {K K' : Nat → Option (List UInt8)} {m : Option Nat} {n : Nat} {T : Tb} {F : Nat → Prop} {b : Nat → Nat} {h : Nat → Value} (hT : TabM w K m n T F b h) (hK : Kle K K') : TabM w K' m n T F b h :=
  ⟨hT.tab, hT.nil, hT.live, hT.file, hT.inj, fun i hi => (hT.data i hi).mono hK⟩
theorem FsM.learnt {w : World} {f : Nat} {lk : Int} {S : Fs} {X : List Th} {O : Nat → Prop} {K K' : Nat → Option (List UInt8)} {n l : Lie} {pv : Value} {ps : List Value} (h : FsM w f lk S X O K n l pv ps) (hK : Kle K K') (hk : KOK w K') (hO : ∀ g x, K' g = some x → O g) (hr : ∀ i, n.F i → ¬ n.e i → Rm w K' (n.h i)) : FsM w f lk S X O K' n l pv ps :=
  ⟨h.blk, ⟨h.now.tab.learnt hK, h.now.ok, h.now.nk, h.now.om, h.now.ob, h.now.st⟩, ⟨h.las.tab.learnt hK, h.las.ok, h.las.nk, h.las.om, h.las.ob, h.las.st⟩, h.dis, h.mdis, hk, hr, h.ap, h.row, fun j v t e1 e2 => (h.ths j v t e1 e2).mono hK (fun _ o => o) (fun _ _ _ _ _ _ => rfl), h.run, h.kb, h.nb, h.pl, h.room, h.fz, h.of, hO, h.op, h.lt⟩
theorem prefix_of_take {d : List UInt8} {cur : Array Value} (h : cur.toList.take d.length = byteVals d) : byteVals d <+: cur.toList := by
  rw [← h]; exact List.take_prefix _ _
/-- New bytes are learnt. -/
theorem FsM.ext {w w1 : World} {f : Nat} {lk : Int} {S : Fs} {X : List Th} {O : Nat → Prop} {K : Nat → Option (List UInt8)} {n l : Lie} {pv : Value} {ps : List Value} (h : FsM w f lk S X O K n l pv ps) {L L' : List (Nat × Obj)} {v : Value} {d : List UInt8} (hI : Inv (fun _ => False) w w1 L') (hN : NewData w.heap.size L v d) (hL : ∀ z ∈ L, z ∈ L') :
    ∃ K', FsM w1 f lk S X (grow O w w1) K' n l pv ps ∧ DataIs K' v d ∧ Rm w1 K' v ∧ ∀ i, n.F i → Apart v (n.h i) ∧ Apart (n.h i) v := by
  have h1 := h.grew hI.size (fun q hq => hI.blk q hq id)
  rcases hN with ⟨rfl, rfl, rfl⟩ | ⟨g, cap, cur, rfl, rfl, hlo, hc, hm, hsz, ht⟩
  · exact ⟨K, h1, ⟨none, 0, rfl, Nat.le_refl _, by simp [maxLen], .inl ⟨rfl, rfl⟩⟩, fun g n c e => (by cases e), fun i _ => ⟨fun g n c n' c' e => (by cases e), fun g n c n' c' _ e => (by cases e)⟩⟩
  · have hin := hL _ (List.mem_singleton.2 rfl)
    have hg := hI.held _ hin
    have hlt := hI.lt hin
    simp only at hg hlt
    have hKg : ∀ x, K g ≠ some x := fun x e => by have := h.lt g (h.oK g x e); omega
    have hle : Kle K (learn K g d) := Kle.learn fun l e => absurd e (hKg l)
    have hblk : ∀ i, n.F i → ∀ m c, n.h i ≠ .slice (some ⟨g, 0, none⟩) m c := fun i hi m c e => by
      obtain ⟨a, c', e2, _, _, h3⟩ := h.now.tab.data i hi
      rw [e] at e2
      injection e2 with e2
      rcases h3 with ⟨ea, _⟩ | ⟨g', l', ea, hk, _⟩
      · rw [ea] at e2; cases e2
      · rw [ea] at e2
        injection e2 with e2
        injection e2 with e2
        subst e2
        exact hKg l' hk
    refine ⟨learn K g d, h1.learnt hle (fun q x e => ?_) (fun q x e => ?_) (fun i hi hx q m c e hlt' => ?_), ⟨some ⟨g, 0, none⟩, cap, rfl, hc, hm, .inr ⟨g, d, rfl, learn_same, List.prefix_refl _⟩⟩, fun q m c e _ => ?_, fun i hi => ⟨fun q m c m' c' e e' => ?_, fun q m c m' c' e e' => ?_⟩⟩
    · by_cases eq : q = g
      · subst eq
        rw [learn_same] at e
        injection e with e
        subst e
        exact ⟨cur, hg, prefix_of_take ht⟩
      · rw [learn_ne eq] at e
        exact h1.kok q x e
    · by_cases eq : q = g
      · subst eq; exact .inr ⟨hlo, hlt⟩
      · rw [learn_ne eq] at e; exact h1.oK q x e
    · obtain ⟨l', cur', k1, k2, k3, k4⟩ := h1.rm i hi hx q m c e hlt'
      have hne : q ≠ g := fun eq => hKg l' (by rw [← eq]; exact k1)
      exact ⟨l', cur', by rw [learn_ne hne]; exact k1, k2, k3, k4⟩
    · injection e with e1 e2 e3
      injection e1 with e1
      injection e1 with e1
      subst e1 e2 e3
      exact ⟨d, cur, learn_same, rfl, hg, hsz⟩
    · injection e with e1
      injection e1 with e1
      injection e1 with e1
      subst e1
      exact absurd e' (hblk i hi m' c')
    · injection e' with e1
      injection e1 with e1
      injection e1 with e1
      subst e1
      exact absurd e (hblk i hi m c)
/-- One more thing is pending. -/
theorem FsM.pended {w w3 : World} {f : Nat} {lk : Int} {S : Fs} {X : List Th} {O : Nat → Prop} {K : Nat → Option (List UInt8)} {n l : Lie} {pv pv' : Value} {ps : List Value} {t : Th} {v : Value} (h : FsM w f lk S X O K n l pv ps) (hv : ThIs w K O v t) (hp : S.pend.length < 16383)
    (hown : w3.ownsRow 0 120 1 pv' (S.pend.length + 1) (ps ++ [v])) (hgr : w.grownBy w3 pv.ownBlock) (hloc : pv'.ownBlock = pv.ownBlock ∨ ∃ q, pv'.ownBlock = some q ∧ w.heap.size ≤ q ∧ q < w3.heap.size) :
    FsM (w3.setCell ⟨f, 7, none⟩ pv') f lk { S with pend := S.pend ++ [t] } X (grow O w w3) K n l pv' (ps ++ [v]) := by
  have hps : ps.length = S.pend.length := by have := h.row.1; omega
  have hrowb : ∀ q, pv.ownBlock = some q → ∃ cur, w.heap[q]? = some (.cells cur 120 (0, 0)) := fun q e => by
    rcases h.row.2 with ⟨rfl, _⟩ | ⟨g, cap, cur, rfl, _, hh, _⟩
    · simp [Value.ownBlock] at e
    · simp [Value.ownBlock] at e
      subst e
      exact ⟨cur, hh⟩
  have keep : ∀ (q : Nat) (x : Array Value) (ty : TypeId) (z : Nat × Nat), w.heap[q]? = some (Obj.cells x ty z) → ty ≠ 120 → ty ≠ 92 → (w3.setCell ⟨f, 7, none⟩ pv').heap[q]? = w.heap[q]? := fun q x ty z hq h1 h2 => by
    rw [set_other _ _ _ _ _ (tag_ne hq h.blk h2), hgr.block q (Array.getElem?_eq_some_iff.1 hq).1 (fun e => ?_)]
    obtain ⟨cur, hc⟩ := hrowb q e.symm
    exact tag_ne hq hc h1 rfl
  have keepm : ∀ {T : Tb} {a : Lie}, TabL w K O T a → ∀ q, a.m = some q → (w3.setCell ⟨f, 7, none⟩ pv').heap[q]? = w.heap[q]? := fun hT q e => by
    have hq : q < w.heap.size := h.lt q (hT.om q e)
    rw [set_other _ _ _ _ _ (h.mne hT q e), hgr.block q hq (fun e2 => ?_)]
    obtain ⟨cur, hc⟩ := hrowb q e2.symm
    have := hT.tab.tab
    rw [e] at this
    exact map_ne this hc rfl
  have hfb : w3.heap[f]? = w.heap[f]? := hgr.block f (h.lt f h.of) (fun e => by
    obtain ⟨cur, hc⟩ := hrowb f e.symm
    exact tag_ne hc h.blk (by decide) rfl)
  have hsz := hgr.size
  have hTL : ∀ {T : Tb} {a : Lie}, TabL w K O T a → TabL (w3.setCell ⟨f, 7, none⟩ pv') K (grow O w w3) T a := fun hT => ⟨hT.tab.kept (keepm hT) (fun i hi => keep _ _ _ _ (hT.tab.file i hi) (by decide) (by decide)), hT.ok, hT.nk, fun q e => .inl (hT.om q e), fun i hi => .inl (hT.ob i hi), hT.st⟩
  have hrow : (w3.setCell ⟨f, 7, none⟩ pv').ownsRow 0 120 1 pv' (S.pend.length + 1) (ps ++ [v]) := by
    refine ⟨hown.1, hown.2.imp id ?_⟩
    rintro ⟨g, cap, cur, e, h1, h2, h3⟩
    exact ⟨g, cap, cur, e, h1, by rw [set_other _ _ _ _ _ (tag_ne h2 (hfb.trans h.blk) (by decide))]; exact h2, h3⟩
  refine ⟨?_, hTL h.now, hTL h.las, h.dis, h.mdis, fun g x hg => ?_, fun i hi hx => (h.rm i hi hx).kept (fun g x hg => ?_), h.ap, by simpa using hrow, fun j u t' e1 e2 => ?_, h.run, h.kb, h.nb, by simp only [List.length_append, List.length_singleton]; omega, h.room, h.fz, .inl h.of, fun g x hg => .inl (h.oK g x hg), fun q e => ?_, fun q o => ?_⟩
  · have := h.blk
    simp [World.setCell, Array.getElem?_modify, hfb, this, fsBlk]
  · obtain ⟨cur, hc, hp⟩ := h.kok g x hg
    exact ⟨cur, by rw [keep _ _ _ _ hc (by decide) (by decide)]; exact hc, hp⟩
  · obtain ⟨cur, hc, hp⟩ := h.kok g x hg
    exact keep _ _ _ _ hc (by decide) (by decide)
  · have hm : ∀ {u : Value} {t : Th}, ThIs w K O u t → ThIs (w3.setCell ⟨f, 7, none⟩ pv') K (grow O w w3) u t := fun ht => ht.mono (Kle.refl _) (fun _ o => .inl o) (fun q x ty _ hq ht => keep q _ _ _ hq (by rcases ht with rfl | rfl <;> decide) (by rcases ht with rfl | rfl <;> decide))
    by_cases hj : j < S.pend.length
    · rw [List.getElem?_append_left (by omega)] at e1
      have e2' : (S.pend ++ [t])[j]? = some t' := e2
      rw [List.getElem?_append_left hj] at e2'
      exact hm (h.ths j u t' e1 e2')
    · have e2' : (S.pend ++ [t])[j]? = some t' := e2
      have hj2 := (List.getElem?_eq_some_iff.1 e2').1
      simp only [List.length_append, List.length_singleton] at hj2
      have hj3 : j = S.pend.length := by omega
      subst hj3
      rw [List.getElem?_append_right (by omega), hps] at e1
      rw [List.getElem?_append_right (Nat.le_refl _)] at e2'
      simp at e1 e2'
      subst e1 e2'
      exact hm hv
  · rcases hloc with e' | ⟨q', e', h1, h2⟩
    · exact .inl (h.op q (e' ▸ e))
    · rw [e'] at e
      injection e with e
      subst e
      exact .inr ⟨h1, h2⟩
  · rw [size_set]
    rcases o with o | o
    · have := h.lt q o; omega
    · exact o.2
end Go.Proofs.YtebcmicmklpflaaGreatDoor
/- change: what all things ask first, the thing, and what is pending. -/
namespace Go.Proofs.YtebcmicmklpflaaGreatDoor
open Go.RowKit Go.Maps
set_option linter.unusedSimpArgs false
section
variable {w : World} {f : Nat} {lk : Int} {S : Fs} {X : List Th} {O : Nat → Prop} {K : Nat → Option (List UInt8)} {n l : Lie} {pv : Value} {ps : List Value}
set_option maxRecDepth 20000 in
theorem dead_not (h : FsM w f lk S X O K n l pv ps) (hf : S.fuse ≠ some 0) : Calls Tryz.prog 72 #[.pointer (some ⟨f, 0, none⟩)] w fun e w' => e = .returned (.bool false) ∧ w' = w := by
  obtain ⟨_, _, _, _, _, _, _, h8, h9, _⟩ := h.cells
  cases hs : S.fuse with
  | none =>
    rw [hs] at h8
    exact dead_no f w h8
  | some k =>
    cases k with
    | zero => exact absurd hs hf
    | succ k =>
      rw [hs] at h8 h9
      simp only [Option.isSome_some, Option.getD_some] at h8 h9
      clear h hf hs
      go_enter Tryz.func72, Tryz.ntmps72
      go_wp2_with fail
      go_ret
      have e : decide (((k + 1 : Nat) : Int) = 0) = false := decide_eq_false (by omega)
      refine ⟨?_, rfl⟩
      first | rfl | (rw [← e]; rfl) | (simp; omega)
set_option maxRecDepth 20000 in
theorem dead_yes (h : FsM w f lk S X O K n l pv ps) (hf : S.fuse = some 0) : Calls Tryz.prog 72 #[.pointer (some ⟨f, 0, none⟩)] w fun e w' => e = .returned (.bool true) ∧ w' = w := by
  obtain ⟨_, _, _, _, _, _, _, h8, h9, _⟩ := h.cells
  rw [hf] at h8 h9
  simp only [Option.isSome_some, Option.getD_some] at h8 h9
  clear h hf
  go_enter Tryz.func72, Tryz.ntmps72
  go_wp2_with fail
  go_ret
  exact ⟨rfl, rfl⟩
set_option maxRecDepth 20000 in
theorem FsM.burnt (h : FsM w f lk S X O K n l pv ps) (hf : S.fuse ≠ some 0) : ∃ w', Calls Tryz.prog 73 #[.pointer (some ⟨f, 0, none⟩)] w (fun e w2 => e = .returned (.tuple #[]) ∧ w2 = w') ∧ FsM w' f lk { S with fuse := S.fuse.map Nat.pred } X O K n l pv ps ∧ FFr O O w w' := by
  obtain ⟨_, _, _, _, _, _, _, h8, h9, hz⟩ := h.cells
  cases hs : S.fuse with
  | none =>
    refine ⟨w, ?_, ?_, FFr.refl _ _⟩
    · rw [hs] at h8
      exact burn_no f w h8
    · exact h.reset rfl rfl rfl rfl (by have := h.fz; simp [hs]) (Nat.le_refl _) (by rw [h.blk]; simp [fsBlk, hs]) (fun _ _ _ => rfl)
  | some k =>
    cases k with
    | zero => exact absurd hs hf
    | succ k =>
      rw [hs] at h8 h9
      simp only [Option.isSome_some, Option.getD_some] at h8 h9
      have hfz : k + 1 ≤ 9223372036854775807 := by have := h.fz; rw [hs] at this; simpa using this
      refine ⟨w.setCell ⟨f, 9, none⟩ (.int .i64 (k : Int)), ?_, ?_, ⟨rfl, rfl, rfl, by rw [size_set]; exact Nat.le_refl _, fun q _ hq => set_other _ _ _ _ _ (fun e => hq (e ▸ h.of)), fun _ o => .inl o⟩⟩
      · have hz9 := hz 9
        have HW : Hid (Go.RowKit.wrap64 (k : Int) = (k : Int)) := by show Go.RowKit.wrap64 (k : Int) = _; first | (rw [← IntKind.wrap_i64]; exact wrap64 (by omega)) | (unfold Go.RowKit.wrap64; omega)
        clear h hf hs hz hfz
        go_enter Tryz.func73, Tryz.ntmps73
        go_wp2_with fail
        go_end0
        exact ⟨rfl, by rw [unhide HW]⟩
      · refine h.reset rfl rfl rfl rfl (by simp; omega) (by rw [size_set]; exact Nat.le_refl _) ?_ (fun q _ hne => set_other _ _ _ _ _ hne)
        have := h.blk
        simp [World.setCell, Array.getElem?_modify, this, fsBlk, hs]
end
/-- A FS behind a thing. -/
def Fs.done (S : Fs) (T : Tb) (t : Th) : Fs := ⟨S.room, T, S.las, S.pend ++ [t], S.fuse.map Nat.pred⟩
/-- A function that is entered. -/
def Enters (fn : Nat) : Prop := ∀ (args : Array Value) (w : World), (callFunc fn args).run Tryz.prog w = .ok (.enter fn args) w
theorem enters_of {fn : Nat} {fd : Func} (h : Tryz.prog.funcs[fn]? = some fd) (h1 : (fd.name == "runtime.NumGoroutine") = false) (h2 : fd.body.isNone = false) : Enters fn := fun args w => by
  have h1' : ¬ fd.name = "runtime.NumGoroutine" := by simpa using h1
  have h2' : ¬ fd.body = none := by
    intro e
    rw [e] at h2
    simp at h2
  simp [callFunc, go_sem, h, h1', h2']
set_option maxRecDepth 20000 in
theorem enters28 : Enters 66 := enters_of Tryz.func66 (by kernel_rfl) (by kernel_rfl)
set_option maxRecDepth 20000 in
theorem enters57 : Enters 192 := enters_of Tryz.func192 (by kernel_rfl) (by kernel_rfl)
set_option maxRecDepth 20000 in
theorem enters34 : Enters 70 := enters_of Tryz.func70 (by kernel_rfl) (by kernel_rfl)
set_option maxRecDepth 20000 in
theorem enters58 : Enters 193 := enters_of Tryz.func193 (by kernel_rfl) (by kernel_rfl)
/-- What a plan leaves that did not err. -/
def Ready (f : Nat) (S : Fs) (O : Nat → Prop) (T : Tb) (t : Th) (k : Nat) (w1 w2 : World) (fn : Nat) (a b : Value) : Prop :=
  Enters fn ∧ ∃ O2 K n l pv ps, FsM w2 f 1 S S.pend O2 K n l pv ps ∧ n.k ≤ k ∧ FFr O O2 w1 w2 ∧ ThIs w2 K O2 (.func (.func fn) #[] #[a, b]) t ∧
    Calls Tryz.prog fn #[.pointer (some ⟨f, 3, none⟩), a, b] w2 (fun e w3 => e = .returned (.tuple #[]) ∧ ∃ n', n'.k ≤ k + 3 ∧ (∀ i, ¬ n'.e i) ∧ FsM w3 f 1 { S with now := T } (S.pend ++ [t]) (grow O2 w2 w3) K n' l pv ps ∧ FFr O2 (grow O2 w2 w3) w2 w3 ∧ ThIs w3 K (grow O2 w2 w3) (.func (.func fn) #[] #[a, b]) t)
def app65 (ty : TypeId) (args : Array Value) : Sem Value := Builtin.append_ #[90, 90] ty args
@[go_sem ↓] theorem append_app65 (ty : TypeId) (args : Array Value) : Builtin.append_ #[90, 90] ty args = app65 ty args := rfl
theorem info70 : ∃ i z, Tryz.prog.info? 120 = some i ∧ i.zero = some z ∧ i.size = 1 ∧ i.bytes = 8 ∧ z.cells.size = 1 := by
  have h : (Tryz.prog.info? 120).map (fun i => (i.zero.map (fun z => z.cells.size), i.size, i.bytes)) = some (some 1, 1, 8) := by kernel_rfl
  cases hq : Tryz.prog.info? 120 with
  | none => simp [hq] at h
  | some i =>
    simp [hq] at h
    obtain ⟨⟨z, hz, h1⟩, h2, h3⟩ := h
    exact ⟨i, z, rfl, hz, h2, h3, h1⟩
/-- What is pending grows, in a world that stands. -/
theorem pend_grows {w : World} {f : Nat} {lk : Int} {S : Fs} {X : List Th} {O : Nat → Prop} {K : Nat → Option (List UInt8)} {n l : Lie} {pv : Value} {ps : List Value} {t : Th} {fn : Nat} {a b : Value} (h : FsM w f lk S X O K n l pv ps) (hv : ThIs w K O (.func (.func fn) #[] #[a, b]) t) (hp : S.pend.length < 16383) :
    ∃ pv' w3, (∀ ty, (app65 ty #[pv, .slice (some ⟨w.heap.size, 0, none⟩) 1 1]).run Tryz.prog (w.alloc (.cells #[.func (.func fn) #[] #[a, b]] 120)) = .ok pv' w3) ∧ w3.cell? ⟨f, 7, none⟩ = some pv ∧ w3.frozen? ⟨f, 7, none⟩ = false ∧ (∃ a' c', pv' = .slice a' (S.pend.length + 1) c') ∧
      FsM (w3.setCell ⟨f, 7, none⟩ pv') f lk { S with pend := S.pend ++ [t] } X (grow O w w3) K n l pv' (ps ++ [.func (.func fn) #[] #[a, b]]) ∧ FFr O (grow O w w3) w (w3.setCell ⟨f, 7, none⟩ pv') := by
  obtain ⟨i, z, hi, hz, hsz, hby, hzs⟩ := info70
  have hpl := h.pl
  have hnews : ∀ j u, [(Value.func (.func fn) #[] #[a, b])][j]? = some u → (w.alloc (.cells #[.func (.func fn) #[] #[a, b]] 120)).cell? ((⟨w.heap.size, 0, none⟩ : Addr).add j) = some u := cell_one_new w (.func (.func fn) #[] #[a, b]) 120
  obtain ⟨pv', w3, hr, hown, hgr, hnil, hloc⟩ := run_append_own_at (P := Tryz.prog) (w.alloc (.cells #[.func (.func fn) #[] #[a, b]] 120)) 0 90 90 120 i z 1 8 Tryz.underlying90 hi hz hsz hby hzs (by omega) pv S.pend.length ps (h.row.alloc _) ⟨w.heap.size, 0, none⟩ 1 1 [.func (.func fn) #[] #[a, b]] rfl hnews (fun u hu => by simp at hu; subst hu; rfl) (by simp only [maxLen]; omega) (by omega) (Nat.zero_le _)
  have hg2 : w.grownBy w3 pv.ownBlock := (World.grownBy_alloc w _ _).trans hgr
  have hs1 : (w.alloc (.cells #[.func (.func fn) #[] #[a, b]] 120)).heap.size = w.heap.size + 1 := by simp
  have hlt : ∀ q, pv'.ownBlock = some q → q < w3.heap.size := fun q e => by
    rcases hown.2 with ⟨rfl, _⟩ | ⟨g, cap, cur, rfl, _, hh, _⟩
    · simp [Value.ownBlock] at e
    · simp [Value.ownBlock] at e
      subst e
      exact (Array.getElem?_eq_some_iff.1 hh).1
  have hM := h.pended hv hp hown hg2 (hloc.imp id (fun e => ⟨_, e, by omega, hlt _ e⟩))
  have hfb : w3.heap[f]? = w.heap[f]? := hg2.block f (h.lt f h.of) (fun e => by
    rcases h.row.2 with ⟨rfl, _⟩ | ⟨g, cap, cur, rfl, _, hh, _⟩
    · simp [Value.ownBlock] at e
    · simp [Value.ownBlock] at e
      subst e
      exact tag_ne hh h.blk (by decide) rfl)
  obtain ⟨_, _, _, _, _, _, h7, _, _, hzz⟩ := h.cells
  refine ⟨pv', w3, fun _ => hr, ?_, ?_, ?_, hM, ⟨hg2.os, hg2.tape, hg2.output, by rw [size_set]; exact hg2.size, fun q h1 h2 => ?_, fun q o => ?_⟩⟩
  · rw [World.cell?_of_block (w := w) (a := ⟨f, 7, none⟩) hfb]; exact h7
  · rw [World.frozen?_of_block (w := w) (a := ⟨f, 7, none⟩) hfb]; exact hzz 7
  · rcases hown.2 with ⟨_, e⟩ | ⟨g, cap, cur, e, _⟩
    · omega
    · exact ⟨_, _, e⟩
  · rw [set_other _ _ _ _ _ (fun e => h2 (by rw [e]; exact h.of)), hg2.block q h1 (fun e => h2 (h.op q e.symm))]
  · exact o.imp id (fun o => o.1)
set_option maxRecDepth 20000 in
set_option maxHeartbeats 2000000 in
theorem change_ok (f : Nat) (S : Fs) (O : Nat → Prop) (K : Nat → Option (List UInt8)) (n l : Lie) (pv : Value) (ps : List Value) (w : World) (h : FsM w f 0 S S.pend O K n l pv ps) (hf : S.fuse ≠ some 0) (hp : S.pend.length < 16383) (pf : Nat) (c1 c2 c3 : Value) (gn : Nat) (ss : List ByteArray) (cap : Nat)
    (hss : ∀ s ∈ ss, 1 ≤ s.size ∧ s.size ≤ 300) (hlen : ss.length ≤ 100) (hnm : ∀ (k : Nat) (s : ByteArray), ss[k]? = some s → w.cell? ⟨gn, k, none⟩ = some (.string s)) (hgn : gn ≠ f) (T : Tb) (t : Th) (k : Nat) (hcf : Enters pf)
    (HP : Calls Tryz.prog pf #[c1, c2, c3] (w.setCell ⟨f, 0, none⟩ (.int .i32 1)) fun e w2 => ∃ fn a b, e = .returned (.tuple #[.func (.func fn) #[] #[a, b], .int .i64 0]) ∧ Ready f S O T t k (w.setCell ⟨f, 0, none⟩ (.int .i32 1)) w2 fn a b) :
    Calls Tryz.prog 65 #[.pointer (some ⟨f, 0, none⟩), .func (.func pf) #[] #[c1, c2, c3], .slice (some ⟨gn, 0, none⟩) ss.length cap] w fun e w' => e = .returned (.int .i64 0) ∧ ∃ O', FsIs w' f 0 (S.done T t) O' (k + 3) ∧ FFr O O' w w' := by
  obtain ⟨h0, _, _, _, _, _, _, _, _, hz⟩ := h.cells
  obtain ⟨w1, hw1⟩ : ∃ w1, w1 = w.setCell ⟨f, 0, none⟩ (.int .i32 1) := ⟨_, rfl⟩
  have hM1 : FsM w1 f 1 S S.pend O K n l pv ps := by rw [hw1]; exact h.lock 1
  have HD := hide (dead_not hM1 hf)
  have HL := hide (lock_free ⟨f, 0, none⟩ w h0 (hz 0))
  rw [← hw1] at HL HP
  have HP := hide HP
  have hnm1 : ∀ (k : Nat) (s : ByteArray), ss[k]? = some s → w1.cell? ⟨gn, k, none⟩ = some (.string s) := fun k s e => by rw [hw1, World.cell?_setCell_other _ ⟨f, 0, none⟩ ⟨gn, k, none⟩ _ (by simp [Ne.symm hgn])]; exact hnm k s e
  have HS := hide hss
  unfold Enters at hcf
  have HN := hide hnm1
  have HF : Hid (FFr O O w w1) := by rw [hw1]; exact ⟨rfl, rfl, rfl, by rw [size_set]; exact Nat.le_refl _, fun q _ hq => set_other _ _ _ _ _ (fun e => hq (e ▸ h.of)), fun _ o => .inl o⟩
  clear hnm hnm1 hss hM1 h hw1 hz h0
  have hlen2 : (ss.length : Int) ≤ 100 := by omega
  generalize hNN : ss.length = N at *
  have HNN := hide hNN
  clear hNN
  go_enter_defers Tryz.func65, Tryz.ntmps65
  go_wp2_with fail
  refine (unhide HL).mono ?_
  rintro e w' ⟨rfl, rfl⟩
  go_wp2_with fail
  refine (unhide HD).mono ?_
  rintro e w' ⟨rfl, rfl⟩
  go_wp2_with fail
  go_loop [24] (fun i => ∃ k : Nat, k ≤ N ∧ i = .int .i64 k) (fun i => N - (intOf i).toNat)
  case atStart => exact ⟨0, Nat.zero_le _, rfl⟩
  case round =>
    obtain ⟨j, hj, rfl⟩ := hrel
    by_cases hlt : j < N
    · obtain ⟨s, hs, h1, h2⟩ : ∃ s, w'.cell? ⟨gn, j, none⟩ = some (.string s) ∧ 1 ≤ s.size ∧ s.size ≤ 300 := by
        have hj2 : j < ss.length := by rw [unhide HNN]; exact hlt
        exact ⟨ss[j], unhide HN j ss[j] (List.getElem?_eq_getElem hj2), unhide HS _ (List.getElem_mem hj2)⟩
      go_wp2_with fail
      go_round
      case rel => exact ⟨j + 1, by omega, by go_num⟩
      case measure => simp [intOf]; omega
    · go_wp2_with fail
      refine (unhide HP).mono ?_
      rintro e w2 ⟨fn, ca, cb, rfl, hen, O2, K2, n2, l2, pv2, ps2, hM2, hk2, hF2, hT2, hDo⟩
      have HDo := hide hDo
      have HT2 := hide hT2
      have HM2 := hide hM2
      obtain ⟨_, _, _, _, _, _, h7, _, _, _⟩ := hM2.cells
      have hpv : ∃ a c, pv2 = .slice a S.pend.length c := by
        rcases hM2.row.2 with ⟨e, e2⟩ | ⟨g, cap, cur, e, _⟩
        · exact ⟨none, 0, by rw [e, e2]⟩
        · exact ⟨_, _, e⟩
      obtain ⟨pa, pc, rfl⟩ := hpv
      have hpn : ¬ ((S.pend.length : Int) = 16384) := by omega
      have HF2 := hide hF2
      clear hM2 hT2 hDo hF2
      generalize hPP : S.pend.length = PL at *
      have HPP := hide hPP
      clear hPP
      unfold Enters at hen
      go_wp2_with fail
      refine (unhide HDo).mono ?_
      rintro e w3 ⟨rfl, n3, hk3, he3, hM3, hF3, hT3⟩
      obtain ⟨pv3, w4, hr4, hc4, hz4, ⟨pa4, pc4, rfl⟩, hM4, hF4⟩ := pend_grows hM3 hT3 (by show S.pend.length < _; rw [unhide HPP]; exact hp)
      obtain ⟨_, _, _, _, _, _, h73, _, _, _⟩ := hM3.cells
      obtain ⟨w5, hB5, hM5, hF5⟩ := hM4.burnt hf
      obtain ⟨h05, _, _, _, _, _, _, _, _, hz5⟩ := hM5.cells
      have z05 := hz5 0
      have HE : Hid (∃ O', FsIs (w5.setCell ⟨f, 0, none⟩ (.int .i32 0)) f 0 (S.done T t) O' (k + 3) ∧ FFr O O' w (w5.setCell ⟨f, 0, none⟩ (.int .i32 0))) := by
        refine ⟨_, ⟨_, n3, _, _, _, hM5.lock 0, hk3, he3⟩, (unhide HF).trans ((unhide HF2).trans (hF3.trans (hF4.trans (hF5.trans ⟨rfl, rfl, rfl, by rw [size_set]; exact Nat.le_refl _, fun q _ hq => set_other _ _ _ _ _ (fun e => hq (by rw [e]; exact hM5.of)), fun _ o => .inl o⟩))))⟩
      have HB5 := hide hB5
      have HS4 : Hid (({ S with now := T } : Fs).pend.length = PL) := by show S.pend.length = PL; exact unhide HPP
      clear hM3 hT3 hM4 hF4 hF3 hB5 hM5 hF5 hz5
      simp only [show ({ S with now := T } : Fs).pend = S.pend from rfl, unhide HPP] at *
      go_wp2_with fail
      refine (unhide HB5).mono ?_
      rintro e w6 ⟨rfl, rfl⟩
      go_wp2_with fail
      refine leaves_cons (f := 55) (args := #[.pointer (some ⟨f, 0, none⟩)]) (by simp) (by simp [go_sem]) ?_
      refine (unlock_deferred ⟨f, 0, none⟩ .returning _ h05 z05).mono ?_
      rintro e u' w7 ⟨rfl, rfl, rfl⟩
      exact ⟨_, results_tmp rfl _ _ _, rfl, unhide HE⟩
end Go.Proofs.YtebcmicmklpflaaGreatDoor
/- The thing that Write does, of a name that names nothing yet. -/
namespace Go.Proofs.YtebcmicmklpflaaGreatDoor
open Go.RowKit Go.Maps
set_option linter.unusedSimpArgs false
set_option maxRecDepth 20000 in
set_option maxHeartbeats 1000000 in
theorem do_write (f o bn bd : Nat) (m : Option Nat) (n : Nat) (L : ByteArray → Option Nat) (s : ByteArray) (a : Option Addr) (d c : Nat) (u : Nat) (w : World) (hc : w.cell? ⟨f, o, none⟩ = some (.map m)) (hu : w.cell? ⟨f, o + 1, none⟩ = some (.int .i64 (u : Int))) (hfz : ∀ j, w.frozen? ⟨f, j, none⟩ = false)
    (h : TabIs w m n L) (hs : s.size ≤ maxLen) (hn : n < maxLen) (hL : L s = none) (hm : m = none → n = 0) (hb : u + d ≤ 1000000000000) (h1 : w.cell? ⟨bn, 0, none⟩ = some (.string s)) (h2 : w.cell? ⟨bd, 0, none⟩ = some (.slice a d c)) :
    Calls Tryz.prog 70 #[.pointer (some ⟨f, o, none⟩), .pointer (some ⟨bn, 0, none⟩), .pointer (some ⟨bd, 0, none⟩)] w fun e w' => e = .returned (.tuple #[]) ∧ ∃ mb, Laid f o w.heap.size mb m 0 n L s ((w.setCell ⟨f, o + 1, none⟩ (.int .i64 ((u + d : Nat) : Int))).alloc (.cells #[.slice a d c, .int .i32 0] 129)) w' := by
  have HW := hide (write_none f o m n L s a d c u w hc hu hfz h hs hn hL hm hb)
  clear h hfz
  go_enter Tryz.func70, Tryz.ntmps70
  go_wp2_with fail
  refine (unhide HW).mono ?_
  rintro e w2 ⟨rfl, hE⟩
  have HE := hide hE
  clear hE
  go_wp2_with fail
  go_end0
  exact ⟨rfl, unhide HE⟩
end Go.Proofs.YtebcmicmklpflaaGreatDoor
/- fill, and the things that Append and Link do. -/
namespace Go.Proofs.YtebcmicmklpflaaGreatDoor
open Go.RowKit Go.Maps
set_option linter.unusedSimpArgs false
set_option maxRecDepth 20000 in
set_option maxHeartbeats 1000000 in
theorem fill_any (f o : Nat) (m : Option Nat) (n : Nat) (L : ByteArray → Option Nat) (s : ByteArray) (g : Nat) (a0 : Option Addr) (d0 c0 : Nat) (a : Option Addr) (d c : Nat) (u : Nat) (w : World) (hc : w.cell? ⟨f, o, none⟩ = some (.map m)) (hu : w.cell? ⟨f, o + 1, none⟩ = some (.int .i64 (u : Int))) (hfz : w.frozen? ⟨f, o + 1, none⟩ = false)
    (h : TabIs w m n L) (hs : s.size ≤ maxLen) (hL : L s = some g) (hg : w.cell? ⟨g, 0, none⟩ = some (.slice a0 d0 c0)) (hgz : w.frozen? ⟨g, 0, none⟩ = false) (hd : d0 ≤ d) (hb : u + d ≤ 1000000000000) :
    Calls Tryz.prog 194 #[.pointer (some ⟨f, o, none⟩), .string s, .slice a d c] w fun e w' => e = .returned (.tuple #[]) ∧ w'.heap = ((w.setCell ⟨f, o + 1, none⟩ (.int .i64 ((u + (d - d0) : Nat) : Int))).setCell ⟨g, 0, none⟩ (.slice a d c)).heap ∧ w'.os = w.os ∧ w'.tape = w.tape ∧ w'.output = w.output := by
  have hl := tab_look h hs
  rw [hL] at hl
  unfold ptr at hl
  have hw1 : IntKind.i64.wrap ((d : Int) - (d0 : Int)) = (d : Int) - (d0 : Int) := by rw [IntKind.wrap_i64]; omega
  have hw2 : IntKind.i64.wrap ((u : Int) + ((d : Int) - (d0 : Int))) = (u : Int) + ((d : Int) - (d0 : Int)) := by rw [IntKind.wrap_i64]; omega
  have ec : ((u + (d - d0) : Nat) : Int) = (u : Int) + ((d : Int) - (d0 : Int)) := by omega
  rw [ec]
  clear h ec
  go_enter Tryz.func194, Tryz.ntmps194
  go_wp2_with fail
  go_region
  all_goals go_wp2_with fail
  all_goals go_end0
  all_goals exact ⟨rfl, rfl, rfl, rfl, rfl⟩
theorem Laid.of_drew {f o gx mb : Nat} {m : Option Nat} {k : Int} {n : Nat} {L : ByteArray → Option Nat} {s : ByteArray} {w w' : World} (h : Laid f o gx mb m k n L s w.drew w') : Laid f o gx mb m k n L s w w' :=
  ⟨h.os, h.tape, h.output, h.size, h.rest, h.tb, h.fl, h.tab, h.new⟩
end Go.Proofs.YtebcmicmklpflaaGreatDoor
/- Used and Read. -/
namespace Go.Proofs.YtebcmicmklpflaaGreatDoor
open Go.RowKit Go.Maps
set_option linter.unusedSimpArgs false
theorem set_two {w : World} {f o : Nat} {v u : Value} (h0 : w.cell? ⟨f, o, none⟩ = some u) : ((w.setCell ⟨f, o, none⟩ v).setCell ⟨f, o, none⟩ u).heap = w.heap := by
  apply Array.ext_getElem?
  intro q
  by_cases hq : q = f
  · subst hq
    have h1 := set_self h0
    have h2 : ((w.setCell ⟨q, o, none⟩ v).setCell ⟨q, o, none⟩ u).heap[q]? = (w.setCell ⟨q, o, none⟩ u).heap[q]? := by
      unfold World.cell? at h0
      split at h0
      · rename_i c t fr e
        simp [World.setCell, Array.getElem?_modify, e]
      · simp at h0
    rw [h2, h1]
  · rw [set_other _ _ _ _ _ hq, set_other _ _ _ _ _ hq]
/-- Nothing has changed but draws and what was laid behind. -/
theorem below_two {w W : World} {f : Nat} {v : Value} (h0 : w.cell? ⟨f, 0, none⟩ = some v) (hb : Below w.heap.size (w.setCell ⟨f, 0, none⟩ (.int .i32 1)) W) : Below w.heap.size w (W.setCell ⟨f, 0, none⟩ v) := by
  have hfl : f < w.heap.size := cellLt h0
  have hs0 : (w.setCell ⟨f, 0, none⟩ (.int .i32 1)).heap.size = w.heap.size := by simp [World.setCell]
  refine ⟨hb.os, hb.tape, hb.output, by have := hb.size; rw [hs0] at this; simpa [World.setCell] using this, fun q hq => ?_⟩
  by_cases he : q = f
  · subst he
    have h1 : (W.setCell ⟨q, 0, none⟩ v).heap[q]? = ((w.setCell ⟨q, 0, none⟩ (.int .i32 1)).setCell ⟨q, 0, none⟩ v).heap[q]? := by
      simp only [World.setCell, Array.getElem?_modify]
      have := hb.block q hq
      simp only [World.setCell, Array.getElem?_modify] at this
      rw [this]
    rw [h1, set_two h0]
  · rw [set_other _ _ _ _ _ he, hb.block q hq, set_other _ _ _ _ _ he]
theorem tab_set {w : World} {m : Option Nat} {n : Nat} {L : ByteArray → Option Nat} {f o : Nat} {v0 : Value} (h : TabIs w m n L) (hc : w.cell? ⟨f, o, none⟩ = some v0) (v : Value) : TabIs (w.setCell ⟨f, o, none⟩ v) m n L := h.same fun mb e => by
  refine set_other _ _ _ _ _ fun e2 => ?_
  subst e e2
  obtain ⟨D, ⟨es, clock, hb, _⟩, _⟩ := h
  simp [World.cell?, hb] at hc
theorem Row.set {hi : Nat} {w : World} {v : Value} {d : List UInt8} {f o : Nat} {x : Value} (h : Row hi w v d) (hc : w.cell? ⟨f, o, none⟩ = some x) (hx : ∀ z : Int, x ≠ .int .u8 z) (y : Value) : Row hi (w.setCell ⟨f, o, none⟩ y) v d := by
  obtain ⟨a, c, e, hc', hr⟩ := h
  refine ⟨a, c, e, hc', fun h0 => ?_⟩
  obtain ⟨g, p, ea, hg, hcell⟩ := hr h0
  refine ⟨g, p, ea, hg, fun j u hj => ?_⟩
  rw [World.cell?_setCell_other _ ⟨f, o, none⟩ ⟨g, p + j, none⟩ _ (fun e2 => ?_)]
  · exact hcell j u hj
  · have h1 := hcell j u hj
    rw [← e2, hc] at h1
    injection h1 with h1
    unfold byteVals at hj
    rw [List.getElem?_map] at hj
    obtain ⟨b, _, hb⟩ := Option.map_eq_some_iff.1 hj
    exact hx _ (h1.trans hb.symm)
theorem Row.below {hi : Nat} {w w' : World} {v : Value} {d : List UInt8} (h : Row hi w v d) (hb : Below hi w w') : Row hi w' v d := by
  obtain ⟨a, c, e, hc', hr⟩ := h
  refine ⟨a, c, e, hc', fun h0 => ?_⟩
  obtain ⟨g, p, ea, hg, hcell⟩ := hr h0
  exact ⟨g, p, ea, hg, fun j u hj => by rw [hb.cell (p := ⟨g, p + j, none⟩) hg]; exact hcell j u hj⟩
set_option maxRecDepth 20000 in
set_option maxHeartbeats 1000000 in
theorem read_some (f : Nat) (m : Option Nat) (n : Nat) (L : ByteArray → Option Nat) (s : ByteArray) (g : Nat) (a : Option Addr) (c : Nat) (d : List UInt8) (hi : Nat) (w : World) (h0 : w.cell? ⟨f, 0, none⟩ = some (.int .i32 0)) (hz : w.frozen? ⟨f, 0, none⟩ = false) (h3 : w.cell? ⟨f, 3, none⟩ = some (.map m)) (h : TabIs w m n L) (hs : s.size ≤ maxLen) (hL : L s = some g)
    (hg : w.cell? ⟨g, 0, none⟩ = some (.slice a d.length c)) (hrow : Row hi w (.slice a d.length c) d) (hhi : hi ≤ w.heap.size) (hd : d.length ≤ 1000000000) (hne : g ≠ f) :
    Calls Tryz.prog 30 #[.pointer (some ⟨f, 0, none⟩), .string s] w fun e w' => ∃ v, e = .returned (.tuple #[v, .int .i64 0]) ∧ Row w'.heap.size w' v d ∧ Below w.heap.size w w' := by
  obtain ⟨W1, hW1⟩ : ∃ W1, W1 = w.setCell ⟨f, 0, none⟩ (.int .i32 1) := ⟨_, rfl⟩
  have hfl : f < w.heap.size := cellLt h0
  have hs1 : W1.heap.size = w.heap.size := by rw [hW1]; simp [World.setCell]
  have t3 : W1.cell? ⟨f, 3, none⟩ = some (.map m) := by rw [hW1, World.cell?_setCell_other _ ⟨f, 0, none⟩ ⟨f, 3, none⟩ _ (by simp)]; exact h3
  have t0 : W1.cell? ⟨f, 0, none⟩ = some (.int .i32 1) := by rw [hW1]; exact World.cell?_setCell_same w ⟨f, 0, none⟩ (.int .i32 1) h0
  have tg : W1.cell? ⟨g, 0, none⟩ = some (.slice a d.length c) := by rw [hW1, World.cell?_setCell_other _ ⟨f, 0, none⟩ ⟨g, 0, none⟩ _ (by simp [Ne.symm hne])]; exact hg
  have hT1 : TabIs W1 m n L := by rw [hW1]; exact tab_set h h0 _
  have hR1 : Row hi W1 (.slice a d.length c) d := by rw [hW1]; exact hrow.set h0 (fun z => by simp) _
  have HH := hide (has_any f 3 m n L s W1 t3 hT1 hs)
  rw [hL] at HH
  have hlk := tab_look hT1 hs
  rw [hL] at hlk
  unfold ptr at hlk
  have HL0 := hide (lock_free ⟨f, 0, none⟩ w h0 hz)
  rw [← hW1] at HL0
  have HB := hide (bclone_any hi a d.length c d W1 hR1 rfl (by omega) hd)
  have HZ : Hid (∀ W, Below W1.heap.size W1 W → W.cell? ⟨f, 0, none⟩ = some (.int .i32 1) ∧ W.frozen? ⟨f, 0, none⟩ = false ∧ Below w.heap.size w (W.setCell ⟨f, 0, none⟩ (.int .i32 0))) := fun W hW => by
    refine ⟨by rw [hW.cell (p := ⟨f, 0, none⟩) (by show f < _; omega)]; exact t0, by rw [hW.frozen (p := ⟨f, 0, none⟩) (by show f < _; omega), hW1]; simp [hz], below_two h0 ?_⟩
    rw [hs1, hW1] at hW
    exact hW
  clear h hT1 hrow hR1 hW1
  generalize d.length = N at *
  go_enter_defers Tryz.func30, Tryz.ntmps30
  go_wp2_with fail
  refine (unhide HL0).mono ?_
  rintro e w' ⟨rfl, rfl⟩
  go_wp2_with fail
  refine (unhide HH).mono ?_
  rintro e w'' ⟨rfl, rfl⟩
  go_wp2_with fail
  refine (unhide HB).mono ?_
  rintro e w2 ⟨v, rfl, hR2, hb2⟩
  obtain ⟨c2, z2, hE2⟩ := unhide HZ w2 hb2
  have HE : Hid (Row (w2.setCell ⟨f, 0, none⟩ (.int .i32 0)).heap.size (w2.setCell ⟨f, 0, none⟩ (.int .i32 0)) v d ∧ Below w.heap.size w (w2.setCell ⟨f, 0, none⟩ (.int .i32 0))) := by
    refine ⟨?_, hE2⟩
    rw [show (w2.setCell ⟨f, 0, none⟩ (.int .i32 0)).heap.size = w2.heap.size from by simp [World.setCell]]
    exact hR2.set c2 (fun z => by simp) _
  clear hR2 hE2 hb2
  go_wp2_with fail
  refine leaves_cons (f := 55) (args := #[.pointer (some ⟨f, 0, none⟩)]) (by simp) (by simp [go_sem]) ?_
  refine (unlock_deferred ⟨f, 0, none⟩ .returning _ c2 z2).mono ?_
  rintro e u' w3 ⟨rfl, rfl, rfl⟩
  exact ⟨_, results_tmp2 rfl _ _ _, v, rfl, (unhide HE).1, (unhide HE).2⟩
end Go.Proofs.YtebcmicmklpflaaGreatDoor
/- Write, where it is done. -/
namespace Go.Proofs.YtebcmicmklpflaaGreatDoor
open Go.RowKit Go.Maps
set_option linter.unusedSimpArgs false
theorem FFr.of_tfr {w w' : World} {f : Nat} {lk : Int} {S : Fs} {X : List Th} {O : Nat → Prop} {K : Nat → Option (List UInt8)} {n l : Lie} {pv : Value} {ps : List Value} (h : FsM w f lk S X O K n l pv ps) (hF : TFr f n.m n.F n.b w w') : FFr O (grow O w w') w w' :=
  ⟨hF.os, hF.tape, hF.output, hF.size, fun q h1 h2 => hF.rest q h1 (fun e => h2 (by rw [e]; exact h.of)) (fun e => h2 (h.now.om q e)) (fun i hi e => h2 (by rw [e]; exact h.now.ob i hi)), fun _ o => o.imp id (fun o => o.1)⟩
theorem FFr.of_inv {w w' : World} {O : Nat → Prop} {L : List (Nat × Obj)} (h : Inv (fun _ => False) w w' L) : FFr O (grow O w w') w w' :=
  ⟨h.os, h.tape, h.output, h.size, fun q h1 _ => h.blk q h1 id, fun _ o => o.imp id (fun o => o.1)⟩
theorem FFr.below {w w' : World} {O : Nat → Prop} (h : Below w.heap.size w w') : FFr O O w w' :=
  ⟨h.os, h.tape, h.output, h.size, fun q h1 _ => h.block q h1, fun _ o => .inl o⟩
theorem ThIs.tagged {w w' : World} {f : Nat} {lk : Int} {S : Fs} {X : List Th} {O O' : Nat → Prop} {K : Nat → Option (List UInt8)} {n l : Lie} {pv : Value} {ps : List Value} (h : FsM w f lk S X O K n l pv ps) (hF : TFr f n.m n.F n.b w w') {v : Value} {t : Th} (ht : ThIs w K O v t) (hO : ∀ q, O q → O' q) : ThIs w' K O' v t :=
  ht.mono (Kle.refl _) hO (fun q x ty _ hq ht => h.tagged hF hq (by rcases ht with rfl | rfl <;> decide) (by rcases ht with rfl | rfl <;> decide))
theorem ready_write {w1 w2 : World} {f : Nat} {S : Fs} {O : Nat → Prop} {K : Nat → Option (List UInt8)} {n l : Lie} {pv : Value} {ps : List Value} {k : Nat} (h : FsM w1 f 1 S S.pend O K n l pv ps) (he : ∀ i, ¬ n.e i) (hk : n.k ≤ k) (hk2 : k ≤ 16000) {s : ByteArray} {d : List UInt8} {v : Value} {L : List (Nat × Obj)} {pn pd : Nat} (hs : s.size ≤ 300) (hd : d.length ≤ 1048576)
    (hN : NewData w1.heap.size L v d) (hI : Inv (fun _ => False) w1 w2 ((pd, .cells #[v] 39 (0, 0)) :: (pn, .cells #[.string s] 9 (0, 0)) :: L)) :
    Ready f S O (S.now.write s d n.z) (.write s d n.z) k w1 w2 70 (.pointer (some ⟨pn, 0, none⟩)) (.pointer (some ⟨pd, 0, none⟩)) := by
  obtain ⟨K', hM, hD, hR, hA⟩ := h.ext hI hN (fun z hz => List.mem_cons_of_mem _ (List.mem_cons_of_mem _ hz))
  have m1 : (pn, Obj.cells #[.string s] 9 (0, 0)) ∈ ((pd, Obj.cells #[v] 39 (0, 0)) :: (pn, Obj.cells #[.string s] 9 (0, 0)) :: L) := List.mem_cons_of_mem _ (List.mem_cons_self ..)
  have m2 : (pd, Obj.cells #[v] 39 (0, 0)) ∈ ((pd, Obj.cells #[v] 39 (0, 0)) :: (pn, Obj.cells #[.string s] 9 (0, 0)) :: L) := List.mem_cons_self ..
  have b1 := hI.held _ m1
  have b2 := hI.held _ m2
  have l1 := hI.lt m1
  have l2 := hI.lt m2
  have g1 := hI.new _ m1
  have g2 := hI.new _ m2
  simp only at b1 b2 l1 l2 g1 g2
  have hT : ThIs w2 K' (grow O w1 w2) (.func (.func 70) #[] #[.pointer (some ⟨pn, 0, none⟩), .pointer (some ⟨pd, 0, none⟩)]) (.write s d n.z) := ⟨pn, pd, v, rfl, .inr ⟨g1, l1⟩, .inr ⟨g2, l2⟩, b1, b2, hD, hs, hd⟩
  refine ⟨enters34, grow O w1 w2, K', n, l, pv, ps, hM, hk, FFr.of_inv hI, hT, ?_⟩
  obtain ⟨_, _, h3, h4, _, _, _, _, _, hz⟩ := hM.cells
  have hnk := hM.now.nk
  refine (do_write_any f 3 pn pd K' n.m n.n n.k S.now n.F n.b n.h s d v n.z w2 h3 h4 hz hM.now.tab hM.now.ok (by omega) (by simp only [maxLen]; omega) (by simp only [maxLen]; omega) (hM.bne hM.now) (fun e => Nat.lt_irrefl _ (hM.now.st _ e)) hD hd (hI.bx m1).1 (hI.bx m2).1).mono ?_
  rintro e w3 ⟨rfl, mb, hTb, hDn⟩
  exact ⟨rfl, _, by show n.k + 3 ≤ k + 3; omega, fun _ => id, hM.wrote hd hTb hDn hR hA he, FFr.of_tfr hM hDn.fr, hT.tagged hM hDn.fr (fun _ o => .inl o)⟩
set_option maxRecDepth 20000 in
set_option maxHeartbeats 2000000 in
theorem write_ok (f : Nat) (S : Fs) (O : Nat → Prop) (k : Nat) (s : ByteArray) (a : Option Addr) (c : Nat) (d : List UInt8) (hi : Nat) (w : World) (h : FsIs w f 0 S O k) (hk : k ≤ 16000) (hf : S.fuse ≠ some 0) (hp : S.pend.length < 16383) (hs : 1 ≤ s.size ∧ s.size ≤ 300) (hd : d.length ≤ 1048576) (hfit : S.now.u - (S.now.alone s : Int) + (d.length : Int) ≤ (S.room : Int)) (hrow : Row hi w (.slice a d.length c) d) (hhi : hi ≤ w.heap.size) :
    Calls Tryz.prog 28 #[.pointer (some ⟨f, 0, none⟩), .string s, .slice a d.length c] w fun e w' => e = .returned (.int .i64 0) ∧ ∃ z O', (∀ s' i, S.now.N s' = some i → i < z) ∧ FsIs w' f 0 (S.done (S.now.write s d z) (.write s d z)) O' (k + 3) ∧ FFr O O' w w' := by
  obtain ⟨K, n, l, pv, ps, hM, hnk, hex⟩ := h
  obtain ⟨w0, hw0⟩ : ∃ w0, w0 = (((w.alloc (.cells #[.pointer (some ⟨f, 0, none⟩)] 25)).alloc (.cells #[.string s] 9)).alloc (.cells #[.slice a d.length c] 39)).alloc (.cells #[.string s] 9) := ⟨_, rfl⟩
  have hI0 : Inv (fun _ => False) w w0 ((w.heap.size + 3, .cells #[.string s] 9 (0, 0)) :: (w.heap.size + 2, .cells #[.slice a d.length c] 39 (0, 0)) :: (w.heap.size + 1, .cells #[.string s] 9 (0, 0)) :: (w.heap.size, .cells #[.pointer (some ⟨f, 0, none⟩)] 25 (0, 0)) :: []) := by
    have h1 := (((((Inv.refl (fun _ => False) w).alloc (.cells #[.pointer (some ⟨f, 0, none⟩)] 25)).alloc (.cells #[.string s] 9)).alloc (.cells #[.slice a d.length c] 39)).alloc (.cells #[.string s] 9))
    simp only [World.size_alloc] at h1
    rw [hw0]
    exact h1
  have hM0 : FsM w0 f 0 S S.pend O K n l pv ps := hM.kept hI0.size (fun q o => hI0.blk q (hM.lt q o) id)
  have hfl : f < w.heap.size := hM.lt f hM.of
  obtain ⟨w1, hw1⟩ : ∃ w1, w1 = w0.setCell ⟨f, 0, none⟩ (.int .i32 1) := ⟨_, rfl⟩
  have hM1 : FsM w1 f 1 S S.pend O K n l pv ps := by rw [hw1]; exact hM0.lock 1
  obtain ⟨_, c2, c3, c4, _⟩ := hM1.cells
  have h00 := hM0.cells.1
  have hother : ∀ b v, b ≠ f → w0.cell? ⟨b, 0, none⟩ = some v → w1.cell? ⟨b, 0, none⟩ = some v := fun b v hb hc => by rw [hw1, World.cell?_setCell_other _ ⟨f, 0, none⟩ ⟨b, 0, none⟩ _ (by simp [Ne.symm hb])]; exact hc
  have hrow1 : Row hi w1 (.slice a d.length c) d := by rw [hw1]; exact Row.set (hrow.inv hI0 (fun _ _ => id)) h00 (fun z => by simp) _
  have hnn := hM.now.nk
  have hs1 : w1.heap.size = w0.heap.size := by rw [hw1, size_set]
  have hz0 := hI0.size
  have HP := plan_write_ok f (w.heap.size + 2) w.heap.size (w.heap.size + 1) K n.m n.n n.k S.now n.F n.b n.h s a c d hi S.room w1 c2 c3 c4 hM1.now.tab hM1.now.ok (by omega) hs.2 (by omega) hfit hM.room hd hrow1 (by omega)
    (hother _ _ (by omega) (hI0.bx (List.mem_cons_of_mem _ (List.mem_cons_self ..))).1) (hother _ _ (by omega) (hI0.bx (List.mem_cons_of_mem _ (List.mem_cons_of_mem _ (List.mem_cons_of_mem _ (List.mem_cons_self ..))))).1) (hother _ _ (by omega) (hI0.bx (List.mem_cons_of_mem _ (List.mem_cons_of_mem _ (List.mem_cons_self ..)))).1)
  rw [hw1] at HP hM1
  have HC := change_ok f S O K n l pv ps w0 hM0 hf hp 66 (.pointer (some ⟨w.heap.size + 2, 0, none⟩)) (.pointer (some ⟨w.heap.size, 0, none⟩)) (.pointer (some ⟨w.heap.size + 1, 0, none⟩)) (w.heap.size + 3) [s] 1 (fun x hx => by simp at hx; subst hx; exact hs) (by simp) (fun j x hj => by
      cases j with
      | zero => simp at hj; subst hj; exact (hI0.bx (List.mem_cons_self ..)).1
      | succ j => simp at hj) (by omega) (S.now.write s d n.z) (.write s d n.z) k enters28 (HP.mono fun e w2 ⟨pn, pd, a', c', L, e1, hN, hI⟩ => ⟨70, _, _, e1, ready_write hM1 hex hnk hk hs.2 hd hN hI⟩)
  have HC := hide (HC.mono fun e w' ⟨e1, O', h1, h2⟩ => (⟨e1, n.z, O', fun s' i hN => hM.now.st i (hM.now.tab.live s' i hN), h1, (FFr.below ⟨hI0.os, hI0.tape, hI0.output, hI0.size, fun q hq => hI0.blk q hq id⟩).trans h2⟩ : e = Ending.returned (.int .i64 0) ∧ ∃ z O', (∀ s' i, S.now.N s' = some i → i < z) ∧ FsIs w' f 0 (S.done (S.now.write s d z) (.write s d z)) O' (k + 3) ∧ FFr O O' w w'))
  rw [hw0] at HC
  clear hI0 hM0 hM1 hM hrow hrow1 hother HP hw0 hw1 hz0 hs1 c2 c3 c4 h00 hnn
  simp only [List.length_singleton] at HC
  generalize d.length = N at *
  go_enter Tryz.func28, Tryz.ntmps28
  go_wp2_with fail
  refine (unhide HC).mono ?_
  rintro e w9 ⟨rfl, hE⟩
  have HE := hide hE
  clear hE
  go_wp2_with fail
  go_ret
  exact ⟨rfl, unhide HE⟩
end Go.Proofs.YtebcmicmklpflaaGreatDoor
/- A thing that lasts: it is done to lasting. -/
namespace Go.Proofs.YtebcmicmklpflaaGreatDoor
open Go.RowKit Go.Maps
set_option linter.unusedSimpArgs false
theorem FsM.taggedL {w w' : World} {f : Nat} {lk : Int} {S : Fs} {X : List Th} {O : Nat → Prop} {K : Nat → Option (List UInt8)} {n l : Lie} {pv : Value} {ps : List Value} (h : FsM w f lk S X O K n l pv ps) (hF : TFr f l.m l.F l.b w w') {q : Nat} {x : Array Value} {t : TypeId} {z : Nat × Nat} (hq : w.heap[q]? = some (.cells x t z)) (h1 : t ≠ 92) (h2 : t ≠ 129) : w'.heap[q]? = w.heap[q]? :=
  hF.rest q (Array.getElem?_eq_some_iff.1 hq).1 (tag_ne hq h.blk h1) (fun e => by
    have := h.las.tab.tab
    rw [e] at this
    exact map_ne this hq rfl) (fun i hi => tag_ne hq (h.las.tab.file i hi) h2)
/-- A thing is done to lasting. -/
theorem FsM.didL {w w' : World} {f : Nat} {lk : Int} {S : Fs} {X : List Th} {O : Nat → Prop} {K : Nat → Option (List UInt8)} {n l : Lie} {pv : Value} {ps : List Value} {t : Th} (h : FsM w f lk S (t :: X) O K n l pv ps) {T' : Tb} {l' : Lie} (hF : TFr f l.m l.F l.b w w') (hT : TabL w' K (grow O w w') T' l')
    (hb : w'.heap[f]? = some (fsBlk lk { S with las := T' } n.m l'.m pv)) (hd : ∀ i, l'.F i → (l.F i ∧ l'.b i = l.b i) ∨ w.heap.size ≤ l'.b i) (hm : ∀ q, l'.m = some q → l.m = some q ∨ w.heap.size ≤ q)
    (hrun : t.ap (S.las, l.z) = some (T', l'.z)) (hk : l'.k ≤ l.k + 3) (hn : l'.n ≤ l.n + 1) : FsM w' f lk { S with las := T' } X (grow O w w') K n l' pv ps := by
  have hK : ∀ g x, K g = some x → w'.heap[g]? = w.heap[g]? := fun g x hg => by
    obtain ⟨cur, hc, _⟩ := h.kok g x hg
    exact h.taggedL hF hc (by decide) (by decide)
  have hl1 : ∀ q, n.m = some q → w'.heap[q]? = w.heap[q]? := fun q e => by
    refine hF.rest q (h.lt q (h.now.om q e)) (h.mne h.now q e) (h.mdis q e) (fun i hi e2 => ?_)
    have := h.now.tab.tab
    rw [e] at this
    exact map_ne this (h.las.tab.file i hi) e2
  have hl2 : ∀ j, n.F j → w'.heap[n.b j]? = w.heap[n.b j]? := fun j hj => by
    refine hF.rest _ (h.lt _ (h.now.ob j hj)) (h.bne h.now j hj) (fun e2 => ?_) (fun i hi e2 => h.dis j i hj hi e2)
    have := h.las.tab.tab
    rw [e2] at this
    exact map_ne this (h.now.tab.file j hj) rfl
  have hsz := hF.size
  have hrow : w'.ownsRow 0 120 1 pv S.pend.length ps := by
    refine ⟨h.row.1, h.row.2.imp id ?_⟩
    rintro ⟨g, cap, cur, e, h1, h2, h3⟩
    exact ⟨g, cap, cur, e, h1, by rw [h.taggedL hF h2 (by decide) (by decide)]; exact h2, h3⟩
  refine ⟨hb, ⟨h.now.tab.kept hl1 hl2, h.now.ok, h.now.nk, fun q e => .inl (h.now.om q e), fun i hi => .inl (h.now.ob i hi), h.now.st⟩, hT, fun i j hi hj e => ?_, fun q e e2 => ?_, fun g x hg => ?_, fun i hi hx => (h.rm i hi hx).kept hK, h.ap, hrow, fun j v t e1 e2 => (h.ths j v t e1 e2).mono (Kle.refl _) (fun _ o => .inl o) (fun q x ty _ hq ht => h.taggedL hF hq (by rcases ht with rfl | rfl <;> decide) (by rcases ht with rfl | rfl <;> decide)), ?_, ?_, ?_, h.pl, h.room, h.fz, .inl h.of, fun g x hg => .inl (h.oK g x hg), fun q e => .inl (h.op q e), fun q o => ?_⟩
  · rcases hd j hj with ⟨hj', e'⟩ | e'
    · exact h.dis i j hi hj' (e.trans e')
    · have := h.lt _ (h.now.ob i hi)
      omega
  · rcases hm q e2 with e' | e'
    · exact h.mdis q e e'
    · have := h.lt _ (h.now.om q e)
      omega
  · obtain ⟨cur, hc, hp⟩ := h.kok g x hg
    exact ⟨cur, by rw [hK g x hg]; exact hc, hp⟩
  · have := h.run
    simp only [runs, hrun, Option.bind_some] at this
    exact this
  · have := h.kb
    simp only [List.length_cons] at this
    omega
  · have := h.nb
    simp only [List.length_cons] at this
    omega
  · rcases o with o | o
    · have := h.lt q o; omega
    · exact o.2
theorem FFr.of_tfrL {w w' : World} {f : Nat} {lk : Int} {S : Fs} {X : List Th} {O : Nat → Prop} {K : Nat → Option (List UInt8)} {n l : Lie} {pv : Value} {ps : List Value} (h : FsM w f lk S X O K n l pv ps) (hF : TFr f l.m l.F l.b w w') : FFr O (grow O w w') w w' :=
  ⟨hF.os, hF.tape, hF.output, hF.size, fun q h1 h2 => hF.rest q h1 (fun e => h2 (by rw [e]; exact h.of)) (fun e => h2 (h.las.om q e)) (fun i hi e => h2 (by rw [e]; exact h.las.ob i hi)), fun _ o => o.imp id (fun o => o.1)⟩
theorem blkL_done {w w' : World} {f : Nat} {lk : Int} {S : Fs} {mn ml m' : Option Nat} {pv : Value} {T' : Tb} (hb : w.heap[f]? = some (fsBlk lk S mn ml pv)) (h : w'.heap[f]? = ((w.setCell ⟨f, 5 + 1, none⟩ (.int .i64 T'.u)).setCell ⟨f, 5, none⟩ (.map m')).heap[f]?) : w'.heap[f]? = some (fsBlk lk { S with las := T' } mn m' pv) := by
  rw [h]
  simp [World.setCell, Array.getElem?_modify, hb, fsBlk]
theorem blkL_kept {w w' : World} {f : Nat} {lk : Int} {S : Fs} {mn ml : Option Nat} {pv : Value} {T' : Tb} (hb : w.heap[f]? = some (fsBlk lk S mn ml pv)) (h : w'.heap[f]? = (w.setCell ⟨f, 5 + 1, none⟩ (.int .i64 T'.u)).heap[f]?) : w'.heap[f]? = some (fsBlk lk { S with las := T' } mn ml pv) := by
  rw [h]
  simp [World.setCell, Array.getElem?_modify, hb, fsBlk]
/-- What is left where a thing was done to lasting. -/
def LasDone (f : Nat) (lk : Int) (S : Fs) (X : List Th) (O : Nat → Prop) (K : Nat → Option (List UInt8)) (n : Lie) (pv : Value) (ps : List Value) (w w' : World) : Prop := ∃ T' l', FsM w' f lk { S with las := T' } X (grow O w w') K n l' pv ps ∧ FFr O (grow O w w') w w'
set_option maxRecDepth 20000 in
theorem enters64 : Enters 207 := enters_of Tryz.func207 (by kernel_rfl) (by kernel_rfl)
set_option maxRecDepth 20000 in
theorem enters67 : Enters 196 := enters_of Tryz.func196 (by kernel_rfl) (by kernel_rfl)
/-- The four things of two boxes, and the one of one box. -/
theorem do_las {w : World} {f : Nat} {lk : Int} {S : Fs} {X : List Th} {O : Nat → Prop} {K : Nat → Option (List UInt8)} {n l : Lie} {pv : Value} {ps : List Value} {t : Th} (h : FsM w f lk S (t :: X) O K n l pv ps) (hk : n.k ≤ 16000) {v : Value} (hv : ThIs w K O v t) :
    (∃ fn a b, v = .func (.func fn) #[] #[a, b] ∧ Enters fn ∧ Calls Tryz.prog fn #[.pointer (some ⟨f, 5, none⟩), a, b] w fun e w' => e = .returned (.tuple #[]) ∧ LasDone f lk S X O K n pv ps w w') ∨
    (∃ fn a, v = .func (.func fn) #[] #[a] ∧ Enters fn ∧ Calls Tryz.prog fn #[.pointer (some ⟨f, 5, none⟩), a] w fun e w' => e = .returned (.tuple #[]) ∧ LasDone f lk S X O K n pv ps w w') := by
  have hc := h.cells
  obtain ⟨_, _, _, _, h5, h6, _, _, _, hz⟩ := hc
  have hkb := h.kb
  simp only [List.length_cons] at hkb
  have hnk := h.las.nk
  have hrun := h.run
  have hbox : ∀ {p : Nat} {x : Value} {ty : TypeId}, w.heap[p]? = some (.cells #[x] ty (0, 0)) → w.cell? ⟨p, 0, none⟩ = some x := fun e => by simp [World.cell?, e]
  cases t with
  | write s d i =>
    obtain ⟨pn, pd, hv', e, _, _, b1, b2, hD, hs, hd⟩ := hv
    by_cases hzi : l.z ≤ i
    case neg =>
      simp only [runs, Th.ap, if_neg hzi] at hrun
      cases hrun
    case pos =>
    refine .inl ⟨70, _, _, e, enters34, ?_⟩
    refine (do_write_any f 5 pn pd K l.m l.n l.k S.las l.F l.b l.h s d hv' i w h5 h6 hz h.las.tab h.las.ok (by omega) (by simp only [maxLen]; omega) (by simp only [maxLen]; omega) (h.bne h.las) (fun e => by have := h.las.st _ e; omega) hD hd (hbox b1) (hbox b2)).mono ?_
    rintro e w3 ⟨rfl, mb, hTb, hDn⟩
    have hmb : mb < w3.heap.size := by
      obtain ⟨es, cl, hb⟩ := hTb.tab.block
      exact (Array.getElem?_eq_some_iff.1 hb).1
    have hnew : w.heap.size < w3.heap.size := by
      have := hTb.file i (.inl rfl)
      rw [updN_same] at this
      exact (Array.getElem?_eq_some_iff.1 this).1
    refine ⟨rfl, S.las.write s d i, ⟨some mb, l.n + 1, addF l.F i, updN l.b i w.heap.size, updN l.h i hv', l.k + 3, i + 1, fun _ => False⟩, h.didL hDn.fr ⟨hTb, h.las.ok.write s d i hd, by show l.n + 1 ≤ l.k + 3; omega, fun q e => ?_, fun j hj => ?_, fun j hj => ?_⟩ (blkL_done h.blk hDn.blk) (fun j hj => ?_) (fun q e => ?_) (by simp [Th.ap, hzi]) (Nat.le_refl _) (Nat.le_refl _), FFr.of_tfrL h hDn.fr⟩
    · cases e
      rcases hDn.new with e | ⟨_, e⟩
      · exact .inl (h.las.om _ e)
      · exact .inr ⟨e, hmb⟩
    · show grow O w w3 (updN l.b i w.heap.size j)
      by_cases e : j = i
      · rw [e, updN_same]; exact .inr ⟨Nat.le_refl _, hnew⟩
      · rw [updN_ne _ _ e]; exact .inl (h.las.ob j (hj.resolve_left e))
    · show j < i + 1
      rcases hj with e | hj
      · omega
      · have := h.las.st j hj; omega
    · show (l.F j ∧ updN l.b i w.heap.size j = l.b j) ∨ w.heap.size ≤ updN l.b i w.heap.size j
      by_cases e : j = i
      · rw [e, updN_same]; exact .inr (Nat.le_refl _)
      · rw [updN_ne _ _ e]; exact .inl ⟨hj.resolve_left e, rfl⟩
    · cases e
      rcases hDn.new with e | ⟨_, e⟩
      · exact .inl e
      · exact .inr e
  | fill s d =>
    obtain ⟨pn, pd, hv', e, _, _, b1, b2, hD, hs, hd⟩ := hv
    cases hN : S.las.N s with
    | none =>
      simp only [runs, Th.ap, hN] at hrun
      cases hrun
    | some i =>
    refine .inl ⟨193, _, _, e, enters58, ?_⟩
    refine (do_fill_any f 5 pn pd K l.m l.n l.k S.las l.F l.b l.h s d hv' i w h5 h6 hz h.las.tab h.las.ok (by omega) (by simp only [maxLen]; omega) (h.bne h.las) hN hD hd (hbox b1) (hbox b2)).mono ?_
    rintro e w3 ⟨rfl, hTb, hDn⟩
    exact ⟨rfl, S.las.put i d, ⟨l.m, l.n, l.F, l.b, updN l.h i hv', l.k + 3, l.z, fun _ => False⟩, h.didL hDn.fr ⟨hTb, (h.las.ok.put i d hd).mono (by show l.k + 1 ≤ l.k + 3; omega), by show l.n ≤ l.k + 3; omega, fun q e => .inl (h.las.om q e), fun j hj => .inl (h.las.ob j hj), h.las.st⟩ (blkL_kept h.blk hDn.blk) (fun j hj => .inl ⟨hj, rfl⟩) (fun q e => .inl e) (by simp [Th.ap, hN]) (Nat.le_refl _) (Nat.le_succ _), FFr.of_tfrL h hDn.fr⟩
  | lay s old => exact hv.elim
  | move old s =>
    obtain ⟨pn, po, e, _, _, b1, b2, hs, hso⟩ := hv
    cases hN : S.las.N old with
    | none =>
      simp only [runs, Th.ap, hN] at hrun
      cases hrun
    | some i =>
    refine .inl ⟨207, _, _, e, enters64, ?_⟩
    refine (do_move_any f 5 po pn K l.m l.n l.k S.las l.F l.b l.h old s i w h5 h6 hz h.las.tab h.las.ok (by omega) (by simp only [maxLen]; omega) (by simp only [maxLen]; omega) (by simp only [maxLen]; omega) (h.bne h.las) hN (hbox b2) (hbox b1)).mono ?_
    rintro e w3 ⟨rfl, m', hTb, hDn⟩
    refine ⟨rfl, S.las.move old s, ⟨m', l.n + 1, l.F, l.b, l.h, l.k + 3, l.z, fun _ => False⟩, h.didL hDn.fr ⟨hTb, h.las.ok.move old s, by show l.n + 1 ≤ l.k + 3; omega, fun q e => ?_, fun j hj => .inl (h.las.ob j hj), h.las.st⟩ (blkL_done h.blk hDn.blk) (fun j hj => .inl ⟨hj, rfl⟩) (fun q e => ?_) (by simp [Th.ap, hN]) (Nat.le_refl _) (Nat.le_refl _), FFr.of_tfrL h hDn.fr⟩
    · have e' : m' = some q := e
      rcases hDn.new with e2 | ⟨mb, e2, hw⟩
      · exact .inl (h.las.om q (e2 ▸ e'))
      · rw [e2] at e'
        injection e' with e'
        subst e'
        have := hTb.tab
        rw [e2] at this
        obtain ⟨es, cl, hb⟩ := this.block
        exact .inr ⟨hw, (Array.getElem?_eq_some_iff.1 hb).1⟩
    · have e' : m' = some q := e
      rcases hDn.new with e2 | ⟨mb, e2, hw⟩
      · exact .inl (e2 ▸ e')
      · rw [e2] at e'
        injection e' with e'
        subst e'
        exact .inr hw
  | drop s =>
    obtain ⟨pn, e, _, b1, hs⟩ := hv
    refine .inr ⟨196, _, e, enters67, ?_⟩
    refine (do_drop_any f 5 pn K l.m l.n l.k S.las l.F l.b l.h s w h5 h6 hz h.las.tab h.las.ok (by omega) (by simp only [maxLen]; omega) (h.bne h.las) (hbox b1)).mono ?_
    rintro e w3 ⟨rfl, hTb, hDn⟩
    exact ⟨rfl, S.las.drop s, ⟨l.m, l.n, l.F, l.b, l.h, l.k + 3, l.z, fun _ => False⟩, h.didL hDn.fr ⟨hTb, (h.las.ok.drop s).mono (by show l.k + 1 ≤ l.k + 3; omega), by show l.n ≤ l.k + 3; omega, fun q e => .inl (h.las.om q e), fun j hj => .inl (h.las.ob j hj), h.las.st⟩ (blkL_kept h.blk hDn.blk) (fun j hj => .inl ⟨hj, rfl⟩) (fun q e => .inl e) (by simp [Th.ap]) (Nat.le_refl _) (Nat.le_succ _), FFr.of_tfrL h hDn.fr⟩
end Go.Proofs.YtebcmicmklpflaaGreatDoor
