/- What Link plans. -/
import Derived.Test.YtbnbakcoomjnaaaGa
import Derived.Deep.RegionHeld3
namespace Go.Proofs.Ytbnbakcoomjnaaa
open Go.RowKit Go.Maps
set_option linter.unusedSimpArgs false
set_option maxRecDepth 20000 in
set_option maxHeartbeats 4000000 in
theorem plan_link_ok (f bf bo bn : Nat) (K : Nat → Option (List UInt8)) (m : Option Nat) (n : Nat) (T : Tb) (F : Nat → Prop) (b : Nat → Nat) (h : Nat → Value) (old s : ByteArray) (i : Nat) (w : World)
    (hc : w.cell? ⟨f, 3, none⟩ = some (.map m)) (hT : TabM w K m n T F b h) (hs : s.size ≤ 300) (hso : old.size ≤ 300) (hn : n ≤ 16383) (hNo : T.N old = some i) (hNs : T.N s = none)
    (h2 : w.cell? ⟨bf, 0, none⟩ = some (.pointer (some ⟨f, 0, none⟩))) (h1 : w.cell? ⟨bo, 0, none⟩ = some (.string old)) (h3 : w.cell? ⟨bn, 0, none⟩ = some (.string s)) :
    Calls Try.prog 60 #[.pointer (some ⟨bf, 0, none⟩), .pointer (some ⟨bo, 0, none⟩), .pointer (some ⟨bn, 0, none⟩)] w fun e w' => ∃ pn po, e = .returned (.tuple #[.func (.func 61) #[] #[.pointer (some ⟨pn, 0, none⟩), .pointer (some ⟨po, 0, none⟩)], .int .i64 0]) ∧ Inv (fun _ => False) w w' ((pn, .cells #[.string s] 9 (0, 0)) :: (po, .cells #[.string old] 9 (0, 0)) :: []) := by
  have hs2 : s.size ≤ maxLen := by simp only [maxLen]; omega
  have hs3 : old.size ≤ maxLen := by simp only [maxLen]; omega
  have hTW : ∀ W : World, W.heap = w.heap → TabM W K m n T F b h := fun W hW => hT.kept (fun _ _ => by rw [hW]) (fun _ _ => by rw [hW])
  have hC : ∀ W : World, W.heap = w.heap → W.cell? ⟨f, 3, none⟩ = some (.map m) := fun W hW => by rw [World.cell?_of_block (w := w) (a := ⟨f, 3, none⟩) (by rw [hW])]; exact hc
  have HHo := hide (fun W (hW : W.heap = w.heap) => has_tab f 3 K m n T F b h old W (hC W hW) (hTW W hW) hs3)
  have HHs := hide (fun W (hW : W.heap = w.heap) => has_tab f 3 K m n T F b h s W (hC W hW) (hTW W hW) hs2)
  have HF := hide (fun W (hW : W.heap = w.heap) => full_not f 3 m n _ W (hC W hW) (hTW W hW).tab hn)
  rw [hNo] at HHo
  rw [hNs] at HHs
  have HN := hide (fun (W : World) (L : List (Nat × Obj)) (hI : Inv (fun _ => False) w W L) => clone_inv s W (by omega) hI)
  have HO := hide (fun (W : World) (L : List (Nat × Obj)) (hI : Inv (fun _ => False) w W L) => clone_inv old W (by omega) hI)
  clear hTW hC hT hNo hNs
  go_enter Try.func60, Try.ntmps60
  go_wp2_with fail
  go_quiet (first | (go_at_call 29; exact Calls.quiet_of_same (unhide HHo _ rfl)))
  obtain ⟨W1, hW1, hx1⟩ : ∃ W1 : World, W1.heap = w.heap ∧ W1 = w.drewN nq := ⟨w.drewN nq, rfl, rfl⟩
  have hI1 : Inv (fun _ => False) w W1 [] := by rw [hx1]; exact (Inv.refl _ _).drewN _
  have e1 : W1.cell? ⟨bo, 0, none⟩ = some (.string old) := hI1.cell h1 id
  have e2 : W1.cell? ⟨bf, 0, none⟩ = some (.pointer (some ⟨f, 0, none⟩)) := hI1.cell h2 id
  have e3 : W1.cell? ⟨bn, 0, none⟩ = some (.string s) := hI1.cell h3 id
  rw [← hx1]
  have HHs2 := hide (fun q => unhide HHs (W1.drewN q) hW1)
  have HF2 := hide (fun q => unhide HF (W1.drewN q) hW1)
  have HI1 := hide hI1
  clear hx1 hW1 hI1
  go_wp2_with fail
  go_quiet (first | (go_at_call 29; exact Calls.quiet_of_same (unhide HHs2 _)))
  obtain ⟨W2, hx2⟩ : ∃ W2 : World, W2 = W1.drewN nq := ⟨W1.drewN nq, rfl⟩
  have hst : Inv (fun _ => False) w W2 [] := by rw [hx2]; exact (unhide HI1).drewN _
  have HF3 := hide (unhide HF2 nq)
  rw [← hx2] at HF3 ⊢
  clear hx2 e1 e2 e3 HHo HHs HHs2 HF HF2 HI1
  have k1 : W2.cell? ⟨bo, 0, none⟩ = some (.string old) := hst.cell h1 id
  have k2 : W2.cell? ⟨bf, 0, none⟩ = some (.pointer (some ⟨f, 0, none⟩)) := hst.cell h2 id
  have k3 : W2.cell? ⟨bn, 0, none⟩ = some (.string s) := hst.cell h3 id
  have kl1 := hst.clt h1
  have kl3 := hst.clt h3
  go_wp2_with fail
  refine (unhide HF3).mono ?_
  rintro e w' ⟨rfl, rfl⟩
  go_wp2_with fail
  clear HF3
  go_region_held3 (fun W' => W'.cell? ⟨bo, 0, none⟩ = some (.string old) ∧ W'.cell? ⟨bn, 0, none⟩ = some (.string s)) (go_keep) (first | (go_at_call 32; refine Calls.mono (unhide HO _ ?_ ?_) ?_; rotate_left; (first | exact hst | exact hst.drew | exact hst.alloc _ | exact hst.dalloc _ | exact hst.alloc2 _ _ | exact hst.dalloc2 _ _); rintro e w2 ⟨rfl, hst⟩; have kc1 := hst.cell h1 id; have kc3 := hst.cell h3 id; have kl1 := hst.clt h1; have kl3 := hst.clt h3; (try (obtain ⟨bx1, bz1, bl1, bm1, bo1⟩ := hst.bx (List.mem_cons_self ..); obtain ⟨nb1, nc1⟩ := hst.bne (List.mem_cons_self ..) h1; obtain ⟨nd1, ne1⟩ := hst.bne (List.mem_cons_self ..) h3)); (try (obtain ⟨bx2, bz2, bl2, bm2, bo2⟩ := hst.bx (List.mem_cons_of_mem _ (List.mem_cons_self ..)); obtain ⟨nb2, nc2⟩ := hst.bne (List.mem_cons_of_mem _ (List.mem_cons_self ..)) h1; obtain ⟨nd2, ne2⟩ := hst.bne (List.mem_cons_of_mem _ (List.mem_cons_self ..)) h3))) | (go_at_call 32; refine Calls.mono (unhide HN _ ?_ ?_) ?_; rotate_left; (first | exact hst | exact hst.drew | exact hst.alloc _ | exact hst.dalloc _ | exact hst.alloc2 _ _ | exact hst.dalloc2 _ _); rintro e w3 ⟨rfl, hst⟩; have kc1 := hst.cell h1 id; have kc3 := hst.cell h3 id; have kl1 := hst.clt h1; have kl3 := hst.clt h3; (try (obtain ⟨bx1, bz1, bl1, bm1, bo1⟩ := hst.bx (List.mem_cons_self ..); obtain ⟨nb1, nc1⟩ := hst.bne (List.mem_cons_self ..) h1; obtain ⟨nd1, ne1⟩ := hst.bne (List.mem_cons_self ..) h3)); (try (obtain ⟨bx2, bz2, bl2, bm2, bo2⟩ := hst.bx (List.mem_cons_of_mem _ (List.mem_cons_self ..)); obtain ⟨nb2, nc2⟩ := hst.bne (List.mem_cons_of_mem _ (List.mem_cons_self ..)) h1; obtain ⟨nd2, ne2⟩ := hst.bne (List.mem_cons_of_mem _ (List.mem_cons_self ..)) h3))))
  all_goals
    have HST := hide hst
    clear hst
    go_wp2_with fail
    go_ret2
    refine ⟨_, _, rfl, ?_⟩
    have hst := (unhide HST).an
    first
      | exact hst.finA
      | exact hst.finB
      | exact hst.finC (fun _ h => by cases h) rfl
      | exact hst.finD (fun _ h => by cases h) rfl
      | exact hst.finE (List.mem_cons_self ..) (List.mem_cons_of_mem _ (List.mem_cons_self ..)) (by omega) (fun _ h => by cases h) rfl rfl
      | exact hst.finE (List.mem_cons_of_mem _ (List.mem_cons_self ..)) (List.mem_cons_self ..) (by omega) (fun _ h => by cases h) rfl rfl
end Go.Proofs.Ytbnbakcoomjnaaa
