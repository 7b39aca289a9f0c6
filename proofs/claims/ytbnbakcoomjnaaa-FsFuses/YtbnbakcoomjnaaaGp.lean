/- What Write plans. -/
import Derived.Test.YtbnbakcoomjnaaaGa
import Derived.Deep.RegionHeld3
namespace Go.Proofs.Ytbnbakcoomjnaaa
open Go.RowKit Go.Maps
set_option linter.unusedSimpArgs false
set_option maxRecDepth 20000 in
set_option maxHeartbeats 4000000 in
theorem plan_write_ok (f bb bf bn : Nat) (K : Nat → Option (List UInt8)) (m : Option Nat) (n k : Nat) (T : Tb) (F : Nat → Prop) (b : Nat → Nat) (h : Nat → Value) (s : ByteArray) (a : Option Addr) (c : Nat) (d : List UInt8) (hi : Nat) (room : Nat) (w : World)
    (hr : w.cell? ⟨f, 2, none⟩ = some (.int .i64 (room : Int))) (hc : w.cell? ⟨f, 3, none⟩ = some (.map m)) (hu : w.cell? ⟨f, 4, none⟩ = some (.int .i64 T.u))
    (hT : TabM w K m n T F b h) (hok : T.Ok k) (hk : k ≤ 100000) (hs : s.size ≤ 300) (hn : n ≤ 16383) (hb : T.u - (T.alone s : Int) + (d.length : Int) ≤ (room : Int)) (hroom : room ≤ 1073741824) (hd : d.length ≤ 1048576) (hrow : Row hi w (.slice a d.length c) d) (hhi : hi ≤ w.heap.size)
    (h1 : w.cell? ⟨bb, 0, none⟩ = some (.slice a d.length c)) (h2 : w.cell? ⟨bf, 0, none⟩ = some (.pointer (some ⟨f, 0, none⟩))) (h3 : w.cell? ⟨bn, 0, none⟩ = some (.string s)) :
    Calls Try.prog 28 #[.pointer (some ⟨bb, 0, none⟩), .pointer (some ⟨bf, 0, none⟩), .pointer (some ⟨bn, 0, none⟩)] w fun e w' => ∃ pn pd a' c' L, e = .returned (.tuple #[.func (.func 34) #[] #[.pointer (some ⟨pn, 0, none⟩), .pointer (some ⟨pd, 0, none⟩)], .int .i64 0]) ∧ NewData w.heap.size L (.slice a' d.length c') d ∧ Inv (fun _ => False) w w' ((pd, .cells #[.slice a' d.length c'] 22 (0, 0)) :: (pn, .cells #[.string s] 9 (0, 0)) :: L) := by
  have hs2 : s.size ≤ maxLen := by simp only [maxLen]; omega
  have hTW : ∀ W : World, W.heap = w.heap → TabM W K m n T F b h := fun W hW => hT.kept (fun _ _ => by rw [hW]) (fun _ _ => by rw [hW])
  have hC : ∀ W : World, W.heap = w.heap → W.cell? ⟨f, 3, none⟩ = some (.map m) := fun W hW => by rw [World.cell?_of_block (w := w) (a := ⟨f, 3, none⟩) (by rw [hW])]; exact hc
  have HH := hide (fun W (hW : W.heap = w.heap) => has_tab f 3 K m n T F b h s W (hC W hW) (hTW W hW) hs2)
  have HF := hide (fun W (hW : W.heap = w.heap) => full_not f 3 m n _ W (hC W hW) (hTW W hW).tab hn)
  have HA := hide (fun W (hW : W.heap = w.heap) => alone_any f 3 K m n T F b h s W (hC W hW) (hTW W hW) hs2)
  have HN := hide (fun (W : World) (L : List (Nat × Obj)) (hI : Inv (fun _ => False) w W L) => clone_inv s W (by omega) hI)
  have HB := hide (fun (W : World) (L : List (Nat × Obj)) (hI : Inv (fun _ => False) w W L) => bclone_inv hi a d.length c d W hrow rfl hhi (fun _ _ h => h) (by omega) hI)
  have hub := hok.ub
  have hal : T.alone s ≤ 1048576 := by
    unfold Tb.alone
    split
    · omega
    · split
      · omega
      · exact hok.dl _
  clear hTW hC hT hrow hok
  generalize T.alone s = al at *
  generalize T.u = u at *
  cases hNs : (T.N s).isSome
  all_goals
    rw [hNs] at HH
    clear hNs
    generalize hN0 : d.length = N at *
    have HN0 := hide hN0
    clear hN0
    go_enter Try.func28, Try.ntmps28
    go_wp2_with fail
    go_quiet (first | (go_at_call 29; exact Calls.quiet_of_same (unhide HH _ rfl)) | (go_at_call 30; exact Calls.quiet_of_same (unhide HF _ rfl)))
    obtain ⟨W1, hW1, hx1⟩ : ∃ W1 : World, W1.heap = w.heap ∧ W1 = w.drewN nq := ⟨w.drewN nq, rfl, rfl⟩
    have hI1 : Inv (fun _ => False) w W1 [] := by rw [hx1]; exact (Inv.refl _ _).drewN _
    have e1 : W1.cell? ⟨bb, 0, none⟩ = some (.slice a N c) := hI1.cell h1 id
    have e2 : W1.cell? ⟨bf, 0, none⟩ = some (.pointer (some ⟨f, 0, none⟩)) := hI1.cell h2 id
    have e3 : W1.cell? ⟨bn, 0, none⟩ = some (.string s) := hI1.cell h3 id
    have e4 : W1.cell? ⟨f, 4, none⟩ = some (.int .i64 u) := hI1.cell hu id
    have e5 : W1.cell? ⟨f, 2, none⟩ = some (.int .i64 (room : Int)) := hI1.cell hr id
    rw [← hx1]
    have HA2 := hide (fun q => unhide HA (W1.drewN q) hW1)
    have hw1 : IntKind.i64.wrap (u - (al : Int)) = u - (al : Int) := wrap64 (by omega)
    have hw2 : IntKind.i64.wrap (u - (al : Int) + (N : Int)) = u - (al : Int) + (N : Int) := wrap64 (by omega)
    have hbI : ¬ ((room : Int) < u - (al : Int) + (N : Int)) := by omega
    have HI1 := hide hI1
    clear hx1 hW1 hI1 hb hub hal
    go_wp2_with fail
    go_quiet (first | (go_at_call 31; exact Calls.quiet_of_same (unhide HA2 _)))
    go_wp2_with fail
    obtain ⟨W2, hx2⟩ : ∃ W2 : World, W2 = W1.drewN nq := ⟨W1.drewN nq, rfl⟩
    have hst : Inv (fun _ => False) w W2 [] := by rw [hx2]; exact (unhide HI1).drewN _
    rw [← hx2]
    clear hx2 e1 e2 e3 e4 e5 HA HA2 HF HH HI1
    have k1 : W2.cell? ⟨bb, 0, none⟩ = some (.slice a N c) := hst.cell h1 id
    have k3 : W2.cell? ⟨bn, 0, none⟩ = some (.string s) := hst.cell h3 id
    have kl1 := hst.clt h1
    have kl3 := hst.clt h3
    go_region_held3 (fun W' => W'.cell? ⟨bb, 0, none⟩ = some (.slice a N c) ∧ W'.cell? ⟨bn, 0, none⟩ = some (.string s)) (go_keep) (first | (go_at_call 32; refine Calls.mono (unhide HN _ ?_ ?_) ?_; rotate_left; (first | exact hst | exact hst.drew | exact hst.alloc _ | exact hst.dalloc _ | exact hst.alloc2 _ _ | exact hst.dalloc2 _ _); rintro e w2 ⟨rfl, hst⟩; have kc1 := hst.cell h1 id; have kc3 := hst.cell h3 id; have kl1 := hst.clt h1; have kl3 := hst.clt h3; (try (obtain ⟨bx1, bz1, bl1, bm1, bo1⟩ := hst.bx (List.mem_cons_self ..); obtain ⟨nb1, nc1⟩ := hst.bne (List.mem_cons_self ..) h1; obtain ⟨nd1, ne1⟩ := hst.bne (List.mem_cons_self ..) h3)); (try (obtain ⟨bx2, bz2, bl2, bm2, bo2⟩ := hst.bx (List.mem_cons_of_mem _ (List.mem_cons_self ..)); obtain ⟨nb2, nc2⟩ := hst.bne (List.mem_cons_of_mem _ (List.mem_cons_self ..)) h1; obtain ⟨nd2, ne2⟩ := hst.bne (List.mem_cons_of_mem _ (List.mem_cons_self ..)) h3; obtain ⟨tn1, tn2⟩ := hst.tne (List.mem_cons_self ..) (List.mem_cons_of_mem _ (List.mem_cons_self ..)) rfl))) | (go_at_call 33; refine Calls.mono (unhide HB _ ?_ ?_) ?_; rotate_left; (first | exact hst | exact hst.drew | exact hst.alloc _ | exact hst.dalloc _ | exact hst.alloc2 _ _ | exact hst.dalloc2 _ _); rintro e w3 ⟨av, cv, L3, rfl, hND, hst⟩; have kc1 := hst.cell h1 id; have kc3 := hst.cell h3 id; have kl1 := hst.clt h1; have kl3 := hst.clt h3; (try (obtain ⟨bx1, bz1, bl1, bm1, bo1⟩ := hst.bx (List.mem_append_left _ (List.mem_cons_self ..)); obtain ⟨nb1, nc1⟩ := hst.bne (List.mem_append_left _ (List.mem_cons_self ..)) h1; obtain ⟨nd1, ne1⟩ := hst.bne (List.mem_append_left _ (List.mem_cons_self ..)) h3)); (try (obtain ⟨bx2, bz2, bl2, bm2, bo2⟩ := hst.bx (List.mem_append_left _ (List.mem_cons_of_mem _ (List.mem_cons_self ..))); obtain ⟨nb2, nc2⟩ := hst.bne (List.mem_append_left _ (List.mem_cons_of_mem _ (List.mem_cons_self ..))) h1; obtain ⟨nd2, ne2⟩ := hst.bne (List.mem_append_left _ (List.mem_cons_of_mem _ (List.mem_cons_self ..))) h3; obtain ⟨tn1, tn2⟩ := hst.tne (List.mem_append_left _ (List.mem_cons_self ..)) (List.mem_append_left _ (List.mem_cons_of_mem _ (List.mem_cons_self ..))) rfl))))
    all_goals
      have HST := hide hst
      have HND := hide hND
      clear hst hND
      go_wp2_with fail
      go_ret2
      have hst := unhide HST
      refine ⟨_, _, av, cv, L3, rfl, unhide HND, ?_⟩
      first
        | exact hst.finA
        | exact hst.finB
        | exact hst.finC (unhide HND).bytes rfl
        | exact hst.finD (unhide HND).bytes rfl
        | exact hst.finE (List.mem_cons_self ..) (List.mem_cons_of_mem _ (List.mem_cons_self ..)) (by omega) (unhide HND).bytes rfl rfl
        | exact hst.finE (List.mem_cons_of_mem _ (List.mem_cons_self ..)) (List.mem_cons_self ..) (by omega) (unhide HND).bytes rfl rfl
end Go.Proofs.Ytbnbakcoomjnaaa
