/- What Append plans. -/
import Derived.Test.YtbnbakcoomjnaaaGa
import Derived.Deep.RegionHeld3
namespace Go.Proofs.Ytbnbakcoomjnaaa
open Go.RowKit Go.Maps
set_option linter.unusedSimpArgs false
theorem step_app {P : Program} {ops : Array Oper} {o : Oper} {a : Act} {w : World} {K : Act → World → Prop} {Q : Exit → Act → World → Prop} {E : Prop} (hg : o.guard = none) (s x : Operand) (hop : o.op = Op.call { callee := Callee.builtin Builtin.append, args := #[s, x], argTypes := #[22, 22] })
    (v0 vx v' : Value) (w' : World) (hs : a.eval s = v0) (hx : a.eval x = vx) (hrun : (Builtin.append_ #[22, 22] o.type #[v0, vx]).run P w = .ok v' w') (hK : K (a.put o.dst v') w') :
    if Region.wanted o (yielded ops a.tmps) = true then Oper.wp P o a w K Q else E := by
  have hw : Region.wanted o (yielded ops a.tmps) = true := by simp [Region.wanted, hg]
  rw [if_pos hw]
  unfold Oper.wp
  have hrun' : (app22 o.type #[v0, vx]).run P w = .ok v' w' := hrun
  simp [execOp, hop, resolve, invoke, builtin, hs, hx, hrun', append_app22, Result.andThen]
  exact hK
set_option maxRecDepth 20000 in
set_option maxHeartbeats 4000000 in
theorem plan_append_gen (f bf bn bb : Nat) (K : Nat → Option (List UInt8)) (m : Option Nat) (n k : Nat) (T : Tb) (F : Nat → Prop) (b : Nat → Nat) (h : Nat → Value) (s : ByteArray) (i : Nat) (a a0 : Option Addr) (c c0 N D0 : Nat) (room : Nat) (w : World)
    (hr : w.cell? ⟨f, 2, none⟩ = some (.int .i64 (room : Int))) (hc : w.cell? ⟨f, 3, none⟩ = some (.map m)) (hu : w.cell? ⟨f, 4, none⟩ = some (.int .i64 T.u))
    (hT : TabM w K m n T F b h) (hok : T.Ok k) (hk : k ≤ 100000) (hs : s.size ≤ 300) (hN : T.N s = some i) (hh : h i = .slice a0 D0 c0) (hD : D0 ≤ 1048576) (hd : N + D0 ≤ 1048576) (hb : T.u + (N : Int) ≤ (room : Int)) (hroom : room ≤ 1073741824)
    (h2 : w.cell? ⟨bf, 0, none⟩ = some (.pointer (some ⟨f, 0, none⟩))) (h3 : w.cell? ⟨bn, 0, none⟩ = some (.string s)) (h1 : w.cell? ⟨bb, 0, none⟩ = some (.slice a N c))
    (B : World) (Q : List (Nat × Obj) → Value → Prop) (hQ : ∀ L v, Q L v → Bytes L) (h1B : B.cell? ⟨bb, 0, none⟩ = some (.slice a N c)) (h3B : B.cell? ⟨bn, 0, none⟩ = some (.string s))
    (hAp : ∀ (W : World) (L : List (Nat × Obj)), Inv (fun _ => False) w W L → ∃ a' c' L' w', (∀ ty, (Builtin.append_ #[22, 22] ty #[.slice a0 D0 c0, .slice a N c]).run Try.prog W = .ok (.slice a' (D0 + N) c') w') ∧ Q L' (.slice a' (D0 + N) c') ∧ Inv (fun _ => False) B w' (L ++ L')) :
    Calls Try.prog 57 #[.pointer (some ⟨bf, 0, none⟩), .pointer (some ⟨bn, 0, none⟩), .pointer (some ⟨bb, 0, none⟩)] w fun e w' => ∃ pn pd a' c' L, e = .returned (.tuple #[.func (.func 58) #[] #[.pointer (some ⟨pn, 0, none⟩), .pointer (some ⟨pd, 0, none⟩)], .int .i64 0]) ∧ Q L (.slice a' (D0 + N) c') ∧ Inv (fun _ => False) B w' ((pd, .cells #[.slice a' (D0 + N) c'] 22 (0, 0)) :: (pn, .cells #[.string s] 9 (0, 0)) :: L) := by
  have HAp := hide hAp
  have HN := hide (fun (W : World) (L : List (Nat × Obj)) (hI : Inv (fun _ => False) w W L) => clone_inv s W (by omega) hI)
  have HQ := hide hQ
  clear hAp hQ
  generalize D0 + N = M at *
  have hs2 : s.size ≤ maxLen := by simp only [maxLen]; omega
  have hi := hT.live s i hN
  have hfi := hT.file i hi
  have hTW : ∀ W : World, W.heap = w.heap → TabM W K m n T F b h := fun W hW => hT.kept (fun _ _ => by rw [hW]) (fun _ _ => by rw [hW])
  have hC : ∀ W : World, W.heap = w.heap → W.cell? ⟨f, 3, none⟩ = some (.map m) := fun W hW => by rw [World.cell?_of_block (w := w) (a := ⟨f, 3, none⟩) (by rw [hW])]; exact hc
  have HH := hide (fun W (hW : W.heap = w.heap) => has_tab f 3 K m n T F b h s W (hC W hW) (hTW W hW) hs2)
  rw [hN] at HH
  have HK := hide (fun W (hW : W.heap = w.heap) => tab_look (hTW W hW).tab hs2)
  simp only [hN, Option.map_some] at HK
  unfold ptr at HK
  have hg0 : w.cell? ⟨b i, 0, none⟩ = some (.slice a0 D0 c0) := by simp [World.cell?, hfi, hh]
  have hub := hok.ub
  clear hTW hC hT hfi hi hN hh
  generalize b i = g0 at *
  generalize T.u = u at *
  go_enter Try.func57, Try.ntmps57
  go_wp2_with fail
  go_quiet (first | (go_at_call 29; exact Calls.quiet_of_same (unhide HH _ rfl)))
  obtain ⟨W1, hW1, hx1⟩ : ∃ W1 : World, W1.heap = w.heap ∧ W1 = w.drewN nq := ⟨w.drewN nq, rfl, rfl⟩
  have hI1 : Inv (fun _ => False) w W1 [] := by rw [hx1]; exact (Inv.refl _ _).drewN _
  have e1 : W1.cell? ⟨bb, 0, none⟩ = some (.slice a N c) := hI1.cell h1 id
  have e2 : W1.cell? ⟨bf, 0, none⟩ = some (.pointer (some ⟨f, 0, none⟩)) := hI1.cell h2 id
  have e3 : W1.cell? ⟨bn, 0, none⟩ = some (.string s) := hI1.cell h3 id
  have e4 : W1.cell? ⟨f, 4, none⟩ = some (.int .i64 u) := hI1.cell hu id
  have e5 : W1.cell? ⟨f, 2, none⟩ = some (.int .i64 (room : Int)) := hI1.cell hr id
  have e6 : W1.cell? ⟨f, 3, none⟩ = some (.map m) := hI1.cell hc id
  have e7 : W1.cell? ⟨g0, 0, none⟩ = some (.slice a0 D0 c0) := hI1.cell hg0 id
  have hlk : ∀ q, (Instr.lookup 62 (.map m) (.string s) false).run Try.prog (W1.drewN q) = .ok (.pointer (some ⟨g0, 0, none⟩)) (W1.drewN q) := fun q => unhide HK (W1.drewN q) hW1
  have hlk0 : (Instr.lookup 62 (.map m) (.string s) false).run Try.prog W1 = .ok (.pointer (some ⟨g0, 0, none⟩)) W1 := unhide HK W1 hW1
  rw [← hx1]
  have hw1 : IntKind.i64.wrap (1048576 - (D0 : Int)) = 1048576 - (D0 : Int) := wrap64 (by omega)
  have hw2 : IntKind.i64.wrap ((room : Int) - u) = (room : Int) - u := wrap64 (by omega)
  have hbI : ¬ ((room : Int) - u < (N : Int)) := by omega
  have hbJ : ¬ (1048576 - (D0 : Int) < (N : Int)) := by omega
  have HI1 := hide hI1
  clear hx1 hW1 hI1 HH HK
  go_wp2_with fail
  go_quiet (fail)
  obtain ⟨W2, hx2⟩ : ∃ W2 : World, W2 = W1.drewN nq := ⟨W1.drewN nq, rfl⟩
  have hst : Inv (fun _ => False) w W2 [] := by rw [hx2]; exact (unhide HI1).drewN _
  rw [← hx2]
  clear hx2 e1 e2 e3 e4 e5 e6 e7 hlk hlk0 HI1
  have k1 : W2.cell? ⟨bb, 0, none⟩ = some (.slice a N c) := hst.cell h1 id
  have k2 : W2.cell? ⟨bf, 0, none⟩ = some (.pointer (some ⟨f, 0, none⟩)) := hst.cell h2 id
  have k4 : W2.cell? ⟨f, 4, none⟩ = some (.int .i64 u) := hst.cell hu id
  have k5 : W2.cell? ⟨f, 2, none⟩ = some (.int .i64 (room : Int)) := hst.cell hr id
  have HI2 := hide hst
  clear hst
  go_wp2_with fail
  go_quiet (fail)
  obtain ⟨W3, hx3⟩ : ∃ W3 : World, W3 = W2.drewN nq := ⟨W2.drewN nq, rfl⟩
  have hst : Inv (fun _ => False) w W3 [] := by rw [hx3]; exact (unhide HI2).drewN _
  rw [← hx3]
  clear hx3 k1 k2 k4 k5 HI2
  have k1 : W3.cell? ⟨bb, 0, none⟩ = some (.slice a N c) := hst.cell h1 id
  have k3 : W3.cell? ⟨bn, 0, none⟩ = some (.string s) := hst.cell h3 id
  have kl1 := hst.clt h1
  have kl3 := hst.clt h3
  go_wp2_with fail
  go_region_held3 (fun W' => W'.cell? ⟨bb, 0, none⟩ = some (.slice a N c) ∧ W'.cell? ⟨bn, 0, none⟩ = some (.string s)) (go_keep) (first | (go_at_call 32; refine Calls.mono (unhide HN _ ?_ ?_) ?_; rotate_left; (first | exact hst | exact hst.drew | exact hst.alloc _ | exact hst.dalloc _ | exact hst.alloc2 _ _ | exact hst.dalloc2 _ _); rintro e w2 ⟨rfl, hst⟩; have kc1 := hst.cell h1 id; have kc3 := hst.cell h3 id; have kl1 := hst.clt h1; have kl3 := hst.clt h3; (try (obtain ⟨bx1, bz1, bl1, bm1, bo1⟩ := hst.bx (List.mem_cons_self ..); obtain ⟨nb1, nc1⟩ := hst.bne (List.mem_cons_self ..) h1; obtain ⟨nd1, ne1⟩ := hst.bne (List.mem_cons_self ..) h3)); (try (obtain ⟨bx2, bz2, bl2, bm2, bo2⟩ := hst.bx (List.mem_cons_of_mem _ (List.mem_cons_self ..)); obtain ⟨nb2, nc2⟩ := hst.bne (List.mem_cons_of_mem _ (List.mem_cons_self ..)) h1; obtain ⟨nd2, ne2⟩ := hst.bne (List.mem_cons_of_mem _ (List.mem_cons_self ..)) h3))) | ((first | (obtain ⟨av, cv, L3, w3, hrun, hND, hst⟩ := unhide HAp _ _ hst; refine step_app (by rfl) _ _ (by rfl) _ _ _ _ (by rfl) (by rfl) (hrun _) ?_) | (obtain ⟨av, cv, L3, w3, hrun, hND, hst⟩ := unhide HAp _ _ (hst.alloc _); refine step_app (by rfl) _ _ (by rfl) _ _ _ _ (by rfl) (by rfl) (hrun _) ?_) | (obtain ⟨av, cv, L3, w3, hrun, hND, hst⟩ := unhide HAp _ _ (hst.alloc2 _ _); refine step_app (by rfl) _ _ (by rfl) _ _ _ _ (by rfl) (by rfl) (hrun _) ?_)); clear hrun; have kc1 := hst.cell h1B id; have kc3 := hst.cell h3B id; have kl1 := hst.clt h1B; have kl3 := hst.clt h3B; (try (obtain ⟨bx1, bz1, bl1, bm1, bo1⟩ := hst.bx (List.mem_append_left _ (List.mem_cons_self ..)); obtain ⟨nb1, nc1⟩ := hst.bne (List.mem_append_left _ (List.mem_cons_self ..)) h1B; obtain ⟨nd1, ne1⟩ := hst.bne (List.mem_append_left _ (List.mem_cons_self ..)) h3B)); (try (obtain ⟨bx2, bz2, bl2, bm2, bo2⟩ := hst.bx (List.mem_append_left _ (List.mem_cons_of_mem _ (List.mem_cons_self ..))); obtain ⟨nb2, nc2⟩ := hst.bne (List.mem_append_left _ (List.mem_cons_of_mem _ (List.mem_cons_self ..))) h1B; obtain ⟨nd2, ne2⟩ := hst.bne (List.mem_append_left _ (List.mem_cons_of_mem _ (List.mem_cons_self ..))) h3B; obtain ⟨tn1, tn2⟩ := hst.tne (List.mem_append_left _ (List.mem_cons_self ..)) (List.mem_append_left _ (List.mem_cons_of_mem _ (List.mem_cons_self ..))) rfl))))
  all_goals
    have HST := hide hst
    have HND := hide hND
    clear hst hND
    go_wp2_with fail
    go_ret2
    have hst := unhide HST
    have hB := unhide HQ _ _ (unhide HND)
    refine ⟨_, _, av, cv, L3, rfl, unhide HND, ?_⟩
    first
      | exact hst.finA
      | exact hst.finB
      | exact hst.finC hB rfl
      | exact hst.finD hB rfl
      | exact hst.finE (List.mem_cons_self ..) (List.mem_cons_of_mem _ (List.mem_cons_self ..)) (by omega) hB rfl rfl
      | exact hst.finE (List.mem_cons_of_mem _ (List.mem_cons_self ..)) (List.mem_cons_self ..) (by omega) hB rfl rfl
end Go.Proofs.Ytbnbakcoomjnaaa

