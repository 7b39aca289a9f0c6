/- inData: the digits are laid in the data of a tree whose rows are the call's own, in place. -/
import Derived.Test.YtlbfcneboaihnaaInb
import Derived.Test.YtlbfcneboaihnaaLtr
import Derived.Test.YtlbfcneboaihnaaLai
namespace Go.Proofs.Ytlbfcneboaihnaa
open Go.RowKit Go.Great Tn
set_option linter.unusedSimpArgs false
theorem five {α : Type} {l : List α} (h : l.length = 5) : ∃ a b c d e, l = [a, b, c, d, e] := by
  match l, h with
  | [a, b, c, d, e], _ => exact ⟨a, b, c, d, e, rfl⟩
theorem same5 {α : Type} {a b c d e a' b' c' d' e' : α} (h : [a, b, c, d, e] = [a', b', c', d', e']) : a = a' ∧ b = b' ∧ c = c' ∧ d = d' ∧ e = e' := by
  simpa using h
set_option maxRecDepth 20000 in
set_option maxHeartbeats 1000000 in
theorem inData_any (F D : List Nat) (hF : Sha.Bytes F) (hFl : F.length = 32) (hD : Sha.Bytes D) (hDl : D.length = 32) (T : Tr) : ∀ (lo hi L H g o gs t : Nat) (cs : List Value) (w : World),
    Mine lo hi w L H T cs → Sml T → (∀ j v, cs[j]? = some v → w.cell? ⟨g, o + j, none⟩ = some v) → (∃ cur ty, w.heap[g]? = some (.cells cur ty)) → w.heap[gs]? = some (SwBox F D t) → t + rcT F T ≤ 1000000 → 1 ≤ hi → hi ≤ gs → gs < L → H ≤ g →
    (∃ m, w.cell? ⟨0, 0, none⟩ = some (.int .i64 m)) →
    Calls Try.prog 39 #[.pointer (some ⟨gs, 0, none⟩), .pointer (some ⟨g, o, none⟩)] w fun e w' => e = .returned (.tuple #[]) ∧ ∃ c0 c1 c2 c3 c4 v, cs = [c0, c1, c2, c3, c4] ∧ Lain F D T L H g o gs t c0 c1 c3 c4 v w w' := by
  induction T using Tr.ind with
  | h k x d ns ks ih =>
  intro lo hi L H g o gs t cs w hM hS hc hgb hs ht h1 hhi hgL hHg hmx
  obtain ⟨cur, ty, hcur⟩ := hgb
  have hgz := (Array.getElem?_eq_some_iff.1 hcur).1
  obtain ⟨hd4, hn3, -, hnk, hSk⟩ := hS.here
  cases hM with
  | mk _ M _ _ _ _ _ _ vd vn vk Ks R hl hR hLM hd hn hnH hk hkH hDj hSp hK =>
  obtain ⟨ad, cd, rfl, hcd⟩ := hd.slice
  obtain ⟨an, cn', rfl, hcn⟩ := owns_slice hn
  obtain ⟨ak, ck, rfl, hck⟩ := owns_slice hk
  obtain ⟨N, hN⟩ : ∃ N, ks.length = N := ⟨_, rfl⟩
  obtain ⟨Q, hQ⟩ : ∃ Q, d.size = Q := ⟨_, rfl⟩
  rw [rcT] at ht
  have hat := row_bytes hd (by omega)
  rw [hQ] at hat
  have HI := hide (inBytes_any gs F D (t : Int) ad Q cd (bytesOf d) w hs hat (bytesOf_bytes d) (by rw [bytesOf_length]; exact hQ) (by omega) hF hFl hD hDl (by omega) hmx)
  have z2 := hc 2 _ rfl
  have z4 := hc 4 _ rfl
  have hK5 : ∀ c ∈ Ks, c.length = 5 := fun c hc => by
    obtain ⟨i, hi, rfl⟩ := List.getElem_of_mem hc
    exact (hK i ks[i] Ks[i] R[i] (List.getElem?_eq_getElem (by omega)) (List.getElem?_eq_getElem hi) (List.getElem?_eq_getElem (by omega))).length
  have HA := hide (And.intro hcur (And.intro hd (And.intro hn (And.intro hk (And.intro hK (And.intro hl (And.intro hR (And.intro hDj (And.intro hSp (And.intro hnH (And.intro hkH (And.intro hSk (And.intro hK5 hN)))))))))))))
  have HIH := hide ih
  have HMX := hide hmx
  have hN3 : N ≤ 300 := by omega
  have HT := hide ht
  have HQ := hide (And.intro hQ hs)
  rw [hN] at hck
  have HZ2 := hide (And.intro z2 z4)
  rw [hQ] at z2
  rw [hN] at z4
  clear hcur hd hn hk hK hl hR hDj hSp hnH hkH hSk hK5 ih hmx ht hc hat hs hd4 hnk hN hQ
  go_enter Try.func39, Try.ntmps39
  go_wp2_with fail
  refine (unhide HI).mono ?_
  rintro e w1 ⟨v, rfl, ho, hso, hbx⟩
  obtain ⟨av, cv, rfl, -⟩ := ho.at
  obtain ⟨hcur, hd, hn, hk, hK, hl, hR, hDj, hSp, hnH, hkH, hSk, hK5, hN⟩ := unhide HA
  obtain ⟨hQ, hs⟩ := unhide HQ
  have hsz1 := hso.size
  have hcur1 : w1.heap[g]? = some (.cells cur ty) := by rw [hso.block g hgz (by omega)]; exact hcur
  have z2' : w1.cell? ⟨g, o + 2, none⟩ = some (.slice ad Q cd) := by rw [World.cell?_of_block (w := w) (a := ⟨g, o + 2, none⟩) (hso.block g hgz (by omega))]; exact z2
  have z4' : w1.cell? ⟨g, o + 4, none⟩ = some (.slice ak N ck) := by rw [World.cell?_of_block (w := w) (a := ⟨g, o + 4, none⟩) (hso.block g hgz (by omega))]; exact z4
  have f2 : w1.frozen? ⟨g, o + 2, none⟩ = false := by unfold World.frozen?; rw [hcur1]; simp
  have hrw := ownR_row hD ho
  obtain ⟨w2, hw2⟩ : ∃ w2, w2 = w1.setCell ⟨g, o + 2, none⟩ (.slice av (layAll D (bytesOf d) (plcs (bytesOf d) F 0)).length cv) := ⟨_, rfl⟩
  have hother : ∀ k, k < w.heap.size → k ≠ gs → k ≠ g → w2.heap[k]? = w.heap[k]? := fun k hk h1 h2 => by rw [hw2, set_other _ _ _ _ _ h2]; exact hso.block k hk h1
  have hsz2 : w2.heap.size = w1.heap.size := by rw [hw2]; simp
  have HW : Hid (Lainw F D ks lo hi L M H g o gs (t + (rc F d + rcTs F ks)) d (.slice an ns.length cn') (.slice ak ks.length ck) (.slice av (layAll D (bytesOf d) (plcs (bytesOf d) F 0)).length cv) R Ks 0 (t + rc F d) w w2) := by
    refine ⟨by rw [hw2]; exact hso.os, by rw [hw2]; exact hso.tape, by rw [hw2]; exact hso.output, by omega, fun k hk h2 h3 _ _ => hother k hk h2 h3, ?_, ?_, by rw [List.drop_zero]; omega, hl, hK5, ?_, ?_, fun j _ _ _ h => by omega, fun j u c r _ e1 e2 e3 => ?_⟩
    · rw [hw2]; simp [World.setCell, Array.getElem?_modify, hcur1, hcur]
    · rw [hw2, set_other _ _ _ _ _ (by omega), hbx]; unfold rc; simp
    · refine (hrw.same (w' := w2) fun k hk => ?_).mono fun k hk => by omega
      rw [hw2]; exact set_other _ _ _ _ _ (by omega)
    · exact owns_same hk (fun k hk' => hother k (by have := hkH k hk'; omega) (by have := (owns_lt hk k hk').1; omega) (by have := hkH k hk'; omega)) fun _ _ h => h
    · have := hSp r (by obtain ⟨hi, rfl⟩ := List.getElem?_eq_some_iff.1 e3; exact List.getElem_mem hi)
      exact (hK j u c r e1 e2 e3).same (fun k h1 h2 => hother k (by omega) (by omega) (by omega)) (fun k h1 h2 => hother k (by omega) (by omega) (by omega))
  have HW2 := hide hw2
  clear hcur hd hn hk hK hl hR hDj hSp hnH hkH hSk hK5 hN hQ hs hcur1 hrw hother hw2 hbx hso ho HI z2 z4
  generalize (layAll D (bytesOf d) (plcs (bytesOf d) F 0)).length = P at *
  go_wp2_with fail
  rw [← unhide HW2]
  clear z2' z4' f2
  go_loopw [19] (fun vi wr => ∃ (i tt : Nat) (Ks' : List (List Value)), i ≤ N ∧ vi = .int .i64 (i : Int) ∧ Hid (Lainw F D ks lo hi L M H g o gs (t + (rc F d + rcTs F ks)) d (.slice an ns.length cn') (.slice ak ks.length ck) (.slice av P cv) R Ks' i tt w wr)) (fun vi _ => N - (intOf vi).toNat)
  case atStart => exact ⟨0, _, Ks, by omega, rfl, HW⟩
  case round =>
    obtain ⟨i, tt, Ks', hiN, rfl, HL⟩ := hrel
    by_cases hlt : i < N
    · obtain ⟨hcur, hd, hn, hk, hK, hl, hR, hDj, hSp, hnH, hkH, hSk, hK5, hN⟩ := unhide HA
      have hLw := unhide HL
      have hik : i < ks.length := by omega
      have z4r : wr.cell? ⟨g, o + 4, none⟩ = some (.slice ak N ck) := by
        rw [World.cell?_of_block (w := w.setCell ⟨g, o + 2, none⟩ (.slice av P cv)) (a := ⟨g, o + 4, none⟩) hLw.here]
        have := (unhide HZ2).2
        rw [hN] at this
        simp [go_sem, this]
      obtain ⟨c, hc⟩ : ∃ c, Ks'[i]? = some c := ⟨_, List.getElem?_eq_getElem (by have := hLw.kl; omega)⟩
      obtain ⟨r, hr⟩ : ∃ r, R[i]? = some r := ⟨_, List.getElem?_eq_getElem (by omega)⟩
      have hrR := hSp r (by obtain ⟨hi, rfl⟩ := List.getElem?_eq_some_iff.1 hr; exact List.getElem_mem hi)
      have hMi := hLw.todo i ks[i] c r (Nat.le_refl _) (List.getElem?_eq_getElem hik) hc hr
      obtain ⟨c0, c1, c2, c3, c4, rfl⟩ := five hMi.length
      rcases hLw.row.2 with ⟨_, h0⟩ | ⟨gk, cap, cur', e1, hgM, hh, hcap, hm, hsz, htk⟩
      · omega
      injection e1 with e1 _ e3
      subst e1
      have hgkH := hkH gk (by simp [Value.ownBlock])
      have hcells : ∀ j v, [c0, c1, c2, c3, c4][j]? = some v → wr.cell? ⟨gk, i * 5 + j, none⟩ = some v := fun j v hj => by
        have hj5 : j < 5 := (List.getElem?_eq_some_iff.1 hj).1
        rw [cell_of_row wr gk _ cur' _ _ hh]
        have h1 := flat5 Ks' hLw.k5 i j _ hc hj5
        rw [hj, ← htk, List.getElem?_take_of_lt (by omega)] at h1
        rw [← h1]; simp
      have hmx : ∃ m, wr.cell? ⟨0, 0, none⟩ = some (.int .i64 m) := by
        obtain ⟨m, hm⟩ := unhide HMX
        refine ⟨m, ?_⟩
        rw [World.cell?_of_block (w := w) (a := ⟨0, 0, none⟩) (hLw.rest 0 (by omega) (by omega) (by omega) (by omega) (by simp [Value.ownBlock]; omega))]
        exact hm
      have htot : tt + rcT F ks[i] ≤ 1000000 := by
        have h1 := hLw.tot
        have h2 := unhide HT
        rw [rcTs_step hik] at h1
        omega
      have HIi := hide (unhide HIH ks[i] (List.getElem_mem hik) lo hi r.1 r.2 gk (i * 5) gs tt _ wr hMi (hSk _ (List.getElem_mem hik)) hcells ⟨cur', _, hh⟩ hLw.sw htot h1 hhi (by omega) (by omega) hmx)
      have HSt := hide (fun (w2 : World) (v : Value) (h : Lain F D ks[i] r.1 r.2 gk (i * 5) gs tt c0 c1 c3 c4 v wr w2) => lain_step hLw rfl rfl hik hc hr hDj hSp hhi hgL hLM.1 ⟨hgM, hgkH⟩ ⟨hHg, hgz⟩ h)
      clear hcur hd hn hk hK hl hR hDj hSp hnH hkH hSk hK5 hLw hc hr hrR hMi hh hcap hm hsz htk hcells hmx htot HA hgkH e3
      go_wp2_with fail
      refine (unhide HIi).mono ?_
      rintro e w3 ⟨rfl, b0, b1, b2, b3, b4, v, hb, hLa⟩
      obtain ⟨rfl, rfl, rfl, rfl, rfl⟩ := same5 hb
      have HN := hide (unhide HSt w3 v hLa)
      clear hLa HIi HSt
      go_wp2_with fail
      exact ⟨⟨i + 1, _, _, by omega, rfl, HN⟩, by simp [intOf]; omega⟩
    · obtain rfl : i = N := by omega
      have HE : Hid (Lain F D (.mk k x d ns ks) L H g o gs t (.int .i64 k) (.bool x) (.slice an ns.length cn') (.slice ak ks.length ck) (.slice av P cv) w wr) := by
        obtain ⟨hcur, hd, hn, hk, hK, hl, hR, hDj, hSp, hnH, hkH, hSk, hK5, hN⟩ := unhide HA
        have hLw := unhide HL
        have hzr := hLw.size
        have hnb : ∀ gn, (Value.slice an ns.length cn').ownBlock = some gn → (Value.slice ak ks.length ck).ownBlock ≠ some gn := fun gn h1 h2 => by
          rcases hn.2 with ⟨e, _⟩ | ⟨g1, _, cur1, e1, _, hh1, _⟩
          · rw [e] at h1; simp [Value.ownBlock] at h1
          rcases hk.2 with ⟨e, _⟩ | ⟨g2, _, cur2, e2, _, hh2, _⟩
          · rw [e] at h2; simp [Value.ownBlock] at h2
          rw [e1] at h1; rw [e2] at h2
          simp [Value.ownBlock] at h1 h2
          subst h1 h2
          rw [hh1] at hh2; cases hh2
        refine ⟨hLw.os, hLw.tape, hLw.output, hLw.size, fun k hk1 h2 h3 h4 => hLw.rest k hk1 h2 h3 (by omega) fun e => ?_, hLw.here, ?_, ?_⟩
        · have h5 := hkH k e
          have h6 := (owns_lt hk k e).1
          omega
        · have h5 := hLw.tot
          have h6 := hLw.sw
          rw [rcTs_end _ (by omega)] at h5
          rw [h6, rcT]
          have : tt = t + (rc F d + rcTs F ks) := by omega
          rw [this]
        · rw [dat, dats_map]
          refine .mk k x _ ns (ks.map (dat F D)) _ _ _ Ks' (by rw [List.length_map]; exact hLw.kl) (hLw.data.mono fun k hk => by omega) ?_ ?_ fun j u c hj hc => ?_
          · have hn' : wr.ownsRow M 9 1 (.slice an ns.length cn') ns.length (ns.map .string) := owns_same hn (fun gn hg => by
              have h5 := hnH gn hg
              have h6 := (owns_lt hn gn hg).1
              exact hLw.rest gn (by omega) (by omega) (by omega) (by omega) (hnb gn hg)) fun _ _ h => h
            exact (RowP.of (owns_row hn' fun gn hg => ⟨(owns_lt hn gn hg).1, hnH gn hg⟩)).mono fun k hk => by omega
          · rw [List.length_map]
            exact (RowP.of (owns_row hLw.row fun gn hg => ⟨(owns_lt hLw.row gn hg).1, hkH gn hg⟩)).mono fun k hk => by omega
          · rw [List.getElem?_map] at hj
            obtain ⟨u', hu', rfl⟩ := Option.map_eq_some_iff.1 hj
            have hjk := (List.getElem?_eq_some_iff.1 hu').1
            obtain ⟨r, hr⟩ : ∃ r, R[j]? = some r := ⟨_, List.getElem?_eq_getElem (by omega)⟩
            have hrR := hSp r (by obtain ⟨hi, rfl⟩ := List.getElem?_eq_some_iff.1 hr; exact List.getElem_mem hi)
            exact (hLw.done j u' c r (by omega) hu' hc hr).mono fun k hk => by omega
      go_wp2_with fail
      exact bodyPost_end (v := .tuple #[]) (by simp [results, Try.results39, go_sem]) rfl ⟨rfl, _, _, _, _, _, _, rfl, unhide HE⟩
end Go.Proofs.Ytlbfcneboaihnaa
