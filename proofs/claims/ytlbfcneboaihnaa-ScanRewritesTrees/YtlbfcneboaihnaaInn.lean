/- inName: a name with the digits laid. -/
import Derived.Test.YtlbfcneboaihnaaInb
import Derived.Test.YtlbfcneboaihnaaK6
import Derived.Test.YtlbfcneboaihnaaK2
import Derived.Test.YtlbfcneboaihnaaLai
namespace Go.Proofs.Ytlbfcneboaihnaa
open Go.RowKit Go.Great
set_option linter.unusedSimpArgs false
theorem SoleG.trans {g : Nat} {a b c : World} (h : SoleG g a b) (k : SoleG g b c) : SoleG g a c :=
  ⟨k.os.trans h.os, k.tape.trans h.tape, k.output.trans h.output, Nat.le_trans h.size k.size, fun j h1 h2 => (k.block j (Nat.lt_of_lt_of_le h1 h.size) h2).trans (h.block j h1 h2)⟩
theorem SoleG.of_below {g : Nat} {a b : World} (h : Below a.heap.size a b) : SoleG g a b := ⟨h.os, h.tape, h.output, h.size, fun k hk _ => h.block k hk⟩
set_option maxRecDepth 20000 in
set_option maxHeartbeats 1000000 in
theorem inName_any (gs t : Nat) (F D : List Nat) (s : ByteArray) (w : World) (hs : w.heap[gs]? = some (Tn.SwBox F D t)) (hsz : s.size ≤ 100)
    (hF : Sha.Bytes F) (hFl : F.length = 32) (hD : Sha.Bytes D) (hDl : D.length = 32) (ht : t ≤ 1000000) (hg0 : 1 ≤ gs) (hmx : ∃ m, w.cell? ⟨0, 0, none⟩ = some (.int .i64 m)) :
    Calls Try.prog 53 #[.pointer (some ⟨gs, 0, none⟩), .string s] w fun e w' => e = .returned (.string (Tn.rp F D s)) ∧ SoleG gs w w' ∧ w'.heap[gs]? = some (Tn.SwBox F D (t + Tn.rc F s)) := by
  obtain ⟨cap, w1, hr1, hb1, hat1, hz1⟩ := run_cvB w s
  have hgs := (Array.getElem?_eq_some_iff.1 hs).1
  have hs1 : w1.heap[gs]? = some (Tn.SwBox F D t) := by rw [hb1.block _ hgs]; exact hs
  have hmx1 : ∃ m, w1.cell? ⟨0, 0, none⟩ = some (.int .i64 m) := by
    obtain ⟨m, hm⟩ := hmx
    exact ⟨m, by rw [hb1.cell (p := ⟨0, 0, none⟩) (by show 0 < w.heap.size; omega)]; exact hm⟩
  have HI := hide (inBytes_any gs F D (t : Int) (some ⟨w.heap.size, 0, none⟩) s.size cap (bytesOf s) w1 hs1 hat1 (bytesOf_bytes s) (bytesOf_length s) (by omega) hF hFl hD hDl (by omega) hmx1)
  have HB1 := hide hb1
  have HZ := hide (Tn.rp_size hFl hDl s)
  clear hs hmx hs1 hmx1 hb1 hat1 hz1 ht
  go_enter Try.func53, Try.ntmps53
  go_wp2_with fail
  refine (unhide HI).mono ?_
  rintro e w2 ⟨v, rfl, ho, hso, hbx⟩
  obtain ⟨a, c, rfl, hat⟩ := ho.at
  have hcv := conv_at w2 _ _ hat
  have HC := hide (fun W => clone_any (Tn.rp F D s) W (by rw [unhide HZ]; omega))
  have HS := hide (And.intro hso hbx)
  have hcv' : (convert 22 9 (.slice a (layAll D (bytesOf s) (plcs (bytesOf s) F 0)).length c)).run Try.prog w2 = .ok (.string (Tn.rp F D s)) w2 := hcv
  clear hcv ho hso hbx hat HI
  generalize (layAll D (bytesOf s) (plcs (bytesOf s) F 0)).length = N at *
  obtain ⟨S, hS⟩ : ∃ S, Tn.rp F D s = S := ⟨_, rfl⟩
  rw [hS] at HC hcv'
  have HSS := hide hS
  clear hS
  go_wp2_with fail
  refine (unhide HC _).mono ?_
  rintro e w3 ⟨rfl, hb3⟩
  have HE : Hid (SoleG gs w w3 ∧ w3.heap[gs]? = some (Tn.SwBox F D (t + Tn.rc F s))) := by
    obtain ⟨hso, hbx⟩ := unhide HS
    refine ⟨((SoleG.of_below (unhide HB1)).trans hso).up hb3, ?_⟩
    rw [hb3.block _ (Array.getElem?_eq_some_iff.1 hbx).1, hbx]
    unfold Tn.rc
    simp
  clear hb3 HS HC
  go_wp2_with fail
  go_ret
  exact ⟨by rw [unhide HSS]; rfl, unhide HE⟩
end Go.Proofs.Ytlbfcneboaihnaa
