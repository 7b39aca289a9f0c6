/- The law FsLinks, walked. -/
import Derived.Test.YtbnbakcoomjnaabLk
namespace Go.Proofs.Ytbnbakcoomjnaab
open Go.RowKit Go.Maps
set_option linter.unusedSimpArgs false
/-- What stands while the law goes on. -/
structure Stand (w W : World) (S : Fs) (O : Nat → Prop) (k : Nat) : Prop where
  fs : FsIs W w.heap.size 0 S O k
  below : Below w.heap.size w W
  own : ∀ q, O q → w.heap.size ≤ q
theorem Stand.step {w W V : World} {S S' : Fs} {O O' : Nat → Prop} {k k' : Nat} (h : Stand w W S O k) (hF : FFr O O' W V) (hS : FsIs V w.heap.size 0 S' O' k') : Stand w V S' O' k' := by
  obtain ⟨b1, b2⟩ := FFr.toBelow h.below hF h.own h.below.size
  exact ⟨hS, b1, b2⟩
theorem Stand.low {w W V : World} {S : Fs} {O : Nat → Prop} {k : Nat} (h : Stand w W S O k) (hb : Below W.heap.size W V) : Stand w V S O k := ⟨h.fs.below hb, h.below.trans (hb.mono h.below.size), h.own⟩
set_option maxRecDepth 20000 in
set_option maxHeartbeats 8000000 in
theorem links_any (aa ab ac : Option Addr) (ka kb kc : Nat) (A B C : List UInt8) (w : World) (hA : Row w.heap.size w (.slice aa A.length ka) A) (hB : Row w.heap.size w (.slice ab B.length kb) B) (hC : Row w.heap.size w (.slice ac C.length kc) C) (zA : A.length ≤ 281474976710656) (zB : B.length ≤ 281474976710656) (zC : C.length ≤ 281474976710656) :
    Calls Try.prog 3 #[.slice aa A.length ka, .slice ab B.length kb, .slice ac C.length kc] w fun e w' => e = .returned (.bool true) ∧ Below w.heap.size w w' := by
  by_cases hlen : A.length + B.length + C.length ≤ 8000
  case neg =>
    clear hA hB hC
    have hI : 8000 < (A.length : Int) + (B.length : Int) + (C.length : Int) := by omega
    generalize A.length = NA at *
    generalize B.length = NB at *
    generalize C.length = NC at *
    go_enter Try.func3, Try.ntmps3
    go_wp2_with fail
    go_ret
    exact ⟨rfl, Below.refl _ _⟩
  case pos =>
  have hI : ¬ (8000 < (A.length : Int) + (B.length : Int) + (C.length : Int)) := by omega
  have HA := hide hA
  have HB := hide hB
  have HC := hide hC
  have HZ := hide hlen
  clear hA hB hC hlen
  generalize hNA : A.length = NA at *
  generalize hNB : B.length = NB at *
  generalize hNC : C.length = NC at *
  have HNA := hide hNA
  have HNB := hide hNB
  have HNC := hide hNC
  clear hNA hNB hNC
  have hIa : (NA : Int) ≤ 8000 := by have := unhide HZ; omega
  have hIb : (NB : Int) ≤ 8000 := by have := unhide HZ; omega
  have hIc : (NC : Int) ≤ 8000 := by have := unhide HZ; omega
  clear zA zB zC
  have H0 : Hid (Calls Try.prog 4 #[.int .i64 1048576] w fun e w' => e = .returned (.tuple #[.pointer (some ⟨w.heap.size, 0, none⟩), .int .i64 0]) ∧ ∃ O, Hid (Stand w w' lS0 O 0)) := by
    refine (new_ok 1048576 w (by omega)).mono ?_
    rintro e w' ⟨e1, h1, h2⟩
    exact ⟨e1, _, h1, h2, fun q e => by rw [e]; exact Nat.le_refl _⟩
  go_enter Try.func3, Try.ntmps3
  go_wp2_with fail
  refine (unhide H0).mono ?_
  rintro e w1 ⟨rfl, O1, hX⟩
  have HW : Hid (Calls Try.prog 5 #[.pointer (some ⟨w.heap.size, 0, none⟩), .string (nm 120), .slice aa NA ka] w1 fun e w' => e = .returned (.int .i64 0) ∧ ∃ z O, Hid (Stand w w' (lS1 A z) O 3)) := by
    have hs := unhide hX
    have hA := unhide HA
    have hz := unhide HZ
    rw [← unhide HNA] at hA hz ⊢
    refine (write_ok w.heap.size lS0 _ 0 (nm 120) aa ka A _ w1 hs.fs (by omega) (by simp [lS0, Fs.new]) (by simp [lS0, Fs.new]) (by simp [nm, ByteArray.size]) (by omega) (by simp [lS0, Fs.new, Tb.none, Tb.alone]; omega) (hA.below hs.below) hs.below.size).mono ?_
    rintro e w' ⟨e1, z, O', _, h1, h2⟩
    exact ⟨e1, z, O', hs.step h2 h1⟩
  clear hX H0
  go_wp2_with fail
  refine (unhide HW).mono ?_
  rintro e w2 ⟨rfl, z, O2, hX⟩
  have HL : Hid (Calls Try.prog 6 #[.pointer (some ⟨w.heap.size, 0, none⟩), .string (nm 120), .string (nm 121)] w2 fun e w' => e = .returned (.int .i64 0) ∧ ∃ O, Hid (Stand w w' (lS2 A z) O 6)) := by
    have hs := unhide hX
    refine (link_ok w.heap.size (lS1 A z) _ 3 (nm 120) (nm 121) z w2 hs.fs (by omega) (by simp [lS1, lS0, Fs.done, Fs.new]) (by simp [lS1, lS0, Fs.done, Fs.new]) (by simp [nm, ByteArray.size]) (by simp [nm, ByteArray.size]) (by rw [l1N, if_pos rfl]) (by rw [l1N, if_neg n1])).mono ?_
    rintro e w' ⟨e1, O', h1, h2⟩
    exact ⟨e1, O', hs.step h2 h1⟩
  clear hX HW
  go_wp2_with fail
  refine (unhide HL).mono ?_
  rintro e w3 ⟨rfl, O3, hX⟩
  have HL : Hid (Calls Try.prog 6 #[.pointer (some ⟨w.heap.size, 0, none⟩), .string (nm 121), .string (nm 122)] w3 fun e w' => e = .returned (.int .i64 0) ∧ ∃ O, Hid (Stand w w' (lS3 A z) O 9)) := by
    have hs := unhide hX
    refine (link_ok w.heap.size (lS2 A z) _ 6 (nm 121) (nm 122) z w3 hs.fs (by omega) (by simp [lS2, lS1, lS0, Fs.done, Fs.new]) (by simp [lS2, lS1, lS0, Fs.done, Fs.new]) (by simp [nm, ByteArray.size]) (by simp [nm, ByteArray.size]) (by rw [l2N, if_pos rfl]) (by rw [l2N, if_neg n3, if_neg n2])).mono ?_
    rintro e w' ⟨e1, O', h1, h2⟩
    exact ⟨e1, O', hs.step h2 h1⟩
  clear hX
  go_wp2_with fail
  refine (unhide HL).mono ?_
  rintro e w4 ⟨rfl, O4, hX⟩
  have HAp : Hid (Calls Try.prog 7 #[.pointer (some ⟨w.heap.size, 0, none⟩), .string (nm 122), .slice ab NB kb] w4 fun e w' => e = .returned (.int .i64 0) ∧ ∃ O, Hid (Stand w w' (lS4 A B z) O 12)) := by
    have hs := unhide hX
    have hB := unhide HB
    have hz := unhide HZ
    rw [← unhide HNB] at hB hz ⊢
    rw [← unhide HNA] at hz
    refine (append_ok w.heap.size (lS3 A z) _ 9 (nm 122) z ab kb B _ w4 hs.fs (by omega) (by simp [lS3, lS2, lS1, lS0, Fs.done, Fs.new]) (by simp [lS3, lS2, lS1, lS0, Fs.done, Fs.new]) (by simp [nm, ByteArray.size]) (by rw [l3N, if_pos rfl]) (by rw [l3D]; omega) (by rw [l3u]; show _ ≤ ((1048576 : Nat) : Int); omega) (hB.below hs.below)).mono ?_
    rintro e w' ⟨e1, O', h1, h2⟩
    exact ⟨e1, O', hs.step h2 h1⟩
  clear hX HL
  go_wp2_with fail
  refine (unhide HAp).mono ?_
  rintro e w5 ⟨rfl, O5, hX⟩
  have HW : Hid (Calls Try.prog 5 #[.pointer (some ⟨w.heap.size, 0, none⟩), .string (nm 121), .slice ac NC kc] w5 fun e w' => e = .returned (.int .i64 0) ∧ ∃ y O, Hid (z < y ∧ Stand w w' (lS5 A B C z y) O 15)) := by
    have hs := unhide hX
    have hC := unhide HC
    have hz := unhide HZ
    rw [← unhide HNC] at hC hz ⊢
    rw [← unhide HNA, ← unhide HNB] at hz
    refine (write_ok w.heap.size (lS4 A B z) _ 12 (nm 121) ac kc C _ w5 hs.fs (by omega) (by simp [lS4, lS3, lS2, lS1, lS0, Fs.done, Fs.new]) (by simp [lS4, lS3, lS2, lS1, lS0, Fs.done, Fs.new]) (by simp [nm, ByteArray.size]) (by omega) (by rw [l4u, l4al]; show _ ≤ ((1048576 : Nat) : Int); omega) (hC.below hs.below) hs.below.size).mono ?_
    rintro e w' ⟨e1, y, O', hy, h1, h2⟩
    exact ⟨e1, y, O', hy (nm 120) z (by rw [l4N, if_neg n5, if_neg n4, if_pos rfl]), hs.step h2 h1⟩
  clear hX HAp
  go_wp2_with fail
  refine (unhide HW).mono ?_
  rintro e w6 ⟨rfl, y, O6, hX⟩
  have HM : Hid ((A ++ B).length = NA + NB) := by show (A ++ B).length = NA + NB; rw [List.length_append, unhide HNA, unhide HNB]
  have HR : Hid (Calls Try.prog 8 #[.pointer (some ⟨w.heap.size, 0, none⟩), .string (nm 120)] w6 fun e w' => ∃ a c, e = .returned (.tuple #[.slice a (NA + NB) c, .int .i64 0]) ∧ Hid (z < y ∧ Stand w w' (lS5 A B C z y) O6 15 ∧ Row w'.heap.size w' (.slice a (NA + NB) c) (A ++ B))) := by
    obtain ⟨hzy, hs⟩ := unhide hX
    refine (read_ok w.heap.size (lS5 A B C z y) _ 15 (nm 120) z w6 hs.fs (by simp [nm, ByteArray.size, maxLen]) (by rw [l5N, if_neg n4, if_neg n5, if_pos rfl])).mono ?_
    rintro e w' ⟨a, c, L, e1, h1, h2, h3, h4⟩
    rw [(l5D A B C z y hzy).1, unhide HM] at e1 h1
    exact ⟨a, c, e1, hzy, hs.low h4, h1.row h2⟩
  clear hX HW
  go_wp2_with fail
  refine (unhide HR).mono ?_
  rintro e w7 ⟨xa, xc, rfl, hX⟩
  have HR : Hid (Calls Try.prog 8 #[.pointer (some ⟨w.heap.size, 0, none⟩), .string (nm 121)] w7 fun e w' => ∃ a c, e = .returned (.tuple #[.slice a NC c, .int .i64 0]) ∧ Hid (z < y ∧ Stand w w' (lS5 A B C z y) O6 15 ∧ Row w'.heap.size w' (.slice xa (NA + NB) xc) (A ++ B) ∧ Row w'.heap.size w' (.slice a NC c) C)) := by
    obtain ⟨hzy, hs, hx⟩ := unhide hX
    refine (read_ok w.heap.size (lS5 A B C z y) _ 15 (nm 121) y w7 hs.fs (by simp [nm, ByteArray.size, maxLen]) (by rw [l5N, if_pos rfl])).mono ?_
    rintro e w' ⟨a, c, L, e1, h1, h2, h3, h4⟩
    rw [(l5D A B C z y hzy).2, unhide HNC] at e1 h1
    exact ⟨a, c, e1, hzy, hs.low h4, hx.stays h4, h1.row h2⟩
  clear hX
  go_wp2_with fail
  refine (unhide HR).mono ?_
  rintro e w8 ⟨ya, yc, rfl, hX⟩
  have HR : Hid (Calls Try.prog 8 #[.pointer (some ⟨w.heap.size, 0, none⟩), .string (nm 122)] w8 fun e w' => ∃ a c, e = .returned (.tuple #[.slice a (NA + NB) c, .int .i64 0]) ∧ Hid (z < y ∧ Stand w w' (lS5 A B C z y) O6 15 ∧ Row w'.heap.size w' (.slice xa (NA + NB) xc) (A ++ B) ∧ Row w'.heap.size w' (.slice ya NC yc) C ∧ Row w'.heap.size w' (.slice a (NA + NB) c) (A ++ B))) := by
    obtain ⟨hzy, hs, hx, hy⟩ := unhide hX
    refine (read_ok w.heap.size (lS5 A B C z y) _ 15 (nm 122) z w8 hs.fs (by simp [nm, ByteArray.size, maxLen]) (by rw [l5N, if_neg n3, if_pos rfl])).mono ?_
    rintro e w' ⟨a, c, L, e1, h1, h2, h3, h4⟩
    rw [(l5D A B C z y hzy).1, unhide HM] at e1 h1
    exact ⟨a, c, e1, hzy, hs.low h4, hx.stays h4, hy.stays h4, h1.row h2⟩
  clear hX
  go_wp2_with fail
  refine (unhide HR).mono ?_
  rintro e w9 ⟨za, zc, rfl, hX⟩
  have HP : ∃ a1 c1 V1 a2 c2 V2, (∀ ty, (app22 ty #[.slice (some ⟨w9.heap.size, 0, none⟩) 0 0, .slice aa NA ka]).run Try.prog (w9.alloc (.cells #[] 5)) = .ok (.slice a1 NA c1) V1) ∧ (∀ ty, (app22 ty #[.slice a1 NA c1, .slice ab NB kb]).run Try.prog V1 = .ok (.slice a2 (NA + NB) c2) V2) ∧ Hid (z < y ∧ Stand w V2 (lS5 A B C z y) O6 15 ∧ Row V2.heap.size V2 (.slice xa (NA + NB) xc) (A ++ B) ∧ Row V2.heap.size V2 (.slice ya NC yc) C ∧ Row V2.heap.size V2 (.slice za (NA + NB) zc) (A ++ B) ∧ Row V2.heap.size V2 (.slice a2 (NA + NB) c2) (A ++ B)) := by
    obtain ⟨hzy, hs, hx, hy, hzr⟩ := unhide hX
    have hA := unhide HA
    have hB := unhide HB
    have hz := unhide HZ
    have hnA := unhide HNA
    have hnB := unhide HNB
    have hb0 : Below w9.heap.size w9 (w9.alloc (.cells #[] 5)) := (Below.refl _ _).alloc (Nat.le_refl _) _
    have hs0 := hs.low hb0
    rw [← hnA] at hA
    rw [← hnB] at hB
    obtain ⟨a1, c1, V1, r1, o1, b1⟩ := app_own w9.heap.size (.slice (some ⟨w9.heap.size, 0, none⟩) 0 0) 0 [] _ aa ka A (w9.alloc (.cells #[] 5)) (owns_new w9 5 1) ⟨_, _, rfl⟩ (hA.below hs0.below) (by simp) (by omega)
    have hb1 : Below w9.heap.size w9 V1 := hb0.trans b1
    have hs1 := hs.low hb1
    obtain ⟨a2, c2, V2, r2, o2, b2⟩ := app_own w9.heap.size (.slice a1 (0 + A.length) c1) (0 + A.length) ([] ++ byteVals A) _ ab kb B V1 o1 ⟨_, _, rfl⟩ (hB.below hs1.below) hb1.size (by omega)
    have hb2 : Below w9.heap.size w9 V2 := hb1.trans b2
    rw [Nat.zero_add, hnA] at r1 r2 o2
    rw [hnB] at r2 o2
    rw [List.nil_append, ← byteVals_append] at o2
    exact ⟨a1, c1, V1, a2, c2, V2, r1, r2, hzy, hs.low hb2, hx.stays hb2, hy.stays hb2, hzr.stays hb2, Row.own o2 (unhide HM) ⟨_, _, rfl⟩⟩
  obtain ⟨pa1, pc1, V1, pa, pc, V2, hr1, hr2, hX2⟩ := HP
  clear hX HR
  go_wp2_with fail
  clear hr1 hr2
  have HN : Hid (Calls Try.prog 9 #[.pointer (some ⟨w.heap.size, 0, none⟩), .string (nm 120)] V2 fun e w' => ∃ r, e = .returned (.tuple #[.string r, .int .i64 2]) ∧ Hid (z < y ∧ Stand w w' (lS5 A B C z y) O6 15 ∧ Row w'.heap.size w' (.slice xa (NA + NB) xc) (A ++ B) ∧ Row w'.heap.size w' (.slice ya NC yc) C ∧ Row w'.heap.size w' (.slice za (NA + NB) zc) (A ++ B) ∧ Row w'.heap.size w' (.slice pa (NA + NB) pc) (A ++ B))) := by
    obtain ⟨hzy, hs, hx, hy, hzr, hp⟩ := unhide hX2
    refine (node_ok w.heap.size (lS5 A B C z y) _ 15 (nm 120) z V2 hs.fs (by omega) (by simp [nm, ByteArray.size]) (fun s' hs' => by
      rw [l5N] at hs'
      split at hs'
      · rename_i e; rw [e]; simp [nm, ByteArray.size]
      · split at hs'
        · rename_i e; rw [e]; simp [nm, ByteArray.size]
        · split at hs'
          · rename_i e; rw [e]; simp [nm, ByteArray.size]
          · cases hs') (by rw [l5N, if_neg n4, if_neg n5, if_pos rfl])).mono ?_
    rintro e w' ⟨r, e1, _, _, _, h4⟩
    rw [(l5c A B C z y hzy).1] at e1
    exact ⟨r, e1, hzy, hs.low h4, hx.stays h4, hy.stays h4, hzr.stays h4, hp.stays h4⟩
  clear hX2
  refine (unhide HN).mono ?_
  rintro e w10 ⟨r1, rfl, hX⟩
  have HN : Hid (Calls Try.prog 9 #[.pointer (some ⟨w.heap.size, 0, none⟩), .string (nm 121)] w10 fun e w' => ∃ r, e = .returned (.tuple #[.string r, .int .i64 1]) ∧ Hid (z < y ∧ Stand w w' (lS5 A B C z y) O6 15 ∧ Row w'.heap.size w' (.slice xa (NA + NB) xc) (A ++ B) ∧ Row w'.heap.size w' (.slice ya NC yc) C ∧ Row w'.heap.size w' (.slice za (NA + NB) zc) (A ++ B) ∧ Row w'.heap.size w' (.slice pa (NA + NB) pc) (A ++ B))) := by
    obtain ⟨hzy, hs, hx, hy, hzr, hp⟩ := unhide hX
    refine (node_ok w.heap.size (lS5 A B C z y) _ 15 (nm 121) y w10 hs.fs (by omega) (by simp [nm, ByteArray.size]) (fun s' hs' => by
      rw [l5N] at hs'
      split at hs'
      · rename_i e; rw [e]; simp [nm, ByteArray.size]
      · split at hs'
        · rename_i e; rw [e]; simp [nm, ByteArray.size]
        · split at hs'
          · rename_i e; rw [e]; simp [nm, ByteArray.size]
          · cases hs') (by rw [l5N, if_pos rfl])).mono ?_
    rintro e w' ⟨r, e1, _, _, _, h4⟩
    rw [(l5c A B C z y hzy).2] at e1
    exact ⟨r, e1, hzy, hs.low h4, hx.stays h4, hy.stays h4, hzr.stays h4, hp.stays h4⟩
  clear hX
  go_wp2_with fail
  refine (unhide HN).mono ?_
  rintro e w11 ⟨r2, rfl, hX⟩
  have HS1 : Hid (Calls Try.prog 10 #[.slice xa (NA + NB) xc, .slice pa (NA + NB) pc] w11 fun e w' => (∃ q, w' = w11.drewN q) ∧ e = .returned (.bool true)) := by
    obtain ⟨hzy, hs, hx, hy, hzr, hp⟩ := unhide hX
    have hz := unhide HZ
    refine (same_any _ _ xa pa (NA + NB) (NA + NB) xc pc (A ++ B) (A ++ B) w11 hx hp (unhide HM) (unhide HM) (by omega) (by omega)).mono ?_
    rintro e w' ⟨h1, h2⟩
    exact ⟨h1, by rw [h2]; simp⟩
  have HS2 : Hid (∀ q0, Calls Try.prog 10 #[.slice za (NA + NB) zc, .slice pa (NA + NB) pc] (w11.drewN q0) fun e w' => (∃ q, w' = w11.drewN q) ∧ e = .returned (.bool true)) := fun q0 => by
    obtain ⟨hzy, hs, hx, hy, hzr, hp⟩ := unhide hX
    have hz := unhide HZ
    have hbd : Below w11.heap.size w11 (w11.drewN q0) := ⟨rfl, rfl, rfl, Nat.le_refl _, fun _ _ => rfl⟩
    refine (same_any _ _ za pa (NA + NB) (NA + NB) zc pc (A ++ B) (A ++ B) (w11.drewN q0) (hzr.below hbd) (hp.below hbd) (unhide HM) (unhide HM) (by omega) (by omega)).mono ?_
    rintro e w' ⟨⟨q, h1⟩, h2⟩
    exact ⟨⟨_, h1.trans (World.drewN_drewN _ _ _)⟩, by rw [h2]; simp⟩
  have HS3 : Hid (∀ q0, Calls Try.prog 10 #[.slice ya NC yc, .slice ac NC kc] (w11.drewN q0) fun e w' => (∃ q, w' = w11.drewN q) ∧ e = .returned (.bool true)) := fun q0 => by
    obtain ⟨hzy, hs, hx, hy, hzr, hp⟩ := unhide hX
    have hz := unhide HZ
    have hbd : Below w11.heap.size w11 (w11.drewN q0) := ⟨rfl, rfl, rfl, Nat.le_refl _, fun _ _ => rfl⟩
    have hC := unhide HC
    refine (same_any _ _ ya ac NC NC yc kc C C (w11.drewN q0) (hy.below hbd) ((hC.below hs.below).below (hbd.mono hs.below.size)) (unhide HNC) (unhide HNC) (by omega) (by omega)).mono ?_
    rintro e w' ⟨⟨q, h1⟩, h2⟩
    exact ⟨⟨_, h1.trans (World.drewN_drewN _ _ _)⟩, by rw [h2]; simp⟩
  have HU : Hid (∀ q0, Calls Try.prog 11 #[.pointer (some ⟨w.heap.size, 0, none⟩)] (w11.drewN q0) fun e w' => e = .returned (.int .i64 ((NA : Int) + (NB : Int) + (NC : Int))) ∧ Hid (Below w.heap.size w w')) := fun q0 => by
    obtain ⟨hzy, hs, hx, hy, hzr, hp⟩ := unhide hX
    have hbd : Below w11.heap.size w11 (w11.drewN q0) := ⟨rfl, rfl, rfl, Nat.le_refl _, fun _ _ => rfl⟩
    have hs' := hs.low hbd
    refine (used_ok w.heap.size (lS5 A B C z y) _ 15 (w11.drewN q0) hs'.fs).mono ?_
    rintro e w' ⟨e1, _, h3⟩
    rw [l5u A B C z y hzy, unhide HNA, unhide HNB, unhide HNC] at e1
    exact ⟨e1, hs'.below.trans (h3.mono hs'.below.size)⟩
  clear hX HN
  go_wp2_with fail
  refine (unhide HS1).mono ?_
  rintro e v1 ⟨⟨q1, rfl⟩, rfl⟩
  go_wp2_with fail
  refine (unhide HS2 _).mono ?_
  rintro e v2 ⟨⟨q2, rfl⟩, rfl⟩
  go_wp2_with fail
  refine (unhide HS3 _).mono ?_
  rintro e v3 ⟨⟨q3, rfl⟩, rfl⟩
  go_wp2_with fail
  refine (unhide HU _).mono ?_
  rintro e v4 ⟨rfl, hb4⟩
  have HK := hide (known_any v4)
  have e9 : ((NA : Int) + (NB : Int) + (NC : Int) == (NA : Int) + (NB : Int) + (NC : Int)) = true := by simp
  go_wp2_with fail
  refine (unhide HK).mono ?_
  rintro e v5 ⟨rfl, hb5⟩
  have HE : Hid (Below w.heap.size w v5) := (unhide hb4).trans (hb5.mono (unhide hb4).size)
  clear hb5 hb4
  go_wp2_with fail
  go_ret
  exact ⟨rfl, unhide HE⟩
end Go.Proofs.Ytbnbakcoomjnaab
