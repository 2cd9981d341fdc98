import Derived.Test.YtefnlaookmpbhaaStrC
namespace Go.Proofs.Ytefnlaookmpbhaa
set_option linter.unusedSimpArgs false
set_option linter.unusedVariables false
open Go.ChangeShapes Go.WideShapes Go.ChangeAt Go.RowKit Go.Pin Go.Str
theorem but_trans {S : Nat → Prop} {a b c : World} (h : But S a b) (k : But S b c) : But S a c :=
  ⟨k.os.trans h.os, k.tape.trans h.tape, k.output.trans h.output, k.size.trans h.size, fun i hi => (k.block i hi).trans (h.block i hi)⟩
set_option maxRecDepth 100000 in
set_option maxHeartbeats 4000000 in
theorem quarters_any (g i j k m : Nat) (f : Nat → List Nat) (T : TypeId) (w : World) (h : RW w g (wv f) T) (hf : ∀ l, l < 4 → St (f l)) (hi : i < 16) (hj : j < 16) (hk : k < 16) (hm : m < 16)
    (hij : i ≠ j) (hik : i ≠ k) (him : i ≠ m) (hjk : j ≠ k) (hjm : j ≠ m) (hkm : k ≠ m) :
    Calls Try.prog 49 #[.pointer (some ⟨g, 4 * i, none⟩), .pointer (some ⟨g, 4 * j, none⟩), .pointer (some ⟨g, 4 * k, none⟩), .pointer (some ⟨g, 4 * m, none⟩)] w fun e w' => e = .returned (.tuple #[]) ∧ But (fun x => x = g) w w' ∧ RW w' g (wv fun l => qat (f l) i j k m) T := by
  have HC : Hid (∀ n w', n < 4 → RW w' g (wv (fst4 f (fun l => qat (f l) i j k m) n)) T → Calls Try.prog 47 #[.pointer (some ⟨g, 4 * i + n, none⟩), .pointer (some ⟨g, 4 * j + n, none⟩), .pointer (some ⟨g, 4 * k + n, none⟩), .pointer (some ⟨g, 4 * m + n, none⟩)] w' fun e w'' => e = .returned (.tuple #[]) ∧ But (fun x => x = g) w' w'' ∧ RW w'' g (wv (fst4 f (fun l => qat (f l) i j k m) (n + 1))) T) := by
    intro n w' hn h'
    have hw : W32 (wv (fst4 f (fun l => qat (f l) i j k m) n)) := wv_w fun l hl => by
      unfold fst4; split
      · exact qat_w (hf l hl).bd _ _ _ _
      · exact (hf l hl).bd
    refine (quarter_any g (4 * i + n) (4 * j + n) (4 * k + n) (4 * m + n) _ T w' h' hw (by rw [wv_len]; omega) (by rw [wv_len]; omega) (by rw [wv_len]; omega) (by rw [wv_len]; omega) (by omega) (by omega) (by omega) (by omega) (by omega) (by omega)).mono ?_
    rintro e w'' ⟨he, h1, h2⟩
    refine ⟨he, h1, ?_⟩
    have e1 : fst4 f (fun l => qat (f l) i j k m) n n = f n := by simp [fst4]
    rw [wv_qat _ _ _ _ _ _ hi hj hk hm hn (by rw [e1]; exact (hf n hn).len), e1] at h2
    rw [fst4_succ f (fun l => qat (f l) i j k m) n] at h2
    exact h2
  have HW : Hid (RW w g (wv (fst4 f (fun l => qat (f l) i j k m) 0)) T) := h
  have HE : Hid (∀ w', RW w' g (wv (fst4 f (fun l => qat (f l) i j k m) 4)) T → RW w' g (wv fun l => qat (f l) i j k m) T) := fun w' h' => by
    rw [wv_congr (g := fun l => qat (f l) i j k m) (fun l hl => by simp [fst4, hl])] at h'; exact h'
  clear h hf
  generalize (fun l => qat (f l) i j k m) = F at *
  clear hi hj hk hm hij hik him hjk hjm hkm
  generalize 4 * i = oi at *
  generalize 4 * j = oj at *
  generalize 4 * k = ok at *
  generalize 4 * m = om at *
  go_enter Try.func49, Try.ntmps49
  go_wp2
  go_loopw [9] (fun v w' => ∃ n : Nat, n ≤ 4 ∧ v = .int .i64 n ∧ But (fun x => x = g) w w' ∧ RW w' g (wv (fst4 f F n)) T) (fun v _ => 4 - (intOf v).toNat)
  case atStart => exact ⟨0, Nat.zero_le _, rfl, But.refl _ _, HW.out⟩
  case round =>
    obtain ⟨n, hn, rfl, hb, hr⟩ := hrel
    by_cases hlt : n < 4
    · have HR : Hid (But (fun x => x = g) w wr ∧ RW wr g (wv (fst4 f F n)) T) := ⟨hb, hr⟩
      clear hb hr
      go_wp2
      go_region_with (go_at_call 47; refine (HC.out n wr.drew hlt HR.out.2).mono ?_; rintro e w2 ⟨rfl, hb2, hr2⟩)
      have HN : Hid (But (fun x => x = g) w w2 ∧ RW w2 g (wv (fst4 f F (n + 1))) T) := ⟨but_trans HR.out.1.drew hb2, hr2⟩
      clear hb2 hr2
      go_wp2
      go_roundw
      case rel => exact ⟨n + 1, by omega, by go_num, HN.out⟩
      case measure => simp [intOf]; omega
    · have hk' : n = 4 := by omega
      subst hk'
      have HP : Hid (But (fun x => x = g) w wr ∧ RW wr g (wv F) T) := ⟨hb, HE.out _ hr⟩
      clear hb hr
      go_wp2
      go_end0
      exact ⟨rfl, HP.out⟩
end Go.Proofs.Ytefnlaookmpbhaa
