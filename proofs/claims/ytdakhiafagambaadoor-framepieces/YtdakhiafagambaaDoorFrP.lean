import Derived.Test.YtdakhiafagambaaDoorFrN
/- stage 20: messages in pieces -/
namespace Go.Proofs.YtdakhiafagambaaDoor
set_option linter.unusedSimpArgs false
set_option linter.unusedVariables false
open Go.ChangeShapes Go.WideShapes Go.ChangeAt Go.RowKit Go.Pin
theorem parts_int : (Tryd.prog.info? 3).map (fun i => (i.zero, i.size, i.bytes)) = some (some (.int .i64 0), 1, 8) := by kernel_rfl
/-- rows of two types lie in two blocks -/
theorem own_ne2 {w : World} {b b2 : Nat} {e e2 : TypeId} {k k2 n n2 : Nat} {v v2 : Value} {xs ys : List Value} (hne : e ≠ e2) (h : w.ownsRow b e k v n xs) (h2 : w.ownsRow b2 e2 k2 v2 n2 ys) : ∀ g, v.ownBlock = some g → v2.ownBlock ≠ some g := fun g hg hg2 => by
  rcases h.2 with ⟨rfl, _⟩ | ⟨g', cap, cur, rfl, _, hc, _⟩
  · cases hg
  rcases h2.2 with ⟨rfl, _⟩ | ⟨g2, cap2, cur2, rfl, _, hc2, _⟩
  · cases hg2
  have e1 : some g' = some g := hg
  have e3 : some g2 = some g := hg2
  injection e1 with e1
  injection e3 with e3
  subst e1 e3
  rw [hc] at hc2
  injection hc2 with hc2
  injection hc2 with _ hc2
  exact hne hc2
/-- numbers that came in -/
def RdC (w : World) (v : Value) (C : List Int) : Prop :=
  ∃ a cap, v = .slice a C.length cap ∧ C.length ≤ cap ∧ C.length ≤ 140737488355328 ∧ ∀ j, j < C.length → ∃ b o, a = some ⟨b, o, none⟩ ∧ w.cell? ⟨b, o + j, none⟩ = some (.int .i64 (C.getD j 0))
theorem RdC.below {w W : World} {v : Value} {C : List Int} (h : RdC w v C) (hb : Below w.heap.size w W) : RdC W v C := by
  obtain ⟨a, c, e, h1, h2, h3⟩ := h
  refine ⟨a, c, e, h1, h2, fun j hj => ?_⟩
  obtain ⟨b, o, g1, g2⟩ := h3 j hj
  exact ⟨b, o, g1, cell_below hb g2⟩
/-- where the frames end -/
def ens (Ms : List (List Int)) (i : Nat) : List Value := (List.range i).map fun j => Value.int .i64 ((lin (Ms.take (j + 1))).length : Int)
theorem ens_snoc (Ms : List (List Int)) (i : Nat) : ens Ms (i + 1) = ens Ms i ++ [Value.int .i64 ((lin (Ms.take (i + 1))).length : Int)] := by unfold ens; rw [List.range_succ, List.map_append]; rfl
theorem ens_at (Ms : List (List Int)) {i j : Nat} (h : j < i) : (ens Ms i)[j]? = some (Value.int .i64 ((lin (Ms.take (j + 1))).length : Int)) := by unfold ens; rw [List.getElem?_map, List.getElem?_range h]; rfl
/-- the line and the ends, i messages put -/
structure PL (q : Nat) (W : World) (Ms : List (List Int)) (i : Nat) (v5 v6 : Value) (w : World) : Prop where
  ln : w.ownsRow q 5 1 v5 (lin (Ms.take i)).length ((lin (Ms.take i)).map (Value.int .u8))
  en : w.ownsRow q 3 1 v6 i (ens Ms i)
  old : Below q W w
  sz : q ≤ w.heap.size
theorem PL.below {q : Nat} {W : World} {Ms : List (List Int)} {i : Nat} {v5 v6 : Value} {w w' : World} (h : PL q W Ms i v5 v6 w) (hb : Below w.heap.size w w') : PL q W Ms i v5 v6 w' :=
  ⟨owns_below hb h.ln, owns_below hb h.en, h.old.trans (hb.mono h.sz), Nat.le_trans h.sz hb.size⟩
/-- the next frame's end is appended -/
theorem PL.app {q : Nat} {W : World} {Ms : List (List Int)} {i : Nat} {v5 v6 v8 : Value} {w w' : World} (h : PL q W Ms i v5 v6 w) (hb : Below w.heap.size w w') (hi : i ≤ 1000) (ho : w'.ownsRow q 5 1 v8 (lin (Ms.take (i + 1))).length ((lin (Ms.take (i + 1))).map (Value.int .u8))) :
    ∀ ty, ∃ v' x, (Builtin.append_ #[54, 54] ty #[v6, .slice (some ⟨w'.heap.size, 0, none⟩) 1 1]).run Tryd.prog (w'.alloc (.cells #[.int .i64 ((lin (Ms.take (i + 1))).length : Int)] 3)) = .ok v' x ∧ (PL q W Ms (i + 1) v8 v' x ∧ ∃ a c, v' = .slice a (i + 1) c) := fun ty => by
  have h1 := h.below hb
  have hal : Below w'.heap.size w' (w'.alloc (.cells #[.int .i64 ((lin (Ms.take (i + 1))).length : Int)] 3)) := (Below.refl _ _).alloc (Nat.le_refl _) _
  have h2 := h1.below hal
  obtain ⟨v', x, hr, g2, g3, g4⟩ := own_app Tryd.underlying54 parts_int rfl (by decide) h2.en (news := [.int .i64 ((lin (Ms.take (i + 1))).length : Int)]) (heap_alloc_new w' _) rfl (fun u hu => by rw [List.mem_singleton.1 hu]; rfl) (by omega) (by omega) h2.sz ty
  have hl := owns_below hal ho
  refine ⟨v', x, hr, ⟨own_keep hl (fun g hg => g3.block g (hl.lt g hg).2 (fun e => own_ne2 (by decide) hl h2.en g hg e.symm)), by rw [ens_snoc]; exact g2, grown_below h2.old h2.en (Nat.le_refl _) h2.sz g3, Nat.le_trans h2.sz g3.size⟩, own_slice' g2⟩
theorem lin_byb (Ms : List (List Int)) (hl : ∀ M ∈ Ms, M.length ≤ 65535) (h : ∀ M ∈ Ms, Byb M) : Byb (lin Ms) := fun x hx => by
  obtain ⟨M, hM, hx⟩ := List.mem_flatMap.1 hx
  have h1 := hl M hM
  simp only [frm, List.cons_append, List.nil_append, List.mem_cons] at hx
  rcases hx with rfl | rfl | hx
  · omega
  · omega
  · exact h M hM x hx
/-- a Reader that was fed 'at' bytes of the line and has told so many messages -/
structure LS2 (rep : Nat → List Int → List Nat → World → Prop) (g : Nat) (Wp : World) (Ms : List (List Int)) (at_ told gone : Nat) (w : World) : Prop where
  al : at_ ≤ (lin Ms).length
  tl : told ≤ Ms.length
  gn : gone = (lin (Ms.take told)).length
  ga : gone ≤ at_
  rs : RS rep g Wp (((lin Ms).take at_).drop gone) w
theorem adv_own {a : Option Addr} {cap i n c m d k : Nat} (h : (Value.slice (adv a cap i) n c).ownBlock = some k) : (Value.slice a m d).ownBlock = some k := by
  unfold adv at h
  split at h
  · rw [own_len a m d n c]; exact h
  · cases a with
    | none => cases h
    | some x =>
      obtain ⟨b, o, s⟩ := x
      cases s with
      | none => rw [Option.map_some, add_mid] at h; exact h
      | some s =>
        rw [Option.map_some] at h
        simp only [Addr.add, Value.ownBlock] at h ⊢
        first | exact h | (split at h <;> simp_all)
theorem LS2.next {rep : Nat → List Int → List Nat → World → Prop} {g : Nat} {Wp : World} {Ms : List (List Int)} {at_ told gone : Nat} {w : World} (h : LS2 rep g Wp Ms at_ told gone w) (hR : RdrC rep) (hM : ∀ M ∈ Ms, M.length ≤ 65535) (hB : Byb (lin Ms)) (hs : (lin Ms).length ≤ 262944) :
    Calls Tryd.prog 20 #[.pointer (some ⟨g, 0, none⟩)] w fun e w' => ∃ v b, e = .returned (.tuple #[v, .bool b]) ∧ ((¬ (told < Ms.length ∧ (lin (Ms.take (told + 1))).length ≤ at_) → b = false ∧ v = .slice none 0 0 ∧ LS2 rep g Wp Ms at_ told gone w') ∧ ((told < Ms.length ∧ (lin (Ms.take (told + 1))).length ≤ at_) → b = true ∧ ∃ a1 n1 k1, v = .slice a1 n1 k1 ∧ RdB w' (.slice a1 n1 k1) (Ms.getD told []) ∧ LS2 rep g Wp Ms at_ (told + 1) (lin (Ms.take (told + 1))).length w')) := by
  have hal := h.al
  have hn := nxt_lin Ms hM h.tl h.al (by rw [← h.gn]; exact h.ga)
  rw [← h.gn] at hn
  refine (h.rs.next hR (fun x hx => hB x (List.mem_of_mem_take (List.mem_of_mem_drop hx))) (by simp; omega)).mono ?_
  rintro e w' ⟨v, b, he, h1, h2⟩
  refine ⟨v, b, he, fun hc => ?_, fun hc => ?_⟩
  · rw [if_neg hc] at hn
    obtain ⟨a1, a2, a3⟩ := h1 hn
    exact ⟨a1, a2, h.al, h.tl, h.gn, h.ga, a3⟩
  · rw [if_pos hc] at hn
    obtain ⟨a1, a2, a3, _⟩ := h2 _ _ hn
    obtain ⟨x1, k1, rfl⟩ := own_slice' a2
    have hml : (Ms.getD told []).length ≤ 65535 := hM _ (by rw [List.getD_eq_getElem?_getD, List.getElem?_eq_getElem hc.1]; exact List.getElem_mem _)
    exact ⟨a1, _, _, _, rfl, own_byt a2 (by omega), h.al, hc.1, rfl, hc.2, a3⟩
theorem LS2.held {rep : Nat → List Int → List Nat → World → Prop} {g : Nat} {Wp : World} {Ms : List (List Int)} {at_ told gone : Nat} {w : World} (h : LS2 rep g Wp Ms at_ told gone w) (hR : RdrC rep) (hs : (lin Ms).length ≤ 262944) :
    Calls Tryd.prog 21 #[.pointer (some ⟨g, 0, none⟩)] w fun e w' => e = .returned (.int .i64 ((at_ - gone : Nat) : Int)) ∧ LS2 rep g Wp Ms at_ told gone w' := by
  have hal := h.al
  have hga := h.ga
  have hl : (((lin Ms).take at_).drop gone).length = at_ - gone := by rw [List.length_drop, List.length_take]; omega
  have := h.rs.held hR (by rw [hl]; omega)
  rw [hl] at this
  exact this.mono fun e w' ⟨he, hr, _⟩ => ⟨he, h.al, h.tl, h.gn, h.ga, hr⟩
theorem LS2.below {rep : Nat → List Int → List Nat → World → Prop} {g : Nat} {Wp : World} {Ms : List (List Int)} {at_ told gone : Nat} {w w' : World} (h : LS2 rep g Wp Ms at_ told gone w) (hR : RdrC rep) (hb : Below w.heap.size w w') : LS2 rep g Wp Ms at_ told gone w' := ⟨h.al, h.tl, h.gn, h.ga, h.rs.below hR hb⟩
theorem LS2.feed {rep : Nat → List Int → List Nat → World → Prop} {g : Nat} {Wp : World} {Ms : List (List Int)} {at_ told gone nl k c5 : Nat} {a5 : Option Addr} {w : World} (h : LS2 rep g Wp Ms at_ told gone w) (hR : RdrC rep) (hrd : ∀ Y, Below g Wp Y → RdB Y (.slice a5 nl c5) (lin Ms)) (hbl : ∀ k, (Value.slice a5 nl c5).ownBlock = some k → k < g) (hk : at_ + k ≤ nl) (hn : nl = (lin Ms).length) (hs : nl ≤ 262944) :
    Calls Tryd.prog 19 #[.pointer (some ⟨g, 0, none⟩), .slice (adv a5 c5 at_) k (c5 - at_)] w fun e w' => e = .returned (.tuple #[]) ∧ LS2 rep g Wp Ms (at_ + k) told gone w' := by
  have hm := (hrd w h.rs.1).mid (i := at_) (j := at_ + k) (by omega) hk
  simp only [Nat.add_sub_cancel_left] at hm
  have hal := h.al
  have hga := h.ga
  refine (h.rs.feed hR hm (fun F _ hF k' hk' hm' => by have := hbl k' (adv_own hk'); have := hF k' hm'; omega) (by simp; omega)).mono ?_
  rintro e w' ⟨he, hr⟩
  refine ⟨he, by omega, h.tl, h.gn, by omega, ?_⟩
  have e1 : ((lin Ms).take at_).drop gone ++ ((lin Ms).drop at_).take k = ((lin Ms).take (at_ + k)).drop gone := by
    rw [List.take_add, List.drop_append_of_le_length (by rw [List.length_take]; omega)]
  rw [← e1]
  exact hr
set_option maxRecDepth 100000 in
set_option maxHeartbeats 8000000 in
theorem pieces_walk {ea : Int → Addr} {rep : Nat → List Int → List Nat → World → Prop} (hP : PutC) (hR : RdrC rep) (v vc : Value) (Ms : List (List Int)) (C : List Int) (W : World) (hE : Errs ea W) (hS : PRd W v Ms) (hC : RdC W vc C) :
    Calls Tryd.prog 7 #[v, vc] W fun e w' => e = .returned (.bool true) ∧ Below W.heap.size W w' := by
  have CS := long_any v Ms W hS
  have hSB := fun Y (hY : Below W.heap.size W Y) => hS.below hY
  have hCB := fun Y (hY : Below W.heap.size W Y) => hC.below hY
  obtain ⟨a, cap, rfl, -, hm, -⟩ := hS
  obtain ⟨ac, cc, rfl, -, hmc, -⟩ := hC
  obtain ⟨q, hq⟩ : ∃ q, W.heap.size = q := ⟨_, rfl⟩
  obtain ⟨n, hn⟩ : ∃ n, Ms.length = n := ⟨_, rfl⟩
  obtain ⟨nc, hnc⟩ : ∃ n, C.length = n := ⟨_, rfl⟩
  simp only [hn, hnc, hq] at CS hm hmc hSB hCB ⊢
  have HE : Hid (∀ y, Below q W y → Errs ea y ∧ q ≤ y.heap.size) := fun y hy => ⟨hE.below (by rw [hq]; exact hy), by have := hy.size; omega⟩
  have HAT : Hid (∀ Y, Below q W Y → ∀ i, i < n → ∃ b o u, a = some ⟨b, o, none⟩ ∧ Y.cell? ⟨b, o + i, none⟩ = some u ∧ RdY Y u (Ms.getD i [])) := fun Y hY i hi => by
    obtain ⟨a', c', e, -, -, h⟩ := hSB Y hY
    injection e with e1 e2 e3
    subst e1
    exact h i (by rw [hn]; exact hi)
  have HCT : Hid (∀ Y, Below q W Y → ∀ i, i < nc → ∃ b o, ac = some ⟨b, o, none⟩ ∧ Y.cell? ⟨b, o + i, none⟩ = some (.int .i64 (C.getD i 0))) := fun Y hY i hi => by
    obtain ⟨a', c', e, -, -, h⟩ := hCB Y hY
    injection e with e1 e2 e3
    subst e1
    exact h i (by rw [hnc]; exact hi)
  have HN : Hid (n ≤ 140737488355328 ∧ Ms.length = n ∧ nc ≤ 140737488355328 ∧ C.length = nc) := ⟨hm, hn, hmc, hnc⟩
  have HR : Hid (RdrC rep) := hR
  have HP : Hid PutC := hP
  unfold FwP at CS
  have H0 : Hid (PL q W Ms 0 (.slice none 0 0) (.slice none 0 0) W) := ⟨own_nil0 _ _ _ _, own_nil0 _ _ _ _, Below.refl _ _, by omega⟩
  clear hE hm hmc hn hnc hR hP hSB hCB hq
  go_enter Tryd.func7, Tryd.ntmps7
  go_upto_if 19 with (go_at_call 22; refine CS.mono ?_; rintro e w1 ⟨b, rfl, hf, rfl⟩; have HF : Hid (b = false → Few n Ms) := hf; clear CS hf; rcases b with _ | _)
  rotate_left
  · go_wp2
    go_ret
    exact ⟨rfl, Below.refl _ _⟩
  have HFW : Hid (n ≤ 400 ∧ tot Ms ≤ 262144) := HF.out trivial
  have HLL : Hid (∀ i, (lin (Ms.take i)).length ≤ 262944) := fun i => by
    have := HFW.out
    have := tot_le Ms i
    have := HN.out.2.1
    rw [lin_len, List.length_take]
    omega
  clear HF
  go_wp2
  go_loopw [5, 6, 7] (fun v5 v6 v7 wr => ∃ (i nl : Nat) (a5 a6 : Option Addr) (c5 c6 : Nat), i ≤ n ∧ v7 = .int .i64 i ∧ v5 = .slice a5 nl c5 ∧ v6 = .slice a6 i c6 ∧ nl = (lin (Ms.take i)).length ∧ PL q w1 Ms i (.slice a5 nl c5) (.slice a6 i c6) wr ∧ ∀ M ∈ Ms.take i, M.length ≤ 65535) (fun _ _ v _ => n - (intOf v).toNat)
  case atStart => exact ⟨0, 0, none, none, 0, 0, Nat.zero_le _, rfl, rfl, rfl, rfl, H0.out, by simp⟩
  case round =>
    obtain ⟨i, nl, a5, a6, c5, c6, hi, rfl, rfl, rfl, hnl, hp, hms⟩ := hrel
    have HL : Hid (PL q w1 Ms i (.slice a5 nl c5) (.slice a6 i c6) wr ∧ nl = (lin (Ms.take i)).length ∧ ∀ M ∈ Ms.take i, M.length ≤ 65535) := ⟨hp, hnl, hms⟩
    by_cases hlt : i < n
    · have c1 : (i : Int) < (n : Int) := by omega
      have c0 : (0 : Int) ≤ (i : Int) := by omega
      obtain ⟨b, o, u, rfl, x1, hx⟩ := HAT.out wr hp.old i hlt
      obtain ⟨au, cu, rfl, -, hul, -⟩ := id hx.1
      have HLT : Hid (i < n) := hlt
      have hsn := lin_snoc Ms (i := i) (by rw [HN.out.2.1]; exact hlt)
      have hlen : (lin (Ms.take (i + 1))).length = nl + 2 + (Ms.getD i []).length := by rw [hsn, List.length_append, frm_len, ← hnl]; omega
      have hrd := own_byt hp.ln (by have := HLL.out i; omega)
      have hl2 := HLL.out (i + 1)
      have hl1 := HLL.out i
      by_cases hbig : 65535 < (Ms.getD i []).length
      · obtain ⟨m, hmm⟩ : ∃ m, (Ms.getD i []).length = m := ⟨_, rfl⟩
        rw [hmm] at x1 hbig
        have b1 : (m : Int) > 65535 := by omega
        have b2 : (65535 : Int) < (m : Int) := by omega
        have HB : Hid (Below q w1 wr) := hp.old
        clear hp hnl hms hx hul hsn hlen hrd hl1 hl2 hmm hbig hi hlt
        go_wp2
        go_ret
        exact ⟨rfl, HB.out⟩
      · have C1 := HP.out ea wr _ _ _ _ (HE.out _ hp.old).1 hrd hx.1 (by omega) (by omega)
        have HSN : Hid (lin (Ms.take (i + 1)) = lin (Ms.take i) ++ frm (Ms.getD i []) ∧ (lin (Ms.take (i + 1))).length = nl + 2 + (Ms.getD i []).length ∧ (Ms.getD i []).length ≤ 65535 ∧ nl + 2 + (Ms.getD i []).length ≤ 262944) := ⟨hsn, hlen, by omega, by omega⟩
        rw [← hnl] at C1
        obtain ⟨m, hmm⟩ : ∃ m, (Ms.getD i []).length = m := ⟨_, rfl⟩
        rw [hmm] at x1 hbig C1
        rw [hmm] at HSN
        have b1 : ¬ (m : Int) > 65535 := by omega
        have b2 : ¬ (65535 : Int) < (m : Int) := by omega
        clear hp hnl hms hx hul hsn hlen hrd hl1 hl2 hi hlt
        obtain ⟨s, hs⟩ : ∃ s, nl + 2 + m = s := ⟨_, rfl⟩
        rw [hs] at C1 HSN
        have k1 : (nl : Int) ≤ 262944 := by have := HSN.out; omega
        have k2 : (m : Int) ≤ 65535 := by omega
        have k3 : (nl : Int) + 2 + (m : Int) = (s : Int) := by omega
        have k4 : (0 : Int) ≤ (nl : Int) := by omega
        have k5 : (0 : Int) ≤ (m : Int) := by omega
        have HX1 : Hid (∀ Y, Below wr.heap.size wr Y → Y.cell? ⟨b, o + i, none⟩ = some (.slice au m cu)) := fun Y hY => cell_below hY x1
        have HMM : Hid ((Ms.getD i []).length ≤ 65535) := by show (Ms.getD i []).length ≤ 65535; omega
        clear hs hmm
        go_upto_region 11 with (go_at_call 10; refine C1.mono ?_; rintro e w2 ⟨v8, c, rfl, ⟨-, h2⟩, hb2⟩; (obtain ⟨rfl, ho⟩ := h2 hbig); (obtain ⟨a8, c8, rfl⟩ := own_slice' ho); rw [EV_0]; have H2 : Hid (Below wr.heap.size wr w2 ∧ w2.ownsRow q 5 1 (.slice a8 s c8) (lin (Ms.take (i + 1))).length ((lin (Ms.take (i + 1))).map (Value.int .u8))) := ⟨hb2, by rw [HSN.out.2.1, HSN.out.1]; exact own_dn ho HL.out.1.sz⟩; clear ho h2 hb2 C1 x1 hbig)
        have x1 := HX1.out w2 H2.out.1
        have happ := HL.out.1.app H2.out.1 (by have := HFW.out; have := HLT.out; omega) H2.out.2
        rw [HSN.out.2.1] at happ
        have HA : Hid _ := happ
        clear happ
        go_upto_region 7 with (at_builtin; go_loud (refine wpList_app _ rfl _ _ 54 54 rfl _ _ rfl rfl HA.out ?_; rintro v9 w9 ⟨h9, ⟨a9, c9, rfl⟩⟩; have H9 : Hid (PL q w1 Ms (i + 1) (.slice a8 s c8) (.slice a9 (i + 1) c9) w9) := h9; clear h9 HA x1))
        go_wp2
        refine ⟨⟨i + 1, s, a8, a9, c8, c9, HLT.out, congrArg (Value.int .i64) (wrapS HLT.out HN.out.1), rfl, rfl, HSN.out.2.1.symm, H9.out, fun M hM => ?_⟩, measS HLT.out HN.out.1⟩
        rw [List.take_add_one, List.getElem?_eq_getElem (by rw [HN.out.2.1]; exact HLT.out)] at hM
        rcases List.mem_append.1 hM with h | h
        · exact HL.out.2.2 M h
        · have e : M = Ms.getD i [] := by simpa [List.getD, (by rw [HN.out.2.1]; exact HLT.out : i < Ms.length)] using h
          rw [e]
          exact HMM.out
    · have c1 : ¬ (i : Int) < (n : Int) := by omega
      obtain rfl : i = n := by omega
      have hta : Ms.take i = Ms := List.take_of_length_le (by rw [HN.out.2.1]; exact Nat.le_refl _)
      have hL2 := HL.out
      rw [hta] at hL2
      have hpl := hL2.1
      have hrd := own_byt (C := lin Ms) (by have := hpl.ln; rw [hta] at this; exact this) (by have := HLL.out i; rw [hta] at this; omega)
      have HRD : Hid (∀ Y, Below wr.heap.size wr Y → RdB Y (.slice a5 nl c5) (lin Ms)) := fun Y hY => hrd.below hY
      have HEN : Hid (∀ Y, Below wr.heap.size wr Y → ∀ j, j < i → ∃ ge, a6 = some ⟨ge, 0, none⟩ ∧ Y.cell? ⟨ge, j, none⟩ = some (.int .i64 ((lin (Ms.take (j + 1))).length : Int))) := fun Y hY j hj => by
        obtain ⟨ge, e, _, hc⟩ := (own_cell hpl.en).2 j _ (ens_at Ms hj)
        exact ⟨ge, e, cell_below hY hc⟩
      have HBL : Hid (∀ k, (Value.slice a5 nl c5).ownBlock = some k → k < wr.heap.size) := fun k hk => (hpl.ln.lt k hk).2
      have HD : Hid (nl = (lin Ms).length ∧ nl ≤ 262944 ∧ (∀ M ∈ Ms, M.length ≤ 65535) ∧ Ms.length = i ∧ i ≤ 400 ∧ nl ≤ c5 ∧ Byb (lin Ms)) := ⟨hL2.2.1, by have := HLL.out i; rw [hta] at this; omega, hL2.2.2, HN.out.2.1, HFW.out.1, by obtain ⟨_, _, e, ⟨h1, _⟩, _⟩ := id hrd; injection e with e1 e2 e3; omega, lin_byb Ms hL2.2.2 (fun M hM => by
        obtain ⟨j, hj⟩ := List.getElem?_of_mem hM
        have hjl := (List.getElem?_eq_some_iff.1 hj).1
        obtain ⟨_, _, _, _, _, hx⟩ := HAT.out wr hpl.old j (by rw [← HN.out.2.1]; exact hjl)
        rw [show Ms.getD j [] = M by simp [List.getD, hj]] at hx
        exact hx.2)⟩
      have HO : Hid (Below q w1 wr) := hpl.old
      have hz := HR.out.zero wr
      have hal1 : Below wr.heap.size wr (wr.alloc (.cells zRd 39)) := (Below.refl _ _).alloc (Nat.le_refl _) _
      clear hta hL2 hpl hrd hp hnl hms hi hlt HL H0
      go_upto_region 16 with (fail)
      obtain ⟨g, hg⟩ : ∃ g, wr.heap.size = g := ⟨_, rfl⟩
      obtain ⟨W3, hW3⟩ : ∃ W3, wr.alloc (.cells zRd 39) = W3 := ⟨_, rfl⟩
      rw [hW3] at hal1 hz
      rw [hg] at hal1 hz
      simp only [hg, hW3]
      have H3 : Hid (RS rep g wr [] W3) := ⟨hal1, by have := hal1.size; omega, [g], hz, fun k hk => by rw [List.mem_singleton.1 hk]; exact Nat.le_refl _⟩
      rw [hg] at HRD HEN HBL
      have HG : Hid (wr.heap.size = g) := hg
      clear hz hal1 hg hW3 c1
      obtain ⟨Wp, hWp⟩ : ∃ Wp, wr = Wp := ⟨_, rfl⟩
      rw [hWp] at HRD HEN HO H3 HG
      clear hWp wr
      go_wp2
      go_loopw [11, 12, 13, 14] (fun v11 v12 v13 v14 wr => ∃ (j at_ told gone : Nat), v14 = .int .i64 j ∧ v11 = .int .i64 at_ ∧ v12 = .int .i64 told ∧ v13 = .int .i64 gone ∧ j ≤ nc + 1 ∧ j ≤ 401 ∧ LS2 rep g Wp Ms at_ told gone wr ∧ (j ≠ 0 → told < i → at_ < (lin (Ms.take (told + 1))).length) ∧ ((j = nc + 1 ∨ j = 401) → at_ = nl)) (fun _ _ _ v _ => 402 - (intOf v).toNat)
      case atStart => exact ⟨0, 0, 0, 0, rfl, rfl, rfl, rfl, Nat.zero_le _, Nat.zero_le _, ⟨Nat.zero_le _, Nat.zero_le _, rfl, Nat.zero_le _, by simpa using H3.out⟩, fun h => absurd rfl h, fun h => by omega⟩
      case round =>
        obtain ⟨j, at_, told, gone, rfl, rfl, rfl, rfl, hj1, hj2, hls, htm, hfin⟩ := hrel
        have HLS : Hid (LS2 rep g Wp Ms at_ told gone wr) := hls
        have HJ : Hid (j ≤ nc + 1 ∧ j ≤ 401 ∧ (j ≠ 0 → told < i → at_ < (lin (Ms.take (told + 1))).length) ∧ ((j = nc + 1 ∨ j = 401) → at_ = nl)) := ⟨hj1, hj2, htm, hfin⟩
        have hal := hls.al
        have hall : at_ ≤ nl := by rw [HD.out.1]; exact hal
        have hnl9 := HD.out.2.1
        clear hls htm hfin hal
        by_cases hgo : j ≤ nc ∧ j ≤ 400
        · have g1 : (j : Int) ≤ (nc : Int) := by omega
          have g2 : (j : Int) ≤ 400 := by omega
          have g3 : decide ((j : Int) ≤ (nc : Int)) = true := by simpa using g1
          have g0 : (0 : Int) ≤ (j : Int) := by omega
          have k1 : (at_ : Int) ≤ (nl : Int) := by omega
          have k2 : (nl : Int) ≤ 262944 := by omega
          have k3 : (0 : Int) ≤ (at_ : Int) := by omega
          have k4 : (nl : Int) - (at_ : Int) = ((nl - at_ : Nat) : Int) := by omega
          obtain ⟨r, hr⟩ : ∃ r, nl - at_ = r := ⟨_, rfl⟩
          rw [hr] at k4
          have HRr : Hid (nl - at_ = r ∧ at_ ≤ nl ∧ j ≤ nc ∧ j ≤ 400) := ⟨hr, hall, hgo.1, hgo.2⟩
          clear hj1 hj2 hall hnl9 hgo hr
          go_upto_region 23 with (fail)
          go_cut [101] (fun v101 wx => ∃ bb : Bool, v101 = .bool bb ∧ (bb = true → j < nc ∧ j < 400 ∧ 0 ≤ C.getD j 0 ∧ C.getD j 0 < (r : Int)) ∧ wx = wr)
          case first =>
            by_cases h1 : j < nc
            · have p1 : (j : Int) < (nc : Int) := by omega
              obtain ⟨bc, oc, rfl, y1⟩ := HCT.out wr (HO.out.trans (HLS.out.rs.1.mono (by rw [← HG.out]; exact (HE.out _ HO.out).2))) j h1
              obtain ⟨c, hc⟩ : ∃ c, C.getD j 0 = c := ⟨_, rfl⟩
              rw [hc] at y1
              have HC : Hid (C.getD j 0 = c) := hc
              clear hc
              by_cases h2 : j < 400
              · have p2 : (j : Int) < 400 := by omega
                by_cases h3 : 0 ≤ c
                · have p3 : c ≥ 0 := h3
                  have p4 : (0 : Int) ≤ c := h3
                  have p6 : decide (0 ≤ c) = true := by simpa using h3
                  by_cases h4 : c < (r : Int)
                  · have HK0 : Hid (j < nc ∧ j < 400 ∧ 0 ≤ c ∧ c < (r : Int)) := ⟨h1, h2, h3, h4⟩
                    clear h1 h2 h3
                    go_wp2
                    go_meet
                    case rel => exact ⟨true, rfl, (fun _ => by rw [HC.out]; exact HK0.out), rfl⟩
                  · have p5 : ¬ c < (r : Int) := h4
                    clear h1 h2 h3 h4
                    go_wp2
                    go_meet
                    case rel => exact ⟨false, rfl, (fun h => nomatch h), rfl⟩
                · have p3 : ¬ c ≥ 0 := h3
                  have p4 : ¬ (0 : Int) ≤ c := h3
                  have p6 : decide (0 ≤ c) = false := by simpa using h3
                  clear h1 h2 h3
                  go_wp2
                  go_meet
                  case rel => exact ⟨false, rfl, (fun h => nomatch h), rfl⟩
              · have p2 : ¬ (j : Int) < 400 := by omega
                clear h1 h2
                go_wp2
                go_meet
                case rel => exact ⟨false, rfl, (fun h => nomatch h), rfl⟩
            · have p1 : ¬ (j : Int) < (nc : Int) := by omega
              have p6 : decide ((j : Int) < (nc : Int)) = false := by simpa using p1
              clear h1
              go_wp2
              go_meet
              case rel => exact ⟨false, rfl, (fun h => nomatch h), rfl⟩
          case rest =>
          obtain ⟨bb, rfl, hbb, hwx⟩ := hcut
          rw [hwx]
          clear hwx
          have HBB : Hid (bb = true → j < nc ∧ j < 400 ∧ 0 ≤ C.getD j 0 ∧ C.getD j 0 < (r : Int)) := hbb
          clear hbb
          go_upto_if 101 with (fail)
          go_cut [15] (fun v15 wx => ∃ k : Nat, v15 = .int .i64 k ∧ (at_ + k ≤ nl ∧ ((j + 1 = nc + 1 ∨ j + 1 = 401) → at_ + k = nl)) ∧ wx = wr)
          case first =>
            rcases bb with _ | _
            · go_wp2
              go_meet
              case rel => exact ⟨r, rfl, ⟨by have := HRr.out; omega, fun _ => by have := HRr.out; omega⟩, rfl⟩
            · have hB := HBB.out rfl
              obtain ⟨bc, oc, rfl, y1⟩ := HCT.out _ (HO.out.trans (HLS.out.rs.1.mono (by rw [← HG.out]; exact (HE.out _ HO.out).2))) j hB.1
              obtain ⟨k, hk⟩ := Int.eq_ofNat_of_zero_le hB.2.2.1
              rw [hk] at y1
              have HK0 : Hid (at_ + k ≤ nl ∧ ((j + 1 = nc + 1 ∨ j + 1 = 401) → at_ + k = nl)) := ⟨by have := HRr.out; omega, fun h => by omega⟩
              have p1 : (j : Int) < (nc : Int) := by omega
              clear hB hk
              go_wp2
              go_meet
              case rel => exact ⟨k, rfl, HK0.out, rfl⟩
          case rest =>
            obtain ⟨k, rfl, hk0, hwx⟩ := hcut
            rw [hwx]
            clear hwx
            have HK0 : Hid (at_ + k ≤ nl ∧ ((j + 1 = nc + 1 ∨ j + 1 = 401) → at_ + k = nl)) := hk0
            clear hk0
            go_upto_region 25 with (fail)
            have HK : Hid (at_ + k ≤ nl ∧ ((j + 1 = nc + 1 ∨ j + 1 = 401) → at_ + k = nl)) := HK0.out
            have rm := fun w => run_mid w a5 nl c5 at_ (at_ + k) (at_ : Int) ((at_ : Int) + (k : Int)) rfl (by omega) (by omega) (by have := HK.out; have := HD.out; omega)
            simp only [Nat.add_sub_cancel_left] at rm
            have CF := HLS.out.feed HR.out HRD.out HBL.out HK.out.1 HD.out.1 HD.out.2.1
            obtain ⟨av, hav⟩ : ∃ av, adv a5 c5 at_ = av := ⟨_, rfl⟩
            obtain ⟨kv, hkv⟩ : ∃ kv, c5 - at_ = kv := ⟨_, rfl⟩
            simp only [hav, hkv] at rm CF
            have k6 : (0 : Int) ≤ (at_ : Int) := by omega
            have k7 : (0 : Int) ≤ (k : Int) := by omega
            have k8 : (at_ : Int) + (k : Int) ≤ 262944 := by have := HK.out; have := HD.out; omega
            clear hav hkv
            go_upto_region 26 with (go_at_call 19; refine CF.mono ?_; rintro e w4 ⟨rfl, h4⟩; have H4 : Hid (LS2 rep g Wp Ms (at_ + k) told gone w4) := h4; clear h4 CF rm)
            obtain ⟨A, hA⟩ : ∃ A, at_ + k = A := ⟨_, rfl⟩
            have e5 : (at_ : Int) + (k : Int) = (A : Int) := by omega
            rw [hA] at HK H4
            simp only [e5]
            have HA9 : Hid (A ≤ nl ∧ nl ≤ 262944 ∧ nl = (lin Ms).length) := ⟨HK.out.1, HD.out.2.1, HD.out.1⟩
            go_wp2
            go_loopw [12, 13] (fun v12 v13 wr => ∃ told gone : Nat, v12 = .int .i64 told ∧ v13 = .int .i64 gone ∧ LS2 rep g Wp Ms A told gone wr) (fun v _ _ => 401 - (intOf v).toNat)
            case atStart => exact ⟨told, gone, rfl, rfl, H4.out⟩
            case round =>
              clear HLS H4
              obtain ⟨t2, n2, rfl, rfl, hls⟩ := hrel
              have HLS : Hid (LS2 rep g Wp Ms A t2 n2 wr) := hls
              have htl : t2 ≤ i := by rw [← HD.out.2.2.2.1]; exact hls.tl
              have htl4 : t2 ≤ 400 := by have := HD.out; omega
              have CN := hls.next HR.out HD.out.2.2.1 HD.out.2.2.2.2.2.2 (by have := HA9.out; omega)
              rw [HD.out.2.2.2.1] at CN
              have hga := hls.ga
              clear hls
              by_cases hmore : t2 < i ∧ (lin (Ms.take (t2 + 1))).length ≤ A
              · have C1 : Calls Tryd.prog 20 #[.pointer (some ⟨g, 0, none⟩)] wr fun e w' => ∃ a1 n1 k1, e = .returned (.tuple #[.slice a1 n1 k1, .bool true]) ∧ RdB w' (.slice a1 n1 k1) (Ms.getD t2 []) ∧ LS2 rep g Wp Ms A (t2 + 1) (lin (Ms.take (t2 + 1))).length w' := CN.mono (by
                  rintro e w' ⟨v, b, rfl, -, h2⟩
                  obtain ⟨rfl, a1, n1, k1, rfl, h3, h4⟩ := h2 hmore
                  exact ⟨a1, n1, k1, rfl, h3, h4⟩)
                obtain ⟨E, hE⟩ : ∃ E, (lin (Ms.take (t2 + 1))).length = E := ⟨_, rfl⟩
                rw [hE] at C1 hmore
                have HM : Hid (t2 < i ∧ E ≤ A ∧ (lin (Ms.take (t2 + 1))).length = E) := ⟨hmore.1, hmore.2, hE⟩
                have q1 : ¬ (t2 : Int) ≥ (i : Int) := by omega
                have q2 : ¬ (i : Int) ≤ (t2 : Int) := by omega
                have q3 : decide ((i : Int) ≤ (t2 : Int)) = false := by simpa using q2
                have q4 : ¬ (E : Int) > (A : Int) := by omega
                have q5 : ¬ (A : Int) < (E : Int) := by omega
                have q6 : decide ((A : Int) < (E : Int)) = false := by simpa using q5
                have q7 : (0 : Int) ≤ (t2 : Int) := by omega
                have q8 : (t2 : Int) < (i : Int) := by omega
                have q9 : (t2 : Int) ≤ 400 := by omega
                clear CN hmore hE htl htl4 hga
                go_upto_region 28 with (go_at_call 20; refine C1.mono ?_; rintro e w5 ⟨a1, n1, k1, rfl, h5, h6⟩; have H5 : Hid (RdB w5 (.slice a1 n1 k1) (Ms.getD t2 []) ∧ LS2 rep g Wp Ms A (t2 + 1) E w5) := ⟨h5, h6⟩; clear h5 h6 C1)
                obtain ⟨ge, rfl, z1⟩ := HEN.out w5 H5.out.2.rs.1 t2 HM.out.1
                rw [HM.out.2.2] at z1
                obtain ⟨bm, om, um, rfl, z2, hx⟩ := HAT.out w5 (HO.out.trans (H5.out.2.rs.1.mono (by rw [← HG.out]; exact (HE.out _ HO.out).2))) t2 HM.out.1
                obtain ⟨aq, cq, rfl, -⟩ := id hx.1
                have CS := same_true H5.out.1 hx.1
                have HX : Hid (∀ Y, Below w5.heap.size w5 Y → Y.cell? ⟨ge, t2, none⟩ = some (.int .i64 (E : Int))) := fun Y hY => cell_below hY z1
                clear hx
                go_upto_region 31 with (go_at_call 13; refine CS.mono ?_; rintro e w6 ⟨rfl, hb6⟩; have H6 : Hid (LS2 rep g Wp Ms A (t2 + 1) E w6) := H5.out.2.below HR.out hb6; have z3 := HX.out w6 hb6; clear hb6 CS z1 z2)
                go_wp2
                exact ⟨⟨t2 + 1, E, congrArg (Value.int .i64) (Int.natCast_succ t2).symm, rfl, H6.out⟩, by have := HM.out; have := HD.out; show 401 - ((t2 : Int) + 1).toNat < 401 - ((t2 : Int)).toNat; omega⟩
              · have C1 : Calls Tryd.prog 20 #[.pointer (some ⟨g, 0, none⟩)] wr fun e w' => e = .returned (.tuple #[.slice none 0 0, .bool false]) ∧ LS2 rep g Wp Ms A t2 n2 w' := CN.mono (by
                  rintro e w' ⟨v, b, rfl, h2, -⟩
                  obtain ⟨rfl, rfl, h4⟩ := h2 hmore
                  exact ⟨rfl, h4⟩)
                have HNM : Hid (t2 < i → A < (lin (Ms.take (t2 + 1))).length) := fun h => by
                  have : ¬ (lin (Ms.take (t2 + 1))).length ≤ A := fun h2 => hmore ⟨h, h2⟩
                  omega
                have q7 : (0 : Int) ≤ (t2 : Int) := by omega
                have q9 : (t2 : Int) ≤ 400 := by omega
                have r1 : (n2 : Int) ≤ (A : Int) := by omega
                have r2 : (A : Int) ≤ 262944 := by have := HA9.out; omega
                have r3 : (0 : Int) ≤ (n2 : Int) := by omega
                have r4 : (A : Int) - (n2 : Int) = ((A - n2 : Nat) : Int) := by omega
                obtain ⟨d, hd⟩ : ∃ d, A - n2 = d := ⟨_, rfl⟩
                rw [hd] at r4
                have HDD : Hid (A - n2 = d ∧ t2 ≤ i) := ⟨hd, htl⟩
                clear CN hmore htl htl4 hga hd
                go_upto_region 33 with (go_at_call 20; refine C1.mono ?_; rintro e w5 ⟨rfl, h5⟩; have H5 : Hid (LS2 rep g Wp Ms A t2 n2 w5) := h5; clear h5 C1)
                have CH := H5.out.held HR.out (by have := HA9.out; omega)
                rw [HDD.out.1] at CH
                by_cases hti : t2 < i
                · have q8 : (t2 : Int) < (i : Int) := by omega
                  obtain ⟨ge, rfl, z1⟩ := HEN.out w5 H5.out.rs.1 t2 hti
                  obtain ⟨E, hE⟩ : ∃ E, (lin (Ms.take (t2 + 1))).length = E := ⟨_, rfl⟩
                  have hAE := HNM.out hti
                  rw [hE] at z1 hAE
                  have s1 : ¬ (E : Int) ≤ (A : Int) := by omega
                  have s2 : decide ((E : Int) ≤ (A : Int)) = false := by simpa using s1
                  clear hE hAE hti
                  go_wp2_with (go_at_call 21; refine CH.mono ?_; rintro e w6 ⟨rfl, h6⟩; have H6 : Hid (LS2 rep g Wp Ms A t2 n2 w6) := h6; clear h6 CH)
                  exact ⟨⟨j + 1, A, t2, n2, congrArg (Value.int .i64) (Int.natCast_succ j).symm, rfl, rfl, rfl, by have := HRr.out; omega, by have := HRr.out; omega, H6.out, fun _ => HNM.out, HK.out.2⟩, by have := HRr.out; show 402 - ((j : Int) + 1).toNat < 402 - ((j : Int)).toNat; omega⟩
                · have q8 : ¬ (t2 : Int) < (i : Int) := by omega
                  have s2 : decide ((t2 : Int) < (i : Int)) = false := by simpa using q8
                  clear hti
                  go_wp2_with (go_at_call 21; refine CH.mono ?_; rintro e w6 ⟨rfl, h6⟩; have H6 : Hid (LS2 rep g Wp Ms A t2 n2 w6) := h6; clear h6 CH)
                  exact ⟨⟨j + 1, A, t2, n2, congrArg (Value.int .i64) (Int.natCast_succ j).symm, rfl, rfl, rfl, by have := HRr.out; omega, by have := HRr.out; omega, H6.out, fun _ => HNM.out, HK.out.2⟩, by have := HRr.out; show 402 - ((j : Int) + 1).toNat < 402 - ((j : Int)).toNat; omega⟩
        · have l0 := HJ.out
          have hfn : at_ = nl := l0.2.2.2 (by omega)
          have hj0 : j ≠ 0 := by omega
          have htd : told = i := by
            have h1 := HLS.out.tl
            rw [HD.out.2.2.2.1] at h1
            rcases Nat.lt_or_ge told i with h2 | h2
            · exfalso
              have h3 := l0.2.2.1 hj0 h2
              have h4 : (lin (Ms.take (told + 1))).length ≤ (lin Ms).length := by rw [lin_len, lin_len, List.length_take]; have := tot_le Ms (told + 1); omega
              have := HD.out.1
              omega
            · omega
          have hgn : gone = nl := by rw [HLS.out.gn, htd, HD.out.1, List.take_of_length_le (by rw [HD.out.2.2.2.1]; exact Nat.le_refl _)]
          have HLS2 : Hid (LS2 rep g Wp Ms nl i nl wr) := by have h := HLS.out; rw [hfn, htd, hgn] at h; exact h
          rw [hfn, htd, hgn]
          have CH := HLS2.out.held HR.out (by have := HD.out; omega)
          rw [Nat.sub_self] at CH
          simp only [Int.natCast_zero] at CH
          have HNG : Hid (¬ (j ≤ nc ∧ j ≤ 400)) := hgo
          clear l0 hfn hj0 htd hgn hall hnl9 hj1 hj2 HLS HJ
          by_cases h1 : j ≤ nc
          · have g1 : (j : Int) ≤ (nc : Int) := by omega
            have g2 : ¬ (j : Int) ≤ 400 := by omega
            clear hgo h1
            go_wp2_with (first
              | (go_at_call 21; refine CH.mono ?_; rintro e w6 ⟨rfl, h6⟩; have H6 : Hid (Below q w1 w6) := HO.out.trans (h6.rs.1.mono (by rw [← HG.out]; exact (HE.out _ HO.out).2)); have CK := known_any HP.out HR.out w6 (HE.out _ H6.out).1; clear h6 CH)
              | (go_at_call 15; refine CK.mono ?_; rintro e w7 ⟨rfl, hb7⟩; have H7 : Hid (Below q w1 w7) := sub_le H6.out hb7 (HE.out _ H6.out).2; clear hb7 CK))
            go_ret
            exact ⟨rfl, H7.out⟩
          · have g1 : ¬ (j : Int) ≤ (nc : Int) := by omega
            have g3 : decide ((j : Int) ≤ (nc : Int)) = false := by simpa using g1
            clear hgo h1
            go_wp2_with (first
              | (go_at_call 21; refine CH.mono ?_; rintro e w6 ⟨rfl, h6⟩; have H6 : Hid (Below q w1 w6) := HO.out.trans (h6.rs.1.mono (by rw [← HG.out]; exact (HE.out _ HO.out).2)); have CK := known_any HP.out HR.out w6 (HE.out _ H6.out).1; clear h6 CH)
              | (go_at_call 15; refine CK.mono ?_; rintro e w7 ⟨rfl, hb7⟩; have H7 : Hid (Below q w1 w7) := sub_le H6.out hb7 (HE.out _ H6.out).2; clear hb7 CK))
            go_ret
            exact ⟨rfl, H7.out⟩
end Go.Proofs.YtdakhiafagambaaDoor
