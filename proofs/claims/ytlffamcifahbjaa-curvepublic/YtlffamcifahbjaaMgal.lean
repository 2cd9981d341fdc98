import Derived.Test.YtlffamcifahbjaaMgak
namespace Go.Proofs.Ytlffamcifahbjaa
set_option linter.unusedSimpArgs false
open Go.ChangeShapes Go.WideShapes Go.ChangeAt Go.RowKit Go.Pin Go.Fld
/-- digits that have grown or stand a little below 0; the number does not -/
structure Bigz (t : List Int) : Prop where
  len : t.length = 16
  bd : ∀ x ∈ t, -65536 ≤ x ∧ x < 1125899906842624
  pos : 0 ≤ D t
theorem zo_bdz : ∀ (l : List Int) (o B : Int), -2 ≤ o → o ≤ B → (∀ x ∈ l, -65536 ≤ x ∧ x + B < 65536 * (B + 1)) → -2 ≤ zo o l ∧ zo o l ≤ B
  | [], o, B, h0, h1, _ => ⟨h0, h1⟩
  | x :: l, o, B, h0, h1, h => by
    have hx := h x (by simp)
    rw [zo]
    refine zo_bdz l _ B (by omega) ?_ (fun y hy => h y (by simp [hy]))
    have : (x + o) / 65536 < B + 1 := Int.ediv_lt_of_lt_mul (by decide) (by rw [Int.mul_comm]; omega)
    omega
theorem car_factsz {t : List Int} (h : Bigz t) : Dig (car t) ∧ D (car t) + 57896044618658097711785492504343953926634992332820282019728792003956564819968 * cout t = D t ∧ 0 ≤ cout t ∧ cout t ≤ 1099511627776 ∧ -2 ≤ zo 0 (t.take 15) ∧ zo 0 (t.take 15) ≤ 1099511627776 := by
  have hl : (t.take 15).length = 15 := by simp [h.len]
  have hz := zo_bdz (t.take 15) 0 1099511627776 (by decide) (by decide) (fun x hx => by have := h.bd x (List.mem_of_mem_take hx); omega)
  have hpos := h.pos
  have hv := cz_D (t.take 15) 0
  have ht := h.bd _ (getD_mem (t := t) (i := 15) (by rw [h.len]; decide))
  have hs := split16 h.len
  have hD : D t = D (t.take 15) + 65536 ^ 15 * D [t.getD 15 0] := by
    conv => lhs; rw [hs]
    rw [D_app, hl]
  rw [hl] at hv
  have e1 : D [t.getD 15 0] = t.getD 15 0 := by simp [D]
  rw [e1] at hD
  have hc : D (car t) = D (cz 0 (t.take 15)) + 65536 ^ 15 * ((t.getD 15 0 + zo 0 (t.take 15)) % 32768) := by
    rw [car, D_app, cz_len, hl]; simp [D]
  have e15 : (65536 : Int) ^ 15 = 1766847064778384329583297500742918515827483896875618958121606201292619776 := by decide
  have hcl := D_lt _ (cz_lt (t.take 15) 0)
  rw [cz_len, hl] at hcl
  rw [e15] at hv hD hc hcl
  refine ⟨⟨by simp [car, h.len], fun x hx => ?_, ?_⟩, ?_, ?_, ?_, hz.1, hz.2⟩
  · rw [car, List.mem_append] at hx
    rcases hx with hx | hx
    · exact cz_lt _ _ x hx
    · rw [List.mem_singleton] at hx; omega
  · have : (car t).getD 15 0 = (t.getD 15 0 + zo 0 (t.take 15)) % 32768 := by
      rw [car, List.getD_eq_getElem?_getD, List.getElem?_append_right (by simp [h.len])]
      simp [h.len]
    rw [this]; omega
  · rw [hc, cout]; omega
  · rw [cout]; rw [hD] at hpos; omega
  · rw [cout]; omega
set_option maxRecDepth 100000 in
set_option maxHeartbeats 2000000 in
theorem carriedz_any (t : List Int) (ht : Bigz t) (w : World) :
    Calls Try.prog 61 #[.agg (VI .i64 t)] w fun e w' => e = .returned (.tuple #[.agg (VI .i64 (car t)), .int .i64 (cout t)]) ∧ Below w.heap.size w w' := by
  obtain ⟨hdg, _, o0, o1, z0, z1⟩ := car_factsz ht
  have hl15 : (t.take 15).length = 15 := by simp [ht.len]
  have HT : Hid (Bigz t) := ht
  have HDG : Hid (Dig (car t)) := hdg
  have hst := cwx_start w t
  obtain ⟨W, hW⟩ : ∃ W, (w.alloc (.cells (VI .i64 t) 64)).alloc (.cells (VI .i64 (List.replicate 16 0)) 64) = W := ⟨_, rfl⟩
  rw [hW] at hst
  have hW' : (w.alloc (.cells (VI .i64 t) 64)).alloc (.cells #[.int .i64 0, .int .i64 0, .int .i64 0, .int .i64 0, .int .i64 0, .int .i64 0, .int .i64 0, .int .i64 0, .int .i64 0, .int .i64 0, .int .i64 0, .int .i64 0, .int .i64 0, .int .i64 0, .int .i64 0, .int .i64 0] 64) = W := hW
  have HST : Hid (CWx w.heap.size w t W) := hst
  have hsp := split16 ht.len
  have hd15 := ht.bd _ (getD_mem (t := t) (i := 15) (by rw [ht.len]; decide))
  obtain ⟨y, hy⟩ : ∃ y, t.getD 15 0 = y := ⟨_, rfl⟩
  rw [hy] at hsp hd15
  have HSP : Hid (t = t.take 15 ++ [y]) := hsp
  have HY : Hid (t.getD 15 0 = y) := hy
  clear hW hst ht hdg hsp hy
  go_enter Try.func61, Try.ntmps61
  go_wp2
  go_loopw [4, 5] (fun o i w' => ∃ (d r : List Int) (c : Int), i = .int .i64 (d.length : Nat) ∧ o = .int .i64 c ∧ -2 ≤ c ∧ c ≤ 1099511627776 ∧ d.length + r.length = 15 ∧ (∀ x ∈ r, -65536 ≤ x ∧ x < 1125899906842624) ∧ cz 0 (t.take 15) = d ++ cz c r ∧ zo 0 (t.take 15) = zo c r ∧ CWx w.heap.size w (d ++ r ++ [y]) w') (fun _ i _ => 15 - (intOf i).toNat)
  case atStart =>
    exact ⟨[], t.take 15, 0, rfl, rfl, by decide, by decide, by simpa using hl15, fun x hx => HT.out.bd x (List.mem_of_mem_take hx), rfl, rfl, by rw [List.nil_append, ← HSP.out]; exact HST.out⟩
  case round =>
    clear HST hW'
    obtain ⟨d, r, c, rfl, rfl, c0, c1, hl, hr, hcz, hzo, hp⟩ := hrel
    cases r with
    | cons x r =>
      obtain ⟨x0, x1⟩ := hr x (by simp)
      have hcell := rowI_cell hp.ht (i := d.length) (by simp)
      rw [show (d ++ x :: r ++ [y]).getD d.length 0 = x by simp] at hcell
      have hfr : wr.frozen? ⟨w.heap.size, d.length, none⟩ = false := frozen_of_row wr _ _ _ _ hp.ht
      have hlt : d.length < 15 := by simp at hl; omega
      have hm := mask16 (x + c)
      have hset := hp.set d.length ((x + c) % 65536)
      rw [show (d ++ x :: r ++ [y]).set d.length ((x + c) % 65536) = d ++ [(x + c) % 65536] ++ r ++ [y] by simp] at hset
      have HS : Hid (CWx w.heap.size w (d ++ [(x + c) % 65536] ++ r ++ [y]) (wr.setCell ⟨w.heap.size, d.length, none⟩ (.int .i64 ((x + c) % 65536)))) := hset
      have HR : Hid (∀ y ∈ x :: r, -65536 ≤ y ∧ y < 1125899906842624) := hr
      have H1 : Hid (cz 0 (t.take 15) = d ++ cz c (x :: r)) := hcz
      have H2 : Hid (zo 0 (t.take 15) = zo c (x :: r)) := hzo
      have HL : Hid (d.length + (x :: r).length = 15) := hl
      clear hr hcz hzo hl hp hset
      go_wp2
      go_roundw
      case rel =>
        exact ⟨d ++ [(x + c) % 65536], r, (x + c) / 65536, by simp, rfl, by omega, by omega, by have := HL.out; simp at this ⊢; omega, fun y hy => HR.out y (by simp [hy]), by rw [H1.out]; simp [cz], H2.out, HS.out⟩
      case measure => simp [intOf]; omega
    | nil =>
      have hd : d.length = 15 := by simpa using hl
      have hdi : ((d.length : Nat) : Int) = 15 := by omega
      have e1 : cz 0 (t.take 15) = d := by rw [hcz]; exact List.append_nil d
      have e2 : zo 0 (t.take 15) = c := hzo
      rw [List.append_nil] at hp
      have hcell := rowI_cell hp.ht (i := 15) (by simp [hd])
      rw [show (d ++ [y]).getD 15 0 = y by rw [List.getD_eq_getElem?_getD, List.getElem?_append_right (by omega)]; simp [hd]] at hcell
      have hfr : wr.frozen? ⟨w.heap.size, 15, none⟩ = false := frozen_of_row wr _ _ _ _ hp.ht
      have hm := mask15 (y + c)
      have hset := hp.set 15 ((y + c) % 32768)
      have ec : car t = d ++ [(y + c) % 32768] := by rw [car, e1, e2, HY.out]
      rw [show (d ++ [y]).set 15 ((y + c) % 32768) = d ++ [(y + c) % 32768] by rw [← hd]; simp, ← ec] at hset
      have HS : Hid (CWx w.heap.size w (car t) (wr.setCell ⟨w.heap.size, 15, none⟩ (.int .i64 ((y + c) % 32768)))) := hset
      have HO : Hid (cout t = (y + c) / 32768) := by
        have : cout t = (y + c) / 32768 := by rw [cout, e2, HY.out]
        exact this
      have HSZ : Hid ((VI .i64 (List.replicate 16 0)).size = (VI .i64 (car t)).size) := by
        have : (VI .i64 (List.replicate 16 0)).size = (VI .i64 (car t)).size := by rw [VI_size, VI_size, HDG.out.len, List.length_replicate]
        exact this
      clear hr hcz hzo hl hp hset e1 e2 ec
      go_wp2_with (with_reducible refine at_list ?_; first | (refine wpList_load_row rfl 64 (.tmp 1) rfl w.heap.size rfl 64 (VI .i64 (car t)) (0, 0) _ HS.out.ht Try.underlying64 rfl (info16 HDG.out.len) ?_) | (refine wpList_store_row rfl 64 (.tmp 2) (.tmp 30) rfl (w.heap.size + 1) (VI .i64 (car t)) rfl rfl 64 (VI .i64 (List.replicate 16 0)) HS.out.hr (info16 HDG.out.len) HSZ.out (VI_one _ _) ?_))
      refine bodyPost_ret (v := .tuple #[.agg (VI .i64 (car t)), .int .i64 ((y + c) / 32768)]) ?_ rfl ⟨by rw [HO.out], below_setRow HS.out.old _ (by omega) _⟩
      exact results_cell_tmp (P := Try.prog) (fn := Try.f61) (p := 2) (q := 3) (ty := 64) rfl _ _ (w.heap.size + 1) 64 (VI .i64 (car t)) (0, 0) _ _ rfl rfl (setRow_heap _ _ _ _ 64 _ HS.out.hr) Try.underlying64 rfl (info16 HDG.out.len)
theorem hw_modz {t s : List Int} (ht : Bigz t) (hs : Dig s) (hm : (D s + 57896044618658097711785492504343953926634992332820282019728792003956564819968 * 0) % 57896044618658097711785492504343953926634992332820282019728792003956564819949 = D t % 57896044618658097711785492504343953926634992332820282019728792003956564819949) : (D t).toNat % P = (D s).toNat % P := by
  have h1 := hs.lt
  have h5 := ht.pos
  have e1 : (((D t).toNat % P : Nat) : Int) = D t % 57896044618658097711785492504343953926634992332820282019728792003956564819949 := by
    rw [Int.natCast_emod, Int.toNat_of_nonneg h5]; rfl
  have e2 : (((D s).toNat % P : Nat) : Int) = D s % 57896044618658097711785492504343953926634992332820282019728792003956564819949 := by
    rw [Int.natCast_emod, Int.toNat_of_nonneg h1.1]; rfl
  rw [Int.mul_zero, Int.add_zero] at hm
  omega
set_option maxRecDepth 100000 in
set_option maxHeartbeats 4000000 in
theorem wholez_any (t : List Int) (ht : Bigz t) (w : World) :
    Calls Try.prog 50 #[.agg (VI .i64 t)] w fun e w' => e = .returned (.agg (VI .i64 (dg ((D t).toNat % P)))) ∧ Below w.heap.size w w' := by
  obtain ⟨hdg, hDv, o0, o1, _, _⟩ := car_factsz ht
  have HT : Hid (Bigz t) := ht
  have HDG : Hid (Dig (car t)) := hdg
  have hst := hw_start w t
  obtain ⟨W, hW⟩ : ∃ W, (w.alloc (.cells (VI .i64 t) 64)).alloc (.cells (VI .i64 (List.replicate 16 0)) 65) = W := ⟨_, rfl⟩
  rw [hW] at hst
  have hW' : (w.alloc (.cells (VI .i64 t) 64)).alloc (.cells #[.int .i64 0, .int .i64 0, .int .i64 0, .int .i64 0, .int .i64 0, .int .i64 0, .int .i64 0, .int .i64 0, .int .i64 0, .int .i64 0, .int .i64 0, .int .i64 0, .int .i64 0, .int .i64 0, .int .i64 0, .int .i64 0] 65) = W := hW
  have HST : Hid (HW w.heap.size w t W) := hst
  have HM : Hid ((D (car t) + 57896044618658097711785492504343953926634992332820282019728792003956564819968 * cout t) % 57896044618658097711785492504343953926634992332820282019728792003956564819949 = D t % 57896044618658097711785492504343953926634992332820282019728792003956564819949) := by
    have : (D (car t) + 57896044618658097711785492504343953926634992332820282019728792003956564819968 * cout t) % 57896044618658097711785492504343953926634992332820282019728792003956564819949 = D t % 57896044618658097711785492504343953926634992332820282019728792003956564819949 := by rw [hDv]
    exact this
  have HSZ : Hid ((VI .i64 t).size = (VI .i64 (car t)).size) := by
    have : (VI .i64 t).size = (VI .i64 (car t)).size := by rw [VI_size, VI_size, ht.len, hdg.len]
    exact this
  clear hW hst ht hdg hDv
  go_enter Try.func50, Try.ntmps50
  go_wp2_with (first | (go_at_call 61; refine (carriedz_any t HT.out W).mono ?_; rintro e w2 ⟨rfl, hb⟩; have H2 : Hid (HW w.heap.size w t w2) := HST.out.below hb; clear hb) | (with_reducible refine at_list ?_; first | (refine wpList_load_row rfl 64 (.tmp 1) rfl w.heap.size rfl 64 (VI .i64 t) (0, 0) _ HST.out.ht Try.underlying64 rfl (info16 HT.out.len) ?_) | (refine wpList_store_row rfl 64 (.tmp 1) (.tmp 7) rfl w.heap.size (VI .i64 (car t)) rfl rfl 64 (VI .i64 t) H2.out.ht (info16 HDG.out.len) HSZ.out (VI_one _ _) ?_)))
  have HR0 : Hid (HW w.heap.size w (car t) (w2.setRow w.heap.size (VI .i64 (car t)))) := H2.out.row _
  clear H2 HST hW'
  go_loopw [3] (fun c w' => ∃ (s : List Int) (k : Int), c = .int .i64 k ∧ Dig s ∧ 0 ≤ k ∧ k ≤ 1099511627776 ∧ (D s + 57896044618658097711785492504343953926634992332820282019728792003956564819968 * k) % 57896044618658097711785492504343953926634992332820282019728792003956564819949 = D t % 57896044618658097711785492504343953926634992332820282019728792003956564819949 ∧ HW w.heap.size w s w') (fun c w' => (Dw w' w.heap.size + 57896044618658097711785492504343953926634992332820282019728792003956564819968 * intOf c).toNat)
  case atStart => exact ⟨car t, cout t, rfl, HDG.out, o0, o1, HM.out, HR0.out⟩
  case round =>
    clear HR0 HM HDG HSZ o0 o1
    obtain ⟨s, k, rfl, hsd, k0, k1, hm, hp⟩ := hrel
    by_cases hk : k = 0
    · subst hk
      have hlt := hsd.lt
      have hDs : (D t).toNat % P = (D s).toNat % P := hw_modz HT.out hsd hm
      have hc0 := rowI_cell hp.ht (i := 0) (by rw [hsd.len]; decide)
      have h0 := hsd.bd _ (getD_mem (t := s) (i := 0) (by rw [hsd.len]; decide))
      have HP : Hid (HW w.heap.size w s wr) := hp
      have HSD : Hid (Dig s) := hsd
      have HBL : Hid (∀ w, Calls Try.prog 62 #[.agg (VI .i64 s)] w fun e w' => e = .returned (.bool (decide (D s < 57896044618658097711785492504343953926634992332820282019728792003956564819949))) ∧ Below w.heap.size w w') := fun w => below_any s hsd w
      have hlen : Hid (s.length = 16) := hsd.len
      by_cases hb : D s < 57896044618658097711785492504343953926634992332820282019728792003956564819949
      · have hd : decide (D s < 57896044618658097711785492504343953926634992332820282019728792003956564819949) = true := by simpa using hb
        have HRES : Hid (dg ((D t).toNat % P) = s) := by
          have : dg ((D t).toNat % P) = s := by rw [hDs, Nat.mod_eq_of_lt (by have e : P = 57896044618658097711785492504343953926634992332820282019728792003956564819949 := rfl; omega), ← hsd.eq]
          exact this
        rw [hd] at HBL
        clear hp hsd hm hlt hDs hc0 h0 hb hd
        go_wp2_with (first | (go_at_call 62; refine (HBL.out wr).mono ?_; rintro e w3 ⟨rfl, hb⟩; have H3 : Hid (HW w.heap.size w s w3) := HP.out.below hb; clear hb) | (with_reducible refine at_list ?_; first | (refine wpList_load_row rfl 64 (.tmp 1) rfl w.heap.size rfl 64 (VI .i64 s) (0, 0) _ H3.out.ht Try.underlying64 rfl (info16 hlen.out) ?_) | (refine wpList_load_row rfl 64 (.tmp 1) rfl w.heap.size rfl 64 (VI .i64 s) (0, 0) _ HP.out.ht Try.underlying64 rfl (info16 hlen.out) ?_) | (refine wpList_store_row rfl 65 (.tmp 2) (.tmp 30) rfl (w.heap.size + 1) (VI .i64 s) rfl rfl 65 (VI .i64 (List.replicate 16 0)) H3.out.hr (infoN16 hlen.out) (by rw [VI_size, VI_size, hlen.out, List.length_replicate]) (VI_one _ _) ?_)))
        refine bodyPost_ret (v := .agg (VI .i64 s)) ?_ rfl ⟨by rw [HRES.out], below_setRow H3.out.old _ (by omega) _⟩
        exact results_cell_row (P := Try.prog) (fn := Try.f50) (p := 2) (ty := 65) rfl _ _ (w.heap.size + 1) 65 (VI .i64 s) (0, 0) _ rfl (setRow_heap _ _ _ _ 65 _ H3.out.hr) Try.underlying65 rfl (infoN16 hlen.out)
      · have hd : decide (D s < 57896044618658097711785492504343953926634992332820282019728792003956564819949) = false := by simpa using hb
        have hres : dg ((D t).toNat % P) = (s.getD 0 0 - 65517) :: List.replicate 15 0 := by rw [hDs]; exact hsd.less (by omega)
        rw [hd] at HBL
        have h517 : 65517 ≤ s.getD 0 0 := dig_low hsd (by omega)
        obtain ⟨s0, hs0⟩ : ∃ s0, s.getD 0 0 = s0 := ⟨_, rfl⟩
        have HS0 : Hid (s.getD 0 0 = s0) := hs0
        rw [hs0] at hres h0 h517
        have HRES : Hid (dg ((D t).toNat % P) = (s0 - 65517) :: List.replicate 15 0) := hres
        have HPR : Hid (∀ w, Calls Try.prog 63 #[.int .i64 0] w fun e w' => e = .returned (.int .i64 65517) ∧ w' = w) := fun w => prime_any 0 (by decide) w
        obtain ⟨h00, h01⟩ := h0
        have hwr : IntKind.i64.wrap (s0 - 65517) = s0 - 65517 := by rw [IntKind.wrap_i64]; omega
        clear hp hsd hm hlt hDs hc0 hb hd hres hs0
        go_wp2_with (first | (go_at_call 62; refine (HBL.out wr).mono ?_; rintro e w3 ⟨rfl, hb⟩; have H3 : Hid (HW w.heap.size w s w3) := HP.out.below hb; clear hb) | (with_reducible refine at_list ?_; refine wpList_load_row rfl 64 (.tmp 1) rfl w.heap.size rfl 64 (VI .i64 s) (0, 0) _ HP.out.ht Try.underlying64 rfl (info16 hlen.out) ?_))
        refine wp_region_held_drew (S := fun Y => rowI Y w.heap.size s 64 ∧ Below w.heap.size w Y) (by kernel_rfl) (⟨H3.out.ht, H3.out.old.drew⟩) (fun hH => ?_)
        refine wpAnyH_take (i := 0) (v := .pointer (some ⟨w.heap.size, 0, none⟩)) rfl (by kernel_rfl) (by kernel_rfl) (by kernel_rfl) (fun _ _ _ h => h) (Or.inl ⟨by kernel_rfl, fun W hW => ?_⟩) hH ?_
        · go_simp
        try simp only [Act.put, List.setIfInBounds_toArray, List.set_cons_zero, List.set_cons_succ]
        refine wpAnyH_take (i := 1) (v := .int .i64 s0) rfl (by kernel_rfl) (by kernel_rfl) (by kernel_rfl) (fun _ _ _ h => h) (Or.inl ⟨by kernel_rfl, fun W hW => ?_⟩) hH ?_
        · have hc := rowI_cell hW.1 (i := 0) (by rw [hlen.out]; decide); rw [HS0.out] at hc; go_simp
        try simp only [Act.put, List.setIfInBounds_toArray, List.set_cons_zero, List.set_cons_succ]
        refine wpAnyH_ready (rs := [2]) (by kernel_rfl) (by simp) (AllReadyH.cons rfl (fun K' hK => ?_) AllReadyH.nil)
        go_simp
        refine (HPR.out _).mono ?_
        rintro e w4 ⟨rfl, rfl⟩
        go_wp2_with fail
        refine hK.out _ _ hH (fun hH => ?_)
        clear hK K'
        try simp only [Act.put, List.setIfInBounds_toArray, List.set_cons_zero, List.set_cons_succ]
        refine wpAnyH_take (i := 3) (v := .int .i64 (s0 - 65517)) rfl (by kernel_rfl) (by kernel_rfl) (by kernel_rfl) (fun _ _ _ h => h) (Or.inl ⟨by kernel_rfl, fun W hW => ?_⟩) hH ?_
        · go_simp
        try simp only [Act.put, List.setIfInBounds_toArray, List.set_cons_zero, List.set_cons_succ]
        refine wpAnyH_take (i := 4) (v := .agg (VI .i64 ((s0 - 65517) :: List.replicate 15 0))) rfl (by kernel_rfl) (by kernel_rfl) (by kernel_rfl) (fun _ _ _ h => h) (Or.inl ⟨by kernel_rfl, fun W hW => ?_⟩) hH ?_
        · (go_simp; rfl)
        try simp only [Act.put, List.setIfInBounds_toArray, List.set_cons_zero, List.set_cons_succ]
        refine wpAnyH_ready (rs := [5]) (by kernel_rfl) (by simp) (AllReadyH.cons rfl (fun K' hK => ?_) AllReadyH.nil)
        refine if_pos_mpr (by kernel_rfl) (wp_store_row 65 (.tmp 2) (.tmp 29) rfl (w.heap.size + 1) (VI .i64 ((s0 - 65517) :: List.replicate 15 0)) rfl rfl 65 (VI .i64 (List.replicate 16 0)) H3.out.hr (infoN16 (by simp)) (by rw [VI_size, VI_size]; rfl) (VI_one _ _) ?_)
        refine hK.out _ _ ⟨(setRow_other _ _ _ _ (by omega)).trans hH.1, below_setRow hH.2 _ (by omega) _⟩ (fun hH => ?_)
        clear hK K'
        try simp only [Act.put, List.setIfInBounds_toArray, List.set_cons_zero, List.set_cons_succ]
        refine wpAnyH_done (by kernel_rfl) ?_ _
        try simp only [Act.put, List.getElem_toArray, List.getElem_cons_succ, List.getElem_cons_zero, List.getElem?_toArray, List.getElem?_cons_succ, List.getElem?_cons_zero, List.setIfInBounds_toArray, List.set_cons_zero, List.set_cons_succ]
        have HH : Hid (Below w.heap.size w (w3.drew.setRow (w.heap.size + 1) (VI .i64 ((s0 - 65517) :: List.replicate 15 0)))) := hH.2
        clear hH
        go_wp2
        refine bodyPost_ret (v := .agg (VI .i64 ((s0 - 65517) :: List.replicate 15 0))) ?_ rfl ⟨by rw [HRES.out], HH.out⟩
        exact results_cell_row (P := Try.prog) (fn := Try.f50) (p := 2) (ty := 65) rfl _ _ (w.heap.size + 1) 65 (VI .i64 ((s0 - 65517) :: List.replicate 15 0)) (0, 0) _ rfl (setRow_heap w3.drew _ _ _ 65 _ H3.out.hr) Try.underlying65 rfl (infoN16 (by simp))
    · obtain ⟨hbig, hdig, q0, q1, hm2, hval⟩ := fold_step hsd k0 k1 hm
      have h0 := hsd.bd _ (getD_mem (t := s) (i := 0) (by rw [hsd.len]; decide))
      have hc0 := rowI_cell hp.ht (i := 0) (by rw [hsd.len]; decide)
      have hf0 : wr.frozen? ⟨w.heap.size, 0, none⟩ = false := frozen_of_row wr _ _ _ _ hp.ht
      have hmea : Hid (Dw wr w.heap.size = D s) := Dw_row hp.ht
      have hp2 := hp.set 0 (s.getD 0 0 + 19 * k)
      obtain ⟨s', hs'⟩ : ∃ s', s.set 0 (s.getD 0 0 + 19 * k) = s' := ⟨_, rfl⟩
      rw [hs'] at hbig hdig q0 q1 hm2 hval hp2
      have HP2 : Hid (HW w.heap.size w s' (wr.setCell ⟨w.heap.size, 0, none⟩ (.int .i64 (s.getD 0 0 + 19 * k)))) := hp2
      have HBG : Hid (Big s') := hbig
      have HDG : Hid (Dig (car s')) := hdig
      have HM2 : Hid ((D (car s') + 57896044618658097711785492504343953926634992332820282019728792003956564819968 * cout s') % 57896044618658097711785492504343953926634992332820282019728792003956564819949 = D t % 57896044618658097711785492504343953926634992332820282019728792003956564819949) := hm2
      have HVL : Hid (D (car s') + 57896044618658097711785492504343953926634992332820282019728792003956564819968 * cout s' = D s + 19 * k) := hval
      have HDS : Hid (0 ≤ D s) := hsd.lt.1
      have HDC : Hid (0 ≤ D (car s')) := hdig.lt.1
      have HSZ : Hid ((VI .i64 s').size = (VI .i64 (car s')).size) := by
        have : (VI .i64 s').size = (VI .i64 (car s')).size := by rw [VI_size, VI_size, hbig.len, hdig.len]
        exact this
      obtain ⟨h00, h01⟩ := h0
      clear hm hm2 hval hp hp2 hbig hdig hsd hs'
      generalize s.getD 0 0 = s0 at *
      have hkd : decide (k = 0) = false := by simpa using hk
      obtain ⟨W3, hW3⟩ : ∃ W3, wr.setCell ⟨w.heap.size, 0, none⟩ (.int .i64 (s0 + 19 * k)) = W3 := ⟨_, rfl⟩
      rw [hW3] at HP2
      go_wp2_with (first | (go_at_call 61; refine (carried_any s' HBG.out W3).mono ?_; rintro e w3 ⟨rfl, hb⟩; have H3 : Hid (HW w.heap.size w s' w3) := HP2.out.below hb; clear hb) | (with_reducible refine at_list ?_; first | (refine wpList_load_row rfl 64 (.tmp 1) rfl w.heap.size rfl 64 (VI .i64 s') (0, 0) _ HP2.out.ht Try.underlying64 rfl (info16 HBG.out.len) ?_) | (refine wpList_store_row rfl 64 (.tmp 1) (.tmp 20) rfl w.heap.size (VI .i64 (car s')) rfl rfl 64 (VI .i64 s') H3.out.ht (info16 HDG.out.len) HSZ.out (VI_one _ _) ?_)))
      have HR : Hid (HW w.heap.size w (car s') (w3.setRow w.heap.size (VI .i64 (car s')))) := H3.out.row _
      clear H3
      go_roundw
      case rel => exact ⟨car s', cout s', rfl, HDG.out, q0, q1, HM2.out, HR.out⟩
      case measure =>
        rw [Dw_row HR.out.ht, hmea.out]
        have := HVL.out
        have := HDS.out
        have := HDC.out
        simp only [intOf]
        omega
end Go.Proofs.Ytlffamcifahbjaa
namespace Go.Proofs.Ytlffamcifahbjaa
set_option linter.unusedSimpArgs false
open Go.ChangeShapes Go.WideShapes Go.ChangeAt Go.RowKit Go.Pin Go.Fld
theorem zsub_D {n m : Nat} (hn : n < P) (hm : m < P) : D (zsub n m) = ((n + (P - m) : Nat) : Int) := by
  have e : zsub n m = List.zipWith (· - ·) (List.zipWith (· + ·) (dg n) pd) (dg m) := by
    apply List.ext_getElem
    · simp [zsub, pd]
    · intro i h1 h2
      have hi : i < 16 := by simpa [zsub] using h1
      simp only [zsub, List.getElem_map, List.getElem_range, List.getElem_zipWith]
      rw [List.getD_eq_getElem?_getD, List.getElem?_eq_getElem (by simpa using hi), List.getD_eq_getElem?_getD, List.getElem?_eq_getElem (show i < pd.length from hi), List.getD_eq_getElem?_getD, List.getElem?_eq_getElem (by simpa using hi)]
      rfl
  rw [e, D_zips _ _ (by simp [pd]), D_zip _ _ (by simp [pd]), (Dig.of (P255 hn)).2, (Dig.of (P255 hm)).2, pd_D]
  have hP : (P : Int) = 57896044618658097711785492504343953926634992332820282019728792003956564819949 := rfl
  omega
theorem zsub_bigz {n m : Nat} (hn : n < P) (hm : m < P) : Bigz (zsub n m) := ⟨by simp [zsub], fun x hx => by
  simp only [zsub, List.mem_map] at hx
  obtain ⟨i, hi, rfl⟩ := hx
  have h0 := dg_bd n i
  have h1 := dg_bd m i
  have h2 := pd_at_bd i (by simpa using hi)
  omega, by rw [zsub_D hn hm]; omega⟩
set_option maxRecDepth 100000 in
set_option maxHeartbeats 4000000 in
theorem rsub_any (n m : Nat) (hn : n < P) (hm : m < P) (w : World) :
    Calls Try.prog 52 #[.agg (VI .i64 (dg n)), .agg (VI .i64 (dg m))] w fun e w' => e = .returned (.agg (VI .i64 (dg ((n + (P - m)) % P)))) ∧ Below w.heap.size w w' := by
  have hst := jw_start w (dg n) (dg m)
  obtain ⟨W, hW⟩ : ∃ W, (((w.alloc (.cells (VI .i64 (dg n)) 65)).alloc (.cells (VI .i64 (dg m)) 65)).alloc (.cells (VI .i64 (List.replicate 16 0)) 65)).alloc (.cells (VI .i64 (List.replicate 16 0)) 64) = W := ⟨_, rfl⟩
  rw [hW] at hst
  have hW' : (((w.alloc (.cells (VI .i64 (dg n)) 65)).alloc (.cells (VI .i64 (dg m)) 65)).alloc (.cells #[.int .i64 0, .int .i64 0, .int .i64 0, .int .i64 0, .int .i64 0, .int .i64 0, .int .i64 0, .int .i64 0, .int .i64 0, .int .i64 0, .int .i64 0, .int .i64 0, .int .i64 0, .int .i64 0, .int .i64 0, .int .i64 0] 65)).alloc (.cells #[.int .i64 0, .int .i64 0, .int .i64 0, .int .i64 0, .int .i64 0, .int .i64 0, .int .i64 0, .int .i64 0, .int .i64 0, .int .i64 0, .int .i64 0, .int .i64 0, .int .i64 0, .int .i64 0, .int .i64 0, .int .i64 0] 64) = W := hW
  have HST : Hid (JW w.heap.size w (dg n) (dg m) (List.replicate 16 0) W) := hst
  have HWH : Hid (∀ w, Calls Try.prog 50 #[.agg (VI .i64 (zsub n m))] w fun e w' => e = .returned (.agg (VI .i64 (dg ((n + (P - m)) % P)))) ∧ Below w.heap.size w w') := fun w => by
    have := wholez_any _ (zsub_bigz hn hm) w
    rw [zsub_D hn hm, Int.toNat_natCast] at this
    exact this
  clear hW hst hn hm
  have hzl : (zsub n m).length = 16 := by simp [zsub]
  have HZL : Hid ((zsub n m).length = 16) := hzl
  go_enter Try.func52, Try.ntmps52
  go_wp2
  go_loopw [6] (fun i w' => ∃ k : Nat, k ≤ 16 ∧ i = .int .i64 k ∧ JW w.heap.size w (dg n) (dg m) ((zsub n m).take k ++ (List.replicate 16 (0 : Int)).drop k) w') (fun i _ => 16 - (intOf i).toNat)
  case atStart => exact ⟨0, Nat.zero_le _, rfl, HST.out⟩
  case round =>
    clear HST hW'
    obtain ⟨k, hk, rfl, hp⟩ := hrel
    by_cases hlt : k < 16
    · have es := set_stepD (zsub n m) (List.replicate 16 (0 : Int)) k (by rw [hzl]; exact hlt) (by simpa using hlt)
      rw [show (zsub n m).getD k 0 = (dg n).getD k 0 + pd.getD k 0 - (dg m).getD k 0 from range_getD _ k hlt] at es
      have hst := hp.set k ((dg n).getD k 0 + pd.getD k 0 - (dg m).getD k 0)
      rw [es] at hst
      have hca := rowI_cell hp.ha (i := k) (by simpa using hlt)
      have hcb := rowI_cell hp.hb (i := k) (by simpa using hlt)
      have hcl := rowI_cell hp.hl (i := k) (by rw [List.length_append, List.length_take, List.length_drop, hzl, List.length_replicate]; omega)
      have hfz : wr.frozen? ⟨w.heap.size + 3, k, none⟩ = false := frozen_of_row wr _ _ _ _ hp.hl
      obtain ⟨x0, x1⟩ := dg_bd n k
      obtain ⟨y0, y1⟩ := dg_bd m k
      obtain ⟨p0, p1⟩ := pd_at_bd k hlt
      have HPR : Hid (∀ w, Calls Try.prog 63 #[.int .i64 (k : Int)] w fun e w' => e = .returned (.int .i64 (pd.getD k 0)) ∧ w' = w) := fun w => prime_any k hlt w
      generalize pd.getD k 0 = q at *
      generalize (dg n).getD k 0 = x at *
      generalize (dg m).getD k 0 = y at *
      have HS : Hid (JW w.heap.size w (dg n) (dg m) ((zsub n m).take (k + 1) ++ (List.replicate 16 (0 : Int)).drop (k + 1)) (wr.setCell ⟨w.heap.size + 3, k, none⟩ (.int .i64 (x + q - y)))) := hst
      clear hp hst es
      generalize List.getD _ k 0 = zz at hcl
      go_wp2
      go_region_with (go_at_call 63; refine (HPR.out _).mono ?_; rintro e w2 ⟨rfl, rfl⟩)
      all_goals (
        go_wp2
        go_roundw
        case rel => exact ⟨k + 1, by omega, by go_num, HS.out.drew⟩
        case measure => simp [intOf]; omega)
    · have hk' : k = 16 := by omega
      subst hk'
      rw [List.take_of_length_le (by rw [hzl]; omega), List.drop_of_length_le (by simp), List.append_nil] at hp
      have HS : Hid (JW w.heap.size w (dg n) (dg m) (zsub n m) wr) := hp
      have hrl : (dg ((n + (P - m)) % P)).length = 16 := dg_len _
      generalize hres : dg ((n + (P - m)) % P) = res at *
      have HRES : Hid (dg ((n + (P - m)) % P) = res) := hres
      clear hres
      have HRL : Hid (res.length = 16) := hrl
      have HSZ : Hid ((VI .i64 (List.replicate 16 0)).size = (VI .i64 res).size) := by
        have : (VI .i64 (List.replicate 16 0)).size = (VI .i64 res).size := by rw [VI_size, VI_size, hrl, List.length_replicate]
        exact this
      clear hrl hp hlt hk
      go_wp2_with (first | (go_at_call 50; refine (HWH.out wr).mono ?_; rintro e w4 ⟨rfl, hb4⟩; have HO4 : Hid (Below w.heap.size w w4) := HS.out.old.trans (hb4.mono (by have := HS.out.sz; omega)); have HR4 : Hid (rowI w4 (w.heap.size + 2) (List.replicate 16 0) 65) := (hb4.block _ (by have := HS.out.sz; omega)).trans HS.out.hr; clear hb4) | (with_reducible refine at_list ?_; first | (refine wpList_load_row rfl 64 (.tmp 5) rfl (w.heap.size + 1 + 1 + 1) rfl 64 (VI .i64 (zsub n m)) (0, 0) _ HS.out.hl Try.underlying64 rfl (info16 HZL.out) ?_) | (refine wpList_store_row rfl 65 (.tmp 4) (.tmp 24) rfl (w.heap.size + 1 + 1) (VI .i64 res) rfl rfl 65 (VI .i64 (List.replicate 16 0)) HR4.out (infoN16 HRL.out) HSZ.out (VI_one _ _) ?_)))
      refine bodyPost_ret (v := .agg (VI .i64 res)) ?_ rfl ⟨by rw [HRES.out], below_setRow HO4.out _ (by omega) _⟩
      exact results_cell_row (P := Try.prog) (fn := Try.f52) (p := 4) (ty := 65) rfl _ _ (w.heap.size + 1 + 1) 65 (VI .i64 res) (0, 0) _ rfl (setRow_heap _ _ _ _ 65 _ HR4.out) Try.underlying65 rfl (infoN16 HRL.out)
end Go.Proofs.Ytlffamcifahbjaa
