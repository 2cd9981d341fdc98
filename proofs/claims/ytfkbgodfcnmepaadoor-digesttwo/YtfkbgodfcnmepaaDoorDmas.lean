import Derived.Test.YtfkbgodfcnmepaaDoorDmar
namespace Go.Proofs.YtfkbgodfcnmepaaDoor
set_option linter.unusedSimpArgs false
set_option linter.unusedVariables false
open Go.ChangeShapes Go.WideShapes Go.ChangeAt Go.RowKit Go.Pin Go.Str Go.Dig
/-- a Hash, what it has taken, and a list beside it -/
structure Hd where
  g : Nat
  s : Nat
  key : List Int
  H : List Int
  X : List Int
  v : Value
def Hd.ok (x : Hd) : Prop := (1 ≤ x.s ∧ x.s ≤ 32) ∧ x.key.length ≤ 32 ∧ Byt x.key ∧ Byt x.H ∧ x.H.length ≤ 200000 ∧ x.X.length ≤ 200000
def Hd.ob (x : Hd) (b : List Int) : Obj := hst (.pointer none) x.s (h0 x.s x.key.length) (fil x.key ++ x.H) b
theorem Hd.ok.s8 {x : Hd} (h : x.ok) : S8 (h0 x.s x.key.length) := h0_s8 h.1.2 h.2.1
theorem Hd.ok.len {x : Hd} (h : x.ok) : (fil x.key ++ x.H).length ≤ 200064 := by
  have h1 := fil_len x.key h.2.1
  have h2 := h.2.2.2.2.1
  rw [List.length_append, h1]
  split <;> omega
def T2 (q : Nat) (W : World) (x y : Hd) (ex : List (Nat × Obj)) (w' : World) : Prop :=
  ∃ b1 b2 lx ly, HSb (fil x.key ++ x.H) b1 ∧ HSb (fil y.key ++ y.H) b2 ∧ Lst 5 1 x.v x.X.length (x.X.map (Value.int .u8)) lx ∧ Lst 5 1 y.v y.X.length (y.X.map (Value.int .u8)) ly
    ∧ Ev q W (.pointer none) [] ((x.g, x.ob b1) :: (y.g, y.ob b2) :: (lx ++ (ly ++ ex))) w' ∧ x.g ≠ y.g ∧ (∀ p ∈ lx ++ (ly ++ ex), p.1 ≠ x.g ∧ p.1 ≠ y.g) ∧ (∀ p ∈ lx, ∀ r ∈ ly ++ ex, r.1 ≠ p.1) ∧ (∀ p ∈ ly, ∀ r ∈ ex, r.1 ≠ p.1)
section
variable {q : Nat} {W : World} {x y : Hd} {ex : List (Nat × Obj)} {w' w2 : World}
theorem T2.old (h : T2 q W x y ex w') : Below q W w' := by obtain ⟨b1, b2, lx, ly, _, _, _, _, h, _⟩ := h; exact h.old
theorem T2.le (h : T2 q W x y ex w') : q ≤ w'.heap.size := by obtain ⟨b1, b2, lx, ly, _, _, _, _, h, _⟩ := h; exact h.le
theorem T2.below (h : T2 q W x y ex w') (hb : Below w'.heap.size w' w2) : T2 q W x y ex w2 := by
  obtain ⟨b1, b2, lx, ly, h1, h2, h3, h4, h5, h6, h7, h8, h9⟩ := h
  exact ⟨b1, b2, lx, ly, h1, h2, h3, h4, h5.below hb, h6, h7, h8, h9⟩
theorem T2.swap (h : T2 q W x y ex w') : T2 q W y x ex w' := by
  obtain ⟨b1, b2, lx, ly, h1, h2, h3, h4, h5, h6, h7, h8, h9⟩ := h
  refine ⟨b2, b1, ly, lx, h2, h1, h4, h3, h5.sub (fun p hp => ?_), h6.symm, fun p hp => ?_, fun p hp r hr => ?_, fun p hp r hr => h8 p hp r (List.mem_append_right _ hr)⟩
  · simp only [List.mem_cons, List.mem_append] at hp ⊢
    rcases hp with hp | hp | hp | hp | hp
    · exact .inr (.inl hp)
    · exact .inl hp
    · exact .inr (.inr (.inr (.inl hp)))
    · exact .inr (.inr (.inl hp))
    · exact .inr (.inr (.inr (.inr hp)))
  · have := h7 p (by simp only [List.mem_append] at hp ⊢; rcases hp with hp | hp | hp; exact .inr (.inl hp); exact .inl hp; exact .inr (.inr hp))
    exact ⟨this.2, this.1⟩
  · rcases List.mem_append.1 hr with hr | hr
    · exact fun e => h8 r hr p (List.mem_append_left _ hp) e.symm
    · exact h9 p hp r hr
theorem T2.drop (h : T2 q W x y ex w') {ey : List (Nat × Obj)} (hs : ∀ p ∈ ey, p ∈ ex) : T2 q W x y ey w' := by
  obtain ⟨b1, b2, lx, ly, h1, h2, h3, h4, h5, h6, h7, h8, h9⟩ := h
  have hm : ∀ p ∈ lx ++ (ly ++ ey), p ∈ lx ++ (ly ++ ex) := fun p hp => by
    simp only [List.mem_append] at hp ⊢
    rcases hp with hp | hp | hp
    · exact .inl hp
    · exact .inr (.inl hp)
    · exact .inr (.inr (hs p hp))
  refine ⟨b1, b2, lx, ly, h1, h2, h3, h4, h5.sub (fun p hp => ?_), h6, fun p hp => h7 p (hm p hp), fun p hp r hr => h8 p hp r ?_, fun p hp r hr => h9 p hp r (hs r hr)⟩
  · simp only [List.mem_cons] at hp ⊢
    rcases hp with hp | hp | hp
    · exact .inl hp
    · exact .inr (.inl hp)
    · exact .inr (.inr (hm p hp))
  · rcases List.mem_append.1 hr with hr | hr
    · exact List.mem_append_left _ hr
    · exact List.mem_append_right _ (hs r hr)
/-- new boxes beside -/
theorem T2.join (h : T2 q W x y ex w') {l' : List (Int × Int)} {bx : List (Nat × Obj)} (h' : Ev w'.heap.size w' (.pointer none) l' bx w2) : T2 q W x y (bx ++ ex) w2 := by
  obtain ⟨b1, b2, lx, ly, h1, h2, h3, h4, h5, h6, h7, h8, h9⟩ := h
  obtain ⟨hj, hd⟩ := h5.join h'
  refine ⟨b1, b2, lx, ly, h1, h2, h3, h4, hj.sub (fun p hp => ?_), h6, fun p hp => ?_, fun p hp r hr => ?_, fun p hp r hr => ?_⟩
  · simp only [List.mem_cons, List.mem_append] at hp ⊢
    rcases hp with hp | hp | hp | hp | hp | hp
    · exact .inr (.inl hp)
    · exact .inr (.inr (.inl hp))
    · exact .inr (.inr (.inr (.inl hp)))
    · exact .inr (.inr (.inr (.inr (.inl hp))))
    · exact .inl hp
    · exact .inr (.inr (.inr (.inr (.inr hp))))
  · simp only [List.mem_append] at hp
    rcases hp with hp | hp | hp | hp
    · exact h7 p (List.mem_append_left _ hp)
    · exact h7 p (List.mem_append_right _ (List.mem_append_left _ hp))
    · exact ⟨fun e => hd p hp _ mem0 e.symm, fun e => hd p hp _ mem1 e.symm⟩
    · exact h7 p (List.mem_append_right _ (List.mem_append_right _ hp))
  · simp only [List.mem_append] at hr
    rcases hr with hr | hr | hr
    · exact h8 p hp r (List.mem_append_left _ hr)
    · exact fun e => hd r hr p (memr2 (List.mem_append_left _ hp)) e.symm
    · exact h8 p hp r (List.mem_append_right _ hr)
  · rcases List.mem_append.1 hr with hr | hr
    · exact fun e => hd r hr p (memr2 (List.mem_append_right _ (List.mem_append_left _ hp))) e.symm
    · exact h9 p hp r hr
theorem T2.slice (h : T2 q W x y ex w') {n : Nat} (hn : x.X.length = n) : ∃ a c, x.v = .slice a n c := by
  obtain ⟨b1, b2, lx, ly, h1, h2, h3, _⟩ := h
  rw [← hn]; exact h3.slice'
/-- the list is read -/
theorem T2.list (h : T2 q W x y ex w') : ∀ cx, Src w'.heap.size w' cx x.v x.X := by
  obtain ⟨b1, b2, lx, ly, h1, h2, h3, h4, h5, _⟩ := h
  exact (h3.src (B := q) (w := W) (bx := (x.g, x.ob b1) :: (y.g, y.ob b2) :: (lx ++ (ly ++ ex))) (fun p hp => memr2 (List.mem_append_left _ hp))).at_ h5
theorem T2.rb (h : T2 q W x y ex w') {v : Value} {D : List Int} (hS : Src q W ex v D) : RdB w' v D := by
  obtain ⟨b1, b2, lx, ly, h1, h2, h3, h4, h5, _⟩ := h
  exact h5.rb (hS.sub (fun p hp => memr2 (List.mem_append_right _ (List.mem_append_right _ hp))))
theorem T2.at_ (h : T2 q W x y ex w') {v : Value} {D : List Int} (hS : Src q W ex v D) : ∀ cx, Src w'.heap.size w' cx v D := by
  obtain ⟨b1, b2, lx, ly, h1, h2, h3, h4, h5, _⟩ := h
  exact (hS.sub (fun p hp => memr2 (List.mem_append_right _ (List.mem_append_right _ hp)))).at_ h5
theorem T2.write (h : T2 q W x y ex w') (hx : x.ok) (hB : Beg W) (h2 : 2 ≤ q) {u : Value} {D : List Int} (hD : Byt D) (hs : Src q W [] u D) (hl : x.H.length + D.length ≤ 200000) :
    Calls Tryd.prog 23 #[.pointer (some ⟨x.g, 0, none⟩), u] w' fun e w2 => e = .returned (.tuple #[]) ∧ T2 q W { x with H := x.H ++ D } y ex w2 := by
  obtain ⟨b1, b2, lx, ly, h1, h2', h3, h4, h5, h6, h7, h8, h9⟩ := h
  have hlen := hx.len
  refine (dwrite_src h1 h5 hx.s8 (fun hr => absurd rfl hr) (fun p hp => ?_) (hs.sub (by simp)) hD (by have := hx.2.2.2.2.1; omega) hB h2).mono ?_
  · rcases List.mem_cons.1 hp with rfl | hp
    · exact h6.symm
    · exact (h7 p hp).1
  · rintro e w2 ⟨rfl, b3, k1, k2⟩
    rw [List.append_assoc] at k1 k2
    exact ⟨rfl, b3, b2, lx, ly, k1, h2', h3, h4, k2.nilOf [], h6, h7, h8, h9⟩
theorem T2.sum (h : T2 q W x y ex w') (hx : x.ok) (hB : Beg W) (h2 : 2 ≤ q) :
    Calls Tryd.prog 22 #[.pointer (some ⟨x.g, 0, none⟩)] w' fun e w2 => ∃ g2, e = .returned (.slice (some ⟨g2, 0, none⟩) x.s x.s) ∧ T2 q W x y ex w2 ∧ RdB w2 (.slice (some ⟨g2, 0, none⟩) x.s x.s) (dig x.s x.key x.H) := by
  obtain ⟨b1, b2, lx, ly, h1, h2', h3, h4, h5, h6, h7, h8, h9⟩ := h
  have hlen := hx.len
  refine (dsum_any h1 h5 hx.s8 hx.1.2 (fun hr => absurd rfl hr) (fun p hp => ?_) (by omega) hB h2).mono ?_
  · rcases List.mem_cons.1 hp with rfl | hp
    · exact h6.symm
    · exact (h7 p hp).1
  · rintro e w2 ⟨g2, rfl, k1, k2⟩
    exact ⟨g2, rfl, ⟨b1, b2, lx, ly, h1, h2', h3, h4, k2.tail.nilOf [], h6, h7, h8, h9⟩, row_rd (k2.row mem0) (spl_len _ _) (Nat.le_refl _)⟩
theorem T2.app (h : T2 q W x y ex w') (hx : x.ok) {u : Value} {D : List Int} (hs : Src q W [] u D) (hl : D.length ≤ 200000) (ty : TypeId) :
    ∃ v' w2, (Builtin.append_ #[22, 22] ty #[x.v, u]).run Tryd.prog w' = .ok v' w2 ∧ T2 q W { x with X := x.X ++ D, v := v' } y ex w2 := by
  obtain ⟨b1, b2, lx, ly, h1, h2, h3, h4, h5, h6, h7, h8, h9⟩ := h
  have hsub : Ev q W (.pointer none) [] (lx ++ ((x.g, x.ob b1) :: (y.g, y.ob b2) :: (ly ++ ex))) w' := h5.sub (fun p hp => by
    simp only [List.mem_cons, List.mem_append] at hp ⊢
    rcases hp with hp | hp | hp | hp | hp
    · exact .inr (.inr (.inl hp))
    · exact .inl hp
    · exact .inr (.inl hp)
    · exact .inr (.inr (.inr (.inl hp)))
    · exact .inr (.inr (.inr (.inr hp))))
  obtain ⟨v', w2, hr, lb', k1, k2, k3⟩ := hsub.appB h3 (fun p hp r hr => by
    simp only [List.mem_cons] at hr
    rcases hr with rfl | rfl | hr
    · exact fun e => (h7 p (List.mem_append_left _ hp)).1 e.symm
    · exact fun e => (h7 p (List.mem_append_left _ hp)).2 e.symm
    · exact h8 p hp r hr) ty (hs.sub (by simp)) (by have := hx.2.2.2.2.2; omega)
  refine ⟨v', w2, hr, b1, b2, lb', ly, h1, h2, ?_, h4, k2.sub (fun p hp => ?_), h6, fun p hp => ?_, fun p hp r hr => ?_, h9⟩
  · show Lst 5 1 v' (x.X ++ D).length ((x.X ++ D).map (Value.int .u8)) lb'
    rw [List.length_append]; exact k1
  · simp only [List.mem_cons, List.mem_append] at hp ⊢
    rcases hp with hp | hp | hp | hp | hp
    · exact .inr (.inl hp)
    · exact .inr (.inr (.inl hp))
    · exact .inl hp
    · exact .inr (.inr (.inr (.inl hp)))
    · exact .inr (.inr (.inr (.inr hp)))
  · rcases List.mem_append.1 hp with hp | hp
    · exact ⟨fun e => k3 p hp _ mem0 e.symm, fun e => k3 p hp _ mem1 e.symm⟩
    · exact h7 p (List.mem_append_right _ hp)
  · exact k3 p hp r (memr2 hr)
/-- the document's answer, beside -/
theorem T2.ref (h : T2 q W x y ex w') (hx : x.ok) (hXb : Byt x.X) {kv dv : Value} {D : List Int} (hk : Src q W [] kv x.key) (hd : ∀ cx, Src w'.heap.size w' cx dv D) (hDb : Byt D) (hDl : D.length ≤ 200000) :
    Calls Tryd.prog 12 #[.int .i64 (x.s : Int), kv, dv] w' fun e w2 => ∃ v lb, e = .returned (.tuple #[v, .int .i64 0]) ∧ T2 q W x y (lb ++ ex) w2 ∧ Src q W (lb ++ ex) v (dig x.s x.key D) := by
  obtain ⟨ka, kc, rfl, _, _⟩ := id hk
  obtain ⟨da, dc, rfl, _, _⟩ := id (hd [])
  refine (rsum_any w' x.s hx.1 x.key D _ _ rfl rfl hx.2.1 hx.2.2.1 hDb hDl ka da kc dc (h.at_ (hk.sub (by simp)) []) (hd [])).mono ?_
  rintro e w2 ⟨v, rfl, lb, k1, k2, k3⟩
  rw [List.append_nil] at k2
  refine ⟨v, lb, rfl, h.join k2, ?_⟩
  have e : x.s = (dig x.s x.key D).length := (dig_len _ _ _).symm
  exact Lst.src (A := dig x.s x.key D) (by rw [← e]; exact k1) (fun p hp => List.mem_append_left _ hp)
end
end Go.Proofs.YtfkbgodfcnmepaaDoor
namespace Go.Proofs.YtfkbgodfcnmepaaDoor
set_option linter.unusedSimpArgs false
set_option linter.unusedVariables false
open Go.ChangeShapes Go.WideShapes Go.ChangeAt Go.RowKit Go.Pin Go.Str Go.Dig
theorem wrapL2 {a b : Nat} (h : b ≤ a) (ha : a ≤ 131072) : wrap64 ((a : Int) - (b : Int)) = ((a - b : Nat) : Int) ∧ IntKind.i64.wrap ((a : Int) - (b : Int)) = ((a - b : Nat) : Int) := by
  rw [IntWalk.wrap64_in _ ⟨by omega, by omega⟩, IntWalk.i64_in _ ⟨by omega, by omega⟩]
  omega
theorem byt_app {X D : List Int} (h1 : Byt X) (h2 : Byt D) : Byt (X ++ D) := fun x hx => by
  rcases List.mem_append.1 hx with hx | hx
  · exact h1 x hx
  · exact h2 x hx
/-- New and what is made of it, nothing beside -/
theorem dnew_t {q : Nat} {W w' : World} (h : Ev q W (.pointer none) [] [] w') (hB : Beg W) (h2 : 2 ≤ q) (s : Nat) (hs : 1 ≤ s ∧ s ≤ 32) (kv : Value) (D : List Int) (hk : Src q W [] kv D) (h32 : D.length ≤ 32) (hD : Byb D) : Calls Tryd.prog 11 #[.pointer none, .int .i64 (s : Int), kv] w' fun e w2 => ∃ g, e = .returned (.tuple #[.pointer (some ⟨g, 0, none⟩), .nilIface]) ∧ Ev q W (.pointer none) [] [] w2 ∧ ∃ b, HSb (fil D ++ []) b ∧ Ev q W (.pointer none) [] [(g, hst (.pointer none) s (h0 s D.length) (fil D ++ []) b)] w2 := by
  refine (dnew_any h (fun hr => absurd rfl hr) s hs hB h2 kv D hk h32 hD).mono ?_
  rintro e w2 ⟨g, rfl, o, hne, hst, he⟩
  obtain ⟨b, k1, rfl⟩ := hst.blk
  rw [List.append_nil]
  exact ⟨g, rfl, (he.sub (by simp)).nilOf [], b, k1, he.nilOf []⟩
theorem dnew_b {q : Nat} {W w' : World} (h : Ev q W (.pointer none) [] [] w') (h2 : 2 ≤ q) {ea : Addr} (hE : W.cell? ⟨0, 0, none⟩ = some (.iface 120 (.pointer (some ea)))) (z : Int) (ka : Option Addr) (k cap : Nat) (hbad : z < 1 ∨ 32 < z ∨ 32 < k) : Calls Tryd.prog 11 #[.pointer none, .int .i64 z, .slice ka k cap] w' fun e w2 => e = .returned (.tuple #[.pointer none, .iface 120 (.pointer (some ea))]) ∧ Ev q W (.pointer none) [] [] w2 := by
  refine (dnew_bad h (fun hr => absurd rfl hr) z _ hE (by omega) ka k cap hbad).mono ?_
  rintro e w2 ⟨rfl, he⟩
  exact ⟨rfl, he.nilOf []⟩
theorem dnew_2 {q : Nat} {W w' : World} {g1 : Nat} {s1 : Nat} {key : List Int} {b1 : List Int} (hb1 : HSb (fil key ++ []) b1) (h : Ev q W (.pointer none) [] [(g1, hst (.pointer none) s1 (h0 s1 key.length) (fil key ++ []) b1)] w') (hB : Beg W) (h2 : 2 ≤ q) (s : Nat) (hs : 1 ≤ s ∧ s ≤ 32) :
    Calls Tryd.prog 11 #[.pointer none, .int .i64 (s : Int), .slice none 0 0] w' fun e w2 => ∃ g, e = .returned (.tuple #[.pointer (some ⟨g, 0, none⟩), .nilIface]) ∧ T2 q W ⟨g1, s1, key, [], [], .slice none 0 0⟩ ⟨g, s, [], [], [], .slice none 0 0⟩ [] w2 := by
  refine (dnew_any h (fun hr => absurd rfl hr) s hs hB h2 _ [] (src_nil _ _ _) (by simp) (fun x hx => nomatch hx)).mono ?_
  rintro e w2 ⟨g, rfl, o, hne, hst, he⟩
  obtain ⟨b, k1, rfl⟩ := hst.blk
  refine ⟨g, rfl, b1, b, [], [], hb1, by rw [List.append_nil]; exact k1, lst_nil _ _, lst_nil _ _, ?_, hne _ mem0, (fun p hp => nomatch hp), (fun p hp => nomatch hp), (fun p hp => nomatch hp)⟩
  refine (he.sub (fun p hp => ?_)).nilOf []
  simp only [List.mem_cons, List.append_nil, List.not_mem_nil, or_false] at hp ⊢
  rcases hp with rfl | rfl
  · right; unfold Hd.ob; simp
  · left; unfold Hd.ob; simp
theorem rsum_w {W : World} {s : Nat} (hs : 1 ≤ s ∧ s ≤ 32) {key D : List Int} (hkl : key.length ≤ 32) (hkb : Byb key) (hDb : Byb D) (hDl : D.length ≤ 200000) {kv dv : Value} (hk : Src W.heap.size W [] kv key) (hd : Src W.heap.size W [] dv D) :
    Calls Tryd.prog 12 #[.int .i64 (s : Int), kv, dv] W fun e w' => ∃ v, e = .returned (.tuple #[v, .int .i64 0]) ∧ Below W.heap.size W w' := by
  obtain ⟨ka, kc, rfl, _, _⟩ := id hk
  obtain ⟨da, dc, rfl, _, _⟩ := id hd
  refine (rsum_any W s hs key D _ _ rfl rfl hkl hkb hDb hDl ka da kc dc hk hd).mono ?_
  rintro e w' ⟨v, rfl, h⟩
  exact ⟨v, rfl, h.ev.old⟩
theorem err_at {q : Nat} {W w' : World} (h : Below q W w') (h2 : 2 ≤ q) {v : Value} (hE : W.cell? ⟨0, 0, none⟩ = some v) : w'.cell? ⟨0, 0, none⟩ = some v := (World.cell?_of_block (a := ⟨0, 0, none⟩) (h.block 0 (by omega))).trans hE
set_option maxRecDepth 100000 in
set_option maxHeartbeats 8000000 in
theorem two_refbb (n : Nat) (z1 : Int) (hz1 : z1 < 1 ∨ 32 < z1 ∨ 32 < n) (z2 : Int) (hz2 : z2 < 1 ∨ 32 < z2 ∨ 32 < (0 : Nat)) (key : List Int) (hkb : Byt key) (hkn : key.length = n) (a : Option Addr) (cap : Nat) (ms : Nat) (sa : Option Addr) (caps : Nat) (W : World) (q : Nat) (hq : W.heap.size = q) (hk : ∀ bx, Src q W bx (.slice a n cap) key) (hm : ms ≤ 400) (hnb : n ≤ 131072) (hB : Beg W) (hE : ∃ a, W.cell? ⟨0, 0, none⟩ = some (.iface 120 (.pointer (some a)))) :
    Calls Tryd.prog 6 #[.int .i64 z1, .int .i64 z2, .slice a n cap, .slice sa ms caps] W fun e w' => e = .returned (.bool true) ∧ Below q W w' := by
  have e0 := ev_nil' W
  rw [hq] at e0
  have E0 : Hid (Ev q W (.pointer none) [] [] W) := e0
  have HK : Hid ((∀ bx, Src q W bx (.slice a n cap) key) ∧ key.length = n ∧ Byt key) := ⟨hk, hkn, hkb⟩
  have HBE : Hid (Beg W ∧ 2 ≤ q ∧ ∃ a, W.cell? ⟨0, 0, none⟩ = some (.iface 120 (.pointer (some a)))) := ⟨hB, by rw [← hq]; exact hB.2, hE⟩
  obtain ⟨ea, hea⟩ := HBE.out.2.2
  have HEA : Hid (W.cell? ⟨0, 0, none⟩ = some (.iface 120 (.pointer (some ea)))) := hea
  have HZ1 : Hid (z1 < 1 ∨ 32 < z1 ∨ 32 < n) := hz1
  have HZ2 : Hid (z2 < 1 ∨ 32 < z2 ∨ 32 < (0 : Nat)) := hz2
  have b0 : ¬ (400 : Int) < (ms : Int) := by omega
  have b1 : ¬ (131072 : Int) < (n : Int) := by omega
  have CD1 : Hid _ := dnew_b E0.out HBE.out.2.1 HEA.out z1 a n cap HZ1.out
  clear hk hkn hkb e0 hq hB hE hea hz1 hz2 hm hnb 
  go_enter Tryd.func6, Tryd.ntmps6
  go_upto_region 4 with (first | (go_at_call 11; refine Calls.mono CD1.out ?_; rintro e w1 ⟨rfl, h1⟩; have CD2 : Hid _ := dnew_b h1 HBE.out.2.1 HEA.out z2 none 0 0 HZ2.out; clear h1 CD1))
  clear b0 b1
  go_upto_region 5 with (first | (go_at_call 11; refine Calls.mono CD2.out ?_; rintro e w2 ⟨rfl, h2⟩; have CS1 : Hid _ := rsum_bad w2 z1 a n cap (.slice none 0 0) HZ1.out; have H2 : Hid _ := h2; clear h2 CD2))
  go_upto_region 6 with (first | (go_at_call 12; refine Calls.mono CS1.out ?_; rintro e w3 ⟨rfl, hV⟩; have h3 : Ev q W (.pointer none) [] [] w3 := (by rw [hV]; exact H2.out); clear hV; have CS2 : Hid _ := rsum_bad w3 z2 none 0 0 (.slice none 0 0) HZ2.out; have H3 : Hid _ := h3; clear h3 CS1 H2))
  go_upto_region 7 with (first | (go_at_call 12; refine Calls.mono CS2.out ?_; rintro e w4 ⟨rfl, hV⟩; have h4 : Ev q W (.pointer none) [] [] w4 := (by rw [hV]; exact H3.out); clear hV; have CC1 : Hid (Calls Tryd.prog 13 #[(.iface 120 (.pointer (some ea)))] w4 fun e w' => e = .returned (.int .i64 1) ∧ w' = w4) := code_arg w4 ea (err_at h4.old HBE.out.2.1 HEA.out); have CC2 : Hid (Calls Tryd.prog 13 #[(.iface 120 (.pointer (some ea)))] w4 fun e w' => e = .returned (.int .i64 1) ∧ w' = w4) := code_arg w4 ea (err_at h4.old HBE.out.2.1 HEA.out); have CK : Hid (Calls Tryd.prog 18 #[] w4 fun e w' => e = .returned (.bool true) ∧ Below q W w') := known_at h4.old HBE.out.1 HBE.out.2.1 HBE.out.2.2 h4.le; clear h4 CS2 H3))
  go_wp2_with (first | (go_at_call 13; first | (refine Calls.mono CC1.out ?_; rintro e w5 ⟨rfl, hV⟩; obtain rfl := hV) | (refine Calls.mono CC2.out ?_; rintro e w5 ⟨rfl, hV⟩; obtain rfl := hV)) | (go_at_call 18; refine Calls.mono CK.out ?_; rintro e w9 ⟨rfl, h9⟩; have H9 : Hid _ := h9; clear h9 CK))
  go_ret
  exact ⟨rfl, H9.out⟩
set_option maxRecDepth 100000 in
set_option maxHeartbeats 8000000 in
theorem two_refbg (n : Nat) (z1 : Int) (hz1 : z1 < 1 ∨ 32 < z1 ∨ 32 < n) (s2 : Nat) (hz2 : 1 ≤ s2 ∧ s2 ≤ 32) (key : List Int) (hkb : Byt key) (hkn : key.length = n) (a : Option Addr) (cap : Nat) (ms : Nat) (sa : Option Addr) (caps : Nat) (W : World) (q : Nat) (hq : W.heap.size = q) (hk : ∀ bx, Src q W bx (.slice a n cap) key) (hm : ms ≤ 400) (hnb : n ≤ 131072) (hB : Beg W) (hE : ∃ a, W.cell? ⟨0, 0, none⟩ = some (.iface 120 (.pointer (some a)))) :
    Calls Tryd.prog 6 #[.int .i64 z1, .int .i64 (s2 : Int), .slice a n cap, .slice sa ms caps] W fun e w' => e = .returned (.bool true) ∧ Below q W w' := by
  have e0 := ev_nil' W
  rw [hq] at e0
  have E0 : Hid (Ev q W (.pointer none) [] [] W) := e0
  have HK : Hid ((∀ bx, Src q W bx (.slice a n cap) key) ∧ key.length = n ∧ Byt key) := ⟨hk, hkn, hkb⟩
  have HBE : Hid (Beg W ∧ 2 ≤ q ∧ ∃ a, W.cell? ⟨0, 0, none⟩ = some (.iface 120 (.pointer (some a)))) := ⟨hB, by rw [← hq]; exact hB.2, hE⟩
  obtain ⟨ea, hea⟩ := HBE.out.2.2
  have HEA : Hid (W.cell? ⟨0, 0, none⟩ = some (.iface 120 (.pointer (some ea)))) := hea
  have HZ1 : Hid (z1 < 1 ∨ 32 < z1 ∨ 32 < n) := hz1
  have HZ2 : Hid (1 ≤ s2 ∧ s2 ≤ 32) := hz2
  have b0 : ¬ (400 : Int) < (ms : Int) := by omega
  have b1 : ¬ (131072 : Int) < (n : Int) := by omega
  have CD1 : Hid _ := dnew_b E0.out HBE.out.2.1 HEA.out z1 a n cap HZ1.out
  clear hk hkn hkb e0 hq hB hE hea hz1 hz2 hm hnb 
  go_enter Tryd.func6, Tryd.ntmps6
  go_upto_region 4 with (first | (go_at_call 11; refine Calls.mono CD1.out ?_; rintro e w1 ⟨rfl, h1⟩; have CD2 : Hid _ := dnew_t h1 HBE.out.1 HBE.out.2.1 s2 HZ2.out (.slice none 0 0) [] (src_nil _ _ _) (by simp) (fun x hx => nomatch hx); clear h1 CD1))
  clear b0 b1
  go_upto_region 5 with (first | (go_at_call 11; refine Calls.mono CD2.out ?_; rintro e w2 ⟨g2, rfl, h2, _⟩; have CS1 : Hid _ := rsum_bad w2 z1 a n cap (.slice none 0 0) HZ1.out; have H2 : Hid _ := h2; clear h2 CD2))
  go_upto_region 6 with (first | (go_at_call 12; refine Calls.mono CS1.out ?_; rintro e w3 ⟨rfl, hV⟩; have h3 : Ev q W (.pointer none) [] [] w3 := (by rw [hV]; exact H2.out); clear hV; have CS2 : Hid _ := rsum_w (W := w3) HZ2.out (key := []) (D := []) (by simp) (fun x hx => nomatch hx) (fun x hx => nomatch hx) (by simp) (src_nil _ _ []) (src_nil _ _ []); have H3 : Hid _ := h3; clear h3 CS1 H2))
  go_upto_region 7 with (first | (go_at_call 12; refine Calls.mono CS2.out ?_; rintro e w4 ⟨v2, rfl, hb4⟩; have h4 := H3.out.below hb4; have CC1 : Hid (Calls Tryd.prog 13 #[(.iface 120 (.pointer (some ea)))] w4 fun e w' => e = .returned (.int .i64 1) ∧ w' = w4) := code_arg w4 ea (err_at h4.old HBE.out.2.1 HEA.out); have CC2 : Hid (Calls Tryd.prog 13 #[.nilIface] w4 fun e w' => e = .returned (.int .i64 0) ∧ w' = w4) := code_nil w4; have CK : Hid (Calls Tryd.prog 18 #[] w4 fun e w' => e = .returned (.bool true) ∧ Below q W w') := known_at h4.old HBE.out.1 HBE.out.2.1 HBE.out.2.2 h4.le; clear h4 CS2 H3))
  go_wp2_with (first | (go_at_call 13; first | (refine Calls.mono CC1.out ?_; rintro e w5 ⟨rfl, hV⟩; obtain rfl := hV) | (refine Calls.mono CC2.out ?_; rintro e w5 ⟨rfl, hV⟩; obtain rfl := hV)) | (go_at_call 18; refine Calls.mono CK.out ?_; rintro e w9 ⟨rfl, h9⟩; have H9 : Hid _ := h9; clear h9 CK))
  go_ret
  exact ⟨rfl, H9.out⟩
set_option maxRecDepth 100000 in
set_option maxHeartbeats 8000000 in
theorem two_refgb (n s1 : Nat) (hz1 : 1 ≤ s1 ∧ s1 ≤ 32) (hn1 : n ≤ 32) (z2 : Int) (hz2 : z2 < 1 ∨ 32 < z2 ∨ 32 < (0 : Nat)) (key : List Int) (hkb : Byt key) (hkn : key.length = n) (a : Option Addr) (cap : Nat) (ms : Nat) (sa : Option Addr) (caps : Nat) (W : World) (q : Nat) (hq : W.heap.size = q) (hk : ∀ bx, Src q W bx (.slice a n cap) key) (hm : ms ≤ 400) (hnb : n ≤ 131072) (hB : Beg W) (hE : ∃ a, W.cell? ⟨0, 0, none⟩ = some (.iface 120 (.pointer (some a)))) :
    Calls Tryd.prog 6 #[.int .i64 (s1 : Int), .int .i64 z2, .slice a n cap, .slice sa ms caps] W fun e w' => e = .returned (.bool true) ∧ Below q W w' := by
  have e0 := ev_nil' W
  rw [hq] at e0
  have E0 : Hid (Ev q W (.pointer none) [] [] W) := e0
  have HK : Hid ((∀ bx, Src q W bx (.slice a n cap) key) ∧ key.length = n ∧ Byt key) := ⟨hk, hkn, hkb⟩
  have HBE : Hid (Beg W ∧ 2 ≤ q ∧ ∃ a, W.cell? ⟨0, 0, none⟩ = some (.iface 120 (.pointer (some a)))) := ⟨hB, by rw [← hq]; exact hB.2, hE⟩
  obtain ⟨ea, hea⟩ := HBE.out.2.2
  have HEA : Hid (W.cell? ⟨0, 0, none⟩ = some (.iface 120 (.pointer (some ea)))) := hea
  have HZ1 : Hid ((1 ≤ s1 ∧ s1 ≤ 32) ∧ key.length ≤ 32) := ⟨hz1, by rw [hkn]; exact hn1⟩
  have HZ2 : Hid (z2 < 1 ∨ 32 < z2 ∨ 32 < (0 : Nat)) := hz2
  have b0 : ¬ (400 : Int) < (ms : Int) := by omega
  have b1 : ¬ (131072 : Int) < (n : Int) := by omega
  have CD1 : Hid _ := dnew_t E0.out HBE.out.1 HBE.out.2.1 s1 HZ1.out.1 _ key (HK.out.1 []) HZ1.out.2 HK.out.2.2
  clear hk hkn hkb e0 hq hB hE hea hz1 hz2 hm hnb hn1
  go_enter Tryd.func6, Tryd.ntmps6
  go_upto_region 4 with (first | (go_at_call 11; refine Calls.mono CD1.out ?_; rintro e w1 ⟨g1, rfl, h1, _⟩; have CD2 : Hid _ := dnew_b h1 HBE.out.2.1 HEA.out z2 none 0 0 HZ2.out; clear h1 CD1))
  clear b0 b1
  go_upto_region 5 with (first | (go_at_call 11; refine Calls.mono CD2.out ?_; rintro e w2 ⟨rfl, h2⟩; have CS1 : Hid _ := rsum_w (W := w2) (D := []) HZ1.out.1 HZ1.out.2 HK.out.2.2 (fun x hx => nomatch hx) (by simp) ((HK.out.1 []).at_ h2 []) (src_nil _ _ []); have H2 : Hid _ := h2; clear h2 CD2))
  go_upto_region 6 with (first | (go_at_call 12; refine Calls.mono CS1.out ?_; rintro e w3 ⟨v1, rfl, hb3⟩; have h3 := H2.out.below hb3; have CS2 : Hid _ := rsum_bad w3 z2 none 0 0 (.slice none 0 0) HZ2.out; have H3 : Hid _ := h3; clear h3 CS1 H2))
  go_upto_region 7 with (first | (go_at_call 12; refine Calls.mono CS2.out ?_; rintro e w4 ⟨rfl, hV⟩; have h4 : Ev q W (.pointer none) [] [] w4 := (by rw [hV]; exact H3.out); clear hV; have CC1 : Hid (Calls Tryd.prog 13 #[.nilIface] w4 fun e w' => e = .returned (.int .i64 0) ∧ w' = w4) := code_nil w4; have CC2 : Hid (Calls Tryd.prog 13 #[(.iface 120 (.pointer (some ea)))] w4 fun e w' => e = .returned (.int .i64 1) ∧ w' = w4) := code_arg w4 ea (err_at h4.old HBE.out.2.1 HEA.out); have CK : Hid (Calls Tryd.prog 18 #[] w4 fun e w' => e = .returned (.bool true) ∧ Below q W w') := known_at h4.old HBE.out.1 HBE.out.2.1 HBE.out.2.2 h4.le; clear h4 CS2 H3))
  go_wp2_with (first | (go_at_call 13; first | (refine Calls.mono CC1.out ?_; rintro e w5 ⟨rfl, hV⟩; obtain rfl := hV) | (refine Calls.mono CC2.out ?_; rintro e w5 ⟨rfl, hV⟩; obtain rfl := hV)) | (go_at_call 18; refine Calls.mono CK.out ?_; rintro e w9 ⟨rfl, h9⟩; have H9 : Hid _ := h9; clear h9 CK))
  go_ret
  exact ⟨rfl, H9.out⟩
end Go.Proofs.YtfkbgodfcnmepaaDoor
namespace Go.Proofs.YtfkbgodfcnmepaaDoor
set_option linter.unusedSimpArgs false
set_option linter.unusedVariables false
open Go.ChangeShapes Go.WideShapes Go.ChangeAt Go.RowKit Go.Pin Go.Str Go.Dig
theorem okA {ga s1 : Nat} {key X X' : List Int} {v : Value} (h1 : 1 ≤ s1 ∧ s1 ≤ 32) (h2 : key.length ≤ 32) (h3 : Byt key) (h4 : Byt X) (h5 : X.length ≤ 200000) (h6 : X'.length ≤ 200000) : Hd.ok ⟨ga, s1, key, X, X', v⟩ := ⟨h1, h2, h3, h4, h5, h6⟩
theorem T2.hid {q : Nat} {W : World} {x y : Hd} {ex : List (Nat × Obj)} {w' : World} (h : T2 q W x y ex w') : Hid (T2 q W x y ex w') := h
/-- a third one: begun, written to, summed up -/
theorem third {q : Nat} {W Y : World} (hY : Below q W Y) (hB : Beg W) (h2 : 2 ≤ q) (hle : q ≤ Y.heap.size) {s : Nat} (hs : 1 ≤ s ∧ s ≤ 32) {kv : Value} {key : List Int} (hk : Src Y.heap.size Y [] kv key) (h32 : key.length ≤ 32) (hkb : Byt key) :
    Calls Tryd.prog 11 #[.pointer none, .int .i64 (s : Int), kv] Y fun e w1 => ∃ g, e = .returned (.tuple #[.pointer (some ⟨g, 0, none⟩), .nilIface]) ∧ Calls Tryd.prog 23 #[.pointer (some ⟨g, 0, none⟩), .slice (some ⟨w1.heap.size, 0, none⟩) 1 1] (w1.alloc (.cells #[.int .u8 7] 5)) fun e w2 => e = .returned (.tuple #[]) ∧ Calls Tryd.prog 22 #[.pointer (some ⟨g, 0, none⟩)] w2 fun e w3 => ∃ v, e = .returned v ∧ Below Y.heap.size Y w3 := by
  have hBY := hB.below hY h2
  have h2Y : 2 ≤ Y.heap.size := by omega
  refine (dnew_t (ev_nil' Y) hBY h2Y s hs kv key hk h32 hkb).mono ?_
  rintro e w1 ⟨g, rfl, _, b, k1, k2⟩
  refine ⟨g, rfl, ?_⟩
  have k3 := k2.new (.cells (VI .u8 [7]) 5)
  have hg := k2.lt mem0
  have hsw : Ev Y.heap.size Y (.pointer none) [] ((g, hst (.pointer none) s (h0 s key.length) (fil key ++ []) b) :: [(w1.heap.size, .cells (VI .u8 [7]) 5)]) (w1.alloc (.cells (VI .u8 [7]) 5)) := k3.flip
  have hfl : (fil key ++ ([] : List Int)).length ≤ 64 := by rw [List.append_nil, fil_len key h32]; split <;> omega
  refine (dwrite_src (D := [7]) k1 hsw (h0_s8 hs.2 h32) (fun hr => absurd rfl hr) (fun p hp => by rw [List.mem_singleton.1 hp]; exact fun e => by simp at e; omega) (src_box (L := [7]) mem0 0 1 1 (by decide) (by decide)) (fun x hx => by rw [List.mem_singleton.1 hx]; decide) (by simp at hfl ⊢; omega) hBY h2Y).mono ?_
  rintro e w2 ⟨rfl, b2, k4, k5⟩
  refine ⟨rfl, ?_⟩
  refine (dsum_any k4 k5 (h0_s8 hs.2 h32) hs.2 (fun hr => absurd rfl hr) (fun p hp => by rw [List.mem_singleton.1 hp]; exact fun e => by simp at e; omega) (by simp at hfl ⊢; omega) hBY h2Y).mono ?_
  rintro e w3 ⟨g2, rfl, _, k6⟩
  exact ⟨_, rfl, k6.old⟩
set_option maxRecDepth 100000 in
set_option maxHeartbeats 40000000 in
theorem two_main (n s1 s2 : Nat) (hz1 : 1 ≤ s1 ∧ s1 ≤ 32) (hz2 : 1 ≤ s2 ∧ s2 ≤ 32) (hn1 : n ≤ 32) (key : List Int) (hkb : Byt key) (hkn : key.length = n) (a : Option Addr) (cap : Nat) (S : List Stp) (sa : Option Addr) (caps : Nat) (W : World) (q : Nat) (hq : W.heap.size = q) (hk : ∀ bx, Src q W bx (.slice a n cap) key) (ms : Nat) (hms : S.length = ms) (hm : ms ≤ 400) (hS : Scr W sa S) (hb : ∀ q ∈ S, Byt q.2 ∧ q.2.length ≤ maxLen) (hB : Beg W) (hE : ∃ a, W.cell? ⟨0, 0, none⟩ = some (.iface 120 (.pointer (some a)))) :
    Calls Tryd.prog 6 #[.int .i64 (s1 : Int), .int .i64 (s2 : Int), .slice a n cap, .slice sa ms caps] W fun e w' => e = .returned (.bool true) ∧ Below q W w' := by
  have e0 := ev_nil' W
  rw [hq] at e0
  have E0 : Hid (Ev q W (.pointer none) [] [] W) := e0
  have HSC : Hid (∀ i, i < ms → ∃ b o u, sa = some ⟨b, o, none⟩ ∧ (∀ Y, Below q W Y → Y.cell? ⟨b, o + i * 2, none⟩ = some (.bool (S.getD i (false, [])).1) ∧ Y.cell? ⟨b, o + i * 2 + 1, none⟩ = some u) ∧ (∀ bx, Src q W bx u (S.getD i (false, [])).2) ∧ Byt (S.getD i (false, [])).2 ∧ (S.getD i (false, [])).2.length ≤ maxLen) := fun i hi => scr_at hq hS hb i (by rw [hms]; exact hi)
  have HK : Hid ((∀ bx, Src q W bx (.slice a n cap) key) ∧ key.length = n ∧ Byt key ∧ key.length ≤ 32 ∧ ms ≤ 400) := ⟨hk, hkn, hkb, by rw [hkn]; exact hn1, hm⟩
  have HBE : Hid (Beg W ∧ 2 ≤ q ∧ ∃ a, W.cell? ⟨0, 0, none⟩ = some (.iface 120 (.pointer (some a)))) := ⟨hB, by rw [← hq]; exact hB.2, hE⟩
  have HZ : Hid ((1 ≤ s1 ∧ s1 ≤ 32) ∧ (1 ≤ s2 ∧ s2 ≤ 32)) := ⟨hz1, hz2⟩
  have b0 : ¬ (400 : Int) < (ms : Int) := by omega
  have b1 : ¬ (131072 : Int) < (n : Int) := by omega
  have CD1 : Hid _ := dnew_t E0.out HBE.out.1 HBE.out.2.1 s1 HZ.out.1 _ key (HK.out.1 []) HK.out.2.2.2.1 HK.out.2.2.1
  clear hk hkn hkb e0 hq hB hE hz1 hz2 hm hn1 hS hb hms
  go_enter Tryd.func6, Tryd.ntmps6
  go_upto_region 4 with (first | (go_at_call 11; refine Calls.mono CD1.out ?_; rintro e w1 ⟨ga, rfl, _, bh, hbh, h1⟩; have CD2 : Hid _ := dnew_2 hbh h1 HBE.out.1 HBE.out.2.1 s2 HZ.out.2; clear h1 hbh CD1))
  clear b0 b1 E0
  go_upto_region 5 with (first | (go_at_call 11; refine Calls.mono CD2.out ?_; rintro e w2 ⟨gb, rfl, h2⟩; have CS1 : Hid _ := rsum_w (W := w2) (D := []) HZ.out.1 HK.out.2.2.2.1 HK.out.2.2.1 (fun x hx => nomatch hx) (by simp) (h2.at_ (HK.out.1 []) []) (src_nil _ _ []); have H2 := h2.hid; clear h2 CD2))
  go_upto_region 6 with (first | (go_at_call 12; refine Calls.mono CS1.out ?_; rintro e w3 ⟨v1, rfl, hb3⟩; have H3 := (H2.out.below hb3).hid; have CS2 : Hid _ := rsum_w (W := w3) HZ.out.2 (key := []) (D := []) (by simp) (fun x hx => nomatch hx) (fun x hx => nomatch hx) (by simp) (src_nil _ _ []) (src_nil _ _ []); clear hb3 CS1 H2))
  go_upto_region 7 with (first | (go_at_call 12; refine Calls.mono CS2.out ?_; rintro e w4 ⟨v2, rfl, hb4⟩; have H4 := (H3.out.below hb4).hid; have CC1 : Hid _ := code_nil w4; clear hb4 CS2 H3))
  go_wp2_with (first | (go_at_call 13; refine Calls.mono CC1.out ?_; rintro e w5 ⟨rfl, hV⟩; obtain rfl := hV))
  clear CC1
  go_loopw [17, 18, 19] (fun vx vy vi w' => ∃ (i : Nat) (X Y : List Int), i ≤ ms ∧ vi = .int .i64 (i : Int) ∧ (X.length + Y.length ≤ 131072 ∧ Byt X ∧ Byt Y) ∧ T2 q W ⟨ga, s1, key, X, X, vx⟩ ⟨gb, s2, [], Y, Y, vy⟩ [] w') (fun _ _ vi _ => ms - (intOf vi).toNat)
  case atStart => exact ⟨0, [], [], Nat.zero_le _, rfl, ⟨by simp, (fun x hx => nomatch hx), (fun x hx => nomatch hx)⟩, H4.out⟩
  case round =>
    clear H4
    obtain ⟨i, X, Y, hi, rfl, hXY, hts⟩ := hrel
    obtain ⟨tx, htx⟩ : ∃ t, X.length = t := ⟨_, rfl⟩
    obtain ⟨ty, hty⟩ : ∃ t, Y.length = t := ⟨_, rfl⟩
    obtain ⟨ax, cx, rfl⟩ : ∃ ax cx, u17 = .slice ax tx cx := T2.slice (x := ⟨ga, s1, key, X, X, u17⟩) hts htx
    obtain ⟨ay, cy, rfl⟩ : ∃ ay cy, u18 = .slice ay ty cy := T2.slice (x := ⟨gb, s2, [], Y, Y, u18⟩) hts.swap hty
    have HXY : Hid (X.length + Y.length ≤ 131072 ∧ Byt X ∧ Byt Y) := hXY
    have HTL : Hid (X.length = tx ∧ Y.length = ty ∧ tx + ty ≤ 131072) := ⟨htx, hty, by rw [← htx, ← hty]; exact hXY.1⟩
    have HTS : Hid (T2 q W ⟨ga, s1, key, X, X, (.slice ax tx cx)⟩ ⟨gb, s2, [], Y, Y, (.slice ay ty cy)⟩ [] wr) := hts
    have HOK : Hid (Hd.ok ⟨ga, s1, key, X, X, (.slice ax tx cx)⟩ ∧ Hd.ok ⟨gb, s2, [], Y, Y, (.slice ay ty cy)⟩) := ⟨okA HZ.out.1 HK.out.2.2.2.1 HK.out.2.2.1 hXY.2.1 (by omega) (by omega), okA HZ.out.2 (by simp) (fun x hx => nomatch hx) hXY.2.2 (by omega) (by omega)⟩
    clear hXY hts htx hty
    by_cases hlt : i < ms
    · have b1 : (i : Int) < (ms : Int) := by omega
      obtain ⟨b, o, u, rfl, hcc, hsu, hDb, hDm⟩ := HSC.out i hlt
      obtain ⟨D, hD⟩ : ∃ D, (S.getD i (false, [])).2 = D := ⟨_, rfl⟩
      obtain ⟨ask, hask⟩ : ∃ k, (S.getD i (false, [])).1 = k := ⟨_, rfl⟩
      rw [hD] at hsu hDb hDm
      rw [hask] at hcc
      have HCC : Hid (∀ Y, Below q W Y → Y.cell? ⟨b, o + i * 2, none⟩ = some (.bool ask) ∧ Y.cell? ⟨b, o + i * 2 + 1, none⟩ = some u) := hcc
      obtain ⟨c1, c2⟩ := hcc wr HTS.out.old
      obtain ⟨au, cu, rfl, _, _⟩ := id (hsu [])
      obtain ⟨m, hm⟩ : ∃ m, D.length = m := ⟨_, rfl⟩
      have HD : Hid (Byt D ∧ D.length = m ∧ (∀ bx, Src q W bx (.slice au m cu) D)) := ⟨hDb, hm, by rw [← hm]; exact hsu⟩
      have HIN : Hid (i < ms ∧ ms ≤ 400) := ⟨hlt, HK.out.2.2.2.2⟩
      rw [hm] at c2
      have HWL : Hid (∃ rx r, tx + rx = 131072 ∧ rx = ty + r ∧ wrap64 (131072 - (tx : Int)) = (rx : Int) ∧ IntKind.i64.wrap (131072 - (tx : Int)) = (rx : Int) ∧ wrap64 ((rx : Int) - (ty : Int)) = (r : Int) ∧ IntKind.i64.wrap ((rx : Int) - (ty : Int)) = (r : Int)) := by
        have hb3 := HTL.out.2.2
        have k1 := wrapL (m := tx) (by omega)
        have k2 := wrapL2 (a := 131072 - tx) (b := ty) (by omega) (by omega)
        exact ⟨131072 - tx, 131072 - tx - ty, by omega, by omega, k1.1, k1.2, k2.1, k2.2⟩
      clear hcc hsu hDb hDm hD hask hm hi
      obtain ⟨rx, r, hrx, hr, hwr⟩ := HWL.out
      have HWR : Hid _ := hwr
      clear hwr HWL
      by_cases hgt : r < m
      · have b2 : (r : Int) < (m : Int) := by omega
        have HF : Hid (Below q W wr) := HTS.out.old
        obtain ⟨w1, w2, w3, w4⟩ := HWR.out
        clear hrx hr
        go_wp2
        go_ret
        exact ⟨rfl, HF.out⟩
      · have b2 : ¬ (r : Int) < (m : Int) := by omega
        have HMT : Hid (tx + ty + m ≤ 131072 ∧ m ≤ 131072) := ⟨by omega, by omega⟩
        have HXD : Hid (Byt (X ++ D) ∧ Byt (Y ++ D) ∧ (X ++ D).length = tx + m ∧ (Y ++ D).length = ty + m) := by
          have : Byt (X ++ D) ∧ Byt (Y ++ D) ∧ (X ++ D).length = tx + m ∧ (Y ++ D).length = ty + m := ⟨byt_app HXY.out.2.1 HD.out.1, byt_app HXY.out.2.2 HD.out.1, by rw [List.length_append, HTL.out.1, HD.out.2.1], by rw [List.length_append, HTL.out.2.1, HD.out.2.1]⟩
          exact this
        obtain ⟨w1, w2, w3, w4⟩ := HWR.out
        clear hrx hr hgt
        go_upto_if 122 with fail
        go_cut [17, 18] (fun vx vy wx => ∃ X2 Y2 : List Int, (X2.length + Y2.length ≤ 131072 ∧ Byt X2 ∧ Byt Y2) ∧ T2 q W ⟨ga, s1, key, X2, X2, vx⟩ ⟨gb, s2, [], Y2, Y2, vy⟩ [] wx)
        case first =>
          clear w1 w2 w3 w4
          by_cases hpar : i % 2 = 0
          · have b3 : (i : Int) % 2 = 0 := by omega
            have b4 : ((i : Int) % 2 == 0) = true := by simp; omega
            have b5 : (2 : Int) ∣ (i : Int) := by omega
            have CW : Hid (Calls Tryd.prog 23 #[.pointer (some ⟨ga, 0, none⟩), .slice au m cu] wr fun e w' => e = .returned (.tuple #[]) ∧ T2 q W ⟨ga, s1, key, X ++ D, X, .slice ax tx cx⟩ ⟨gb, s2, [], Y, Y, .slice ay ty cy⟩ [] w') := T2.write (x := ⟨ga, s1, key, X, X, .slice ax tx cx⟩) HTS.out HOK.out.1 HBE.out.1 HBE.out.2.1 HD.out.1 (HD.out.2.2 []) (by show X.length + D.length ≤ 200000; rw [HD.out.2.1, HTL.out.1]; have := HMT.out.1; omega)
            go_wp2_with (first | (go_at_call 23; refine Calls.mono CW.out ?_; rintro e w3 ⟨rfl, h3⟩; have HAP : Hid _ := fun ty' => T2.app (x := ⟨ga, s1, key, X ++ D, X, .slice ax tx cx⟩) (u := .slice au m cu) h3 (okA HZ.out.1 HK.out.2.2.2.1 HK.out.2.2.1 HXD.out.1 (by rw [HXD.out.2.2.1]; have := HMT.out.1; omega) (by rw [HTL.out.1]; have := HMT.out.1; omega)) (HD.out.2.2 []) (by rw [HD.out.2.1]; have := HMT.out.2; omega) ty'; clear h3) | (at_builtin; refine wpList_app _ rfl (.tmp 126) (.tmp 127) 22 22 rfl _ _ rfl rfl HAP.out ?_; intro v5 w5 h5; have H5 := T2.hid h5; clear h5))
            go_meet
            exact ⟨X ++ D, Y, ⟨by rw [HXD.out.2.2.1, HTL.out.2.1]; have := HMT.out.1; omega, HXD.out.1, HXY.out.2.2⟩, H5.out⟩
          · have b3 : ¬ (i : Int) % 2 = 0 := by omega
            have b4 : ((i : Int) % 2 == 0) = false := by simp; omega
            have b5 : ¬ (2 : Int) ∣ (i : Int) := by omega
            have CW : Hid (Calls Tryd.prog 23 #[.pointer (some ⟨gb, 0, none⟩), .slice au m cu] wr fun e w' => e = .returned (.tuple #[]) ∧ T2 q W ⟨gb, s2, [], Y ++ D, Y, .slice ay ty cy⟩ ⟨ga, s1, key, X, X, .slice ax tx cx⟩ [] w') := T2.write (x := ⟨gb, s2, [], Y, Y, .slice ay ty cy⟩) HTS.out.swap HOK.out.2 HBE.out.1 HBE.out.2.1 HD.out.1 (HD.out.2.2 []) (by show Y.length + D.length ≤ 200000; rw [HD.out.2.1, HTL.out.2.1]; have := HMT.out.1; omega)
            go_wp2_with (first | (go_at_call 23; refine Calls.mono CW.out ?_; rintro e w3 ⟨rfl, h3⟩; have HAP : Hid _ := fun ty' => T2.app (x := ⟨gb, s2, [], Y ++ D, Y, .slice ay ty cy⟩) (u := .slice au m cu) h3 (okA HZ.out.2 (by simp) (fun x hx => nomatch hx) HXD.out.2.1 (by rw [HXD.out.2.2.2]; have := HMT.out.1; omega) (by rw [HTL.out.2.1]; have := HMT.out.1; omega)) (HD.out.2.2 []) (by rw [HD.out.2.1]; have := HMT.out.2; omega) ty'; clear h3) | (at_builtin; refine wpList_app _ rfl (.tmp 132) (.tmp 133) 22 22 rfl _ _ rfl rfl HAP.out ?_; intro v5 w5 h5; have H5 := T2.hid h5; clear h5))
            go_meet
            exact ⟨X, Y ++ D, ⟨by rw [HXD.out.2.2.2, HTL.out.1]; have := HMT.out.1; omega, HXY.out.2.1, HXD.out.2.1⟩, H5.out.swap⟩
        case rest =>
          clear w1 w2 w3 w4 c1 c2
          obtain ⟨X2, Y2, hx2, hts2⟩ := hcut
          have HX2 : Hid (X2.length + Y2.length ≤ 131072 ∧ Byt X2 ∧ Byt Y2) := hx2
          have HT2 : Hid (T2 q W ⟨ga, s1, key, X2, X2, u17⟩ ⟨gb, s2, [], Y2, Y2, u18⟩ [] _) := hts2
          clear hx2 hts2 HTS HXY HTL HXD HMT HWR HD HOK
          have HOK : Hid (Hd.ok ⟨ga, s1, key, X2, X2, u17⟩ ∧ Hd.ok ⟨gb, s2, [], Y2, Y2, u18⟩) := ⟨okA HZ.out.1 HK.out.2.2.2.1 HK.out.2.2.1 HX2.out.2.1 (by have := HX2.out.1; omega) (by have := HX2.out.1; omega), okA HZ.out.2 (by simp) (fun x hx => nomatch hx) HX2.out.2.2 (by have := HX2.out.1; omega) (by have := HX2.out.1; omega)⟩
          have CN3 : Hid _ := third HT2.out.old HBE.out.1 HBE.out.2.1 HT2.out.le HZ.out.2 (HT2.out.at_ (HK.out.1 []) []) HK.out.2.2.2.1 HK.out.2.2.1
          go_upto_if 136 with fail
          go_cut [21, 22] (fun _ _ wx => T2 q W ⟨ga, s1, key, X2, X2, u17⟩ ⟨gb, s2, [], Y2, Y2, u18⟩ [] wx)
          case first =>
            by_cases hi1 : i = 1
            · have b7 : ((i : Int) == 1) = true := by simp; omega
              clear hi1
              go_wp2_with (first | (go_at_call 11; refine Calls.mono CN3.out ?_; rintro e w6 ⟨gc, rfl, cw⟩; have CW3 : Hid _ := cw; clear cw CN3) | (go_at_call 23; refine Calls.mono CW3.out ?_; rintro e w7 ⟨rfl, ct⟩; have CT3 : Hid _ := ct; clear ct CW3) | (go_at_call 22; refine Calls.mono CT3.out ?_; rintro e w8 ⟨v8, rfl, hb8⟩; have H8 := (T2.below HT2.out hb8).hid; clear hb8 CT3))
              go_meet
              exact H8.out
            · have b6 : ¬ (i : Int) = 1 := by omega
              have b7 : ((i : Int) == 1) = false := by simp; omega
              go_wp2_with fail
              go_meet
              exact HT2.out
          case rest =>
            have HT3 : Hid (T2 q W ⟨ga, s1, key, X2, X2, u17⟩ ⟨gb, s2, [], Y2, Y2, u18⟩ [] _) := hcut
            clear hcut HT2 CN3
            have CR1 : Hid _ := T2.ref (x := ⟨ga, s1, key, X2, X2, u17⟩) HT3.out HOK.out.1 HX2.out.2.1 (HK.out.1 []) (T2.list HT3.out) HX2.out.2.1 HOK.out.1.2.2.2.2.1
            go_upto_region 29 with (first | (go_at_call 12; refine Calls.mono CR1.out ?_; rintro e w6 ⟨v1, lb1, rfl, h6, hv1⟩; have CR2 : Hid _ := T2.ref (x := ⟨gb, s2, [], Y2, Y2, u18⟩) h6.swap HOK.out.2 HX2.out.2.2 (src_nil _ _ []) (T2.list h6.swap) HX2.out.2.2 HOK.out.2.2.2.2.2.1; have HV1 : Hid (Src q W (lb1 ++ []) v1 (dig s1 key X2)) := hv1; clear h6 hv1 CR1))
            go_upto_region 30 with (first | (go_at_call 12; refine Calls.mono CR2.out ?_; rintro e w7 ⟨v2, lb2, rfl, h7, hv2⟩; have H7 : Hid (T2 q W ⟨ga, s1, key, X2, X2, u17⟩ ⟨gb, s2, [], Y2, Y2, u18⟩ (lb2 ++ (lb1 ++ [])) w7) := h7.swap; have HV2 : Hid (Src q W (lb2 ++ (lb1 ++ [])) v2 (dig s2 [] Y2)) := hv2; have HV1' : Hid (Src q W (lb2 ++ (lb1 ++ [])) v1 (dig s1 key X2)) := HV1.out.sub (fun p hp => List.mem_append_right _ hp); clear h7 hv2 CR2 HV1))
            clear HT3
            have HXY2 : Hid (X2.length + Y2.length ≤ 131072 ∧ Byt X2 ∧ Byt Y2) := HX2.out
            obtain ⟨cA, _⟩ := HCC.out w7 H7.out.old
            cases ask
            · go_wp2_with fail
              go_roundw
              case rel => exact ⟨i + 1, X2, Y2, HIN.out.1, by rw [wrapS HIN.out.1 (by have := HIN.out.2; unfold maxLen; omega)]; exact congrArg (Value.int .i64) (by omega), HXY2.out, T2.drop H7.out (fun p hp => nomatch hp)⟩
              case measure => exact measS HIN.out.1 (by have := HIN.out.2; unfold maxLen; omega)
            · have HDL : Hid ((dig s1 key X2).length ≤ 1000000 ∧ (dig s2 [] Y2).length ≤ 1000000) := by
                have : (dig s1 key X2).length ≤ 1000000 ∧ (dig s2 [] Y2).length ≤ 1000000 := ⟨by rw [dig_len]; have := HZ.out.1.2; omega, by rw [dig_len]; have := HZ.out.2.2; omega⟩
                exact this
              have CS1 : Hid _ := T2.sum (x := ⟨ga, s1, key, X2, X2, u17⟩) H7.out HOK.out.1 HBE.out.1 HBE.out.2.1
              go_wp2_with (first | (go_at_call 22; first | (refine Calls.mono CS1.out ?_; rintro e w8 ⟨g8, rfl, h8, hr8⟩; have H8 := h8.hid; have CQ1 : Hid _ := same_any _ _ (dig s1 key X2) HDL.out.1 w8 hr8 (h8.rb HV1'.out); clear h8 hr8 CS1) | (refine Calls.mono CS2.out ?_; rintro e w10 ⟨g10, rfl, h10, hr10⟩; have H10 := h10.hid; have CQ2 : Hid _ := same_any _ _ (dig s2 [] Y2) HDL.out.2 w10 hr10 (h10.rb HV2.out); clear h10 hr10 CS2)) | (go_at_call 21; first | (refine Calls.mono CQ1.out ?_; rintro e w9 ⟨rfl, hb9⟩; have H9 := (T2.below H8.out hb9).hid; have CS2 : Hid _ := T2.sum (x := ⟨gb, s2, [], Y2, Y2, u18⟩) H9.out.swap HOK.out.2 HBE.out.1 HBE.out.2.1; clear hb9 CQ1 H8) | (refine Calls.mono CQ2.out ?_; rintro e w11 ⟨rfl, hb11⟩; have h11 := T2.below H10.out hb11; have H11 := h11.hid;  clear hb11 h11 CQ2 H10)))
              go_roundw
              case rel => exact ⟨i + 1, X2, Y2, HIN.out.1, by rw [wrapS HIN.out.1 (by have := HIN.out.2; unfold maxLen; omega)]; exact congrArg (Value.int .i64) (by omega), HXY2.out, T2.drop (T2.swap H11.out) (fun p hp => nomatch hp)⟩
              case measure => exact measS HIN.out.1 (by have := HIN.out.2; unfold maxLen; omega)
    · have b1 : ¬ (i : Int) < (ms : Int) := by omega
      clear hlt hi
      have CR1 : Hid _ := T2.ref (x := ⟨ga, s1, key, X, X, (.slice ax tx cx)⟩) HTS.out HOK.out.1 HXY.out.2.1 (HK.out.1 []) (T2.list HTS.out) HXY.out.2.1 HOK.out.1.2.2.2.2.1
      go_upto_region 33 with (first | (go_at_call 12; refine Calls.mono CR1.out ?_; rintro e w6 ⟨v1, lb1, rfl, h6, hv1⟩; have CR2 : Hid _ := T2.ref (x := ⟨gb, s2, [], Y, Y, (.slice ay ty cy)⟩) h6.swap HOK.out.2 HXY.out.2.2 (src_nil _ _ []) (T2.list h6.swap) HXY.out.2.2 HOK.out.2.2.2.2.2.1; have HV1 : Hid (Src q W (lb1 ++ []) v1 (dig s1 key X)) := hv1; clear h6 hv1 CR1))
      go_upto_region 34 with (first | (go_at_call 12; refine Calls.mono CR2.out ?_; rintro e w7 ⟨v2, lb2, rfl, h7, hv2⟩; have H7 : Hid (T2 q W ⟨ga, s1, key, X, X, (.slice ax tx cx)⟩ ⟨gb, s2, [], Y, Y, (.slice ay ty cy)⟩ (lb2 ++ (lb1 ++ [])) w7) := h7.swap; have HV2 : Hid (Src q W (lb2 ++ (lb1 ++ [])) v2 (dig s2 [] Y)) := hv2; have HV1' : Hid (Src q W (lb2 ++ (lb1 ++ [])) v1 (dig s1 key X)) := HV1.out.sub (fun p hp => List.mem_append_right _ hp); clear h7 hv2 CR2 HV1))
      clear HTS
      have HDL : Hid ((dig s1 key X).length ≤ 1000000 ∧ (dig s2 [] Y).length ≤ 1000000) := by
        have : (dig s1 key X).length ≤ 1000000 ∧ (dig s2 [] Y).length ≤ 1000000 := ⟨by rw [dig_len]; have := HZ.out.1.2; omega, by rw [dig_len]; have := HZ.out.2.2; omega⟩
        exact this
      have CS1 : Hid _ := T2.sum (x := ⟨ga, s1, key, X, X, (.slice ax tx cx)⟩) H7.out HOK.out.1 HBE.out.1 HBE.out.2.1
      go_wp2_with (first | (go_at_call 22; first | (refine Calls.mono CS1.out ?_; rintro e w8 ⟨g8, rfl, h8, hr8⟩; have H8 := h8.hid; have CQ1 : Hid _ := same_any _ _ (dig s1 key X) HDL.out.1 w8 hr8 (h8.rb HV1'.out); clear h8 hr8 CS1) | (refine Calls.mono CS2.out ?_; rintro e w10 ⟨g10, rfl, h10, hr10⟩; have H10 := h10.hid; have CQ2 : Hid _ := same_any _ _ (dig s2 [] Y) HDL.out.2 w10 hr10 (h10.rb HV2.out); clear h10 hr10 CS2)) | (go_at_call 21; first | (refine Calls.mono CQ1.out ?_; rintro e w9 ⟨rfl, hb9⟩; have H9 := (T2.below H8.out hb9).hid; have CS2 : Hid _ := T2.sum (x := ⟨gb, s2, [], Y, Y, (.slice ay ty cy)⟩) H9.out.swap HOK.out.2 HBE.out.1 HBE.out.2.1; clear hb9 CQ1 H8) | (refine Calls.mono CQ2.out ?_; rintro e w11 ⟨rfl, hb11⟩; have h11 := T2.below H10.out hb11; have H11 := h11.hid; have CK : Hid (Calls Tryd.prog 18 #[] w11 fun e w' => e = .returned (.bool true) ∧ Below q W w') := known_at h11.old HBE.out.1 HBE.out.2.1 HBE.out.2.2 h11.le; clear hb11 h11 CQ2 H10)) | (go_at_call 18; refine Calls.mono CK.out ?_; rintro e w12 ⟨rfl, h12⟩; have H12 : Hid _ := h12; clear h12 CK))
      go_ret
      exact ⟨rfl, H12.out⟩
end Go.Proofs.YtfkbgodfcnmepaaDoor
namespace Go.Proofs.YtfkbgodfcnmepaaDoor
set_option linter.unusedSimpArgs false
set_option linter.unusedVariables false
open Go.ChangeShapes Go.WideShapes Go.ChangeAt Go.RowKit Go.Pin Go.Str Go.Dig
set_option maxRecDepth 100000 in
set_option maxHeartbeats 8000000 in
theorem two_walk (z1 z2 : Int) (key : List Int) (hkb : Byt key) (a : Option Addr) (n cap : Nat) (W : World) (hR : RdB W (.slice a n cap) key) (S : List Stp) (sa : Option Addr) (caps : Nat) (hS : Scr W sa S) (hb : ∀ q ∈ S, Byt q.2 ∧ q.2.length ≤ maxLen) (hB : Beg W) (hE : ∃ a, W.cell? ⟨0, 0, none⟩ = some (.iface 120 (.pointer (some a)))) :
    Calls Tryd.prog 6 #[.int .i64 z1, .int .i64 z2, .slice a n cap, .slice sa S.length caps] W fun e w' => e = .returned (.bool true) ∧ Below W.heap.size W w' := by
  obtain ⟨q, hq⟩ : ∃ q, W.heap.size = q := ⟨_, rfl⟩
  obtain ⟨ms, hms⟩ : ∃ ms, S.length = ms := ⟨_, rfl⟩
  have hkn := (rdb_at hq hR).1
  have hk : ∀ bx, Src q W bx (.slice a n cap) key := fun bx => by rw [← hq]; exact hR.src bx
  rw [hq, hms]
  by_cases hm : ms ≤ 400
  · by_cases hn : n ≤ 131072
    · by_cases h1 : z1 < 1 ∨ 32 < z1 ∨ 32 < n
      · by_cases h2 : z2 < 1 ∨ 32 < z2 ∨ 32 < (0 : Nat)
        · exact two_refbb n z1 h1 z2 h2 key hkb hkn a cap ms sa caps W q hq hk hm hn hB hE
        · obtain ⟨s2, rfl⟩ : ∃ s : Nat, z2 = (s : Int) := ⟨z2.toNat, by omega⟩
          exact two_refbg n z1 h1 s2 (by omega) key hkb hkn a cap ms sa caps W q hq hk hm hn hB hE
      · obtain ⟨s1, rfl⟩ : ∃ s : Nat, z1 = (s : Int) := ⟨z1.toNat, by omega⟩
        by_cases h2 : z2 < 1 ∨ 32 < z2 ∨ 32 < (0 : Nat)
        · exact two_refgb n s1 (by omega) (by omega) z2 h2 key hkb hkn a cap ms sa caps W q hq hk hm hn hB hE
        · obtain ⟨s2, rfl⟩ : ∃ s : Nat, z2 = (s : Int) := ⟨z2.toNat, by omega⟩
          exact two_main n s1 s2 (by omega) (by omega) (by omega) key hkb hkn a cap S sa caps W q hq hk ms hms hm hS hb hB hE
    · have b0 : ¬ (400 : Int) < (ms : Int) := by omega
      have b1 : (131072 : Int) < (n : Int) := by omega
      have b1' : 131072 < n := by omega
      have HB0 : Hid (Below q W W) := Below.refl _ _
      clear hk hkn hR hS hb hB hE hms
      go_enter Tryd.func6, Tryd.ntmps6
      go_wp2
      go_ret
      exact ⟨rfl, HB0.out⟩
  · have b0 : (400 : Int) < (ms : Int) := by omega
    have b0' : 400 < ms := by omega
    have HB0 : Hid (Below q W W) := Below.refl _ _
    clear hk hkn hR hS hb hB hE hms
    go_enter Tryd.func6, Tryd.ntmps6
    go_wp2
    go_ret
    exact ⟨rfl, HB0.out⟩
end Go.Proofs.YtfkbgodfcnmepaaDoor
