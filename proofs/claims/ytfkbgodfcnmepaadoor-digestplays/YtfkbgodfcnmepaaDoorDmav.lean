import Derived.Test.YtfkbgodfcnmepaaDoorDmar
import Derived.Test.YtfkbgodfcnmepaaDoorDmas
import Derived.Test.YtfkbgodfcnmepaaDoorDmau
namespace Go.Proofs.YtfkbgodfcnmepaaDoor
set_option linter.unusedSimpArgs false
set_option linter.unusedVariables false
open Go.ChangeShapes Go.WideShapes Go.ChangeAt Go.RowKit Go.Pin Go.Str Go.Dig
/-- a Hash, what it has taken, and a list beside it -/
structure Hd where
  g : Nat
  s : Nat
  key : List Int
  H : List Int
  X : List Int
  v : Value
def Hd.ok (x : Hd) : Prop := (1 ≤ x.s ∧ x.s ≤ 32) ∧ x.key.length ≤ 32 ∧ Byt x.key ∧ Byt x.H ∧ x.H.length ≤ 200000 ∧ x.X.length ≤ 200000
def Hd.ob (x : Hd) (b : List Int) : Obj := hst (.pointer none) x.s (h0 x.s x.key.length) (fil x.key ++ x.H) b
theorem Hd.ok.s8 {x : Hd} (h : x.ok) : S8 (h0 x.s x.key.length) := h0_s8 h.1.2 h.2.1
theorem Hd.ok.len {x : Hd} (h : x.ok) : (fil x.key ++ x.H).length ≤ 200064 := by
  have h1 := fil_len x.key h.2.1
  have h2 := h.2.2.2.2.1
  rw [List.length_append, h1]
  split <;> omega
def T2 (q : Nat) (W : World) (x y : Hd) (ex : List (Nat × Obj)) (w' : World) : Prop :=
  ∃ b1 b2 lx ly, HSb (fil x.key ++ x.H) b1 ∧ HSb (fil y.key ++ y.H) b2 ∧ Lst 5 1 x.v x.X.length (x.X.map (Value.int .u8)) lx ∧ Lst 5 1 y.v y.X.length (y.X.map (Value.int .u8)) ly
    ∧ Ev q W (.pointer none) [] ((x.g, x.ob b1) :: (y.g, y.ob b2) :: (lx ++ (ly ++ ex))) w' ∧ x.g ≠ y.g ∧ (∀ p ∈ lx ++ (ly ++ ex), p.1 ≠ x.g ∧ p.1 ≠ y.g) ∧ (∀ p ∈ lx, ∀ r ∈ ly ++ ex, r.1 ≠ p.1) ∧ (∀ p ∈ ly, ∀ r ∈ ex, r.1 ≠ p.1)
section
variable {q : Nat} {W : World} {x y : Hd} {ex : List (Nat × Obj)} {w' w2 : World}
theorem T2.old (h : T2 q W x y ex w') : Below q W w' := by obtain ⟨b1, b2, lx, ly, _, _, _, _, h, _⟩ := h; exact h.old
theorem T2.le (h : T2 q W x y ex w') : q ≤ w'.heap.size := by obtain ⟨b1, b2, lx, ly, _, _, _, _, h, _⟩ := h; exact h.le
theorem T2.below (h : T2 q W x y ex w') (hb : Below w'.heap.size w' w2) : T2 q W x y ex w2 := by
  obtain ⟨b1, b2, lx, ly, h1, h2, h3, h4, h5, h6, h7, h8, h9⟩ := h
  exact ⟨b1, b2, lx, ly, h1, h2, h3, h4, h5.below hb, h6, h7, h8, h9⟩
theorem T2.swap (h : T2 q W x y ex w') : T2 q W y x ex w' := by
  obtain ⟨b1, b2, lx, ly, h1, h2, h3, h4, h5, h6, h7, h8, h9⟩ := h
  refine ⟨b2, b1, ly, lx, h2, h1, h4, h3, h5.sub (fun p hp => ?_), h6.symm, fun p hp => ?_, fun p hp r hr => ?_, fun p hp r hr => h8 p hp r (List.mem_append_right _ hr)⟩
  · simp only [List.mem_cons, List.mem_append] at hp ⊢
    rcases hp with hp | hp | hp | hp | hp
    · exact .inr (.inl hp)
    · exact .inl hp
    · exact .inr (.inr (.inr (.inl hp)))
    · exact .inr (.inr (.inl hp))
    · exact .inr (.inr (.inr (.inr hp)))
  · have := h7 p (by simp only [List.mem_append] at hp ⊢; rcases hp with hp | hp | hp; exact .inr (.inl hp); exact .inl hp; exact .inr (.inr hp))
    exact ⟨this.2, this.1⟩
  · rcases List.mem_append.1 hr with hr | hr
    · exact fun e => h8 r hr p (List.mem_append_left _ hp) e.symm
    · exact h9 p hp r hr
theorem T2.drop (h : T2 q W x y ex w') {ey : List (Nat × Obj)} (hs : ∀ p ∈ ey, p ∈ ex) : T2 q W x y ey w' := by
  obtain ⟨b1, b2, lx, ly, h1, h2, h3, h4, h5, h6, h7, h8, h9⟩ := h
  have hm : ∀ p ∈ lx ++ (ly ++ ey), p ∈ lx ++ (ly ++ ex) := fun p hp => by
    simp only [List.mem_append] at hp ⊢
    rcases hp with hp | hp | hp
    · exact .inl hp
    · exact .inr (.inl hp)
    · exact .inr (.inr (hs p hp))
  refine ⟨b1, b2, lx, ly, h1, h2, h3, h4, h5.sub (fun p hp => ?_), h6, fun p hp => h7 p (hm p hp), fun p hp r hr => h8 p hp r ?_, fun p hp r hr => h9 p hp r (hs r hr)⟩
  · simp only [List.mem_cons] at hp ⊢
    rcases hp with hp | hp | hp
    · exact .inl hp
    · exact .inr (.inl hp)
    · exact .inr (.inr (hm p hp))
  · rcases List.mem_append.1 hr with hr | hr
    · exact List.mem_append_left _ hr
    · exact List.mem_append_right _ (hs r hr)
/-- new boxes beside -/
theorem T2.join (h : T2 q W x y ex w') {l' : List (Int × Int)} {bx : List (Nat × Obj)} (h' : Ev w'.heap.size w' (.pointer none) l' bx w2) : T2 q W x y (bx ++ ex) w2 := by
  obtain ⟨b1, b2, lx, ly, h1, h2, h3, h4, h5, h6, h7, h8, h9⟩ := h
  obtain ⟨hj, hd⟩ := h5.join h'
  refine ⟨b1, b2, lx, ly, h1, h2, h3, h4, hj.sub (fun p hp => ?_), h6, fun p hp => ?_, fun p hp r hr => ?_, fun p hp r hr => ?_⟩
  · simp only [List.mem_cons, List.mem_append] at hp ⊢
    rcases hp with hp | hp | hp | hp | hp | hp
    · exact .inr (.inl hp)
    · exact .inr (.inr (.inl hp))
    · exact .inr (.inr (.inr (.inl hp)))
    · exact .inr (.inr (.inr (.inr (.inl hp))))
    · exact .inl hp
    · exact .inr (.inr (.inr (.inr (.inr hp))))
  · simp only [List.mem_append] at hp
    rcases hp with hp | hp | hp | hp
    · exact h7 p (List.mem_append_left _ hp)
    · exact h7 p (List.mem_append_right _ (List.mem_append_left _ hp))
    · exact ⟨fun e => hd p hp _ mem0 e.symm, fun e => hd p hp _ mem1 e.symm⟩
    · exact h7 p (List.mem_append_right _ (List.mem_append_right _ hp))
  · simp only [List.mem_append] at hr
    rcases hr with hr | hr | hr
    · exact h8 p hp r (List.mem_append_left _ hr)
    · exact fun e => hd r hr p (memr2 (List.mem_append_left _ hp)) e.symm
    · exact h8 p hp r (List.mem_append_right _ hr)
  · rcases List.mem_append.1 hr with hr | hr
    · exact fun e => hd r hr p (memr2 (List.mem_append_right _ (List.mem_append_left _ hp))) e.symm
    · exact h9 p hp r hr
theorem T2.slice (h : T2 q W x y ex w') {n : Nat} (hn : x.X.length = n) : ∃ a c, x.v = .slice a n c := by
  obtain ⟨b1, b2, lx, ly, h1, h2, h3, _⟩ := h
  rw [← hn]; exact h3.slice'
/-- the list is read -/
theorem T2.list (h : T2 q W x y ex w') : ∀ cx, Src w'.heap.size w' cx x.v x.X := by
  obtain ⟨b1, b2, lx, ly, h1, h2, h3, h4, h5, _⟩ := h
  exact (h3.src (B := q) (w := W) (bx := (x.g, x.ob b1) :: (y.g, y.ob b2) :: (lx ++ (ly ++ ex))) (fun p hp => memr2 (List.mem_append_left _ hp))).at_ h5
theorem T2.rb (h : T2 q W x y ex w') {v : Value} {D : List Int} (hS : Src q W ex v D) : RdB w' v D := by
  obtain ⟨b1, b2, lx, ly, h1, h2, h3, h4, h5, _⟩ := h
  exact h5.rb (hS.sub (fun p hp => memr2 (List.mem_append_right _ (List.mem_append_right _ hp))))
theorem T2.at_ (h : T2 q W x y ex w') {v : Value} {D : List Int} (hS : Src q W ex v D) : ∀ cx, Src w'.heap.size w' cx v D := by
  obtain ⟨b1, b2, lx, ly, h1, h2, h3, h4, h5, _⟩ := h
  exact (hS.sub (fun p hp => memr2 (List.mem_append_right _ (List.mem_append_right _ hp)))).at_ h5
theorem T2.write (h : T2 q W x y ex w') (hx : x.ok) (hB : Beg W) (h2 : 2 ≤ q) {u : Value} {D : List Int} (hD : Byt D) (hs : Src q W [] u D) (hl : x.H.length + D.length ≤ 200000) :
    Calls Tryd.prog 23 #[.pointer (some ⟨x.g, 0, none⟩), u] w' fun e w2 => e = .returned (.tuple #[]) ∧ T2 q W { x with H := x.H ++ D } y ex w2 := by
  obtain ⟨b1, b2, lx, ly, h1, h2', h3, h4, h5, h6, h7, h8, h9⟩ := h
  have hlen := hx.len
  refine (dwrite_src h1 h5 hx.s8 (fun hr => absurd rfl hr) (fun p hp => ?_) (hs.sub (by simp)) hD (by have := hx.2.2.2.2.1; omega) hB h2).mono ?_
  · rcases List.mem_cons.1 hp with rfl | hp
    · exact h6.symm
    · exact (h7 p hp).1
  · rintro e w2 ⟨rfl, b3, k1, k2⟩
    rw [List.append_assoc] at k1 k2
    exact ⟨rfl, b3, b2, lx, ly, k1, h2', h3, h4, k2.nilOf [], h6, h7, h8, h9⟩
theorem T2.sum (h : T2 q W x y ex w') (hx : x.ok) (hB : Beg W) (h2 : 2 ≤ q) :
    Calls Tryd.prog 22 #[.pointer (some ⟨x.g, 0, none⟩)] w' fun e w2 => ∃ g2, e = .returned (.slice (some ⟨g2, 0, none⟩) x.s x.s) ∧ T2 q W x y ex w2 ∧ RdB w2 (.slice (some ⟨g2, 0, none⟩) x.s x.s) (dig x.s x.key x.H) := by
  obtain ⟨b1, b2, lx, ly, h1, h2', h3, h4, h5, h6, h7, h8, h9⟩ := h
  have hlen := hx.len
  refine (dsum_any h1 h5 hx.s8 hx.1.2 (fun hr => absurd rfl hr) (fun p hp => ?_) (by omega) hB h2).mono ?_
  · rcases List.mem_cons.1 hp with rfl | hp
    · exact h6.symm
    · exact (h7 p hp).1
  · rintro e w2 ⟨g2, rfl, k1, k2⟩
    exact ⟨g2, rfl, ⟨b1, b2, lx, ly, h1, h2', h3, h4, k2.tail.nilOf [], h6, h7, h8, h9⟩, row_rd (k2.row mem0) (spl_len _ _) (Nat.le_refl _)⟩
theorem T2.app (h : T2 q W x y ex w') (hx : x.ok) {u : Value} {D : List Int} (hs : Src q W [] u D) (hl : D.length ≤ 200000) (ty : TypeId) :
    ∃ v' w2, (Builtin.append_ #[22, 22] ty #[x.v, u]).run Tryd.prog w' = .ok v' w2 ∧ T2 q W { x with X := x.X ++ D, v := v' } y ex w2 := by
  obtain ⟨b1, b2, lx, ly, h1, h2, h3, h4, h5, h6, h7, h8, h9⟩ := h
  have hsub : Ev q W (.pointer none) [] (lx ++ ((x.g, x.ob b1) :: (y.g, y.ob b2) :: (ly ++ ex))) w' := h5.sub (fun p hp => by
    simp only [List.mem_cons, List.mem_append] at hp ⊢
    rcases hp with hp | hp | hp | hp | hp
    · exact .inr (.inr (.inl hp))
    · exact .inl hp
    · exact .inr (.inl hp)
    · exact .inr (.inr (.inr (.inl hp)))
    · exact .inr (.inr (.inr (.inr hp))))
  obtain ⟨v', w2, hr, lb', k1, k2, k3⟩ := hsub.appB h3 (fun p hp r hr => by
    simp only [List.mem_cons] at hr
    rcases hr with rfl | rfl | hr
    · exact fun e => (h7 p (List.mem_append_left _ hp)).1 e.symm
    · exact fun e => (h7 p (List.mem_append_left _ hp)).2 e.symm
    · exact h8 p hp r hr) ty (hs.sub (by simp)) (by have := hx.2.2.2.2.2; omega)
  refine ⟨v', w2, hr, b1, b2, lb', ly, h1, h2, ?_, h4, k2.sub (fun p hp => ?_), h6, fun p hp => ?_, fun p hp r hr => ?_, h9⟩
  · show Lst 5 1 v' (x.X ++ D).length ((x.X ++ D).map (Value.int .u8)) lb'
    rw [List.length_append]; exact k1
  · simp only [List.mem_cons, List.mem_append] at hp ⊢
    rcases hp with hp | hp | hp | hp | hp
    · exact .inr (.inl hp)
    · exact .inr (.inr (.inl hp))
    · exact .inl hp
    · exact .inr (.inr (.inr (.inl hp)))
    · exact .inr (.inr (.inr (.inr hp)))
  · rcases List.mem_append.1 hp with hp | hp
    · exact ⟨fun e => k3 p hp _ mem0 e.symm, fun e => k3 p hp _ mem1 e.symm⟩
    · exact h7 p (List.mem_append_right _ hp)
  · exact k3 p hp r (memr2 hr)
/-- the document's answer, beside -/
theorem T2.ref (h : T2 q W x y ex w') (hx : x.ok) (hXb : Byt x.X) {kv dv : Value} {D : List Int} (hk : Src q W [] kv x.key) (hd : ∀ cx, Src w'.heap.size w' cx dv D) (hDb : Byt D) (hDl : D.length ≤ 200000) :
    Calls Tryd.prog 12 #[.int .i64 (x.s : Int), kv, dv] w' fun e w2 => ∃ v lb, e = .returned (.tuple #[v, .int .i64 0]) ∧ T2 q W x y (lb ++ ex) w2 ∧ Src q W (lb ++ ex) v (dig x.s x.key D) := by
  obtain ⟨ka, kc, rfl, _, _⟩ := id hk
  obtain ⟨da, dc, rfl, _, _⟩ := id (hd [])
  refine (rsum_any w' x.s hx.1 x.key D _ _ rfl rfl hx.2.1 hx.2.2.1 hDb hDl ka da kc dc (h.at_ (hk.sub (by simp)) []) (hd [])).mono ?_
  rintro e w2 ⟨v, rfl, lb, k1, k2, k3⟩
  rw [List.append_nil] at k2
  refine ⟨v, lb, rfl, h.join k2, ?_⟩
  have e : x.s = (dig x.s x.key D).length := (dig_len _ _ _).symm
  exact Lst.src (A := dig x.s x.key D) (by rw [← e]; exact k1) (fun p hp => List.mem_append_left _ hp)
end
end Go.Proofs.YtfkbgodfcnmepaaDoor
namespace Go.Proofs.YtfkbgodfcnmepaaDoor
set_option linter.unusedSimpArgs false
set_option linter.unusedVariables false
open Go.ChangeShapes Go.WideShapes Go.ChangeAt Go.RowKit Go.Pin Go.Str Go.Dig
theorem wrapL2 {a b : Nat} (h : b ≤ a) (ha : a ≤ 131072) : wrap64 ((a : Int) - (b : Int)) = ((a - b : Nat) : Int) ∧ IntKind.i64.wrap ((a : Int) - (b : Int)) = ((a - b : Nat) : Int) := by
  rw [IntWalk.wrap64_in _ ⟨by omega, by omega⟩, IntWalk.i64_in _ ⟨by omega, by omega⟩]
  omega
theorem byt_app {X D : List Int} (h1 : Byt X) (h2 : Byt D) : Byt (X ++ D) := fun x hx => by
  rcases List.mem_append.1 hx with hx | hx
  · exact h1 x hx
  · exact h2 x hx
/-- New and what is made of it, nothing beside -/
theorem dnew_t {q : Nat} {W w' : World} (h : Ev q W (.pointer none) [] [] w') (hB : Beg W) (h2 : 2 ≤ q) (s : Nat) (hs : 1 ≤ s ∧ s ≤ 32) (kv : Value) (D : List Int) (hk : Src q W [] kv D) (h32 : D.length ≤ 32) (hD : Byb D) : Calls Tryd.prog 11 #[.pointer none, .int .i64 (s : Int), kv] w' fun e w2 => ∃ g, e = .returned (.tuple #[.pointer (some ⟨g, 0, none⟩), .nilIface]) ∧ Ev q W (.pointer none) [] [] w2 ∧ ∃ b, HSb (fil D ++ []) b ∧ Ev q W (.pointer none) [] [(g, hst (.pointer none) s (h0 s D.length) (fil D ++ []) b)] w2 := by
  refine (dnew_any h (fun hr => absurd rfl hr) s hs hB h2 kv D hk h32 hD).mono ?_
  rintro e w2 ⟨g, rfl, o, hne, hst, he⟩
  obtain ⟨b, k1, rfl⟩ := hst.blk
  rw [List.append_nil]
  exact ⟨g, rfl, (he.sub (by simp)).nilOf [], b, k1, he.nilOf []⟩
theorem dnew_b {q : Nat} {W w' : World} (h : Ev q W (.pointer none) [] [] w') (h2 : 2 ≤ q) {ea : Addr} (hE : W.cell? ⟨0, 0, none⟩ = some (.iface 120 (.pointer (some ea)))) (z : Int) (ka : Option Addr) (k cap : Nat) (hbad : z < 1 ∨ 32 < z ∨ 32 < k) : Calls Tryd.prog 11 #[.pointer none, .int .i64 z, .slice ka k cap] w' fun e w2 => e = .returned (.tuple #[.pointer none, .iface 120 (.pointer (some ea))]) ∧ Ev q W (.pointer none) [] [] w2 := by
  refine (dnew_bad h (fun hr => absurd rfl hr) z _ hE (by omega) ka k cap hbad).mono ?_
  rintro e w2 ⟨rfl, he⟩
  exact ⟨rfl, he.nilOf []⟩
theorem dnew_2 {q : Nat} {W w' : World} {g1 : Nat} {s1 : Nat} {key : List Int} {b1 : List Int} (hb1 : HSb (fil key ++ []) b1) (h : Ev q W (.pointer none) [] [(g1, hst (.pointer none) s1 (h0 s1 key.length) (fil key ++ []) b1)] w') (hB : Beg W) (h2 : 2 ≤ q) (s : Nat) (hs : 1 ≤ s ∧ s ≤ 32) :
    Calls Tryd.prog 11 #[.pointer none, .int .i64 (s : Int), .slice none 0 0] w' fun e w2 => ∃ g, e = .returned (.tuple #[.pointer (some ⟨g, 0, none⟩), .nilIface]) ∧ T2 q W ⟨g1, s1, key, [], [], .slice none 0 0⟩ ⟨g, s, [], [], [], .slice none 0 0⟩ [] w2 := by
  refine (dnew_any h (fun hr => absurd rfl hr) s hs hB h2 _ [] (src_nil _ _ _) (by simp) (fun x hx => nomatch hx)).mono ?_
  rintro e w2 ⟨g, rfl, o, hne, hst, he⟩
  obtain ⟨b, k1, rfl⟩ := hst.blk
  refine ⟨g, rfl, b1, b, [], [], hb1, by rw [List.append_nil]; exact k1, lst_nil _ _, lst_nil _ _, ?_, hne _ mem0, (fun p hp => nomatch hp), (fun p hp => nomatch hp), (fun p hp => nomatch hp)⟩
  refine (he.sub (fun p hp => ?_)).nilOf []
  simp only [List.mem_cons, List.append_nil, List.not_mem_nil, or_false] at hp ⊢
  rcases hp with rfl | rfl
  · right; unfold Hd.ob; simp
  · left; unfold Hd.ob; simp
theorem rsum_w {W : World} {s : Nat} (hs : 1 ≤ s ∧ s ≤ 32) {key D : List Int} (hkl : key.length ≤ 32) (hkb : Byb key) (hDb : Byb D) (hDl : D.length ≤ 200000) {kv dv : Value} (hk : Src W.heap.size W [] kv key) (hd : Src W.heap.size W [] dv D) :
    Calls Tryd.prog 12 #[.int .i64 (s : Int), kv, dv] W fun e w' => ∃ v, e = .returned (.tuple #[v, .int .i64 0]) ∧ Below W.heap.size W w' := by
  obtain ⟨ka, kc, rfl, _, _⟩ := id hk
  obtain ⟨da, dc, rfl, _, _⟩ := id hd
  refine (rsum_any W s hs key D _ _ rfl rfl hkl hkb hDb hDl ka da kc dc hk hd).mono ?_
  rintro e w' ⟨v, rfl, h⟩
  exact ⟨v, rfl, h.ev.old⟩
theorem err_at {q : Nat} {W w' : World} (h : Below q W w') (h2 : 2 ≤ q) {v : Value} (hE : W.cell? ⟨0, 0, none⟩ = some v) : w'.cell? ⟨0, 0, none⟩ = some v := (World.cell?_of_block (a := ⟨0, 0, none⟩) (h.block 0 (by omega))).trans hE
set_option maxRecDepth 100000 in
set_option maxHeartbeats 8000000 in
theorem two_refbb (n : Nat) (z1 : Int) (hz1 : z1 < 1 ∨ 32 < z1 ∨ 32 < n) (z2 : Int) (hz2 : z2 < 1 ∨ 32 < z2 ∨ 32 < (0 : Nat)) (key : List Int) (hkb : Byt key) (hkn : key.length = n) (a : Option Addr) (cap : Nat) (ms : Nat) (sa : Option Addr) (caps : Nat) (W : World) (q : Nat) (hq : W.heap.size = q) (hk : ∀ bx, Src q W bx (.slice a n cap) key) (hm : ms ≤ 400) (hnb : n ≤ 131072) (hB : Beg W) (hE : ∃ a, W.cell? ⟨0, 0, none⟩ = some (.iface 120 (.pointer (some a)))) :
    Calls Tryd.prog 6 #[.int .i64 z1, .int .i64 z2, .slice a n cap, .slice sa ms caps] W fun e w' => e = .returned (.bool true) ∧ Below q W w' := by
  have e0 := ev_nil' W
  rw [hq] at e0
  have E0 : Hid (Ev q W (.pointer none) [] [] W) := e0
  have HK : Hid ((∀ bx, Src q W bx (.slice a n cap) key) ∧ key.length = n ∧ Byt key) := ⟨hk, hkn, hkb⟩
  have HBE : Hid (Beg W ∧ 2 ≤ q ∧ ∃ a, W.cell? ⟨0, 0, none⟩ = some (.iface 120 (.pointer (some a)))) := ⟨hB, by rw [← hq]; exact hB.2, hE⟩
  obtain ⟨ea, hea⟩ := HBE.out.2.2
  have HEA : Hid (W.cell? ⟨0, 0, none⟩ = some (.iface 120 (.pointer (some ea)))) := hea
  have HZ1 : Hid (z1 < 1 ∨ 32 < z1 ∨ 32 < n) := hz1
  have HZ2 : Hid (z2 < 1 ∨ 32 < z2 ∨ 32 < (0 : Nat)) := hz2
  have b0 : ¬ (400 : Int) < (ms : Int) := by omega
  have b1 : ¬ (131072 : Int) < (n : Int) := by omega
  have CD1 : Hid _ := dnew_b E0.out HBE.out.2.1 HEA.out z1 a n cap HZ1.out
  clear hk hkn hkb e0 hq hB hE hea hz1 hz2 hm hnb 
  go_enter Tryd.func6, Tryd.ntmps6
  go_upto_region 4 with (first | (go_at_call 11; refine Calls.mono CD1.out ?_; rintro e w1 ⟨rfl, h1⟩; have CD2 : Hid _ := dnew_b h1 HBE.out.2.1 HEA.out z2 none 0 0 HZ2.out; clear h1 CD1))
  clear b0 b1
  go_upto_region 5 with (first | (go_at_call 11; refine Calls.mono CD2.out ?_; rintro e w2 ⟨rfl, h2⟩; have CS1 : Hid _ := rsum_bad w2 z1 a n cap (.slice none 0 0) HZ1.out; have H2 : Hid _ := h2; clear h2 CD2))
  go_upto_region 6 with (first | (go_at_call 12; refine Calls.mono CS1.out ?_; rintro e w3 ⟨rfl, hV⟩; have h3 : Ev q W (.pointer none) [] [] w3 := (by rw [hV]; exact H2.out); clear hV; have CS2 : Hid _ := rsum_bad w3 z2 none 0 0 (.slice none 0 0) HZ2.out; have H3 : Hid _ := h3; clear h3 CS1 H2))
  go_upto_region 7 with (first | (go_at_call 12; refine Calls.mono CS2.out ?_; rintro e w4 ⟨rfl, hV⟩; have h4 : Ev q W (.pointer none) [] [] w4 := (by rw [hV]; exact H3.out); clear hV; have CC1 : Hid (Calls Tryd.prog 13 #[(.iface 120 (.pointer (some ea)))] w4 fun e w' => e = .returned (.int .i64 1) ∧ w' = w4) := code_arg w4 ea (err_at h4.old HBE.out.2.1 HEA.out); have CC2 : Hid (Calls Tryd.prog 13 #[(.iface 120 (.pointer (some ea)))] w4 fun e w' => e = .returned (.int .i64 1) ∧ w' = w4) := code_arg w4 ea (err_at h4.old HBE.out.2.1 HEA.out); have CK : Hid (Calls Tryd.prog 18 #[] w4 fun e w' => e = .returned (.bool true) ∧ Below q W w') := known_at h4.old HBE.out.1 HBE.out.2.1 HBE.out.2.2 h4.le; clear h4 CS2 H3))
  go_wp2_with (first | (go_at_call 13; first | (refine Calls.mono CC1.out ?_; rintro e w5 ⟨rfl, hV⟩; obtain rfl := hV) | (refine Calls.mono CC2.out ?_; rintro e w5 ⟨rfl, hV⟩; obtain rfl := hV)) | (go_at_call 18; refine Calls.mono CK.out ?_; rintro e w9 ⟨rfl, h9⟩; have H9 : Hid _ := h9; clear h9 CK))
  go_ret
  exact ⟨rfl, H9.out⟩
set_option maxRecDepth 100000 in
set_option maxHeartbeats 8000000 in
theorem two_refbg (n : Nat) (z1 : Int) (hz1 : z1 < 1 ∨ 32 < z1 ∨ 32 < n) (s2 : Nat) (hz2 : 1 ≤ s2 ∧ s2 ≤ 32) (key : List Int) (hkb : Byt key) (hkn : key.length = n) (a : Option Addr) (cap : Nat) (ms : Nat) (sa : Option Addr) (caps : Nat) (W : World) (q : Nat) (hq : W.heap.size = q) (hk : ∀ bx, Src q W bx (.slice a n cap) key) (hm : ms ≤ 400) (hnb : n ≤ 131072) (hB : Beg W) (hE : ∃ a, W.cell? ⟨0, 0, none⟩ = some (.iface 120 (.pointer (some a)))) :
    Calls Tryd.prog 6 #[.int .i64 z1, .int .i64 (s2 : Int), .slice a n cap, .slice sa ms caps] W fun e w' => e = .returned (.bool true) ∧ Below q W w' := by
  have e0 := ev_nil' W
  rw [hq] at e0
  have E0 : Hid (Ev q W (.pointer none) [] [] W) := e0
  have HK : Hid ((∀ bx, Src q W bx (.slice a n cap) key) ∧ key.length = n ∧ Byt key) := ⟨hk, hkn, hkb⟩
  have HBE : Hid (Beg W ∧ 2 ≤ q ∧ ∃ a, W.cell? ⟨0, 0, none⟩ = some (.iface 120 (.pointer (some a)))) := ⟨hB, by rw [← hq]; exact hB.2, hE⟩
  obtain ⟨ea, hea⟩ := HBE.out.2.2
  have HEA : Hid (W.cell? ⟨0, 0, none⟩ = some (.iface 120 (.pointer (some ea)))) := hea
  have HZ1 : Hid (z1 < 1 ∨ 32 < z1 ∨ 32 < n) := hz1
  have HZ2 : Hid (1 ≤ s2 ∧ s2 ≤ 32) := hz2
  have b0 : ¬ (400 : Int) < (ms : Int) := by omega
  have b1 : ¬ (131072 : Int) < (n : Int) := by omega
  have CD1 : Hid _ := dnew_b E0.out HBE.out.2.1 HEA.out z1 a n cap HZ1.out
  clear hk hkn hkb e0 hq hB hE hea hz1 hz2 hm hnb 
  go_enter Tryd.func6, Tryd.ntmps6
  go_upto_region 4 with (first | (go_at_call 11; refine Calls.mono CD1.out ?_; rintro e w1 ⟨rfl, h1⟩; have CD2 : Hid _ := dnew_t h1 HBE.out.1 HBE.out.2.1 s2 HZ2.out (.slice none 0 0) [] (src_nil _ _ _) (by simp) (fun x hx => nomatch hx); clear h1 CD1))
  clear b0 b1
  go_upto_region 5 with (first | (go_at_call 11; refine Calls.mono CD2.out ?_; rintro e w2 ⟨g2, rfl, h2, _⟩; have CS1 : Hid _ := rsum_bad w2 z1 a n cap (.slice none 0 0) HZ1.out; have H2 : Hid _ := h2; clear h2 CD2))
  go_upto_region 6 with (first | (go_at_call 12; refine Calls.mono CS1.out ?_; rintro e w3 ⟨rfl, hV⟩; have h3 : Ev q W (.pointer none) [] [] w3 := (by rw [hV]; exact H2.out); clear hV; have CS2 : Hid _ := rsum_w (W := w3) HZ2.out (key := []) (D := []) (by simp) (fun x hx => nomatch hx) (fun x hx => nomatch hx) (by simp) (src_nil _ _ []) (src_nil _ _ []); have H3 : Hid _ := h3; clear h3 CS1 H2))
  go_upto_region 7 with (first | (go_at_call 12; refine Calls.mono CS2.out ?_; rintro e w4 ⟨v2, rfl, hb4⟩; have h4 := H3.out.below hb4; have CC1 : Hid (Calls Tryd.prog 13 #[(.iface 120 (.pointer (some ea)))] w4 fun e w' => e = .returned (.int .i64 1) ∧ w' = w4) := code_arg w4 ea (err_at h4.old HBE.out.2.1 HEA.out); have CC2 : Hid (Calls Tryd.prog 13 #[.nilIface] w4 fun e w' => e = .returned (.int .i64 0) ∧ w' = w4) := code_nil w4; have CK : Hid (Calls Tryd.prog 18 #[] w4 fun e w' => e = .returned (.bool true) ∧ Below q W w') := known_at h4.old HBE.out.1 HBE.out.2.1 HBE.out.2.2 h4.le; clear h4 CS2 H3))
  go_wp2_with (first | (go_at_call 13; first | (refine Calls.mono CC1.out ?_; rintro e w5 ⟨rfl, hV⟩; obtain rfl := hV) | (refine Calls.mono CC2.out ?_; rintro e w5 ⟨rfl, hV⟩; obtain rfl := hV)) | (go_at_call 18; refine Calls.mono CK.out ?_; rintro e w9 ⟨rfl, h9⟩; have H9 : Hid _ := h9; clear h9 CK))
  go_ret
  exact ⟨rfl, H9.out⟩
set_option maxRecDepth 100000 in
set_option maxHeartbeats 8000000 in
theorem two_refgb (n s1 : Nat) (hz1 : 1 ≤ s1 ∧ s1 ≤ 32) (hn1 : n ≤ 32) (z2 : Int) (hz2 : z2 < 1 ∨ 32 < z2 ∨ 32 < (0 : Nat)) (key : List Int) (hkb : Byt key) (hkn : key.length = n) (a : Option Addr) (cap : Nat) (ms : Nat) (sa : Option Addr) (caps : Nat) (W : World) (q : Nat) (hq : W.heap.size = q) (hk : ∀ bx, Src q W bx (.slice a n cap) key) (hm : ms ≤ 400) (hnb : n ≤ 131072) (hB : Beg W) (hE : ∃ a, W.cell? ⟨0, 0, none⟩ = some (.iface 120 (.pointer (some a)))) :
    Calls Tryd.prog 6 #[.int .i64 (s1 : Int), .int .i64 z2, .slice a n cap, .slice sa ms caps] W fun e w' => e = .returned (.bool true) ∧ Below q W w' := by
  have e0 := ev_nil' W
  rw [hq] at e0
  have E0 : Hid (Ev q W (.pointer none) [] [] W) := e0
  have HK : Hid ((∀ bx, Src q W bx (.slice a n cap) key) ∧ key.length = n ∧ Byt key) := ⟨hk, hkn, hkb⟩
  have HBE : Hid (Beg W ∧ 2 ≤ q ∧ ∃ a, W.cell? ⟨0, 0, none⟩ = some (.iface 120 (.pointer (some a)))) := ⟨hB, by rw [← hq]; exact hB.2, hE⟩
  obtain ⟨ea, hea⟩ := HBE.out.2.2
  have HEA : Hid (W.cell? ⟨0, 0, none⟩ = some (.iface 120 (.pointer (some ea)))) := hea
  have HZ1 : Hid ((1 ≤ s1 ∧ s1 ≤ 32) ∧ key.length ≤ 32) := ⟨hz1, by rw [hkn]; exact hn1⟩
  have HZ2 : Hid (z2 < 1 ∨ 32 < z2 ∨ 32 < (0 : Nat)) := hz2
  have b0 : ¬ (400 : Int) < (ms : Int) := by omega
  have b1 : ¬ (131072 : Int) < (n : Int) := by omega
  have CD1 : Hid _ := dnew_t E0.out HBE.out.1 HBE.out.2.1 s1 HZ1.out.1 _ key (HK.out.1 []) HZ1.out.2 HK.out.2.2
  clear hk hkn hkb e0 hq hB hE hea hz1 hz2 hm hnb hn1
  go_enter Tryd.func6, Tryd.ntmps6
  go_upto_region 4 with (first | (go_at_call 11; refine Calls.mono CD1.out ?_; rintro e w1 ⟨g1, rfl, h1, _⟩; have CD2 : Hid _ := dnew_b h1 HBE.out.2.1 HEA.out z2 none 0 0 HZ2.out; clear h1 CD1))
  clear b0 b1
  go_upto_region 5 with (first | (go_at_call 11; refine Calls.mono CD2.out ?_; rintro e w2 ⟨rfl, h2⟩; have CS1 : Hid _ := rsum_w (W := w2) (D := []) HZ1.out.1 HZ1.out.2 HK.out.2.2 (fun x hx => nomatch hx) (by simp) ((HK.out.1 []).at_ h2 []) (src_nil _ _ []); have H2 : Hid _ := h2; clear h2 CD2))
  go_upto_region 6 with (first | (go_at_call 12; refine Calls.mono CS1.out ?_; rintro e w3 ⟨v1, rfl, hb3⟩; have h3 := H2.out.below hb3; have CS2 : Hid _ := rsum_bad w3 z2 none 0 0 (.slice none 0 0) HZ2.out; have H3 : Hid _ := h3; clear h3 CS1 H2))
  go_upto_region 7 with (first | (go_at_call 12; refine Calls.mono CS2.out ?_; rintro e w4 ⟨rfl, hV⟩; have h4 : Ev q W (.pointer none) [] [] w4 := (by rw [hV]; exact H3.out); clear hV; have CC1 : Hid (Calls Tryd.prog 13 #[.nilIface] w4 fun e w' => e = .returned (.int .i64 0) ∧ w' = w4) := code_nil w4; have CC2 : Hid (Calls Tryd.prog 13 #[(.iface 120 (.pointer (some ea)))] w4 fun e w' => e = .returned (.int .i64 1) ∧ w' = w4) := code_arg w4 ea (err_at h4.old HBE.out.2.1 HEA.out); have CK : Hid (Calls Tryd.prog 18 #[] w4 fun e w' => e = .returned (.bool true) ∧ Below q W w') := known_at h4.old HBE.out.1 HBE.out.2.1 HBE.out.2.2 h4.le; clear h4 CS2 H3))
  go_wp2_with (first | (go_at_call 13; first | (refine Calls.mono CC1.out ?_; rintro e w5 ⟨rfl, hV⟩; obtain rfl := hV) | (refine Calls.mono CC2.out ?_; rintro e w5 ⟨rfl, hV⟩; obtain rfl := hV)) | (go_at_call 18; refine Calls.mono CK.out ?_; rintro e w9 ⟨rfl, h9⟩; have H9 : Hid _ := h9; clear h9 CK))
  go_ret
  exact ⟨rfl, H9.out⟩
end Go.Proofs.YtfkbgodfcnmepaaDoor
namespace Go.Proofs.YtfkbgodfcnmepaaDoor
set_option linter.unusedSimpArgs false
set_option linter.unusedVariables false
open Go.ChangeShapes Go.WideShapes Go.ChangeAt Go.RowKit Go.Pin Go.Str Go.Dig
theorem wl_pos (h n : Nat) (hh : h ≤ 64) : 0 < (wl h n).length := by
  by_cases hn : n = 0
  · subst hn; rw [wl_zero]; simp
  · by_cases h64 : h = 64
    · subst h64; rw [wl_full (by omega) rfl]; simp
    · rw [wl_room (by omega) (by omega) rfl]; simp
theorem hl_step (x m : Nat) : hl (hl x + m) = hl (x + m) := by unfold hl nbl; omega
/-- what one round finds -/
def PL (q : Nat) (W : World) (R g s : Nat) (key : List Int) (fk i ms : Nat) (va ve vh vd : Value) (w' : World) : Prop :=
  ∃ (A dk : List Int) (p : Nat) (L : List (Int × Int)), i ≤ ms ∧ (A.length ≤ 131072 ∧ Byt A) ∧ vh = .int .i64 ((hl (fk + A.length) : Nat) : Int) ∧ vd = .slice (some ⟨p, 0, none⟩) dk.length dk.length ∧ (dk.length ≤ 400000 ∧ L.length ≤ 12 * i + A.length + 4) ∧ PS q W R g p s key A A dk va ve L L [] w'
/-- the key's copy, written over -/
def TK (q : Nat) (W : World) (R g s : Nat) (key : List Int) (vt : Value) (n : Nat) (w' : World) : Prop :=
  ∃ b lt, HSb (fil key ++ []) b ∧ ((lt = [] ∧ n = 0) ∨ ∃ gt cap cur, vt = .slice (some ⟨gt, 0, none⟩) n cap ∧ lt = [(gt, .cells cur 5)] ∧ n ≤ cur.size ∧ (∀ j, j < n → ∃ z, cur[j]? = some (.int .u8 z)) ∧ gt ≠ g) ∧ Ev q W (.pointer (some ⟨R, 0, none⟩)) (nlg key) ((g, ho R s key [] b) :: lt) w'
theorem lst_zero (g : Nat) : Lst 5 1 (.slice (some ⟨g, 0, none⟩) 0 0) 0 (([] : List Int).map (Value.int .u8)) [(g, .cells #[] 5)] := ⟨rfl, .inr ⟨g, 0, #[], rfl, rfl, Nat.le_refl _, by decide, rfl, rfl⟩⟩
theorem TK.start {q : Nat} {W : World} {R g s : Nat} {key : List Int} {vt : Value} {n : Nat} {w' : World} {lb : List (Nat × Obj)} {o : Obj} (hn : key.length = n) (hL : Lst 5 1 vt n (key.map (Value.int .u8)) lb) (hne : ∀ p ∈ lb, p.1 ≠ g) (hSt : HSt (.pointer (some ⟨R, 0, none⟩)) s (h0 s key.length) (fil key) o) (he : Ev q W (.pointer (some ⟨R, 0, none⟩)) ([] ++ nlg key) ((g, o) :: lb) w') : TK q W R g s key vt n w' := by
  obtain ⟨b, k1, rfl⟩ := hSt.blk
  rw [List.nil_append] at he
  have e : hst (.pointer (some ⟨R, 0, none⟩)) s (h0 s key.length) (fil key) b = ho R s key [] b := by unfold ho; rw [List.append_nil]
  rw [e] at he
  refine ⟨b, lb, by rw [List.append_nil]; exact k1, ?_, he⟩
  rcases hL.2 with ⟨_, h2, h3⟩ | ⟨gt, cap, cur, h1, rfl, h3, h4, h5, h6⟩
  · exact .inl ⟨h3, h2⟩
  · refine .inr ⟨gt, cap, cur, h1, rfl, by omega, fun j hj => ?_, hne _ mem0⟩
    rw [Nat.mul_one] at h6
    have hk : (cur.toList.take n)[j]? = some (.int .u8 (key.getD j 0)) := by
      rw [h6, List.getElem?_map, List.getElem?_eq_getElem (by omega), List.getD_eq_getElem?_getD, List.getElem?_eq_getElem (by omega)]
      rfl
    rw [List.getElem?_take_of_lt hj] at hk
    exact ⟨_, by simpa using hk⟩
section
variable {q : Nat} {W : World} {R g s : Nat} {key : List Int} {vt : Value} {n : Nat} {w' w2 : World}
theorem TK.hid (h : TK q W R g s key vt n w') : Hid (TK q W R g s key vt n w') := h
theorem TK.old (h : TK q W R g s key vt n w') : Below q W w' := by obtain ⟨b, lt, _, _, h⟩ := h; exact h.old
theorem TK.le (h : TK q W R g s key vt n w') : q ≤ w'.heap.size := by obtain ⟨b, lt, _, _, h⟩ := h; exact h.le
theorem TK.at_ (h : TK q W R g s key vt n w') {v : Value} {D : List Int} (hS : Src q W [] v D) : ∀ cx, Src w'.heap.size w' cx v D := by
  obtain ⟨b, lt, _, _, h⟩ := h
  exact (hS.sub (by simp)).at_ h
theorem TK.below (h : TK q W R g s key vt n w') (hb : Below w'.heap.size w' w2) : TK q W R g s key vt n w2 := by
  obtain ⟨b, lt, h1, h2, h3⟩ := h
  exact ⟨b, lt, h1, h2, h3.below hb⟩
theorem TK.put (h : TK q W R g s key vt n w') {j : Nat} (hj : j < n) : ∃ gt cap, vt = .slice (some ⟨gt, 0, none⟩) n cap ∧ (∃ z, w'.cell? ⟨gt, j, none⟩ = some (.int .u8 z)) ∧ w'.frozen? ⟨gt, j, none⟩ = false ∧ TK q W R g s key vt n (w'.setCell ⟨gt, j, none⟩ (.int .u8 153)) := by
  obtain ⟨b, lt, h1, h2, h3⟩ := h
  rcases h2 with ⟨_, e⟩ | ⟨gt, cap, cur, e1, rfl, e3, e4, e5⟩
  · omega
  · have hr := h3.row mem1
    obtain ⟨z, hz⟩ := e4 j hj
    refine ⟨gt, cap, e1, ⟨z, by rw [cell_of_row w' _ _ _ _ _ hr]; exact hz⟩, frozen_of_row w' _ _ _ _ hr, b, _, h1, .inr ⟨gt, cap, cur.setIfInBounds j (.int .u8 153), e1, rfl, by simpa using e3, fun k hk => ?_, e5⟩, ?_⟩
    · rw [Array.getElem?_setIfInBounds]
      split
      · rw [if_pos (by omega)]; exact ⟨_, rfl⟩
      · exact e4 k hk
    · refine (h3.flip.set rfl (fun p hp => by rw [List.mem_singleton.1 hp]; exact fun e => e5 e.symm) ((Grow.refl (fun k => k = gt) w').setCell (p := ⟨gt, j, none⟩) (.inl rfl) _) ?_).flip
      rw [heap_setCell_same w' _ _ _ _ _ hr]
theorem TK.start' (h : TK q W R g s key vt n w') {ve : Value} (he : Evl w'.heap.size w' ve (nlg key) w2) : PL q W R g s key (fil key).length 0 0 (.slice none 0 0) ve (.int .i64 ((hl (fil key).length : Nat) : Int)) (.slice (some ⟨w2.heap.size, 0, none⟩) 64 64) (w2.alloc (.cells (VI .u8 (List.replicate 64 0)) 5)) := by
  obtain ⟨b, lt, h1, h2, h3⟩ := h
  have h4 : Ev q W (.pointer (some ⟨R, 0, none⟩)) (nlg key) [(g, ho R s key [] b)] w' := h3.sub (fun p hp => by rw [List.mem_singleton.1 hp]; exact mem0)
  obtain ⟨le, k1, k2⟩ := lst_of he.own
  obtain ⟨hj, hd⟩ := h4.join (l' := []) (bx' := le) ⟨he.old, he.le, fun p hp => (k2 p hp).1, fun p hp => (k2 p hp).2.1, .inl rfl⟩
  have hn := hj.new (.cells (VI .u8 (List.replicate 64 0)) 5)
  refine ⟨[], List.replicate 64 0, w2.heap.size, nlg key, Nat.le_refl _, ⟨by decide, fun x hx => nomatch hx⟩, rfl, by rw [List.length_replicate], ⟨by rw [List.length_replicate]; decide, by simp [nlg]⟩, b, h1, [], le, lst_nil _ _, k1, ?_, ?_⟩
  · refine hn.sub (fun r hr => ?_)
    simp only [List.nil_append, List.mem_append, List.mem_cons, List.not_mem_nil, or_false] at hr ⊢
    rcases hr with hr | hr | hr
    · exact .inr (.inl hr)
    · exact .inr (.inr hr)
    · exact .inl hr
  · rw [List.nil_append, List.map_append]
    have hg := hj.lt (g := g) (List.mem_append_right _ mem0)
    refine List.nodup_append.2 ⟨k1.nd, ?_, fun x hx y hy e => ?_⟩
    · simp only [List.map_cons, List.map_nil, List.nodup_cons, List.mem_singleton, List.not_mem_nil, not_false_eq_true, List.nodup_nil, and_true]
      omega
    · obtain ⟨r, hr, rfl⟩ := List.mem_map.1 hx
      simp only [List.map_cons, List.map_nil, List.mem_cons, List.not_mem_nil, or_false] at hy
      rcases hy with rfl | rfl
      · exact hd r hr _ mem0 e.symm
      · have := heap_lt (hj.at' r (List.mem_append_left _ hr))
        omega
end
theorem PL.le {q : Nat} {W : World} {R g s : Nat} {key : List Int} {fk i ms : Nat} {va ve vh vd : Value} {w' : World} (h : PL q W R g s key fk 0 0 va ve vh vd w') : PL q W R g s key fk 0 ms va ve vh vd w' := by
  obtain ⟨A, dk, p, L, h1, h2⟩ := h
  exact ⟨A, dk, p, L, Nat.zero_le _, h2⟩
set_option maxRecDepth 100000 in
theorem first_any (k : Nat) (w : World) : Calls Tryd.prog 19 #[.int .i64 (k : Int)] w fun e w' => e = .returned (.int .i64 ((if k = 0 then 0 else 64 : Nat) : Int)) ∧ w' = w := by
  by_cases h : k = 0
  · have b : ¬ (0 : Int) < (k : Int) := by omega
    rw [if_pos h]
    clear h
    go_enter Tryd.func19, Tryd.ntmps19
    go_wp2
    go_ret
    exact ⟨rfl, rfl⟩
  · have b : (0 : Int) < (k : Int) := by omega
    rw [if_neg h]
    clear h
    go_enter Tryd.func19, Tryd.ntmps19
    go_wp2
    go_ret
    exact ⟨rfl, rfl⟩
end Go.Proofs.YtfkbgodfcnmepaaDoor
