import Derived.Test.YtfeoamkngnpcmaaPrmT
namespace Go.Proofs.Ytfeoamkngnpcmaa
set_option linter.unusedSimpArgs false
open Go.ChangeShapes Go.WideShapes Go.ChangeAt Go.RowKit Go.Pin Go.Prm
theorem nbk_lt (b : List Int) (hb : ∀ x ∈ b, 0 ≤ x ∧ x < 256) (k : Nat) : nbk b k < 2 ^ (8 * k) := by
  apply Nat.lt_pow_two_of_testBit
  intro i hi
  rw [nbk_bit b hb]
  have : ¬ (i < 8 * k) := by omega
  simp [this]
theorem nbk_add (b : List Int) (hb : ∀ x ∈ b, 0 ≤ x ∧ x < 256) (k : Nat) : nbk b (k + 1) = (b.getD k 0).toNat * 2 ^ (8 * k) + nbk b k := by
  rw [nbk, Nat.or_comm, ← Nat.shiftLeft_add_eq_or_of_lt (nbk_lt b hb k), Nat.shiftLeft_eq]
theorem nb_sum {b : List Int} (hb : ∀ x ∈ b, 0 ≤ x ∧ x < 256) : nb b = (b.getD 0 0).toNat * 1 + (b.getD 1 0).toNat * 256 + (b.getD 2 0).toNat * 65536 + (b.getD 3 0).toNat * 16777216 + (b.getD 4 0).toNat * 4294967296 + (b.getD 5 0).toNat * 1099511627776 + (b.getD 6 0).toNat * 281474976710656 + (b.getD 7 0).toNat * 72057594037927936 + (b.getD 8 0).toNat * 18446744073709551616 + (b.getD 9 0).toNat * 4722366482869645213696 + (b.getD 10 0).toNat * 1208925819614629174706176 + (b.getD 11 0).toNat * 309485009821345068724781056 + (b.getD 12 0).toNat * 79228162514264337593543950336 + (b.getD 13 0).toNat * 20282409603651670423947251286016 + (b.getD 14 0).toNat * 5192296858534827628530496329220096 + (b.getD 15 0).toNat * 1329227995784915872903807060280344576 + (b.getD 16 0).toNat * 340282366920938463463374607431768211456 := by
  have h0 : nbk b 0 = 0 := rfl
  have a0 := nbk_add b hb 0
  have a1 := nbk_add b hb 1
  have a2 := nbk_add b hb 2
  have a3 := nbk_add b hb 3
  have a4 := nbk_add b hb 4
  have a5 := nbk_add b hb 5
  have a6 := nbk_add b hb 6
  have a7 := nbk_add b hb 7
  have a8 := nbk_add b hb 8
  have a9 := nbk_add b hb 9
  have a10 := nbk_add b hb 10
  have a11 := nbk_add b hb 11
  have a12 := nbk_add b hb 12
  have a13 := nbk_add b hb 13
  have a14 := nbk_add b hb 14
  have a15 := nbk_add b hb 15
  have a16 := nbk_add b hb 16
  rw [nb]
  simp only [Nat.reduceMul, Nat.reducePow, Nat.reduceAdd] at *
  omega
theorem byte_nat {b : List Int} (hb : ∀ x ∈ b, 0 ≤ x ∧ x < 256) (i : Nat) : ∃ n : Nat, b.getD i 0 = (n : Int) ∧ (b.getD i 0).toNat = n ∧ n < 256 := by
  have h := byte_at hb i
  exact ⟨(b.getD i 0).toNat, by omega, rfl, by omega⟩
theorem hi_math (n0 n1 n2 n3 n4 n5 n6 n7 n8 n9 n10 n11 n12 n13 n14 n15 n16 : Nat) (h : 3 < n16) : ¬ n0 * 1 + n1 * 256 + n2 * 65536 + n3 * 16777216 + n4 * 4294967296 + n5 * 1099511627776 + n6 * 281474976710656 + n7 * 72057594037927936 + n8 * 18446744073709551616 + n9 * 4722366482869645213696 + n10 * 1208925819614629174706176 + n11 * 309485009821345068724781056 + n12 * 79228162514264337593543950336 + n13 * 20282409603651670423947251286016 + n14 * 5192296858534827628530496329220096 + n15 * 1329227995784915872903807060280344576 + n16 * 340282366920938463463374607431768211456 < 1361129467683753853853498429727072845819 := by omega
theorem mid_math1 (n0 n1 n2 n3 n4 n5 n6 n7 n8 n9 n10 n11 n12 n13 n14 n15 n16 : Nat) (h0 : n0 < 256) (h1 : n1 < 256) (h2 : n2 < 256) (h3 : n3 < 256) (h4 : n4 < 256) (h5 : n5 < 256) (h6 : n6 < 256) (h7 : n7 < 256) (h8 : n8 < 256) (h9 : n9 < 256) (h10 : n10 < 256) (h11 : n11 < 256) (h12 : n12 < 256) (h13 : n13 < 256) (h14 : n14 < 256) (h15 : n15 < 256) (h16 : n16 < 256) (h : n16 ≤ 3) (hi : n1 ≠ 255) : n0 * 1 + n1 * 256 + n2 * 65536 + n3 * 16777216 + n4 * 4294967296 + n5 * 1099511627776 + n6 * 281474976710656 + n7 * 72057594037927936 + n8 * 18446744073709551616 + n9 * 4722366482869645213696 + n10 * 1208925819614629174706176 + n11 * 309485009821345068724781056 + n12 * 79228162514264337593543950336 + n13 * 20282409603651670423947251286016 + n14 * 5192296858534827628530496329220096 + n15 * 1329227995784915872903807060280344576 + n16 * 340282366920938463463374607431768211456 < 1361129467683753853853498429727072845819 := by omega
theorem mid_math2 (n0 n1 n2 n3 n4 n5 n6 n7 n8 n9 n10 n11 n12 n13 n14 n15 n16 : Nat) (h0 : n0 < 256) (h1 : n1 < 256) (h2 : n2 < 256) (h3 : n3 < 256) (h4 : n4 < 256) (h5 : n5 < 256) (h6 : n6 < 256) (h7 : n7 < 256) (h8 : n8 < 256) (h9 : n9 < 256) (h10 : n10 < 256) (h11 : n11 < 256) (h12 : n12 < 256) (h13 : n13 < 256) (h14 : n14 < 256) (h15 : n15 < 256) (h16 : n16 < 256) (h : n16 ≤ 3) (hi : n2 ≠ 255) : n0 * 1 + n1 * 256 + n2 * 65536 + n3 * 16777216 + n4 * 4294967296 + n5 * 1099511627776 + n6 * 281474976710656 + n7 * 72057594037927936 + n8 * 18446744073709551616 + n9 * 4722366482869645213696 + n10 * 1208925819614629174706176 + n11 * 309485009821345068724781056 + n12 * 79228162514264337593543950336 + n13 * 20282409603651670423947251286016 + n14 * 5192296858534827628530496329220096 + n15 * 1329227995784915872903807060280344576 + n16 * 340282366920938463463374607431768211456 < 1361129467683753853853498429727072845819 := by omega
theorem mid_math3 (n0 n1 n2 n3 n4 n5 n6 n7 n8 n9 n10 n11 n12 n13 n14 n15 n16 : Nat) (h0 : n0 < 256) (h1 : n1 < 256) (h2 : n2 < 256) (h3 : n3 < 256) (h4 : n4 < 256) (h5 : n5 < 256) (h6 : n6 < 256) (h7 : n7 < 256) (h8 : n8 < 256) (h9 : n9 < 256) (h10 : n10 < 256) (h11 : n11 < 256) (h12 : n12 < 256) (h13 : n13 < 256) (h14 : n14 < 256) (h15 : n15 < 256) (h16 : n16 < 256) (h : n16 ≤ 3) (hi : n3 ≠ 255) : n0 * 1 + n1 * 256 + n2 * 65536 + n3 * 16777216 + n4 * 4294967296 + n5 * 1099511627776 + n6 * 281474976710656 + n7 * 72057594037927936 + n8 * 18446744073709551616 + n9 * 4722366482869645213696 + n10 * 1208925819614629174706176 + n11 * 309485009821345068724781056 + n12 * 79228162514264337593543950336 + n13 * 20282409603651670423947251286016 + n14 * 5192296858534827628530496329220096 + n15 * 1329227995784915872903807060280344576 + n16 * 340282366920938463463374607431768211456 < 1361129467683753853853498429727072845819 := by omega
theorem mid_math4 (n0 n1 n2 n3 n4 n5 n6 n7 n8 n9 n10 n11 n12 n13 n14 n15 n16 : Nat) (h0 : n0 < 256) (h1 : n1 < 256) (h2 : n2 < 256) (h3 : n3 < 256) (h4 : n4 < 256) (h5 : n5 < 256) (h6 : n6 < 256) (h7 : n7 < 256) (h8 : n8 < 256) (h9 : n9 < 256) (h10 : n10 < 256) (h11 : n11 < 256) (h12 : n12 < 256) (h13 : n13 < 256) (h14 : n14 < 256) (h15 : n15 < 256) (h16 : n16 < 256) (h : n16 ≤ 3) (hi : n4 ≠ 255) : n0 * 1 + n1 * 256 + n2 * 65536 + n3 * 16777216 + n4 * 4294967296 + n5 * 1099511627776 + n6 * 281474976710656 + n7 * 72057594037927936 + n8 * 18446744073709551616 + n9 * 4722366482869645213696 + n10 * 1208925819614629174706176 + n11 * 309485009821345068724781056 + n12 * 79228162514264337593543950336 + n13 * 20282409603651670423947251286016 + n14 * 5192296858534827628530496329220096 + n15 * 1329227995784915872903807060280344576 + n16 * 340282366920938463463374607431768211456 < 1361129467683753853853498429727072845819 := by omega
theorem mid_math5 (n0 n1 n2 n3 n4 n5 n6 n7 n8 n9 n10 n11 n12 n13 n14 n15 n16 : Nat) (h0 : n0 < 256) (h1 : n1 < 256) (h2 : n2 < 256) (h3 : n3 < 256) (h4 : n4 < 256) (h5 : n5 < 256) (h6 : n6 < 256) (h7 : n7 < 256) (h8 : n8 < 256) (h9 : n9 < 256) (h10 : n10 < 256) (h11 : n11 < 256) (h12 : n12 < 256) (h13 : n13 < 256) (h14 : n14 < 256) (h15 : n15 < 256) (h16 : n16 < 256) (h : n16 ≤ 3) (hi : n5 ≠ 255) : n0 * 1 + n1 * 256 + n2 * 65536 + n3 * 16777216 + n4 * 4294967296 + n5 * 1099511627776 + n6 * 281474976710656 + n7 * 72057594037927936 + n8 * 18446744073709551616 + n9 * 4722366482869645213696 + n10 * 1208925819614629174706176 + n11 * 309485009821345068724781056 + n12 * 79228162514264337593543950336 + n13 * 20282409603651670423947251286016 + n14 * 5192296858534827628530496329220096 + n15 * 1329227995784915872903807060280344576 + n16 * 340282366920938463463374607431768211456 < 1361129467683753853853498429727072845819 := by omega
theorem mid_math6 (n0 n1 n2 n3 n4 n5 n6 n7 n8 n9 n10 n11 n12 n13 n14 n15 n16 : Nat) (h0 : n0 < 256) (h1 : n1 < 256) (h2 : n2 < 256) (h3 : n3 < 256) (h4 : n4 < 256) (h5 : n5 < 256) (h6 : n6 < 256) (h7 : n7 < 256) (h8 : n8 < 256) (h9 : n9 < 256) (h10 : n10 < 256) (h11 : n11 < 256) (h12 : n12 < 256) (h13 : n13 < 256) (h14 : n14 < 256) (h15 : n15 < 256) (h16 : n16 < 256) (h : n16 ≤ 3) (hi : n6 ≠ 255) : n0 * 1 + n1 * 256 + n2 * 65536 + n3 * 16777216 + n4 * 4294967296 + n5 * 1099511627776 + n6 * 281474976710656 + n7 * 72057594037927936 + n8 * 18446744073709551616 + n9 * 4722366482869645213696 + n10 * 1208925819614629174706176 + n11 * 309485009821345068724781056 + n12 * 79228162514264337593543950336 + n13 * 20282409603651670423947251286016 + n14 * 5192296858534827628530496329220096 + n15 * 1329227995784915872903807060280344576 + n16 * 340282366920938463463374607431768211456 < 1361129467683753853853498429727072845819 := by omega
theorem mid_math7 (n0 n1 n2 n3 n4 n5 n6 n7 n8 n9 n10 n11 n12 n13 n14 n15 n16 : Nat) (h0 : n0 < 256) (h1 : n1 < 256) (h2 : n2 < 256) (h3 : n3 < 256) (h4 : n4 < 256) (h5 : n5 < 256) (h6 : n6 < 256) (h7 : n7 < 256) (h8 : n8 < 256) (h9 : n9 < 256) (h10 : n10 < 256) (h11 : n11 < 256) (h12 : n12 < 256) (h13 : n13 < 256) (h14 : n14 < 256) (h15 : n15 < 256) (h16 : n16 < 256) (h : n16 ≤ 3) (hi : n7 ≠ 255) : n0 * 1 + n1 * 256 + n2 * 65536 + n3 * 16777216 + n4 * 4294967296 + n5 * 1099511627776 + n6 * 281474976710656 + n7 * 72057594037927936 + n8 * 18446744073709551616 + n9 * 4722366482869645213696 + n10 * 1208925819614629174706176 + n11 * 309485009821345068724781056 + n12 * 79228162514264337593543950336 + n13 * 20282409603651670423947251286016 + n14 * 5192296858534827628530496329220096 + n15 * 1329227995784915872903807060280344576 + n16 * 340282366920938463463374607431768211456 < 1361129467683753853853498429727072845819 := by omega
theorem mid_math8 (n0 n1 n2 n3 n4 n5 n6 n7 n8 n9 n10 n11 n12 n13 n14 n15 n16 : Nat) (h0 : n0 < 256) (h1 : n1 < 256) (h2 : n2 < 256) (h3 : n3 < 256) (h4 : n4 < 256) (h5 : n5 < 256) (h6 : n6 < 256) (h7 : n7 < 256) (h8 : n8 < 256) (h9 : n9 < 256) (h10 : n10 < 256) (h11 : n11 < 256) (h12 : n12 < 256) (h13 : n13 < 256) (h14 : n14 < 256) (h15 : n15 < 256) (h16 : n16 < 256) (h : n16 ≤ 3) (hi : n8 ≠ 255) : n0 * 1 + n1 * 256 + n2 * 65536 + n3 * 16777216 + n4 * 4294967296 + n5 * 1099511627776 + n6 * 281474976710656 + n7 * 72057594037927936 + n8 * 18446744073709551616 + n9 * 4722366482869645213696 + n10 * 1208925819614629174706176 + n11 * 309485009821345068724781056 + n12 * 79228162514264337593543950336 + n13 * 20282409603651670423947251286016 + n14 * 5192296858534827628530496329220096 + n15 * 1329227995784915872903807060280344576 + n16 * 340282366920938463463374607431768211456 < 1361129467683753853853498429727072845819 := by omega
theorem mid_math9 (n0 n1 n2 n3 n4 n5 n6 n7 n8 n9 n10 n11 n12 n13 n14 n15 n16 : Nat) (h0 : n0 < 256) (h1 : n1 < 256) (h2 : n2 < 256) (h3 : n3 < 256) (h4 : n4 < 256) (h5 : n5 < 256) (h6 : n6 < 256) (h7 : n7 < 256) (h8 : n8 < 256) (h9 : n9 < 256) (h10 : n10 < 256) (h11 : n11 < 256) (h12 : n12 < 256) (h13 : n13 < 256) (h14 : n14 < 256) (h15 : n15 < 256) (h16 : n16 < 256) (h : n16 ≤ 3) (hi : n9 ≠ 255) : n0 * 1 + n1 * 256 + n2 * 65536 + n3 * 16777216 + n4 * 4294967296 + n5 * 1099511627776 + n6 * 281474976710656 + n7 * 72057594037927936 + n8 * 18446744073709551616 + n9 * 4722366482869645213696 + n10 * 1208925819614629174706176 + n11 * 309485009821345068724781056 + n12 * 79228162514264337593543950336 + n13 * 20282409603651670423947251286016 + n14 * 5192296858534827628530496329220096 + n15 * 1329227995784915872903807060280344576 + n16 * 340282366920938463463374607431768211456 < 1361129467683753853853498429727072845819 := by omega
theorem mid_math10 (n0 n1 n2 n3 n4 n5 n6 n7 n8 n9 n10 n11 n12 n13 n14 n15 n16 : Nat) (h0 : n0 < 256) (h1 : n1 < 256) (h2 : n2 < 256) (h3 : n3 < 256) (h4 : n4 < 256) (h5 : n5 < 256) (h6 : n6 < 256) (h7 : n7 < 256) (h8 : n8 < 256) (h9 : n9 < 256) (h10 : n10 < 256) (h11 : n11 < 256) (h12 : n12 < 256) (h13 : n13 < 256) (h14 : n14 < 256) (h15 : n15 < 256) (h16 : n16 < 256) (h : n16 ≤ 3) (hi : n10 ≠ 255) : n0 * 1 + n1 * 256 + n2 * 65536 + n3 * 16777216 + n4 * 4294967296 + n5 * 1099511627776 + n6 * 281474976710656 + n7 * 72057594037927936 + n8 * 18446744073709551616 + n9 * 4722366482869645213696 + n10 * 1208925819614629174706176 + n11 * 309485009821345068724781056 + n12 * 79228162514264337593543950336 + n13 * 20282409603651670423947251286016 + n14 * 5192296858534827628530496329220096 + n15 * 1329227995784915872903807060280344576 + n16 * 340282366920938463463374607431768211456 < 1361129467683753853853498429727072845819 := by omega
theorem mid_math11 (n0 n1 n2 n3 n4 n5 n6 n7 n8 n9 n10 n11 n12 n13 n14 n15 n16 : Nat) (h0 : n0 < 256) (h1 : n1 < 256) (h2 : n2 < 256) (h3 : n3 < 256) (h4 : n4 < 256) (h5 : n5 < 256) (h6 : n6 < 256) (h7 : n7 < 256) (h8 : n8 < 256) (h9 : n9 < 256) (h10 : n10 < 256) (h11 : n11 < 256) (h12 : n12 < 256) (h13 : n13 < 256) (h14 : n14 < 256) (h15 : n15 < 256) (h16 : n16 < 256) (h : n16 ≤ 3) (hi : n11 ≠ 255) : n0 * 1 + n1 * 256 + n2 * 65536 + n3 * 16777216 + n4 * 4294967296 + n5 * 1099511627776 + n6 * 281474976710656 + n7 * 72057594037927936 + n8 * 18446744073709551616 + n9 * 4722366482869645213696 + n10 * 1208925819614629174706176 + n11 * 309485009821345068724781056 + n12 * 79228162514264337593543950336 + n13 * 20282409603651670423947251286016 + n14 * 5192296858534827628530496329220096 + n15 * 1329227995784915872903807060280344576 + n16 * 340282366920938463463374607431768211456 < 1361129467683753853853498429727072845819 := by omega
theorem mid_math12 (n0 n1 n2 n3 n4 n5 n6 n7 n8 n9 n10 n11 n12 n13 n14 n15 n16 : Nat) (h0 : n0 < 256) (h1 : n1 < 256) (h2 : n2 < 256) (h3 : n3 < 256) (h4 : n4 < 256) (h5 : n5 < 256) (h6 : n6 < 256) (h7 : n7 < 256) (h8 : n8 < 256) (h9 : n9 < 256) (h10 : n10 < 256) (h11 : n11 < 256) (h12 : n12 < 256) (h13 : n13 < 256) (h14 : n14 < 256) (h15 : n15 < 256) (h16 : n16 < 256) (h : n16 ≤ 3) (hi : n12 ≠ 255) : n0 * 1 + n1 * 256 + n2 * 65536 + n3 * 16777216 + n4 * 4294967296 + n5 * 1099511627776 + n6 * 281474976710656 + n7 * 72057594037927936 + n8 * 18446744073709551616 + n9 * 4722366482869645213696 + n10 * 1208925819614629174706176 + n11 * 309485009821345068724781056 + n12 * 79228162514264337593543950336 + n13 * 20282409603651670423947251286016 + n14 * 5192296858534827628530496329220096 + n15 * 1329227995784915872903807060280344576 + n16 * 340282366920938463463374607431768211456 < 1361129467683753853853498429727072845819 := by omega
theorem mid_math13 (n0 n1 n2 n3 n4 n5 n6 n7 n8 n9 n10 n11 n12 n13 n14 n15 n16 : Nat) (h0 : n0 < 256) (h1 : n1 < 256) (h2 : n2 < 256) (h3 : n3 < 256) (h4 : n4 < 256) (h5 : n5 < 256) (h6 : n6 < 256) (h7 : n7 < 256) (h8 : n8 < 256) (h9 : n9 < 256) (h10 : n10 < 256) (h11 : n11 < 256) (h12 : n12 < 256) (h13 : n13 < 256) (h14 : n14 < 256) (h15 : n15 < 256) (h16 : n16 < 256) (h : n16 ≤ 3) (hi : n13 ≠ 255) : n0 * 1 + n1 * 256 + n2 * 65536 + n3 * 16777216 + n4 * 4294967296 + n5 * 1099511627776 + n6 * 281474976710656 + n7 * 72057594037927936 + n8 * 18446744073709551616 + n9 * 4722366482869645213696 + n10 * 1208925819614629174706176 + n11 * 309485009821345068724781056 + n12 * 79228162514264337593543950336 + n13 * 20282409603651670423947251286016 + n14 * 5192296858534827628530496329220096 + n15 * 1329227995784915872903807060280344576 + n16 * 340282366920938463463374607431768211456 < 1361129467683753853853498429727072845819 := by omega
theorem mid_math14 (n0 n1 n2 n3 n4 n5 n6 n7 n8 n9 n10 n11 n12 n13 n14 n15 n16 : Nat) (h0 : n0 < 256) (h1 : n1 < 256) (h2 : n2 < 256) (h3 : n3 < 256) (h4 : n4 < 256) (h5 : n5 < 256) (h6 : n6 < 256) (h7 : n7 < 256) (h8 : n8 < 256) (h9 : n9 < 256) (h10 : n10 < 256) (h11 : n11 < 256) (h12 : n12 < 256) (h13 : n13 < 256) (h14 : n14 < 256) (h15 : n15 < 256) (h16 : n16 < 256) (h : n16 ≤ 3) (hi : n14 ≠ 255) : n0 * 1 + n1 * 256 + n2 * 65536 + n3 * 16777216 + n4 * 4294967296 + n5 * 1099511627776 + n6 * 281474976710656 + n7 * 72057594037927936 + n8 * 18446744073709551616 + n9 * 4722366482869645213696 + n10 * 1208925819614629174706176 + n11 * 309485009821345068724781056 + n12 * 79228162514264337593543950336 + n13 * 20282409603651670423947251286016 + n14 * 5192296858534827628530496329220096 + n15 * 1329227995784915872903807060280344576 + n16 * 340282366920938463463374607431768211456 < 1361129467683753853853498429727072845819 := by omega
theorem mid_math15 (n0 n1 n2 n3 n4 n5 n6 n7 n8 n9 n10 n11 n12 n13 n14 n15 n16 : Nat) (h0 : n0 < 256) (h1 : n1 < 256) (h2 : n2 < 256) (h3 : n3 < 256) (h4 : n4 < 256) (h5 : n5 < 256) (h6 : n6 < 256) (h7 : n7 < 256) (h8 : n8 < 256) (h9 : n9 < 256) (h10 : n10 < 256) (h11 : n11 < 256) (h12 : n12 < 256) (h13 : n13 < 256) (h14 : n14 < 256) (h15 : n15 < 256) (h16 : n16 < 256) (h : n16 ≤ 3) (hi : n15 ≠ 255) : n0 * 1 + n1 * 256 + n2 * 65536 + n3 * 16777216 + n4 * 4294967296 + n5 * 1099511627776 + n6 * 281474976710656 + n7 * 72057594037927936 + n8 * 18446744073709551616 + n9 * 4722366482869645213696 + n10 * 1208925819614629174706176 + n11 * 309485009821345068724781056 + n12 * 79228162514264337593543950336 + n13 * 20282409603651670423947251286016 + n14 * 5192296858534827628530496329220096 + n15 * 1329227995784915872903807060280344576 + n16 * 340282366920938463463374607431768211456 < 1361129467683753853853498429727072845819 := by omega
theorem end_math (n0 n16 : Nat) (h0 : n0 < 256) (h : n16 ≤ 3) : n0 * 1 + 255 * 256 + 255 * 65536 + 255 * 16777216 + 255 * 4294967296 + 255 * 1099511627776 + 255 * 281474976710656 + 255 * 72057594037927936 + 255 * 18446744073709551616 + 255 * 4722366482869645213696 + 255 * 1208925819614629174706176 + 255 * 309485009821345068724781056 + 255 * 79228162514264337593543950336 + 255 * 20282409603651670423947251286016 + 255 * 5192296858534827628530496329220096 + 255 * 1329227995784915872903807060280344576 + n16 * 340282366920938463463374607431768211456 < 1361129467683753853853498429727072845819 ↔ (n16 < 3 ∨ n0 < 251) := by omega
theorem below_hi {b : List Int} (hb : ∀ x ∈ b, 0 ≤ x ∧ x < 256) (h : 3 < b.getD 16 0) : ¬ nb b < P := by
  rw [nb_sum hb]
  unfold P
  obtain ⟨n0, e0, f0, h0⟩ := byte_nat hb 0
  obtain ⟨n1, e1, f1, h1⟩ := byte_nat hb 1
  obtain ⟨n2, e2, f2, h2⟩ := byte_nat hb 2
  obtain ⟨n3, e3, f3, h3⟩ := byte_nat hb 3
  obtain ⟨n4, e4, f4, h4⟩ := byte_nat hb 4
  obtain ⟨n5, e5, f5, h5⟩ := byte_nat hb 5
  obtain ⟨n6, e6, f6, h6⟩ := byte_nat hb 6
  obtain ⟨n7, e7, f7, h7⟩ := byte_nat hb 7
  obtain ⟨n8, e8, f8, h8⟩ := byte_nat hb 8
  obtain ⟨n9, e9, f9, h9⟩ := byte_nat hb 9
  obtain ⟨n10, e10, f10, h10⟩ := byte_nat hb 10
  obtain ⟨n11, e11, f11, h11⟩ := byte_nat hb 11
  obtain ⟨n12, e12, f12, h12⟩ := byte_nat hb 12
  obtain ⟨n13, e13, f13, h13⟩ := byte_nat hb 13
  obtain ⟨n14, e14, f14, h14⟩ := byte_nat hb 14
  obtain ⟨n15, e15, f15, h15⟩ := byte_nat hb 15
  obtain ⟨n16, e16, f16, h16⟩ := byte_nat hb 16
  rw [f0, f1, f2, f3, f4, f5, f6, f7, f8, f9, f10, f11, f12, f13, f14, f15, f16]
  exact hi_math n0 n1 n2 n3 n4 n5 n6 n7 n8 n9 n10 n11 n12 n13 n14 n15 n16 (by omega)
theorem below_mid {b : List Int} (hb : ∀ x ∈ b, 0 ≤ x ∧ x < 256) (h : b.getD 16 0 ≤ 3) (i : Nat) (i1 : 1 ≤ i) (i2 : i < 16) (hi : b.getD i 0 ≠ 255) : nb b < P := by
  rw [nb_sum hb]
  unfold P
  obtain ⟨n0, e0, f0, h0⟩ := byte_nat hb 0
  obtain ⟨n1, e1, f1, h1⟩ := byte_nat hb 1
  obtain ⟨n2, e2, f2, h2⟩ := byte_nat hb 2
  obtain ⟨n3, e3, f3, h3⟩ := byte_nat hb 3
  obtain ⟨n4, e4, f4, h4⟩ := byte_nat hb 4
  obtain ⟨n5, e5, f5, h5⟩ := byte_nat hb 5
  obtain ⟨n6, e6, f6, h6⟩ := byte_nat hb 6
  obtain ⟨n7, e7, f7, h7⟩ := byte_nat hb 7
  obtain ⟨n8, e8, f8, h8⟩ := byte_nat hb 8
  obtain ⟨n9, e9, f9, h9⟩ := byte_nat hb 9
  obtain ⟨n10, e10, f10, h10⟩ := byte_nat hb 10
  obtain ⟨n11, e11, f11, h11⟩ := byte_nat hb 11
  obtain ⟨n12, e12, f12, h12⟩ := byte_nat hb 12
  obtain ⟨n13, e13, f13, h13⟩ := byte_nat hb 13
  obtain ⟨n14, e14, f14, h14⟩ := byte_nat hb 14
  obtain ⟨n15, e15, f15, h15⟩ := byte_nat hb 15
  obtain ⟨n16, e16, f16, h16⟩ := byte_nat hb 16
  rw [f0, f1, f2, f3, f4, f5, f6, f7, f8, f9, f10, f11, f12, f13, f14, f15, f16]
  have hh : i = 1 ∨ i = 2 ∨ i = 3 ∨ i = 4 ∨ i = 5 ∨ i = 6 ∨ i = 7 ∨ i = 8 ∨ i = 9 ∨ i = 10 ∨ i = 11 ∨ i = 12 ∨ i = 13 ∨ i = 14 ∨ i = 15 := by omega
  have h16' : n16 ≤ 3 := by omega
  rcases hh with rfl | rfl | rfl | rfl | rfl | rfl | rfl | rfl | rfl | rfl | rfl | rfl | rfl | rfl | rfl
  · exact mid_math1 n0 n1 n2 n3 n4 n5 n6 n7 n8 n9 n10 n11 n12 n13 n14 n15 n16 h0 h1 h2 h3 h4 h5 h6 h7 h8 h9 h10 h11 h12 h13 h14 h15 h16 h16' (by omega)
  · exact mid_math2 n0 n1 n2 n3 n4 n5 n6 n7 n8 n9 n10 n11 n12 n13 n14 n15 n16 h0 h1 h2 h3 h4 h5 h6 h7 h8 h9 h10 h11 h12 h13 h14 h15 h16 h16' (by omega)
  · exact mid_math3 n0 n1 n2 n3 n4 n5 n6 n7 n8 n9 n10 n11 n12 n13 n14 n15 n16 h0 h1 h2 h3 h4 h5 h6 h7 h8 h9 h10 h11 h12 h13 h14 h15 h16 h16' (by omega)
  · exact mid_math4 n0 n1 n2 n3 n4 n5 n6 n7 n8 n9 n10 n11 n12 n13 n14 n15 n16 h0 h1 h2 h3 h4 h5 h6 h7 h8 h9 h10 h11 h12 h13 h14 h15 h16 h16' (by omega)
  · exact mid_math5 n0 n1 n2 n3 n4 n5 n6 n7 n8 n9 n10 n11 n12 n13 n14 n15 n16 h0 h1 h2 h3 h4 h5 h6 h7 h8 h9 h10 h11 h12 h13 h14 h15 h16 h16' (by omega)
  · exact mid_math6 n0 n1 n2 n3 n4 n5 n6 n7 n8 n9 n10 n11 n12 n13 n14 n15 n16 h0 h1 h2 h3 h4 h5 h6 h7 h8 h9 h10 h11 h12 h13 h14 h15 h16 h16' (by omega)
  · exact mid_math7 n0 n1 n2 n3 n4 n5 n6 n7 n8 n9 n10 n11 n12 n13 n14 n15 n16 h0 h1 h2 h3 h4 h5 h6 h7 h8 h9 h10 h11 h12 h13 h14 h15 h16 h16' (by omega)
  · exact mid_math8 n0 n1 n2 n3 n4 n5 n6 n7 n8 n9 n10 n11 n12 n13 n14 n15 n16 h0 h1 h2 h3 h4 h5 h6 h7 h8 h9 h10 h11 h12 h13 h14 h15 h16 h16' (by omega)
  · exact mid_math9 n0 n1 n2 n3 n4 n5 n6 n7 n8 n9 n10 n11 n12 n13 n14 n15 n16 h0 h1 h2 h3 h4 h5 h6 h7 h8 h9 h10 h11 h12 h13 h14 h15 h16 h16' (by omega)
  · exact mid_math10 n0 n1 n2 n3 n4 n5 n6 n7 n8 n9 n10 n11 n12 n13 n14 n15 n16 h0 h1 h2 h3 h4 h5 h6 h7 h8 h9 h10 h11 h12 h13 h14 h15 h16 h16' (by omega)
  · exact mid_math11 n0 n1 n2 n3 n4 n5 n6 n7 n8 n9 n10 n11 n12 n13 n14 n15 n16 h0 h1 h2 h3 h4 h5 h6 h7 h8 h9 h10 h11 h12 h13 h14 h15 h16 h16' (by omega)
  · exact mid_math12 n0 n1 n2 n3 n4 n5 n6 n7 n8 n9 n10 n11 n12 n13 n14 n15 n16 h0 h1 h2 h3 h4 h5 h6 h7 h8 h9 h10 h11 h12 h13 h14 h15 h16 h16' (by omega)
  · exact mid_math13 n0 n1 n2 n3 n4 n5 n6 n7 n8 n9 n10 n11 n12 n13 n14 n15 n16 h0 h1 h2 h3 h4 h5 h6 h7 h8 h9 h10 h11 h12 h13 h14 h15 h16 h16' (by omega)
  · exact mid_math14 n0 n1 n2 n3 n4 n5 n6 n7 n8 n9 n10 n11 n12 n13 n14 n15 n16 h0 h1 h2 h3 h4 h5 h6 h7 h8 h9 h10 h11 h12 h13 h14 h15 h16 h16' (by omega)
  · exact mid_math15 n0 n1 n2 n3 n4 n5 n6 n7 n8 n9 n10 n11 n12 n13 n14 n15 n16 h0 h1 h2 h3 h4 h5 h6 h7 h8 h9 h10 h11 h12 h13 h14 h15 h16 h16' (by omega)
theorem below_end {b : List Int} (hb : ∀ x ∈ b, 0 ≤ x ∧ x < 256) (h : b.getD 16 0 ≤ 3) (hm : ∀ j, 1 ≤ j → j < 16 → b.getD j 0 = 255) : nb b < P ↔ (b.getD 16 0 < 3 ∨ b.getD 0 0 < 251) := by
  rw [nb_sum hb]
  unfold P
  obtain ⟨n0, e0, f0, h0⟩ := byte_nat hb 0
  obtain ⟨n1, e1, f1, h1⟩ := byte_nat hb 1
  obtain ⟨n2, e2, f2, h2⟩ := byte_nat hb 2
  obtain ⟨n3, e3, f3, h3⟩ := byte_nat hb 3
  obtain ⟨n4, e4, f4, h4⟩ := byte_nat hb 4
  obtain ⟨n5, e5, f5, h5⟩ := byte_nat hb 5
  obtain ⟨n6, e6, f6, h6⟩ := byte_nat hb 6
  obtain ⟨n7, e7, f7, h7⟩ := byte_nat hb 7
  obtain ⟨n8, e8, f8, h8⟩ := byte_nat hb 8
  obtain ⟨n9, e9, f9, h9⟩ := byte_nat hb 9
  obtain ⟨n10, e10, f10, h10⟩ := byte_nat hb 10
  obtain ⟨n11, e11, f11, h11⟩ := byte_nat hb 11
  obtain ⟨n12, e12, f12, h12⟩ := byte_nat hb 12
  obtain ⟨n13, e13, f13, h13⟩ := byte_nat hb 13
  obtain ⟨n14, e14, f14, h14⟩ := byte_nat hb 14
  obtain ⟨n15, e15, f15, h15⟩ := byte_nat hb 15
  obtain ⟨n16, e16, f16, h16⟩ := byte_nat hb 16
  rw [f0, f1, f2, f3, f4, f5, f6, f7, f8, f9, f10, f11, f12, f13, f14, f15, f16]
  have m1 : n1 = 255 := by have := hm 1 (by decide) (by decide); omega
  have m2 : n2 = 255 := by have := hm 2 (by decide) (by decide); omega
  have m3 : n3 = 255 := by have := hm 3 (by decide) (by decide); omega
  have m4 : n4 = 255 := by have := hm 4 (by decide) (by decide); omega
  have m5 : n5 = 255 := by have := hm 5 (by decide) (by decide); omega
  have m6 : n6 = 255 := by have := hm 6 (by decide) (by decide); omega
  have m7 : n7 = 255 := by have := hm 7 (by decide) (by decide); omega
  have m8 : n8 = 255 := by have := hm 8 (by decide) (by decide); omega
  have m9 : n9 = 255 := by have := hm 9 (by decide) (by decide); omega
  have m10 : n10 = 255 := by have := hm 10 (by decide) (by decide); omega
  have m11 : n11 = 255 := by have := hm 11 (by decide) (by decide); omega
  have m12 : n12 = 255 := by have := hm 12 (by decide) (by decide); omega
  have m13 : n13 = 255 := by have := hm 13 (by decide) (by decide); omega
  have m14 : n14 = 255 := by have := hm 14 (by decide) (by decide); omega
  have m15 : n15 = 255 := by have := hm 15 (by decide) (by decide); omega
  subst m1 m2 m3 m4 m5 m6 m7 m8 m9 m10 m11 m12 m13 m14 m15
  have hE := end_math n0 n16 h0 (by omega)
  rw [e0, e16]
  refine hE.trans ?_
  omega
set_option maxRecDepth 100000 in
set_option maxHeartbeats 4000000 in
theorem below_any (b : List Int) (hb : Key17 b) (w : World) :
    Calls Try.prog 18 #[.agg (VI .u8 b)] w fun e w' => e = .returned (.bool (decide (nb b < P))) ∧ Below w.heap.size w w' := by
  have hrow : rowB (w.alloc (.cells (VI .u8 b) 39)) w.heap.size b 39 := by simp only [rowB, heap_alloc_any, if_true]
  have hbw : Below w.heap.size w (w.alloc (.cells (VI .u8 b) 39)) := (Below.refl _ _).alloc (Nat.le_refl _) _
  obtain ⟨W, hW⟩ : ∃ W, w.alloc (.cells (VI .u8 b) 39) = W := ⟨_, rfl⟩
  rw [hW] at hrow hbw
  have h16 := rowB_cell hrow (i := 16) (by rw [hb.len]; omega)
  have h00 := rowB_cell hrow (i := 0) (by rw [hb.len]; omega)
  have HROW : Hid (rowB W w.heap.size b 39) := hrow
  have HBW : Hid (Below w.heap.size w W) := hbw
  have HB : Hid (Key17 b) := hb
  obtain ⟨x, hx⟩ : ∃ x, b.getD 16 0 = x := ⟨_, rfl⟩
  obtain ⟨y, hy⟩ : ∃ y, b.getD 0 0 = y := ⟨_, rfl⟩
  have HX : Hid (b.getD 16 0 = x) := hx
  have HY : Hid (b.getD 0 0 = y) := hy
  rw [hx] at h16
  rw [hy] at h00
  clear hrow hbw hb hx hy
  by_cases h3 : 3 < x
  · have hd : decide (nb b < P) = false := by
      have := below_hi HB.out.bd (by rw [HX.out]; exact h3)
      simp [this]
    rw [hd]
    clear hd
    have h3' : decide (x > 3) = true := by simp; omega
    go_enter Try.func18, Try.ntmps18
    go_wp2
    go_ret
    exact ⟨rfl, HBW.out⟩
  · have hx3 : x ≤ 3 := by omega
    go_enter Try.func18, Try.ntmps18
    go_wp2
    go_loopw [3] (fun i w' => ∃ k : Nat, 1 ≤ k ∧ k ≤ 16 ∧ i = .int .i64 k ∧ (∀ j, 1 ≤ j → j < k → b.getD j 0 = 255) ∧ w' = W) (fun i _ => 16 - (intOf i).toNat)
    case atStart => exact ⟨1, by omega, by omega, rfl, fun j h1 h2 => by omega, rfl⟩
    case round =>
      obtain ⟨k, hk1, hk, rfl, hm, rfl⟩ := hrel
      by_cases hlt : k < 16
      · have hc := rowB_cell HROW.out (i := k) (by rw [HB.out.len]; omega)
        have HM : Hid (∀ j, 1 ≤ j → j < k → b.getD j 0 = 255) := hm
        obtain ⟨z, hz⟩ : ∃ z, b.getD k 0 = z := ⟨_, rfl⟩
        have HZ : Hid (b.getD k 0 = z) := hz
        rw [hz] at hc
        clear hm hz
        by_cases h255 : z = 255
        · subst h255
          go_wp2
          go_roundw
          case rel => exact ⟨k + 1, by omega, by omega, by go_num, fun j h1 h2 => by
            by_cases e : j = k
            · rw [e]; exact HZ.out
            · exact HM.out j h1 (by omega), by first | trivial | rfl⟩
          case measure => simp [intOf]; omega
        · have hd : decide (nb b < P) = true := by
            have := below_mid HB.out.bd (by rw [HX.out]; exact hx3) k hk1 hlt (by rw [HZ.out]; exact h255)
            simp [this]
          have HD : Hid (decide (nb b < P) = true) := hd
          clear hd
          go_wp2
          go_ret
          exact ⟨by rw [HD.out]; rfl, HBW.out⟩
      · have hk' : k = 16 := by omega
        subst hk'
        have he := below_end HB.out.bd (by rw [HX.out]; exact hx3) hm
        rw [HX.out, HY.out] at he
        have hd : decide (nb b < P) = (decide (x < 3) || decide (y < 251)) := by
          by_cases e1 : x < 3 <;> by_cases e2 : y < 251 <;> simp [he, e1, e2]
        have HD : Hid (decide (nb b < P) = (decide (x < 3) || decide (y < 251))) := hd
        clear hd he hm hlt hk hk1
        rw [show ((16 : Nat) : Int) = 16 from rfl]
        by_cases e1 : x < 3
        · have E1 : Hid (decide (x < 3) = true) := by
            have : decide (x < 3) = true := by simp [e1]
            exact this
          go_wp2
          go_ret
          exact ⟨by rw [HD.out, E1.out]; rfl, HBW.out⟩
        · have E1 : Hid (decide (x < 3) = false) := by
            have : decide (x < 3) = false := by simp [e1]
            exact this
          go_wp2
          go_ret
          exact ⟨by rw [HD.out, E1.out]; rfl, HBW.out⟩
end Go.Proofs.Ytfeoamkngnpcmaa
