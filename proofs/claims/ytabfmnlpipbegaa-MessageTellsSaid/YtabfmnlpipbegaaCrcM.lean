/- The model's operations on numbers of 32 bits, as B32's. -/
import Derived.Test.YtabfmnlpipbegaaBase2
import Derived.Test.YtabfmnlpipbegaaCrc
namespace Mile
open Go Go.RowKit

theorem u32_wrap (x : B32) : IntKind.u32.wrap (x.toNat : Int) = (x.toNat : Int) := by
  have := x.isLt
  exact IntWalk.u32_in _ (by omega)
theorem ofInt_u32 (x : B32) : BitVec.ofInt 32 (x.toNat : Int) = x := by
  apply BitVec.eq_of_toNat_eq; simp
theorem xor_u32 (x y : B32) : bits .xor .u32 (x.toNat : Int) (y.toNat : Int) = ((x ^^^ y).toNat : Int) := by
  show IntKind.u32.wrap ((BitVec.ofInt 32 (x.toNat : Int) ^^^ BitVec.ofInt 32 (y.toNat : Int)).toNat : Int) = _
  rw [ofInt_u32, ofInt_u32, u32_wrap]
theorem xor_u32_of (x : B32) (n : Int) (h0 : 0 ≤ n) (h1 : n < 256) : bits .xor .u32 (x.toNat : Int) n = ((x ^^^ BitVec.ofInt 32 n).toNat : Int) := by
  have e : n = ((BitVec.ofInt 32 n).toNat : Int) := by
    obtain ⟨m, rfl⟩ := Int.eq_ofNat_of_zero_le h0
    simp; omega
  rw [e, xor_u32, ofInt_u32]
theorem shr_u32 (x : B32) : (x.toNat : Int) / (2 : Int) = ((x >>> 1).toNat : Int) := by
  rw [BitVec.toNat_ushiftRight, Nat.shiftRight_eq_div_pow]; omega
theorem and_u32 (x : B32) : bits .and .u32 (x.toNat : Int) 1 = if x.getLsbD 0 then 1 else 0 := by
  show IntKind.u32.wrap ((BitVec.ofInt 32 (x.toNat : Int) &&& BitVec.ofInt 32 1).toNat : Int) = _
  rw [ofInt_u32, u32_wrap]
  have e : (x &&& BitVec.ofInt 32 1).toNat = x.toNat % 2 := by
    rw [BitVec.toNat_and, show (BitVec.ofInt 32 1).toNat = 1 by decide, Nat.and_one_is_mod]
  rw [e, BitVec.getLsbD, Nat.testBit_zero]
  rcases Nat.mod_two_eq_zero_or_one x.toNat with h | h <;> simp [h]
theorem step_product (x : B32) : bits .xor .u32 ((x.toNat : Int) / 2) (2197175160 * bits .and .u32 (x.toNat : Int) 1 % 4294967296) = ((cstep x).toNat : Int) := by
  rw [and_u32, shr_u32]
  have e : (2197175160 * (if x.getLsbD 0 then 1 else 0) % 4294967296 : Int) = ((if x.getLsbD 0 then cpoly else 0#32 : B32).toNat : Int) := by
    cases x.getLsbD 0 <;> decide
  rw [e, xor_u32]; rfl
theorem step_one (x : B32) (h : x.getLsbD 0 = true) : bits .xor .u32 ((x.toNat : Int) / 2) 2197175160 = ((cstep x).toNat : Int) := by
  have := xor_u32 (x >>> 1) cpoly
  rw [shr_u32, cstep, h]
  exact this
theorem step_none (x : B32) (h : x.getLsbD 0 = false) : (x.toNat : Int) / 2 = ((cstep x).toNat : Int) := by
  rw [shr_u32, cstep, h]; simp
theorem not_u32 (x : B32) : bits .xor .u32 IntKind.u32.max (x.toNat : Int) = ((~~~x).toNat : Int) := by
  have e : IntKind.u32.max = ((BitVec.allOnes 32).toNat : Int) := by decide
  rw [e, xor_u32, BitVec.xor_comm, BitVec.xor_allOnes]
theorem ones_u32 : (4294967295 : Int) = ((~~~0#32 : B32).toNat : Int) := by decide
theorem bxor_bits (x y : Int) : bits .xor .u8 x y = bxor x y := by
  show IntKind.u8.wrap (bxor x y) = _
  have := bxor_range x y
  exact IntWalk.u8_in _ (by omega)
end Mile
