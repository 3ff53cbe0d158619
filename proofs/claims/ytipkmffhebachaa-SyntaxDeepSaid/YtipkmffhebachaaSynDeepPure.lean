/- Parentheses in the grammar, computed. -/
import Derived.Test.YtipkmffhebachaaSynAwakes
namespace Go.Proofs.Ytipkmffhebachaa
open Go.RowKit
def parens : Nat → ByteArray
  | 0 => ⟨#[49]⟩
  | n + 1 => ⟨#[40]⟩ ++ parens n ++ ⟨#[41]⟩
def deepSrc (n : Nat) : ByteArray := ⟨#[109, 111, 100, 117, 108, 101, 32, 77, 32, 100, 101, 102, 32, 102, 40, 41, 58, 32, 73, 110, 116, 32, 61, 32]⟩ ++ parens n
def deepOk (n : Nat) : Bool := match parseM 400 (deepSrc n) with
  | none => false
  | some r => if n + 3 ≤ 40 then r.2.2 == 0 else r.2.2 == 4 && r.2.1 == 0
theorem deep_0 : deepOk 0 = true := by kernel_rfl
theorem deep_1 : deepOk 1 = true := by kernel_rfl
theorem deep_2 : deepOk 2 = true := by kernel_rfl
theorem deep_3 : deepOk 3 = true := by kernel_rfl
theorem deep_4 : deepOk 4 = true := by kernel_rfl
theorem deep_5 : deepOk 5 = true := by kernel_rfl
theorem deep_6 : deepOk 6 = true := by kernel_rfl
theorem deep_7 : deepOk 7 = true := by kernel_rfl
theorem deep_8 : deepOk 8 = true := by kernel_rfl
theorem deep_9 : deepOk 9 = true := by kernel_rfl
theorem deep_10 : deepOk 10 = true := by kernel_rfl
theorem deep_11 : deepOk 11 = true := by kernel_rfl
theorem deep_12 : deepOk 12 = true := by kernel_rfl
theorem deep_13 : deepOk 13 = true := by kernel_rfl
theorem deep_14 : deepOk 14 = true := by kernel_rfl
theorem deep_15 : deepOk 15 = true := by kernel_rfl
theorem deep_16 : deepOk 16 = true := by kernel_rfl
theorem deep_17 : deepOk 17 = true := by kernel_rfl
theorem deep_18 : deepOk 18 = true := by kernel_rfl
theorem deep_19 : deepOk 19 = true := by kernel_rfl
theorem deep_20 : deepOk 20 = true := by kernel_rfl
theorem deep_21 : deepOk 21 = true := by kernel_rfl
theorem deep_22 : deepOk 22 = true := by kernel_rfl
theorem deep_23 : deepOk 23 = true := by kernel_rfl
theorem deep_24 : deepOk 24 = true := by kernel_rfl
theorem deep_25 : deepOk 25 = true := by kernel_rfl
theorem deep_26 : deepOk 26 = true := by kernel_rfl
theorem deep_27 : deepOk 27 = true := by kernel_rfl
theorem deep_28 : deepOk 28 = true := by kernel_rfl
theorem deep_29 : deepOk 29 = true := by kernel_rfl
theorem deep_30 : deepOk 30 = true := by kernel_rfl
theorem deep_31 : deepOk 31 = true := by kernel_rfl
theorem deep_32 : deepOk 32 = true := by kernel_rfl
theorem deep_33 : deepOk 33 = true := by kernel_rfl
theorem deep_34 : deepOk 34 = true := by kernel_rfl
theorem deep_35 : deepOk 35 = true := by kernel_rfl
theorem deep_36 : deepOk 36 = true := by kernel_rfl
theorem deep_37 : deepOk 37 = true := by kernel_rfl
theorem deep_38 : deepOk 38 = true := by kernel_rfl
theorem deep_39 : deepOk 39 = true := by kernel_rfl
theorem deep_40 : deepOk 40 = true := by kernel_rfl
theorem deep_41 : deepOk 41 = true := by kernel_rfl
theorem deep_42 : deepOk 42 = true := by kernel_rfl
theorem deep_43 : deepOk 43 = true := by kernel_rfl
theorem deep_44 : deepOk 44 = true := by kernel_rfl
theorem deep_45 : deepOk 45 = true := by kernel_rfl
theorem deep_46 : deepOk 46 = true := by kernel_rfl
theorem deep_47 : deepOk 47 = true := by kernel_rfl
theorem deep_48 : deepOk 48 = true := by kernel_rfl
theorem deep_49 : deepOk 49 = true := by kernel_rfl
theorem deep_50 : deepOk 50 = true := by kernel_rfl
theorem deep_51 : deepOk 51 = true := by kernel_rfl
theorem deep_52 : deepOk 52 = true := by kernel_rfl
theorem deep_53 : deepOk 53 = true := by kernel_rfl
theorem deep_54 : deepOk 54 = true := by kernel_rfl
theorem deep_55 : deepOk 55 = true := by kernel_rfl
theorem deep_56 : deepOk 56 = true := by kernel_rfl
theorem deep_57 : deepOk 57 = true := by kernel_rfl
theorem deep_58 : deepOk 58 = true := by kernel_rfl
theorem deep_59 : deepOk 59 = true := by kernel_rfl
theorem deep_60 : deepOk 60 = true := by kernel_rfl
theorem deep_61 : deepOk 61 = true := by kernel_rfl
theorem deep_62 : deepOk 62 = true := by kernel_rfl
theorem deep_63 : deepOk 63 = true := by kernel_rfl
theorem deep_64 : deepOk 64 = true := by kernel_rfl
theorem deep_65 : deepOk 65 = true := by kernel_rfl
theorem deep_66 : deepOk 66 = true := by kernel_rfl
theorem deep_67 : deepOk 67 = true := by kernel_rfl
theorem deep_68 : deepOk 68 = true := by kernel_rfl
theorem deep_69 : deepOk 69 = true := by kernel_rfl
theorem deep_70 : deepOk 70 = true := by kernel_rfl
theorem deep_71 : deepOk 71 = true := by kernel_rfl
theorem deep_72 : deepOk 72 = true := by kernel_rfl
theorem deep_73 : deepOk 73 = true := by kernel_rfl
theorem deep_74 : deepOk 74 = true := by kernel_rfl
theorem deep_75 : deepOk 75 = true := by kernel_rfl
theorem deep_76 : deepOk 76 = true := by kernel_rfl
theorem deep_77 : deepOk 77 = true := by kernel_rfl
theorem deep_78 : deepOk 78 = true := by kernel_rfl
theorem deep_79 : deepOk 79 = true := by kernel_rfl
theorem deep_of : (n : Nat) → n < 80 → deepOk n = true
  | 0, _ => deep_0
  | 1, _ => deep_1
  | 2, _ => deep_2
  | 3, _ => deep_3
  | 4, _ => deep_4
  | 5, _ => deep_5
  | 6, _ => deep_6
  | 7, _ => deep_7
  | 8, _ => deep_8
  | 9, _ => deep_9
  | 10, _ => deep_10
  | 11, _ => deep_11
  | 12, _ => deep_12
  | 13, _ => deep_13
  | 14, _ => deep_14
  | 15, _ => deep_15
  | 16, _ => deep_16
  | 17, _ => deep_17
  | 18, _ => deep_18
  | 19, _ => deep_19
  | 20, _ => deep_20
  | 21, _ => deep_21
  | 22, _ => deep_22
  | 23, _ => deep_23
  | 24, _ => deep_24
  | 25, _ => deep_25
  | 26, _ => deep_26
  | 27, _ => deep_27
  | 28, _ => deep_28
  | 29, _ => deep_29
  | 30, _ => deep_30
  | 31, _ => deep_31
  | 32, _ => deep_32
  | 33, _ => deep_33
  | 34, _ => deep_34
  | 35, _ => deep_35
  | 36, _ => deep_36
  | 37, _ => deep_37
  | 38, _ => deep_38
  | 39, _ => deep_39
  | 40, _ => deep_40
  | 41, _ => deep_41
  | 42, _ => deep_42
  | 43, _ => deep_43
  | 44, _ => deep_44
  | 45, _ => deep_45
  | 46, _ => deep_46
  | 47, _ => deep_47
  | 48, _ => deep_48
  | 49, _ => deep_49
  | 50, _ => deep_50
  | 51, _ => deep_51
  | 52, _ => deep_52
  | 53, _ => deep_53
  | 54, _ => deep_54
  | 55, _ => deep_55
  | 56, _ => deep_56
  | 57, _ => deep_57
  | 58, _ => deep_58
  | 59, _ => deep_59
  | 60, _ => deep_60
  | 61, _ => deep_61
  | 62, _ => deep_62
  | 63, _ => deep_63
  | 64, _ => deep_64
  | 65, _ => deep_65
  | 66, _ => deep_66
  | 67, _ => deep_67
  | 68, _ => deep_68
  | 69, _ => deep_69
  | 70, _ => deep_70
  | 71, _ => deep_71
  | 72, _ => deep_72
  | 73, _ => deep_73
  | 74, _ => deep_74
  | 75, _ => deep_75
  | 76, _ => deep_76
  | 77, _ => deep_77
  | 78, _ => deep_78
  | 79, _ => deep_79
  | n + 80, h => absurd h (by omega)
end Go.Proofs.Ytipkmffhebachaa
