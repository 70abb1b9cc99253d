import Derived.Test.YtmmijcmlnhmooaaEZ
import Derived.Test.YtmmijcmlnhmooaaEZ1
import Derived.Test.YtmmijcmlnhmooaaEZ2
import Derived.Test.YtmmijcmlnhmooaaEZ3
import Derived.Test.YtmmijcmlnhmooaaEZ4
import Derived.Test.YtmmijcmlnhmooaaEZ7
import Derived.Test.YtmmijcmlnhmooaaEZ8
import Derived.Test.YtmmijcmlnhmooaaEZ9
namespace Go.Proofs.Ytmmijcmlnhmooaa
open Go.ChangeShapes Go.WideShapes Go.ChangeAt Go.RowKit

/-- a step, whatever it is -/
theorem wstep_gen {W w : World} {bx : Nat} {M : Nat × Nat} (h : Goes W w bx M) (K I P C V X Y : Int) (Q : Option Addr) (R : Nat) (l : List Nat) (hb : BitsAt W Q l) (hz : l.length * 8 ≤ reachBytes) : Calls Try.prog 14 #[.pointer (some ⟨bx, 0, none⟩), .agg #[.int .i64 K, .int .i64 I, .int .i64 P, .int .i64 C, .int .u64 V, .int .u64 X, .int .u64 Y, .slice Q l.length R]] w fun e w' => e = .returned (.bool true) ∧ Goes W w' bx M := by
  by_cases h1 : K = 1
  · subst h1; exact wstep_open h I P C V X Y Q l.length R
  by_cases h2 : K = 2
  · subst h2; exact wstep_start h I P C V X Y Q R l hb hz
  by_cases h3 : K = 3
  · subst h3
    by_cases i0 : I = 0
    · subst i0; exact wstep_peek0 h P C V X Y Q l.length R
    by_cases i1 : I = 1
    · subst i1; exact wstep_peek1 h P C V X Y Q l.length R
    exact wstep_peekI h I P C V X Y Q l.length R i0 i1
  by_cases h4 : K = 4
  · subst h4; exact wstep_now h I P C V X Y Q l.length R
  by_cases h5 : K = 5
  · subst h5; exact wstep_begr h I P C V X Y Q l.length R
  by_cases h6 : K = 6
  · subst h6; exact wstep_reads h I P C V X Y Q l.length R
  by_cases h7 : K = 7
  · subst h7; exact wstep_begw h I P C V X Y Q l.length R
  by_cases h8 : K = 8
  · subst h8; exact wstep_writes h I P C V X Y Q l.length R
  by_cases h9 : K = 9
  · subst h9; exact wstep_poke h I P C V X Y Q l.length R
  by_cases h10 : K = 10
  · subst h10; exact wstep_clones h I P C V X Y Q l.length R
  exact wstep_none h K I P C V X Y Q l.length R h1 h2 h3 h4 h5 h6 h7 h8 h9 h10
end Go.Proofs.Ytmmijcmlnhmooaa
