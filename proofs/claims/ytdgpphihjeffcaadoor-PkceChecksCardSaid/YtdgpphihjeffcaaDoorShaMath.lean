/- The plain mathematics of digests: what the program's text computes, as functions on lists of numbers. -/
import Derived.Test.YtdgpphihjeffcaaDoorKit
namespace Go.Proofs.YtdgpphihjeffcaaDoor
open Go Go.RowKit

/-- A word turned right by k bits. -/
def rotr (x : Int) (k : Nat) : Int := bits .or .u32 (x * 2 ^ (32 - k) % 4294967296) (x / 2 ^ k)
theorem bits_u32 (op : BinOp) (x y : Int) : 0 ≤ bits op .u32 x y ∧ bits op .u32 x y < 4294967296 := by
  unfold bits; simp only [IntKind.wrap_u32]; omega
theorem rotr_bd (x : Int) (k : Nat) : 0 ≤ rotr x k ∧ rotr x k < 4294967296 := bits_u32 _ _ _
def turns3 (x : Int) (i j k : Nat) : Int := bits .xor .u32 (bits .xor .u32 (rotr x i) (rotr x j)) (rotr x k)
theorem turns3_bd (x : Int) (i j k : Nat) : 0 ≤ turns3 x i j k ∧ turns3 x i j k < 4294967296 := bits_u32 _ _ _
/-- Is it a word? -/
def W32 (x : Int) : Prop := 0 ≤ x ∧ x < 4294967296

/-- The first sixteen words, byte by byte: behind k bytes. -/
def accs (b : List Int) : Nat → List Int
  | 0 => List.replicate 64 0
  | k + 1 => (accs b k).set (k / 4) (bits .or .u32 ((accs b k).getD (k / 4) 0 * 256 % 4294967296) (b.getD k 0))
@[simp] theorem length_accs (b : List Int) : ∀ k, (accs b k).length = 64
  | 0 => by simp [accs]
  | k + 1 => by simp [accs, length_accs b k]
theorem accs_bd (b : List Int) : ∀ k i, 0 ≤ (accs b k).getD i 0 ∧ (accs b k).getD i 0 < 4294967296
  | 0, i => by
    simp only [accs, List.getD_eq_getElem?_getD, List.getElem?_replicate]
    split <;> simp
  | k + 1, i => by
    have h := accs_bd b k i
    simp only [accs, List.getD_eq_getElem?_getD, List.getElem?_set] at h ⊢
    split
    · split
      · simp only [Option.getD_some]; exact bits_u32 _ _ _
      · simp
    · exact h
def sig1 (p : Int) : Int := bits .xor .u32 (bits .xor .u32 (rotr p 17) (rotr p 19)) (p / 1024)
def sig0 (q : Int) : Int := bits .xor .u32 (bits .xor .u32 (rotr q 7) (rotr q 18)) (q / 8)
/-- The next word. -/
def nextw (L : List Int) (t : Nat) : Int := (sig1 (L.getD (t - 2) 0) + L.getD (t - 7) 0 + sig0 (L.getD (t - 15) 0) + L.getD (t - 16) 0) % 4294967296
/-- All words, behind n steps from the sixteenth on. -/
def sched (b : List Int) : Nat → List Int
  | 0 => accs b 64
  | n + 1 => (sched b n).set (16 + n) (nextw (sched b n) (16 + n))
@[simp] theorem length_sched (b : List Int) : ∀ k, (sched b k).length = 64
  | 0 => by simp [sched]
  | k + 1 => by simp [sched, length_sched b k]
theorem nextw_bd (L : List Int) (t : Nat) : 0 ≤ nextw L t ∧ nextw L t < 4294967296 := by unfold nextw; omega
theorem sched_bd (b : List Int) : ∀ k i, 0 ≤ (sched b k).getD i 0 ∧ (sched b k).getD i 0 < 4294967296
  | 0, i => accs_bd b 64 i
  | k + 1, i => by
    have h := sched_bd b k i
    simp only [sched, List.getD_eq_getElem?_getD, List.getElem?_set] at h ⊢
    split
    · split
      · simp only [Option.getD_some]; exact nextw_bd _ _
      · simp
    · exact h

/-- The constants of the rounds. -/
def rootsL : List Int := [1116352408, 1899447441, 3049323471, 3921009573, 961987163, 1508970993, 2453635748, 2870763221, 3624381080, 310598401, 607225278, 1426881987, 1925078388, 2162078206, 2614888103, 3248222580, 3835390401, 4022224774, 264347078, 604807628, 770255983, 1249150122, 1555081692, 1996064986, 2554220882, 2821834349, 2952996808, 3210313671, 3336571891, 3584528711, 113926993, 338241895, 666307205, 773529912, 1294757372, 1396182291, 1695183700, 1986661051, 2177026350, 2456956037, 2730485921, 2820302411, 3259730800, 3345764771, 3516065817, 3600352804, 4094571909, 275423344, 430227734, 506948616, 659060556, 883997877, 958139571, 1322822218, 1537002063, 1747873779, 1955562222, 2024104815, 2227730452, 2361852424, 2428436474, 2756734187, 3204031479, 3329325298]
theorem length_roots : rootsL.length = 64 := rfl
/-- One round. -/
def rnd (s : List Int) (kt wt : Int) : List Int :=
  match s with
  | [a, b, c, d, e, f, g, h] =>
    [(((h + turns3 e 6 11 25 + bits .xor .u32 (bits .and .u32 e f) (bits .and .u32 (bits .xor .u32 4294967295 e) g) + kt + wt) % 4294967296) + ((turns3 a 2 13 22 + bits .xor .u32 (bits .xor .u32 (bits .and .u32 a b) (bits .and .u32 a c)) (bits .and .u32 b c)) % 4294967296)) % 4294967296,
     a, b, c, (d + ((h + turns3 e 6 11 25 + bits .xor .u32 (bits .and .u32 e f) (bits .and .u32 (bits .xor .u32 4294967295 e) g) + kt + wt) % 4294967296)) % 4294967296, e, f, g]
  | s => s
def rnds (W s : List Int) : Nat → List Int
  | 0 => s
  | k + 1 => rnd (rnds W s k) (rootsL.getD k 0) (W.getD k 0)
/-- The sums, word by word. -/
def addU (s r : List Int) : Nat → List Int
  | 0 => s
  | k + 1 => (addU s r k).set k (((addU s r k).getD k 0 + r.getD k 0) % 4294967296)
@[simp] theorem length_addU (s r : List Int) : ∀ k, (addU s r k).length = s.length
  | 0 => rfl
  | k + 1 => by simp [addU, length_addU s r k]
theorem addU_bd (s r : List Int) (hs : ∀ i, 0 ≤ s.getD i 0 ∧ s.getD i 0 < 4294967296) : ∀ k i, 0 ≤ (addU s r k).getD i 0 ∧ (addU s r k).getD i 0 < 4294967296
  | 0, i => hs i
  | k + 1, i => by
    have h := addU_bd s r hs k i
    simp only [addU, List.getD_eq_getElem?_getD, List.getElem?_set] at h ⊢
    split
    · split
      · simp only [Option.getD_some]; omega
      · simp
    · exact h
/-- The sum behind one block more. -/
def mixL (s b : List Int) : List Int := addU s (rnds (sched b 48) s 64) 8
theorem length_mixL (s b : List Int) : (mixL s b).length = s.length := length_addU _ _ _
theorem mixL_bd (s b : List Int) (hs : ∀ i, 0 ≤ s.getD i 0 ∧ s.getD i 0 < 4294967296) (i : Nat) : 0 ≤ (mixL s b).getD i 0 ∧ (mixL s b).getD i 0 < 4294967296 := addU_bd _ _ hs 8 i
def startL : List Int := [1779033703, 3144134277, 1013904242, 2773480762, 1359893119, 2600822924, 528734635, 1541459225]

end Go.Proofs.YtdgpphihjeffcaaDoor
