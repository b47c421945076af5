/- Two digests reckoned by the kernel: the functions of the mathematics once more, each number forced as soon as it is there. -/
import Derived.Test.YtdgpphihjeffcaaDoorShaMath3
namespace Go.Proofs.YtdgpphihjeffcaaDoor
open Go Go.RowKit

/-- A number is reckoned before it is handed on. -/
def fI {α : Type} (x : Int) (k : Int → α) : α :=
  match x with
  | .ofNat n => Nat.rec (k 0) (fun m _ => k (Int.ofNat (Nat.succ m))) n
  | .negSucc n => k (.negSucc n)
theorem fI_eq {α : Type} (x : Int) (k : Int → α) : fI x k = k x := by
  cases x with
  | ofNat n => cases n <;> rfl
  | negSucc n => rfl
def fL {α : Type} : List Int → (List Int → α) → α
  | [], k => k []
  | x :: r, k => fI x fun y => fL r fun s => k (y :: s)
theorem fL_eq {α : Type} : ∀ (l : List Int) (k : List Int → α), fL l k = k l
  | [], _ => rfl
  | x :: r, k => by rw [fL, fI_eq, fL_eq r]

def xo (x y : Int) : Int := Int.ofNat (Nat.xor (Int.toNat (x % 4294967296)) (Int.toNat (y % 4294967296)))
def an (x y : Int) : Int := Int.ofNat (Nat.land (Int.toNat (x % 4294967296)) (Int.toNat (y % 4294967296)))
def oo (x y : Int) : Int := Int.ofNat (Nat.lor (Int.toNat (x % 4294967296)) (Int.toNat (y % 4294967296)))
def xb (x y : Int) : Int := Int.ofNat (Nat.xor (Int.toNat (x % 256)) (Int.toNat (y % 256)))
theorem ofInt32 (x : Int) : (BitVec.ofInt 32 x).toNat = (x % 4294967296).toNat := by
  rw [BitVec.toNat_ofInt]; rfl
theorem ofInt8 (x : Int) : (BitVec.ofInt 8 x).toNat = (x % 256).toNat := by
  rw [BitVec.toNat_ofInt]; rfl
theorem xo_eq (x y : Int) : bits .xor .u32 x y = xo x y := by
  have h : (BitVec.ofInt 32 x ^^^ BitVec.ofInt 32 y).toNat = Nat.xor (x % 4294967296).toNat (y % 4294967296).toNat := by rw [BitVec.toNat_xor, ofInt32, ofInt32]; rfl
  have hl := (BitVec.ofInt 32 x ^^^ BitVec.ofInt 32 y).isLt
  show IntKind.u32.wrap ((BitVec.ofInt 32 x ^^^ BitVec.ofInt 32 y).toNat : Int) = _
  rw [IntKind.wrap_u32, xo, ← h]
  show _ = ((BitVec.ofInt 32 x ^^^ BitVec.ofInt 32 y).toNat : Int)
  omega
theorem an_eq (x y : Int) : bits .and .u32 x y = an x y := by
  have h : (BitVec.ofInt 32 x &&& BitVec.ofInt 32 y).toNat = Nat.land (x % 4294967296).toNat (y % 4294967296).toNat := by rw [BitVec.toNat_and, ofInt32, ofInt32]; rfl
  have hl := (BitVec.ofInt 32 x &&& BitVec.ofInt 32 y).isLt
  show IntKind.u32.wrap ((BitVec.ofInt 32 x &&& BitVec.ofInt 32 y).toNat : Int) = _
  rw [IntKind.wrap_u32, an, ← h]
  show _ = ((BitVec.ofInt 32 x &&& BitVec.ofInt 32 y).toNat : Int)
  omega
theorem oo_eq (x y : Int) : bits .or .u32 x y = oo x y := by
  have h : (BitVec.ofInt 32 x ||| BitVec.ofInt 32 y).toNat = Nat.lor (x % 4294967296).toNat (y % 4294967296).toNat := by rw [BitVec.toNat_or, ofInt32, ofInt32]; rfl
  have hl := (BitVec.ofInt 32 x ||| BitVec.ofInt 32 y).isLt
  show IntKind.u32.wrap ((BitVec.ofInt 32 x ||| BitVec.ofInt 32 y).toNat : Int) = _
  rw [IntKind.wrap_u32, oo, ← h]
  show _ = ((BitVec.ofInt 32 x ||| BitVec.ofInt 32 y).toNat : Int)
  omega
theorem xb_eq (x y : Int) : bits .xor .u8 x y = xb x y := by
  have h : (BitVec.ofInt 8 x ^^^ BitVec.ofInt 8 y).toNat = Nat.xor (x % 256).toNat (y % 256).toNat := by rw [BitVec.toNat_xor, ofInt8, ofInt8]; rfl
  have hl := (BitVec.ofInt 8 x ^^^ BitVec.ofInt 8 y).isLt
  show IntKind.u8.wrap ((BitVec.ofInt 8 x ^^^ BitVec.ofInt 8 y).toNat : Int) = _
  rw [IntKind.wrap_u8, xb, ← h]
  show _ = ((BitVec.ofInt 8 x ^^^ BitVec.ofInt 8 y).toNat : Int)
  omega

def rotrE (x : Int) (k : Nat) : Int := oo (x * Int.ofNat (Nat.pow 2 (Nat.sub 32 k)) % 4294967296) (x / Int.ofNat (Nat.pow 2 k))
theorem rotrE_eq (x : Int) (k : Nat) : rotr x k = rotrE x k := by
  have e : ∀ n : Nat, (2 : Int) ^ n = Int.ofNat (Nat.pow 2 n) := fun n => by
    show _ = ((2 ^ n : Nat) : Int); rw [Int.natCast_pow]; rfl
  rw [rotr, oo_eq, e, e]; rfl
def turns3E (x : Int) (i j k : Nat) : Int := xo (xo (rotrE x i) (rotrE x j)) (rotrE x k)
theorem turns3E_eq (x : Int) (i j k : Nat) : turns3 x i j k = turns3E x i j k := by simp only [turns3, turns3E, xo_eq, rotrE_eq]
def accsE (b : List Int) : Nat → List Int
  | 0 => List.replicate 64 0
  | k + 1 => fL (accsE b k) fun L => fI (oo (L.getD (k / 4) 0 * 256 % 4294967296) (b.getD k 0)) fun v => L.set (k / 4) v
theorem accsE_eq (b : List Int) : ∀ k, accsE b k = accs b k
  | 0 => rfl
  | k + 1 => by rw [accsE, fL_eq, fI_eq, accsE_eq b k, ← oo_eq]; rfl
def nextE (L : List Int) (t : Nat) : Int :=
  fI (L.getD (t - 2) 0) fun p => fI (L.getD (t - 15) 0) fun q =>
    (xo (xo (rotrE p 17) (rotrE p 19)) (p / 1024) + L.getD (t - 7) 0 + xo (xo (rotrE q 7) (rotrE q 18)) (q / 8) + L.getD (t - 16) 0) % 4294967296
theorem nextE_eq (L : List Int) (t : Nat) : nextE L t = nextw L t := by
  simp only [nextE, fI_eq, nextw, sig1, sig0, xo_eq, rotrE_eq]
def schedE (b : List Int) : Nat → List Int
  | 0 => accsE b 64
  | n + 1 => fL (schedE b n) fun L => fI (nextE L (16 + n)) fun v => L.set (16 + n) v
theorem schedE_eq (b : List Int) : ∀ n, schedE b n = sched b n
  | 0 => accsE_eq b 64
  | n + 1 => by rw [schedE, fL_eq, fI_eq, schedE_eq b n, nextE_eq]; rfl
def rndE (s : List Int) (kt wt : Int) : List Int :=
  match s with
  | [a, b, c, d, e, f, g, h] =>
    fI ((h + turns3E e 6 11 25 + xo (an e f) (an (xo 4294967295 e) g) + kt + wt) % 4294967296) fun X =>
    fI ((turns3E a 2 13 22 + xo (xo (an a b) (an a c)) (an b c)) % 4294967296) fun Y =>
    fI ((X + Y) % 4294967296) fun A => fI ((d + X) % 4294967296) fun E => [A, a, b, c, E, e, f, g]
  | s => s
theorem rndE_eq (s : List Int) (kt wt : Int) : rndE s kt wt = rnd s kt wt := by
  unfold rndE rnd
  split
  · simp only [fI_eq, ← xo_eq, ← an_eq, ← turns3E_eq]
  · rename_i hx
    split
    · exact (hx _ _ _ _ _ _ _ _ rfl).elim
    · rfl
def rndsE (W s : List Int) : Nat → List Int
  | 0 => s
  | k + 1 => fI (rootsL.getD k 0) fun kt => fI (W.getD k 0) fun wt => rndE (rndsE W s k) kt wt
theorem rndsE_eq (W s : List Int) : ∀ k, rndsE W s k = rnds W s k
  | 0 => rfl
  | k + 1 => by rw [rndsE, fI_eq, fI_eq, rndsE_eq W s k, rndE_eq]; rfl
def mixE (s b : List Int) : List Int :=
  fL s fun s => fL b fun b => fL (schedE b 48) fun W => fL (rndsE W s 64) fun R => fL (addU s R 8) id
theorem mixE_eq (s b : List Int) : mixE s b = mixL s b := by
  simp only [mixE, fL_eq, schedE_eq, rndsE_eq, id]; rfl
def absorbE (bs : List Int) : Nat → List Int
  | 0 => startL
  | k + 1 => mixE (absorbE bs k) ((bs.drop (64 * k)).take 64)
theorem absorbE_eq (bs : List Int) : ∀ k, absorbE bs k = absorb bs k
  | 0 => rfl
  | k + 1 => by rw [absorbE, mixE_eq, absorbE_eq bs k]; rfl
def digestE (bs : List Int) : List Int :=
  fL (if 64 - bs.length % 64 - 1 < 8 then mixE (mixE (absorbE bs (bs.length / 64)) (padB (bs.drop (64 * (bs.length / 64))))) (putC (List.replicate 64 0) (bs.length * 8) 8)
    else mixE (absorbE bs (bs.length / 64)) (putC (padB (bs.drop (64 * (bs.length / 64)))) (bs.length * 8) 8)) fun s => fL (sbL s 8) id
theorem digestE_eq (bs : List Int) : digestE bs = digestL bs := by
  simp only [digestE, fL_eq, mixE_eq, absorbE_eq, id]; rfl
set_option maxRecDepth 1000000 in
theorem digest_abc : (digestL [97, 98, 99]).take 4 = [186, 120, 22, 191] := by
  rw [← digestE_eq]; decide +kernel
end Go.Proofs.YtdgpphihjeffcaaDoor
