/- JsonLawB: merged. -/
import Derived.Lib.UnsafeStr
import Derived.Lib.Slices
import Derived.Lib.Walk
import Derived.Laws.Externs
import Derived.Maps.Range
import Derived.Shelf.SlicesQ.IndexFunc
import Derived.Shelf.SlSortCmp.InsertionK
import Derived.Tactics2
import Derived.Defers
import Derived.Recover
import Derived.Sort.Lot0
import Derived.Sort.LotA
import Derived.Shelf.SlicesQ.Reverse
import Derived.Shelf.SlSortFuncK.ComposeK
import Derived.Lib.SlBytesConst
import Derived.Test.YtblheibknpphkaaGreatDoorBa12
import Derived.Test.YtblheibknpphkaaGreatDoorBa16
set_option linter.all false
namespace Go.Proofs.YtblheibknpphkaaGreatDoor
open Go Go.RowKit
theorem print_good (j : J) (v : Value) (w : World) (hj : RepJ w j v) (hM : Mild j) (hm : Marks w) (hr : (rgt j 1 256).1 = true) (hl : (textL j).length ≤ 4096) :
    Calls Tryz.prog 17 #[v] w fun e w' => e = .returned (.tuple #[.string (toS (textL j)), .nilIface]) ∧ Below w.heap.size w w' := by
  refine (printJ_any j v w hj hM hm).mono ?_
  rintro e w' ⟨rfl, _, hb⟩
  have e1 : printJ j = (textL j, 0) := by unfold printJ; rw [if_neg (by rw [hr]; simp), if_neg (show ¬ 4096 < (textL j).length by omega)]
  rw [e1]
  exact ⟨rfl, hb⟩
theorem print_long (j : J) (v : Value) (w : World) (hj : RepJ w j v) (hM : Mild j) (hm : Marks w) (hr : (rgt j 1 256).1 = true) (hl : 4096 < (textL j).length) :
    Calls Tryz.prog 17 #[v] w fun e w' => e = .returned (.tuple #[.string ⟨#[]⟩, .iface 58 (.int .i64 2)]) ∧ Below w.heap.size w w' := by
  refine (printJ_any j v w hj hM hm).mono ?_
  rintro e w' ⟨rfl, _, hb⟩
  have e1 : printJ j = ([], 2) := by unfold printJ; rw [if_neg (by rw [hr]; simp), if_pos hl]
  rw [e1]
  exact ⟨rfl, hb⟩
theorem qOne_by {c : Int} (h : 0 ≤ c ∧ c ≤ 255) : Bytes (qOne c) := .of_mem fun x hx => by
  unfold qOne hexS at hx
  split at hx
  · simp only [List.mem_cons, List.not_mem_nil, or_false] at hx
    rcases hx with rfl | rfl | rfl | rfl | rfl | rfl
    · decide
    · decide
    · decide
    · decide
    · split <;> omega
    · split <;> omega
  · split at hx
    · simp only [List.mem_cons, List.not_mem_nil, or_false] at hx
      rcases hx with rfl | rfl <;> omega
    · rw [List.mem_singleton] at hx; omega
theorem qB_by : ∀ xs : List Int, Bytes xs → Bytes (qB xs)
  | [], _ => .of_mem (by simp [qB])
  | c :: r, h => by
    rw [qB_cons]
    exact (qOne_by (h.mem (by simp))).append (qB_by r (.of_mem fun x hx => h.mem (List.mem_cons_of_mem _ hx)))
theorem quoteL_by (t : ByteArray) : Bytes (quoteL (strL t)) := by
  rw [quoteL_is]
  have h := qB_by _ (strL_bd t)
  exact .of_mem fun x hx => by
    rcases List.mem_cons.1 hx with rfl | hx
    · decide
    · rcases List.mem_append.1 hx with hx | hx
      · exact h.mem hx
      · rw [List.mem_singleton] at hx; omega
theorem items_by (o : Bool) : ∀ (ls : List J) (f : Bool) (k : List ByteArray), (∀ x ∈ ls, Bytes (textL x)) → Bytes (itemsL o f ls k)
  | [], _, _, _ => by rw [itemsL]; exact .of_mem (by simp)
  | x :: r, f, k, h => by
    rw [itemsL]
    have h1 : Bytes (if f = true then [] else [44]) := by split <;> exact .of_mem (by simp)
    have h2 : Bytes (if o = true then quoteL (strL (k.headD ⟨#[]⟩)) ++ [58] else []) := by
      split
      · exact (quoteL_by _).append (.of_mem (by simp))
      · exact .of_mem (by simp)
    exact h1.append (h2.append ((h x (by simp)).append (items_by o r false k.tail (fun y hy => h y (List.mem_cons_of_mem _ hy)))))
theorem textL_by (j : J) : Bytes (textL j) := by
  induction j using J.ind with
  | h kind n s l k ih =>
    rw [textL]
    split
    · exact .of_mem (by decide)
    split
    · split <;> exact .of_mem (by decide)
    split
    · exact prL_bytes n
    split
    · exact quoteL_by s
    split
    · exact ((Bytes.of_mem (by decide)).append (items_by false l true k ih)).append (.of_mem (by decide))
    split
    · exact ((Bytes.of_mem (by decide)).append (items_by true l true k ih)).append (.of_mem (by decide))
    · exact .of_mem (by simp)
end Go.Proofs.YtblheibknpphkaaGreatDoor
