/-
  What package tree's functions, and package fold's Tree, answer of a tree, as one statement about all of them (Tree11): the laws of layer 11 are walked over it. Conditions: a tree in memory, of at most 1000 entries, texts of at most 100000 bytes; errorType holds error's type.
-/
import Derived.Test.YtjliagcalbdnhaaGreatDoorPb
import Derived.Test.YtjliagcalbdnhaaGreatDoorPc
import Derived.Test.YtjliagcalbdnhaaGreatDoorPd
namespace Go.Proofs.YtjliagcalbdnhaaGreatDoor
open Go.RowKit

/-- A tree and an error are answered. -/
def Ans11 (r : Int × List Ent) (w : World) (e : Ending) (w' : World) : Prop := ∃ a' cap' er, e = .returned (.tuple #[.slice a' r.2.length cap', er]) ∧ Ents w' a' cap' r.2 ∧ Er w' r.1 er ∧ Below w.heap.size w w'
structure Tree11 : Prop where
  tree : ∀ l a cap w, EtLaid w → Ents w a cap l → Sm l → Calls Tryz.prog 18 #[.slice a l.length cap] w fun e w' => e = .returned (.bool (decide (TreeL l))) ∧ Below w.heap.size w w'
  create : ∀ t a cap p w, EtLaid w → Ents w a cap t → TreeL t → t.length ≤ 900 → p.size ≤ 100000 → Calls Tryz.prog 64 #[.slice a t.length cap, .string p] w (Ans11 (mkV t p 1) w)
  mkdir : ∀ t a cap p w, EtLaid w → Ents w a cap t → TreeL t → t.length ≤ 900 → p.size ≤ 100000 → Calls Tryz.prog 66 #[.slice a t.length cap, .string p] w (Ans11 (mkV t p 2) w)
  write : ∀ t a cap p n s w, EtLaid w → Ents w a cap t → TreeL t → t.length ≤ 900 → p.size ≤ 100000 → (-9223372036854775808 ≤ n ∧ n ≤ 9223372036854775807) → s.size ≤ 100000 → Calls Tryz.prog 22 #[.slice a t.length cap, .string p, .int .i64 n, .string s] w (Ans11 (wrV t p n s) w)
  cut : ∀ t a cap p n w, EtLaid w → Ents w a cap t → TreeL t → t.length ≤ 900 → p.size ≤ 100000 → (-9223372036854775808 ≤ n ∧ n ≤ 9223372036854775807) → Calls Tryz.prog 69 #[.slice a t.length cap, .string p, .int .i64 n] w (Ans11 (ctV t p n) w)
  unlink : ∀ t a cap p w, EtLaid w → Ents w a cap t → TreeL t → t.length ≤ 900 → p.size ≤ 100000 → Calls Tryz.prog 71 #[.slice a t.length cap, .string p] w (Ans11 (ulV t p.data.toList) w)
  rmdir : ∀ t a cap p w, EtLaid w → Ents w a cap t → TreeL t → t.length ≤ 900 → p.size ≤ 100000 → Calls Tryz.prog 73 #[.slice a t.length cap, .string p] w (Ans11 (rmV t p.data.toList) w)
  rename : ∀ t a cap p q w, EtLaid w → Ents w a cap t → TreeL t → t.length ≤ 900 → p.size ≤ 100000 → q.size ≤ 100000 → Calls Tryz.prog 75 #[.slice a t.length cap, .string p, .string q] w (Ans11 (rnV t p q) w)
theorem sm_tree {t : List Ent} (h : TreeL t) (hl : t.length ≤ 1000) : Sm t := ⟨hl, fun e he => by
  obtain ⟨h1, _, _, h4, _⟩ := rightE_parts (h.2.1.1 e he)
  have h54 := isP_len (isP_of_dp h1)
  rw [← Lib.size_eq] at h54
  omega⟩
theorem treeL_nil : TreeL [] := ⟨by simp, tr_nil⟩
end Go.Proofs.YtjliagcalbdnhaaGreatDoor
