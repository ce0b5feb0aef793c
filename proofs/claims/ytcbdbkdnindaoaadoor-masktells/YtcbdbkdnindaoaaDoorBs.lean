/- Texts as lists of bytes. -/
import Derived.Test.YtcbdbkdnindaoaaDoorBas
import Derived.Lib.Strings
import Derived.Lib.IndexMore
import Derived.Lib.SmallJoins
namespace Go.Proofs.YtcbdbkdnindaoaaDoor
open Go.RowKit
/-- The text of some bytes. -/
def bs (l : List UInt8) : ByteArray := ⟨l.toArray⟩
theorem bs_size (l : List UInt8) : (bs l).size = l.length := by simp [bs, ByteArray.size]
theorem bs_list (l : List UInt8) : (bs l).data.toList = l := by simp [bs]
theorem bs_of (s : ByteArray) : bs s.data.toList = s := by
  apply ByteArray.ext
  rw [← Array.toList_inj, bs_list]
theorem bs_at (l : List UInt8) (p : Nat) (h : p < (bs l).size) (h' : p < l.length) : (bs l)[p]'h = l[p]'h' := by
  rfl
theorem bs_inj {a b : List UInt8} (h : bs a = bs b) : a = b := by rw [← bs_list a, h, bs_list]
theorem bs_join (a b : List UInt8) : bs a ++ bs b = bs (a ++ b) := by
  apply ByteArray.ext
  rw [← Array.toList_inj, Go.Joins.data_append, bs_list, bs_list, bs_list]
theorem bs_cut (l : List UInt8) (i j : Nat) : (bs l).extract i j = bs ((l.take j).drop i) := by
  apply ByteArray.ext
  rw [← Array.toList_inj, Lib.extract_data, bs_list, bs_list]
  rw [List.drop_take]
theorem bs_eq (a b : List UInt8) : ((bs a).toList == (bs b).toList) = (a == b) := by
  rw [ByteArray.toList_eq, ByteArray.toList_eq, bs_list, bs_list]
end Go.Proofs.YtcbdbkdnindaoaaDoor
