/- A string as a list of bytes. No statement of the seat is proved here. -/
import Derived.Test.YtdanncclnhkmgaaOctK
namespace Go.Proofs.Ytdanncclnhkmgaa

def mk (l : List UInt8) : ByteArray := ⟨l.toArray⟩
theorem mk_toList (s : ByteArray) : mk s.data.toList = s := by cases s; simp [mk]
theorem mk_of (s : ByteArray) : ∃ l, s = mk l := ⟨_, (mk_toList s).symm⟩
theorem mk_size (l : List UInt8) : (mk l).size = l.length := by show l.toArray.size = _; simp
theorem mk_append (a b : List UInt8) : mk a ++ mk b = mk (a ++ b) := by apply ByteArray.ext; simp [mk]
theorem mk_extract (l : List UInt8) (a b : Nat) : (mk l).extract a b = mk ((l.take b).drop a) := by
  apply ByteArray.ext
  simp only [mk, ByteArray.data_extract]
  apply Array.ext'
  simp [List.extract]
  rw [List.drop_take]
theorem mk_num (l : List UInt8) : numOf (mk l) = num l := by simp [numOf, mk]
theorem mk_inj {a b : List UInt8} (h : mk a = mk b) : a = b := by
  have := congrArg (fun s : ByteArray => s.data.toList) h
  simpa [mk] using this
theorem mk_empty : empty = mk [] := rfl
end Go.Proofs.Ytdanncclnhkmgaa
