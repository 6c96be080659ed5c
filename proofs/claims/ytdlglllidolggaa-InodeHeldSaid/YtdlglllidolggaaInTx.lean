/- A text of bytes. -/
import Derived.Test.YtdlglllidolggaaInB
import Derived.Laws.BytesArg
namespace Go.Proofs.Ytdlglllidolggaa.In
open Go.RowKit
/-- A text of bytes that read so. -/
theorem text_of {w : World} {n c : Nat} {A : Option Addr} {ns : List Nat} (h : Rd w 1 n A (ns.map fun (x : Nat) => Value.int .u8 x)) :
    (convert 38 9 (.slice A n c)).run Try.prog w = .ok (.string (strOfNums (ns.map fun (x : Nat) => (x : Int)))) w := by
  have hl : ns.length = n := by simpa using h.len
  rcases Nat.eq_zero_or_pos n with h0 | h0
  · subst h0
    obtain rfl : ns = [] := List.eq_nil_of_length_eq_zero hl
    rcases A with _ | a
    · exact run_convert_bytes_nil w 38 5 Try.underlying38 Try.underlying5 0 c _ Try.underlying9
    · rw [run_convert_bytes_string w 38 9 5 (some a) 0 c Try.underlying38 Try.underlying5 Try.underlying9]
      have h2 := run_loadCells_list (P := Try.prog) w a [] (fun j v hj => by simp at hj)
      have h3 := run_bytesToString (P := Try.prog) w a 0 c [] (by simpa using h2)
      rw [h3]
      rfl
  · obtain ⟨b, o, rfl, hb, hc⟩ := h.pos h0
    refine run_convert_bytes_arg (P := Try.prog) w 38 5 Try.underlying38 Try.underlying5 b o n c _ (by simpa using hl) (fun i hi => ?_) _ Try.underlying9
    have hi' : i < ns.length := by omega
    rw [hc i (.int .u8 (ns[i]'hi' : Nat)) (by simp [List.getElem?_map, List.getElem?_eq_getElem hi'])]
    simp [List.getD_eq_getElem?_getD, List.getElem?_eq_getElem hi']
end Go.Proofs.Ytdlglllidolggaa.In
