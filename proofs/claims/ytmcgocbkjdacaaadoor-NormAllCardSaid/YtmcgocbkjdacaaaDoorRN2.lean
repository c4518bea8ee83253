/- The document's Norm. -/
import Derived.Test.YtmcgocbkjdacaaaDoorRN1
import Derived.Test.YtmcgocbkjdacaaaDoorNN
import Derived.Test.YtmcgocbkjdacaaaDoorNS
import Derived.Test.YtmcgocbkjdacaaaDoorTM1
namespace Go.Proofs.YtmcgocbkjdacaaaDoor
open Go.RowKit Go.BigM
set_option linter.unusedVariables false
set_option linter.unusedSimpArgs false
theorem rnterm_any (e : Et) (hf : e.fine) (hs : e.size ≤ 100000) : RNC e := by
  have key : ∀ N : Nat, N ≤ 100000 → ∀ (e : Et), e.size ≤ N → e.fine → RNC e := by
    intro N
    induction N with
    | zero => intro _ e he; cases e; simp [Et.size] at he
    | succ N IH =>
      intro hN e he hf
      obtain ⟨k, t, ns, a⟩ := e
      have hsz : Et.sizes a ≤ N := by simp only [Et.size] at he; omega
      have hl := length_esizes a
      rw [fine_mk] at hf
      obtain ⟨hf1, hf2, hf3, hf4⟩ := hf
      refine rnorm_node k t ns a (fun e hm => ?_) (by omega) (by omega) (by omega)
      obtain ⟨j, hj, rfl⟩ := List.getElem_of_mem hm
      exact IH (by omega) _ (by have := esize_get a j hj; omega) (hf4 _ hm)
  exact key e.size hs e (Nat.le_refl _) hf
set_option maxHeartbeats 8000000 in
set_option maxRecDepth 100000 in
theorem rnorm_any (e : Et) (hf : e.fine) (hs : e.size ≤ 30000) (hth : e.thick ≤ 100000) (S : Nat → Prop) (cs : Array Value) (w : World) (hat : Et.At S w e cs) : Calls Tryd.prog 17 #[.agg cs] w (RetN e w) := by
  obtain ⟨k, t, no, nn, nc, ao, an, ac, rfl⟩ := EAt_sl hat
  have A1 := (Below.refl w.heap.size w).alloc (Nat.le_refl _) (.cells #[.int .i64 k, .string t, .slice no nn nc, .slice ao an ac] 28)
  have A2 := A1.alloc A1.size (.cells Z4 28)
  have A3 := A2.alloc A2.size (.cells #[.string ⟨#[37, 46]⟩, .int .i64 0] 63)
  have s1 : (w.alloc (.cells #[.int .i64 k, .string t, .slice no nn nc, .slice ao an ac] 28)).heap.size = w.heap.size + 1 := by simp
  have s2 : ((w.alloc (.cells #[.int .i64 k, .string t, .slice no nn nc, .slice ao an ac] 28)).alloc (.cells Z4 28)).heap.size = w.heap.size + 1 + 1 := by simp
  have r0 : (((w.alloc (.cells #[.int .i64 k, .string t, .slice no nn nc, .slice ao an ac] 28)).alloc (.cells Z4 28)).alloc (.cells #[.string ⟨#[37, 46]⟩, .int .i64 0] 63)).heap[w.heap.size]? = some (.cells #[.int .i64 k, .string t, .slice no nn nc, .slice ao an ac] 28 (0, 0)) := (Lib.alloc_old _ _ _ (by rw [s2]; omega)).trans ((Lib.alloc_old _ _ _ (by rw [s1]; omega)).trans (alloc_at w _))
  have r1 : (((w.alloc (.cells #[.int .i64 k, .string t, .slice no nn nc, .slice ao an ac] 28)).alloc (.cells Z4 28)).alloc (.cells #[.string ⟨#[37, 46]⟩, .int .i64 0] 63)).heap[w.heap.size + 1]? = some (.cells Z4 28 (0, 0)) := (Lib.alloc_old _ _ _ (by rw [s2]; omega)).trans (by have h := alloc_at (w.alloc (.cells #[.int .i64 k, .string t, .slice no nn nc, .slice ao an ac] 28)) (.cells Z4 28); rw [s1] at h; exact h)
  have r2 : Rk (((w.alloc (.cells #[.int .i64 k, .string t, .slice no nn nc, .slice ao an ac] 28)).alloc (.cells Z4 28)).alloc (.cells #[.string ⟨#[37, 46]⟩, .int .i64 0] 63)) (w.heap.size + 1 + 1) 0 := by
    show _ = _
    have h := alloc_at ((w.alloc (.cells #[.int .i64 k, .string t, .slice no nn nc, .slice ao an ac] 28)).alloc (.cells Z4 28)) (.cells #[.string ⟨#[37, 46]⟩, .int .i64 0] 63)
    rw [s2] at h; exact h
  have s3 : (((w.alloc (.cells #[.int .i64 k, .string t, .slice no nn nc, .slice ao an ac] 28)).alloc (.cells Z4 28)).alloc (.cells #[.string ⟨#[37, 46]⟩, .int .i64 0] 63)).heap.size = w.heap.size + 3 := by simp
  have HC := Lib.hid (rnterm_any e hf (by omega) _ _ _ (w.heap.size + 1 + 1) 0 (Et.At.keeps (Keeps.of_below A3) _ _ hat) r2 (by omega))
  have HA3 := Lib.hid A3
  have HR0 := Lib.hid r0
  have HR1 := Lib.hid r1
  have HS3 := Lib.hid s3
  clear A1 A2 A3 s1 s2 r0 r1 r2 s3 hat
  go_enter Tryd.func17, Tryd.ntmps17
  go_wp2_with (refine wpList_load_row rfl 28 _ rfl w.heap.size rfl 28 #[.int .i64 k, .string t, .slice no nn nc, .slice ao an ac] (0, 0) _ HR0.out Tryd.underlying28 rfl info28 ?_)
  refine HC.out.mono ?_
  generalize ((w.alloc (.cells #[.int .i64 k, .string t, .slice no nn nc, .slice ao an ac] 28)).alloc (.cells #[.int .i64 0, .string ⟨#[]⟩, .slice none 0 0, .slice none 0 0] 28)).alloc (.cells #[.string ⟨#[37, 46]⟩, .int .i64 0] 63) = W2 at HA3 HR0 HR1 HS3 HC ⊢
  rintro r w5 ⟨cs5, rfl, hat5, hnk5, hbut5⟩
  obtain ⟨k5, t5, no5, nn5, nc5, ao6, an6, ac6, rfl⟩ := EAt_sl hat5
  have hsz := HS3.out
  have hr5 : w5.heap[w.heap.size + 1]? = some (.cells Z4 28 (0, 0)) := by rw [hbut5.block _ (by omega) (by omega)]; exact HR1.out
  have HR5 := Lib.hid hr5
  have z5 : (#[.int .i64 k5, .string t5, .slice no5 nn5 nc5, .slice ao6 an6 ac6] : Array Value).all (·.oneCell') = true := by simp [Value.oneCell']
  have HFIN : Hid (RetN e w (.returned (.agg #[.int .i64 k5, .string t5, .slice no5 nn5 nc5, .slice ao6 an6 ac6])) (w5.setRow (w.heap.size + 1) #[.int .i64 k5, .string t5, .slice no5 nn5 nc5, .slice ao6 an6 ac6])) := by
    refine ⟨_, rfl, ?_, ?_⟩
    · refine Et.At.mono (fun x hx => ?_) _ _ (Et.At.keeps (S := fun x => W2.heap.size ≤ x) (fun x c T fz hx hxx _ => ⟨fz, by rw [setRow_other w5 _ x _ (by omega)]; exact hxx⟩) _ _ hat5)
      have : W2.heap.size ≤ x := hx
      omega
    · exact (HA3.out.trans (hbut5.toBelow (by omega) (by omega))).trans ⟨rfl, rfl, rfl, by simp, fun k hk => setRow_other _ _ k _ (by omega)⟩
  clear hat5 hnk5 hbut5 hr5 HC hsz
  go_wp2_with (refine wpList_store_row rfl 28 _ _ rfl (w.heap.size + 1) #[.int .i64 k5, .string t5, .slice no5 nn5 nc5, .slice ao6 an6 ac6] rfl rfl 28 Z4 HR5.out info28 rfl z5 ?_)
  refine bodyPost_ret (results_cell_row rfl _ _ (w.heap.size + 1) 28 #[.int .i64 k5, .string t5, .slice no5 nn5 nc5, .slice ao6 an6 ac6] (0, 0) _ rfl (setRow_heap w5 _ _ _ 28 _ HR5.out) Tryd.underlying28 rfl info28) rfl ?_
  exact HFIN.out
end Go.Proofs.YtmcgocbkjdacaaaDoor
