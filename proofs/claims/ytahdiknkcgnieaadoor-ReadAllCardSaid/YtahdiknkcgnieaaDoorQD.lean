/- ReadAll: any text is read as the document says. -/
import Derived.Test.YtahdiknkcgnieaaDoorZY
import Derived.Test.YtahdiknkcgnieaaDoorQ17
import Derived.Test.YtahdiknkcgnieaaDoorZW
namespace Go.Proofs.YtahdiknkcgnieaaDoor
open Go.RowKit Go.BigM
set_option linter.unusedVariables false
set_option linter.unusedSimpArgs false
theorem isrow_below {w w' : World} {a : Option Addr} {len cap : Nat} {zs : List Int} (h : IsRow .i64 w a len cap zs) (hb : Below w.heap.size w w') : IsRow .i64 w' a len cap zs := by
  rcases h with h | ⟨x, rfl, h1, h2, h3, h4, h5⟩
  · exact .inl h
  · exact .inr ⟨x, rfl, h1, h2, h3, fun i hi => by rw [hb.cell (World.block_lt_of_cell? w _ (h4 i hi))]; exact h4 i hi, h5⟩
theorem row7_get {V : World} {n : Nat} {s0 s1 s2 s3 s4 s5 s6 : ByteArray} (hn : n = V.heap.size) : ∀ w', Below (V.alloc (.cells #[.string s0, .string s1, .string s2, .string s3, .string s4, .string s5, .string s6] 9)).heap.size (V.alloc (.cells #[.string s0, .string s1, .string s2, .string s3, .string s4, .string s5, .string s6] 9)) w' → ∀ i, i < 7 → w'.cell? ⟨n, i, none⟩ = some (.string (([s0, s1, s2, s3, s4, s5, s6] : List ByteArray).getD i ⟨#[]⟩)) := by
  intro w' hb i hi
  subst hn
  rw [hb.cell (p := ⟨V.heap.size, i, none⟩) (by simp), Lib.cell_of_heap (alloc_at V _)]
  have h7 : i = 0 ∨ i = 1 ∨ i = 2 ∨ i = 3 ∨ i = 4 ∨ i = 5 ∨ i = 6 := by omega
  rcases h7 with rfl | rfl | rfl | rfl | rfl | rfl | rfl <;> rfl
theorem sz7 {s0 s1 s2 s3 s4 s5 s6 : ByteArray} (h0 : s0.size ≤ 8000) (h1 : s1.size ≤ 8000) (h2 : s2.size ≤ 8000) (h3 : s3.size ≤ 8000) (h4 : s4.size ≤ 8000) (h5 : s5.size ≤ 8000) (h6 : s6.size ≤ 8000) (i : Nat) : (([s0, s1, s2, s3, s4, s5, s6] : List ByteArray).getD i ⟨#[]⟩).size ≤ 8000 := by
  by_cases hi : i < 7
  · have h7 : i = 0 ∨ i = 1 ∨ i = 2 ∨ i = 3 ∨ i = 4 ∨ i = 5 ∨ i = 6 := by omega
    rcases h7 with rfl | rfl | rfl | rfl | rfl | rfl | rfl <;> assumption
  · rw [List.getD_eq_getElem?_getD, List.getElem?_eq_none (by simp; omega)]; decide
def AlInv (w : World) (iv : Value) (wr : World) : Prop := ∃ i : Nat, i ≤ 7 ∧ iv = .int .i64 (i : Int) ∧ Below w.heap.size w wr
set_option maxHeartbeats 16000000 in
set_option maxRecDepth 100000 in
theorem readall_walk (a0 : Option Addr) (len0 cap0 : Nat) (z0 : List Int) (raw : ByteArray) (a2 : Option Addr) (len2 cap2 : Nat) (z2 : List Int) (cut : Int) (w : World) (h0 : IsRow .i64 w a0 len0 cap0 z0) (hraw : raw.size ≤ 9223372036854775807) (h2 : IsRow .i64 w a2 len2 cap2 z2) (h3 : I64 cut) :
    Calls Tryd.prog 3 #[.slice a0 len0 cap0, .string raw, .slice a2 len2 cap2, .int .i64 cut] w (RetBool true w) := by
  have BB := Lib.hid (Below.refl w.heap.size w)
  have H0 := Lib.hid h0
  have H2 := Lib.hid h2
  have H3 := Lib.hid h3
  have HRAW := Lib.hid hraw
  clear h0 h2 h3 hraw
  go_enter Tryd.func3, Tryd.ntmps3
  by_cases h5 : 500 < raw.size
  · have q5 : decide (500 < (raw.size : Int)) = true := decide_eq_true (by omega)
    clear h5
    go_wp2_with (go_at_call 13; refine (known_any _).mono ?_; rintro e w1 ⟨rfl, hb⟩; replace BB := Lib.hid (BB.out.trans (hb.mono BB.out.size)); clear hb)
    go_ret
    exact ⟨rfl, BB.out⟩
  · have q5 : decide (500 < (raw.size : Int)) = false := decide_eq_false (by omega)
    have hr5 : raw.size ≤ 500 := by omega
    clear h5
    go_wp2_with (go_at_call 13; refine (known_any _).mono ?_; rintro e w1 ⟨rfl, hb⟩; replace BB := Lib.hid (BB.out.trans (hb.mono BB.out.size)); clear hb)
    refine (partext_any a0 len0 cap0 z0 _ (isrow_below H0.out BB.out)).mono ?_
    rintro e w2 ⟨S, rfl, hS, hb2⟩
    replace BB := Lib.hid (BB.out.trans (hb2.mono BB.out.size))
    obtain ⟨m, hm⟩ : ∃ m, m = S.size + 1 := ⟨_, rfl⟩
    have hm1 : m ≤ 1051 := by omega
    have hzi : ((S.size : Int) + 1) = (m : Int) := by omega
    have FW := Lib.hid (fun w => within_any cut (m : Int) w H3.out.1 H3.out.2 (by omega) (by omega))
    obtain ⟨k, hk⟩ : ∃ k : Nat, cut % (m : Int) = k := ⟨(cut % (m : Int)).toNat, by have := Int.emod_nonneg cut (show (m : Int) ≠ 0 by omega); omega⟩
    have hkm : k < m := by have := Int.emod_lt_of_pos cut (show (0 : Int) < (m : Int) by omega); omega
    rw [hk] at FW
    have hkS : k ≤ S.size := by omega
    clear hk hb2 hm hkm
    go_wp2_with fail
    refine (FW.out _).mono ?_
    rintro e w3 ⟨rfl, rfl⟩
    obtain ⟨A, hA⟩ : ∃ A, S.extract 0 k = A := ⟨_, rfl⟩
    have hAs : A.size ≤ 1050 := by rw [← hA, ByteArray.size_extract]; omega
    obtain ⟨B, hB⟩ : ∃ B, S.extract k S.size = B := ⟨_, rfl⟩
    have hBs : B.size ≤ 1050 := by rw [← hB, ByteArray.size_extract]; omega
    obtain ⟨C1, hC1⟩ : ∃ C, A ++ raw = C := ⟨_, rfl⟩
    have hC1s : C1.size ≤ 1550 := by rw [← hC1, ByteArray.size_append]; omega
    obtain ⟨C2, hC2⟩ : ∃ C, C1 ++ B = C := ⟨_, rfl⟩
    have hC2s : C2.size ≤ 8000 := by rw [← hC2, ByteArray.size_append]; omega
    obtain ⟨C3, hC3⟩ : ∃ C, (⟨#[40]⟩ : ByteArray) ++ S = C := ⟨_, rfl⟩
    have hC3s : C3.size ≤ 1051 := by rw [← hC3, ByteArray.size_append]; show 1 + S.size ≤ _; omega
    obtain ⟨C4, hC4⟩ : ∃ C, C3 ++ (⟨#[41]⟩ : ByteArray) = C := ⟨_, rfl⟩
    have hC4s : C4.size ≤ 8000 := by rw [← hC4, ByteArray.size_append]; show C3.size + 1 ≤ _; omega
    obtain ⟨C5, hC5⟩ : ∃ C, (⟨#[39]⟩ : ByteArray) ++ S = C := ⟨_, rfl⟩
    have hC5s : C5.size ≤ 8000 := by rw [← hC5, ByteArray.size_append]; show 1 + S.size ≤ _; omega
    clear FW hzi hm1
    go_upto_region 7 with fail
    have FT := Lib.hid (partext_any a2 len2 cap2 z2 w2.drew (isrow_below H2.out (BB.out.drew)))
    have HS0 : Hid (Below w2.heap.size w2 w2.drew) := (Below.refl _ _).drew
    refine wp_region_noPanic ?_
    refine wp_region_held_drew (S := Below w2.heap.size w2) (by kernel_rfl) HS0.out (fun hHeld => ?_)
    have hsd : w2.drew.heap.size = w2.heap.size := rfl
    generalize w2.drew = X at FT HS0 hsd hHeld ⊢
    refine wpAnyH_take (i := 0) (v := ?v0) rfl (by kernel_rfl) (by kernel_rfl) (by kernel_rfl) (fun _ _ _ h => h) (Or.inl ⟨rfl, fun w' hw' => ?h0⟩) hHeld ?r0
    case h0 =>
      go_simp
      try with_reducible rfl
    simp only [List.getElem_toArray, List.getElem_cons_succ, List.getElem_cons_zero, Act.put, List.setIfInBounds_toArray, List.set_cons_zero, List.set_cons_succ]
    refine wpAnyH_take (i := 1) (v := ?v1) rfl (by kernel_rfl) (by kernel_rfl) (by kernel_rfl) (fun _ _ _ h => h) (Or.inl ⟨rfl, fun w' hw' => ?h1⟩) hHeld ?r1
    case h1 =>
      go_simp
      try with_reducible rfl
    simp only [List.getElem_toArray, List.getElem_cons_succ, List.getElem_cons_zero, Act.put, List.setIfInBounds_toArray, List.set_cons_zero, List.set_cons_succ]
    refine wpAnyH_take (i := 2) (v := ?v2) rfl (by kernel_rfl) (by kernel_rfl) (by kernel_rfl) (fun _ _ _ h => h) (Or.inl ⟨rfl, fun w' hw' => ?h2⟩) hHeld ?r2
    case h2 =>
      go_simp
      try with_reducible rfl
    simp only [List.getElem_toArray, List.getElem_cons_succ, List.getElem_cons_zero, Act.put, List.setIfInBounds_toArray, List.set_cons_zero, List.set_cons_succ]
    refine wpAnyH_take (i := 3) (v := ?v3) rfl (by kernel_rfl) (by kernel_rfl) (by kernel_rfl) (fun _ _ _ h => h) (Or.inl ⟨rfl, fun w' hw' => ?h3⟩) hHeld ?r3
    case h3 =>
      go_simp
      try with_reducible rfl
    simp only [List.getElem_toArray, List.getElem_cons_succ, List.getElem_cons_zero, Act.put, List.setIfInBounds_toArray, List.set_cons_zero, List.set_cons_succ]
    refine wpAnyH_take (i := 4) (v := Value.string A) rfl (by kernel_rfl) (by kernel_rfl) (by kernel_rfl) (fun _ _ _ h => h) (Or.inl ⟨rfl, fun w' hw' => ?_⟩) hHeld ?_
    · go_simp; try omega
    simp only [List.getElem_toArray, List.getElem_cons_succ, List.getElem_cons_zero, Act.put, List.setIfInBounds_toArray, List.set_cons_zero, List.set_cons_succ]
    refine wpAnyH_take (i := 5) (v := ?v5) rfl (by kernel_rfl) (by kernel_rfl) (by kernel_rfl) (fun _ _ _ h => h) (Or.inl ⟨rfl, fun w' hw' => ?h5⟩) hHeld ?r5
    case h5 =>
      go_simp
      try with_reducible rfl
    simp only [List.getElem_toArray, List.getElem_cons_succ, List.getElem_cons_zero, Act.put, List.setIfInBounds_toArray, List.set_cons_zero, List.set_cons_succ]
    refine wpAnyH_take (i := 6) (v := ?v6) rfl (by kernel_rfl) (by kernel_rfl) (by kernel_rfl) (fun _ _ _ h => h) (Or.inl ⟨rfl, fun w' hw' => ?h6⟩) hHeld ?r6
    case h6 =>
      go_simp
      try with_reducible rfl
    simp only [List.getElem_toArray, List.getElem_cons_succ, List.getElem_cons_zero, Act.put, List.setIfInBounds_toArray, List.set_cons_zero, List.set_cons_succ]
    refine wpAnyH_take (i := 7) (v := Value.string A) rfl (by kernel_rfl) (by kernel_rfl) (by kernel_rfl) (fun _ _ _ h => h) (Or.inl ⟨rfl, fun w' hw' => ?_⟩) hHeld ?_
    · go_simp; try omega
    simp only [List.getElem_toArray, List.getElem_cons_succ, List.getElem_cons_zero, Act.put, List.setIfInBounds_toArray, List.set_cons_zero, List.set_cons_succ]
    refine wpAnyH_take (i := 8) (v := ?v8) rfl (by kernel_rfl) (by kernel_rfl) (by kernel_rfl) (fun _ _ _ h => h) (Or.inl ⟨rfl, fun w' hw' => ?h8⟩) hHeld ?r8
    case h8 =>
      go_simp
      try with_reducible rfl
    simp only [List.getElem_toArray, List.getElem_cons_succ, List.getElem_cons_zero, Act.put, List.setIfInBounds_toArray, List.set_cons_zero, List.set_cons_succ]
    refine wpAnyH_take (i := 9) (v := Value.string C1) rfl (by kernel_rfl) (by kernel_rfl) (by kernel_rfl) (fun _ _ _ h => h) (Or.inl ⟨rfl, fun w' hw' => ?_⟩) hHeld ?_
    · go_simp; try (first | omega | rw [if_neg (by omega)])
    simp only [List.getElem_toArray, List.getElem_cons_succ, List.getElem_cons_zero, Act.put, List.setIfInBounds_toArray, List.set_cons_zero, List.set_cons_succ]
    refine wpAnyH_take (i := 10) (v := ?v10) rfl (by kernel_rfl) (by kernel_rfl) (by kernel_rfl) (fun _ _ _ h => h) (Or.inl ⟨rfl, fun w' hw' => ?h10⟩) hHeld ?r10
    case h10 =>
      go_simp
      try with_reducible rfl
    simp only [List.getElem_toArray, List.getElem_cons_succ, List.getElem_cons_zero, Act.put, List.setIfInBounds_toArray, List.set_cons_zero, List.set_cons_succ]
    refine wpAnyH_take (i := 11) (v := ?v11) rfl (by kernel_rfl) (by kernel_rfl) (by kernel_rfl) (fun _ _ _ h => h) (Or.inl ⟨rfl, fun w' hw' => ?h11⟩) hHeld ?r11
    case h11 =>
      go_simp
      try with_reducible rfl
    simp only [List.getElem_toArray, List.getElem_cons_succ, List.getElem_cons_zero, Act.put, List.setIfInBounds_toArray, List.set_cons_zero, List.set_cons_succ]
    refine wpAnyH_take (i := 12) (v := Value.string B) rfl (by kernel_rfl) (by kernel_rfl) (by kernel_rfl) (fun _ _ _ h => h) (Or.inl ⟨rfl, fun w' hw' => ?_⟩) hHeld ?_
    · go_simp; try omega
    simp only [List.getElem_toArray, List.getElem_cons_succ, List.getElem_cons_zero, Act.put, List.setIfInBounds_toArray, List.set_cons_zero, List.set_cons_succ]
    refine wpAnyH_take (i := 13) (v := Value.string C2) rfl (by kernel_rfl) (by kernel_rfl) (by kernel_rfl) (fun _ _ _ h => h) (Or.inl ⟨rfl, fun w' hw' => ?_⟩) hHeld ?_
    · go_simp; try (first | omega | rw [if_neg (by omega)])
    simp only [List.getElem_toArray, List.getElem_cons_succ, List.getElem_cons_zero, Act.put, List.setIfInBounds_toArray, List.set_cons_zero, List.set_cons_succ]
    refine wpAnyH_take (i := 14) (v := ?v14) rfl (by kernel_rfl) (by kernel_rfl) (by kernel_rfl) (fun _ _ _ h => h) (Or.inl ⟨rfl, fun w' hw' => ?h14⟩) hHeld ?r14
    case h14 =>
      go_simp
      try with_reducible rfl
    simp only [List.getElem_toArray, List.getElem_cons_succ, List.getElem_cons_zero, Act.put, List.setIfInBounds_toArray, List.set_cons_zero, List.set_cons_succ]
    refine wpAnyH_take (i := 15) (v := Value.string C3) rfl (by kernel_rfl) (by kernel_rfl) (by kernel_rfl) (fun _ _ _ h => h) (Or.inl ⟨rfl, fun w' hw' => ?_⟩) hHeld ?_
    · go_simp; try (first | omega | rw [if_neg (by omega)])
    simp only [List.getElem_toArray, List.getElem_cons_succ, List.getElem_cons_zero, Act.put, List.setIfInBounds_toArray, List.set_cons_zero, List.set_cons_succ]
    refine wpAnyH_take (i := 16) (v := Value.string C4) rfl (by kernel_rfl) (by kernel_rfl) (by kernel_rfl) (fun _ _ _ h => h) (Or.inl ⟨rfl, fun w' hw' => ?_⟩) hHeld ?_
    · go_simp; try (first | omega | rw [if_neg (by omega)])
    simp only [List.getElem_toArray, List.getElem_cons_succ, List.getElem_cons_zero, Act.put, List.setIfInBounds_toArray, List.set_cons_zero, List.set_cons_succ]
    refine wpAnyH_take (i := 17) (v := ?v17) rfl (by kernel_rfl) (by kernel_rfl) (by kernel_rfl) (fun _ _ _ h => h) (Or.inl ⟨rfl, fun w' hw' => ?h17⟩) hHeld ?r17
    case h17 =>
      go_simp
      try with_reducible rfl
    simp only [List.getElem_toArray, List.getElem_cons_succ, List.getElem_cons_zero, Act.put, List.setIfInBounds_toArray, List.set_cons_zero, List.set_cons_succ]
    refine wpAnyH_take (i := 18) (v := Value.string C5) rfl (by kernel_rfl) (by kernel_rfl) (by kernel_rfl) (fun _ _ _ h => h) (Or.inl ⟨rfl, fun w' hw' => ?_⟩) hHeld ?_
    · go_simp; try (first | omega | rw [if_neg (by omega)])
    simp only [List.getElem_toArray, List.getElem_cons_succ, List.getElem_cons_zero, Act.put, List.setIfInBounds_toArray, List.set_cons_zero, List.set_cons_succ]
    refine wpAnyH_take (i := 19) (v := ?v19) rfl (by kernel_rfl) (by kernel_rfl) (by kernel_rfl) (fun _ _ _ h => h) (Or.inl ⟨rfl, fun w' hw' => ?h19⟩) hHeld ?r19
    case h19 =>
      go_simp
      try with_reducible rfl
    simp only [List.getElem_toArray, List.getElem_cons_succ, List.getElem_cons_zero, Act.put, List.setIfInBounds_toArray, List.set_cons_zero, List.set_cons_succ]
    refine wpAnyH_take (i := 20) (v := ?v20) rfl (by kernel_rfl) (by kernel_rfl) (by kernel_rfl) (fun _ _ _ h => h) (Or.inl ⟨rfl, fun w' hw' => ?h20⟩) hHeld ?r20
    case h20 =>
      go_simp
      try with_reducible rfl
    simp only [List.getElem_toArray, List.getElem_cons_succ, List.getElem_cons_zero, Act.put, List.setIfInBounds_toArray, List.set_cons_zero, List.set_cons_succ]
    refine wpAnyH_ready (rs := [21]) (by kernel_rfl) (by simp) ?_
    refine (AllReadyH.cons rfl (fun K hK => ?_) AllReadyH.nil)
    go_simp
    refine FT.out.mono ?_
    rintro e w7 ⟨T2, rfl, hT2, hb7⟩
    have HB7 := Lib.hid (hHeld.trans (hb7.mono (by omega)))
    obtain ⟨C6, hC6⟩ : ∃ C, S ++ T2 = C := ⟨_, rfl⟩
    have hC6s : C6.size ≤ 8000 := by rw [← hC6, ByteArray.size_append]; omega
    clear hb7
    refine hK.out _ _ HB7.out (fun hHeld => ?_)
    clear hK K
    try simp only [List.getElem_toArray, List.getElem_cons_succ, List.getElem_cons_zero, Act.put, List.setIfInBounds_toArray, List.set_cons_zero, List.set_cons_succ]
    refine wpAnyH_take (i := 22) (v := Value.string C6) rfl (by kernel_rfl) (by kernel_rfl) (by kernel_rfl) (fun _ _ _ h => h) (Or.inl ⟨rfl, fun w' hw' => ?_⟩) hHeld ?_
    · go_simp; try (first | omega | rw [if_neg (by omega)])
    simp only [List.getElem_toArray, List.getElem_cons_succ, List.getElem_cons_zero, Act.put, List.setIfInBounds_toArray, List.set_cons_zero, List.set_cons_succ]
    refine wpAnyH_ready (rs := [23]) (by kernel_rfl) (by simp) ?_
    refine (AllReadyH.cons rfl (fun K hK => ?_) AllReadyH.nil)
    go_simp
    refine hK.out _ _ (HB7.out.alloc (by have := HB7.out.size; omega) _) (fun hHeld => ?_)
    clear hK K
    try simp only [List.getElem_toArray, List.getElem_cons_succ, List.getElem_cons_zero, Act.put, List.setIfInBounds_toArray, List.set_cons_zero, List.set_cons_succ]
    refine wpAnyH_take (i := 24) (v := ?v22) rfl (by kernel_rfl) (by kernel_rfl) (by kernel_rfl) (fun _ _ _ h => h) (Or.inl ⟨rfl, fun w' hw' => ?h22⟩) hHeld ?r22
    case h22 =>
      go_simp
      try with_reducible rfl
    simp only [List.getElem_toArray, List.getElem_cons_succ, List.getElem_cons_zero, Act.put, List.setIfInBounds_toArray, List.set_cons_zero, List.set_cons_succ]
    refine wpAnyH_done (by kernel_rfl) ?_ _
    refine NoPanic.normal ?_
    clear hHeld
    obtain ⟨rb, hrb⟩ : ∃ rb, rb = w7.heap.size := ⟨_, rfl⟩
    rw [← hrb]
    have HG := Lib.hid (row7_get (s0 := S) (s1 := raw) (s2 := A) (s3 := C2) (s4 := C4) (s5 := C5) (s6 := C6) hrb)
    have HZ := Lib.hid (sz7 (s0 := S) (s1 := raw) (s2 := A) (s3 := C2) (s4 := C4) (s5 := C5) (s6 := C6) (by omega) (by omega) (by omega) hC2s hC4s hC5s hC6s)
    have HB9 := Lib.hid (HB7.out.alloc (by have := HB7.out.size; omega) (.cells #[.string S, .string raw, .string A, .string C2, .string C4, .string C5, .string C6] 9))
    replace BB := Lib.hid (BB.out.trans (HB9.out.mono BB.out.size))
    generalize ([S, raw, A, C2, C4, C5, C6] : List ByteArray) = L at HG HZ
    generalize w7.alloc (.cells #[.string S, .string raw, .string A, .string C2, .string C4, .string C5, .string C6] 9) = X9 at HG BB ⊢
    clear hA hB hC1 hC2 hC3 hC4 hC5 hC6 hAs hBs hC1s hC2s hC3s hC4s hC5s hC6s hT2 hrb HB9 HB7 HS0 hsd FT hkS hr5 q5 hS
    go_wp2_with fail
    go_loopw [12] (fun iv wr => AlInv X9 iv wr) (fun iv _ => 7 - (intOf iv).toNat)
    case atStart => exact ⟨0, by omega, rfl, Below.refl _ _⟩
    case round =>
      obtain ⟨i, hi, rfl, hbr⟩ := hrel
      have HBR := Lib.hid hbr
      clear hbr
      by_cases hlt : i < 7
      · have q1 : decide ((i : Int) < 7) = true := decide_eq_true (by omega)
        obtain ⟨U, hU⟩ : ∃ U, U = L.getD i ⟨#[]⟩ := ⟨_, rfl⟩
        have hUs : U.size ≤ 8000 := by rw [hU]; exact HZ.out i
        have HC : Hid (∀ w', Below X9.heap.size X9 w' → w'.cell? ⟨rb, i, none⟩ = some (.string U)) := fun w' hw' => by rw [hU]; exact HG.out w' hw' i hlt
        obtain ⟨n, R, hn, hsz⟩ := rd_all U.data.toList
        have FR := Lib.hid (read_any U wr hUs n R hn)
        have FF := Lib.hid (fun w => ref_read_any U w hUs n R hn)
        have HSZ := Lib.hid hsz
        have c1 := HC.out wr HBR.out
        have hUl : U.data.toList.length ≤ 8000 := by rw [← Lib.size_eq]; exact hUs
        have HUL := Lib.hid hUl
        clear hU hn hsz hUl
        go_wp2_with fail
        refine FR.out.mono ?_
        rintro e w8 ⟨hb8, hres⟩
        have HB8 := Lib.hid (HBR.out.trans (hb8.mono HBR.out.size))
        have c2 := HC.out w8 HB8.out
        clear c1 FR
        cases R with
        | ok ds =>
          obtain ⟨v1, rfl, hl1⟩ := hres
          have HL1 := Lib.hid hl1
          obtain ⟨b1o, b1c, rfl⟩ := hl1.form
          clear hb8 hl1
          go_wp2_with fail
          refine (FF.out w8).mono ?_
          rintro e w9 ⟨hb9, v2, rfl, hl2⟩
          have HB9 := Lib.hid (HB8.out.trans (hb9.mono HB8.out.size))
          obtain ⟨b2o, b2c, rfl⟩ := hl2.form
          have FS := Lib.hid (same_rows ds (by have := HSZ.out ds rfl; have := HUL.out; omega) _ _ _ _ w9 (HL1.out.keeps (Keeps.of_below hb9)) hl2)
          clear hb9 hl2 c2
          go_wp2_with fail
          refine FS.out.mono ?_
          rintro e w10 ⟨rfl, hb10⟩
          have HN := Lib.hid (HB9.out.trans (hb10.mono HB9.out.size))
          clear hb10
          go_wp2_with fail
          go_roundw
          case rel => exact ⟨i + 1, by omega, by go_num, HN.out⟩
          case measure => simp [intOf]; omega
        | err ec pc =>
          have he : e = .returned (.tuple #[.slice none 0 0, .int .i64 (pc : Int), .int .i64 ec]) := hres
          subst he
          have z1 : (ec != ec) = false := by simp
          have z2 : ((pc : Int) != (pc : Int)) = false := by simp
          have FS := Lib.hid (fun w => same_rows [] (by decide) (fun _ => True) (fun _ => True) (.slice none 0 0) (.slice none 0 0) w (.inl ⟨rfl, rfl⟩) (.inl ⟨rfl, rfl⟩))
          clear hb8
          go_wp2_with fail
          refine (FF.out w8).mono ?_
          rintro e w9 ⟨hb9, hres2⟩
          have he2 : e = .returned (.tuple #[.slice none 0 0, .int .i64 (pc : Int), .int .i64 ec]) := hres2
          subst he2
          have HB9 := Lib.hid (HB8.out.trans (hb9.mono HB8.out.size))
          clear hb9 c2
          go_wp2_with fail
          refine (FS.out w9).mono ?_
          rintro e w10 ⟨rfl, hb10⟩
          have HN := Lib.hid (HB9.out.trans (hb10.mono HB9.out.size))
          clear hb10
          go_wp2_with fail
          go_roundw
          case rel => exact ⟨i + 1, by omega, by go_num, HN.out⟩
          case measure => simp [intOf]; omega
      · have q1 : decide ((i : Int) < 7) = false := decide_eq_false (by omega)
        have HN := Lib.hid (BB.out.trans (HBR.out.mono BB.out.size))
        go_wp2_with fail
        go_ret
        exact ⟨rfl, HN.out⟩
end Go.Proofs.YtahdiknkcgnieaaDoor
