/- The contract of apart: by a set in a map. -/
import Derived.Test.YtcalbcllmmoldaaA3
import Derived.StringKeys
namespace Go.Proofs.Ytcalbcllmmoldaa
open Go.RowKit
open Go.Maps
open Go.WideMaps (keyOf_string_mk)
set_option linter.unusedVariables false
set_option linter.unusedSimpArgs false
theorem any_same {L : List Lit} {x : Lit} (hx : WideAt.IsKeyLit x) : L.any (fun y => y.sameKey x) = true ↔ x ∈ L := by
  rw [List.any_eq_true]
  constructor
  · rintro ⟨y, hy, h⟩
    by_cases e : y = x
    · subst e; exact hy
    · rw [sameKey_ne e] at h; cases h
  · intro h
    exact ⟨x, h, WideAt.sameKey_self hx⟩
theorem addKeys : ∀ (xs L : List Lit), (∀ x ∈ xs, WideAt.IsKeyLit x) → (xs.foldl addKey L).length ≤ L.length + xs.length ∧ ((xs.foldl addKey L).length = L.length + xs.length ↔ xs.Nodup ∧ ∀ x ∈ xs, x ∉ L)
  | [], L, _ => by simp
  | x :: r, L, h => by
    have hx := h x (by simp)
    have ih := addKeys r (addKey L x) (fun y hy => h y (by simp [hy]))
    rw [List.foldl_cons]
    unfold addKey at ih ⊢
    by_cases hm : x ∈ L
    · rw [if_pos ((any_same hx).2 hm)] at ih ⊢
      refine ⟨by have := ih.1; simp only [List.length_cons]; omega, ?_⟩
      constructor
      · intro e; have := ih.1; simp only [List.length_cons] at e; omega
      · rintro ⟨_, h2⟩; exact absurd hm (h2 x (by simp))
    · rw [if_neg (fun e => hm ((any_same hx).1 e))] at ih ⊢
      simp only [List.length_append, List.length_cons, List.length_nil] at ih ⊢
      refine ⟨by have := ih.1; omega, ?_⟩
      have e1 : L.length + (r.length + 1) = L.length + (0 + 1) + r.length := by omega
      rw [e1, ih.2, List.nodup_cons]
      constructor
      · rintro ⟨h1, h2⟩
        refine ⟨⟨fun hxr => h2 x hxr (by simp), h1⟩, fun y hy => ?_⟩
        rcases List.mem_cons.1 hy with rfl | hy
        · exact hm
        · exact fun hl => h2 y hy (by simp [hl])
      · rintro ⟨⟨h1, h2⟩, h3⟩
        refine ⟨h2, fun y hy hl => ?_⟩
        rcases List.mem_append.1 hl with hl | hl
        · exact h3 y (by simp [hy]) hl
        · simp at hl; subst hl; exact h1 hy
def litS (s : ByteArray) : Lit := .string s.data.toList
theorem litS_inj {a b : ByteArray} (h : litS a = litS b) : a = b := by
  unfold litS at h
  injection h with h
  exact ByteArray.ext (Array.toList_inj.1 h)
def full (ns : List ByteArray) : List ByteArray := ns.filter fun s => decide (s ≠ ⟨#[]⟩)
theorem full_snoc (l : List ByteArray) (x : ByteArray) : full (l ++ [x]) = full l ++ (if x = ⟨#[]⟩ then [] else [x]) := by
  unfold full
  rw [List.filter_append]
  congr 1
  by_cases h : x = ⟨#[]⟩ <;> simp [h]
def setN {H : Type} (ns : List ByteArray) : DataW H := setOf (.agg []) ((full ns).map litS)
theorem setN_size {H : Type} (ns : List ByteArray) : (Maps.size (setN (H := H) ns) = ns.length ↔ Once ns) ∧ Maps.size (setN (H := H) ns) ≤ ns.length := by
  have hk : ∀ x ∈ (full ns).map litS, WideAt.IsKeyLit x := fun y hy => by obtain ⟨_, _, rfl⟩ := List.mem_map.1 hy; trivial
  have h1 := addKeys ((full ns).map litS) [] hk
  unfold setN
  rw [size_setOf _ _ hk]
  simp only [List.length_nil, List.length_map, Nat.zero_add] at h1
  have hle : (full ns).length ≤ ns.length := List.length_filter_le _ _
  refine ⟨?_, by have := h1.1; omega⟩
  have hfull : (full ns).length = ns.length ↔ ∀ s ∈ ns, s ≠ ⟨#[]⟩ := by
    unfold full
    rw [List.length_filter_eq_length_iff]
    simp
  constructor
  · intro e
    have e2 : (full ns).length = ns.length := by have := h1.1; omega
    have e3 := h1.2.1 (by rw [e, e2])
    have hns := hfull.1 e2
    have hf : full ns = ns := by unfold full; rw [List.filter_eq_self]; intro a ha; simpa using hns a ha
    refine ⟨hns, ?_⟩
    have h4 := e3.1
    rw [hf] at h4
    exact List.Pairwise.imp (fun h e => h (by rw [e])) (List.pairwise_map.1 h4)
  · rintro ⟨h2, h3⟩
    have hf : full ns = ns := by unfold full; rw [List.filter_eq_self]; intro a ha; simpa using h2 a ha
    rw [hf] at h1 ⊢
    refine h1.2.2 ⟨?_, fun x _ h => by simp at h⟩
    exact List.pairwise_map.2 (List.Pairwise.imp (fun h e => h (litS_inj e)) h3)
theorem law9 : Keyed Try.prog 9 := string_keyed Try.underlying9
theorem run_makeMapN (n : Nat) (w : World) : (Instr.makeMap 68 (some (.int .i64 (n : Int)))).run Try.prog w = .ok (.map (some w.heap.size)) (w.alloc (.map #[] 0)) := by
  simp [Instr.makeMap, run_underlying Try.underlying68, asInt, asIntOf]
theorem isEmpty_ne {x : ByteArray} (h : x ≠ ⟨#[]⟩) : x.toList.isEmpty = false := by
  rw [Lib.toList_data]
  cases hd : x.data.toList with
  | nil => exact absurd (ByteArray.ext (Array.toList_inj.1 hd)) h
  | cons a l => rfl
def ApInv (ns : List ByteArray) (w : World) (g : Nat) (iv : Value) (wr : World) : Prop :=
  ∃ j m : Nat, j ≤ ns.length ∧ m ≤ j ∧ iv = .int .i64 (j : Int) ∧ wr.ownsMap Try.prog 9 (unitElem (H := Unit)) g m (setN (ns.take j)) ∧ Below w.heap.size w wr
set_option maxHeartbeats 4000000 in
set_option maxRecDepth 100000 in
theorem apart_any (ns : List ByteArray) (S : Nat → Prop) (v : Value) (w : World) (h : NAt S w v ns) (hn : ns.length ≤ 1000) (hs : ∀ s ∈ ns, s.size ≤ 1000000) : Calls Try.prog 52 #[v] w (RetBool (decide (Once ns)) w) := by
  obtain ⟨ao, cap, rfl⟩ := h.form
  have H := Lib.hid h
  have HS := Lib.hid hs
  clear h hs
  have hmm := fun w => run_makeMapN ns.length w
  have H0 : Hid (ApInv ns w w.heap.size (.int .i64 0) (w.alloc (.map #[] 0))) := ⟨0, 0, by omega, by omega, rfl, World.ownsMap_made _ _ _ _, (Below.refl _ _).alloc (Nat.le_refl _) _⟩
  go_enter Try.func52, Try.ntmps52
  go_wp2_with fail
  generalize w.alloc (.map #[] 0) = W at H0 ⊢
  clear hmm
  obtain ⟨g0, hg⟩ : ∃ g0, w.heap.size = g0 := ⟨_, rfl⟩
  rw [hg] at H0
  simp only [hg]
  have hg2 := hg
  clear hg
  go_loopw [11] (fun iv wr => ApInv ns w g0 iv wr) (fun iv _ => ns.length - (intOf iv).toNat)
  case atStart => exact H0.out
  case round =>
    clear H0
    obtain ⟨j, m, hj, hm, rfl, hown, hb⟩ := hrel
    have HB := Lib.hid hb
    have HW := Lib.hid (H.out.keeps (Keeps.of_below hb))
    have hj1000 : m < maxLen := by unfold maxLen; omega
    clear hb
    by_cases hlt : j < ns.length
    · have q1 : decide ((j : Int) < (ns.length : Int)) = true := decide_eq_true (by omega)
      obtain ⟨g, o, rfl, hS, e0⟩ := HW.out.get j hlt
      have hxs := HS.out ns[j] (List.getElem_mem hlt)
      have hs : ns.take (j + 1) = ns.take j ++ [ns[j]] := List.take_succ_eq_append_getElem hlt
      obtain ⟨x, hx⟩ : ∃ x, ns[j] = x := ⟨_, rfl⟩
      rw [hx] at e0 hxs hs
      have HTK := Lib.hid hs
      clear hs hx hS
      by_cases hx0 : x = ⟨#[]⟩
      · have q2 : x.toList.isEmpty = true := by rw [hx0, Lib.toList_data]; rfl
        have HST : Hid (setN (H := Unit) (ns.take j) = setN (ns.take (j + 1))) := by
          show _ = _
          unfold setN
          rw [HTK.out, full_snoc, if_pos hx0, List.append_nil]
        clear hx0
        go_wp2_with fail
        go_roundw
        case rel => exact ⟨j + 1, m, by omega, by omega, by go_num, HST.out ▸ hown, HB.out⟩
        case measure => simp [intOf]; omega
      · have q2 : x.toList.isEmpty = false := isEmpty_ne hx0
        have hkey : keyOf Try.prog 9 (.string x) = some (litS x) := keyOf_string_mk Try.underlying9 (by unfold maxLen; omega)
        have HST : Hid ((setN (H := Unit) (ns.take j)).put (litS x) (.agg []) = setN (ns.take (j + 1))) := by
          show _ = _
          unfold setN
          rw [HTK.out, full_snoc, if_neg hx0, List.map_append, List.map_singleton, setOf_snoc]
        clear hx0
        go_wp2_with (first
          | (at_mapUpdate; refine wpList_mapUpdate_own _ rfl _ _ _ 68 rfl 9 75 law9 Try.underlying68 (unitElem (H := Unit)) g0 m _ rfl hown hj1000 _ _ _ rfl rfl hkey _ [] unitElem_mk ?_; intro w1 hown1 hgrow1)
          | go_in)
        go_roundw
        case rel => exact ⟨j + 1, m + 1, by omega, by omega, by go_num, HST.out ▸ hown1, HB.out.grown hgrow1 HB.out.size (fun k hk => by cases hk; omega)⟩
        case measure => simp [intOf]; omega
    · have q1 : decide ((j : Int) < (ns.length : Int)) = false := decide_eq_false (by omega)
      have hjn : j = ns.length := by omega
      have hsz := setN_size (H := Unit) ns
      rw [hjn, List.take_length] at hown
      obtain ⟨z, hz⟩ : ∃ z, Maps.size (setN (H := Unit) ns) = z := ⟨_, rfl⟩
      rw [hz] at hsz
      have HE : Hid (((z : Int) == (ns.length : Int)) = decide (Once ns)) := by
        show _ = _
        rw [Bool.eq_iff_iff, beq_iff_eq, decide_eq_true_iff, ← hsz.1]
        omega
      clear hjn hsz
      go_wp2_with (first
        | (at_len; refine wpList_len_own _ rfl _ 68 rfl 9 75 Try.underlying68 _ g0 m _ rfl hown ?_; rw [hz])
        | go_in)
      go_ret
      exact ⟨by rw [HE.out]; rfl, HB.out⟩
end Go.Proofs.Ytcalbcllmmoldaa
