/- Rules: a datum of a text. -/
import Derived.Test.YthhaegncnoekbaaYAA
import Derived.Test.YthhaegncnoekbaaYAC
import Derived.Test.YthhaegncnoekbaaYAM
import Derived.Test.YthhaegncnoekbaaYAB
import Derived.Test.YthhaegncnoekbaaYAE
set_option linter.unusedVariables false
set_option linter.unusedSimpArgs false
namespace Go.Proofs.Ythhaegncnoekbaa
open Go.RowKit Go.BigM
def rdOf (s : ByteArray) : Rs := (rd s.data.toList (8 * (2 * (s.data.toList.length - 0) + ([] : List En).length) + Pc.rank .next) .next 0 ⟨0, false, []⟩ []).getD (.err 0 0)
theorem rdOf_is (s : ByteArray) : rd s.data.toList (8 * (2 * (s.data.toList.length - 0) + ([] : List En).length) + Pc.rank .next) .next 0 ⟨0, false, []⟩ [] = some (rdOf s) := by
  obtain ⟨R, hR⟩ := rd_total s.data.toList (8 * (2 * (s.data.toList.length - 0) + ([] : List En).length) + Pc.rank .next) .next 0 ⟨0, false, []⟩ [] (Nat.le_refl _) (Nat.zero_le _) rfl
  unfold rdOf
  rw [hR]; rfl
/-- The datum of a text; of what is refused, or is none, the empty list. -/
def oneOf (s : ByteArray) : Dt := match rdOf s with
  | .ok (d :: _) => d
  | _ => .mk 4 ⟨#[]⟩ [] [] 0
theorem oneOf_size (s : ByteArray) : (oneOf s).size ≤ 2 * s.size + 1 := by
  unfold oneOf
  have h := rdOf_is s
  split
  · rename_i d r e
    rw [e] at h
    have := rd_size s.data.toList _ _ _ _ _ _ h (Nat.zero_le _) (by simp [wgt, Pc.wgt, Dt.sizes])
    rw [Lib.size_eq]
    simp only [Dt.sizes] at this
    omega
  · simp [Dt.size, Dt.sizes]
def RetOne (d : Dt) (w : World) (e : Ending) (w' : World) : Prop := ∃ cs, e = .returned (.agg cs) ∧ Dt.At (fun g => w.heap.size ≤ g) w' d cs ∧ Below w.heap.size w w'
set_option maxHeartbeats 8000000 in
set_option maxRecDepth 100000 in
theorem one_any (s : ByteArray) (w : World) (hs : s.size ≤ 8000) : Calls Try.prog 17 #[.string s] w (RetOne (oneOf s) w) := by
  have FR := Lib.hid (fun w => ref_read_any s w hs _ _ (rdOf_is s))
  have HO : Hid (oneOf s = match rdOf s with | .ok (d :: _) => d | _ => .mk 4 ⟨#[]⟩ [] [] 0) := rfl
  have hb0 : Below w.heap.size w (w.alloc (.cells Z5 29)) := (Below.refl _ _).alloc (Nat.le_refl _) _
  have hx := alloc_at w (.cells Z5 29)
  have hxs : (w.alloc (.cells Z5 29)).heap.size = w.heap.size + 1 := by simp
  obtain ⟨X, hX⟩ : ∃ X, X = w.alloc (.cells Z5 29) := ⟨_, rfl⟩
  have HXE : Hid (X = w.alloc (.cells #[.int .i64 0, .string ⟨#[]⟩, .slice none 0 0, .slice none 0 0, .int .i64 0] 29)) := hX
  rw [← hX] at hb0 hx hxs
  have HX := Lib.hid hx
  have HB0 := Lib.hid hb0
  clear hX hb0 hx
  obtain ⟨R, hR⟩ : ∃ R, R = rdOf s := ⟨_, rfl⟩
  rw [← hR] at FR HO
  clear hR
  go_enter Try.func17, Try.ntmps17
  go_upto_region 1 with fail
  rw [← HXE.out]
  go_wp2_with fail
  refine (FR.out _).mono ?_
  rintro e w2 ⟨hb2, hres⟩
  have hs2 := hb2.size
  have HX2 : Hid (w2.heap[w.heap.size]? = some (.cells Z5 29 (0, 0))) := by show _ = _; rw [hb2.block _ (by omega)]; exact HX.out
  have HB2 := Lib.hid (HB0.out.trans (hb2.mono HB0.out.size))
  clear hb2 FR HXE HX
  have z1 : (#[.int .i64 4, .string ⟨#[]⟩, .slice none 0 0, .slice none 0 0, .int .i64 0] : Array Value).all (·.oneCell') = true := by simp [Value.oneCell']
  have HX3 : Hid ((w2.setRow w.heap.size #[.int .i64 4, .string ⟨#[]⟩, .slice none 0 0, .slice none 0 0, .int .i64 0]).heap[w.heap.size]? = some (.cells #[.int .i64 4, .string ⟨#[]⟩, .slice none 0 0, .slice none 0 0, .int .i64 0] 29 (0, 0))) := setRow_heap w2 w.heap.size _ _ 29 (0, 0) HX2.out
  have HB3 : Hid (Below w.heap.size w (w2.setRow w.heap.size #[.int .i64 4, .string ⟨#[]⟩, .slice none 0 0, .slice none 0 0, .int .i64 0])) := below_setRowB HB2.out _ _ (Nat.le_refl _)
  have HNO : Hid (∀ W, Dt.At (fun g => w.heap.size ≤ g) W (.mk 4 ⟨#[]⟩ [] [] 0) #[.int .i64 4, .string ⟨#[]⟩, .slice none 0 0, .slice none 0 0, .int .i64 0]) := fun W => by
    rw [At_mk]; exact ⟨_, _, rfl, .inl ⟨rfl, rfl⟩, .inl ⟨rfl, rfl⟩⟩
  cases R with
  | err c p =>
    have he : e = .returned (.tuple #[.slice none 0 0, .int .i64 (p : Int), .int .i64 c]) := hres
    subst he
    by_cases h0 : c = 0
    · have q0 : (c != 0) = false := by simp [h0]
      clear h0
      go_wp2_with (refine wpList_store_row rfl 29 _ _ rfl w.heap.size #[.int .i64 4, .string ⟨#[]⟩, .slice none 0 0, .slice none 0 0, .int .i64 0] rfl rfl 29 Z5 HX2.out info40 rfl z1 ?_)
      refine bodyPost_ret (results_cell_row rfl _ _ w.heap.size 29 #[.int .i64 4, .string ⟨#[]⟩, .slice none 0 0, .slice none 0 0, .int .i64 0] (0, 0) _ rfl HX3.out Try.underlying29 rfl info40) rfl ?_
      exact ⟨_, rfl, by rw [HO.out]; exact HNO.out _, HB3.out⟩
    · have q0 : (c != 0) = true := by simpa [bne] using h0
      clear h0
      go_wp2_with (refine wpList_store_row rfl 29 _ _ rfl w.heap.size #[.int .i64 4, .string ⟨#[]⟩, .slice none 0 0, .slice none 0 0, .int .i64 0] rfl rfl 29 Z5 HX2.out info40 rfl z1 ?_)
      refine bodyPost_ret (results_cell_row rfl _ _ w.heap.size 29 #[.int .i64 4, .string ⟨#[]⟩, .slice none 0 0, .slice none 0 0, .int .i64 0] (0, 0) _ rfl HX3.out Try.underlying29 rfl info40) rfl ?_
      exact ⟨_, rfl, by rw [HO.out]; exact HNO.out _, HB3.out⟩
  | ok ds =>
    obtain ⟨v, rfl, hl⟩ := hres
    cases ds with
    | nil =>
      obtain ⟨ao, c, rfl⟩ := hl.form
      clear hl
      go_wp2_with (refine wpList_store_row rfl 29 _ _ rfl w.heap.size #[.int .i64 4, .string ⟨#[]⟩, .slice none 0 0, .slice none 0 0, .int .i64 0] rfl rfl 29 Z5 HX2.out info40 rfl z1 ?_)
      refine bodyPost_ret (results_cell_row rfl _ _ w.heap.size 29 #[.int .i64 4, .string ⟨#[]⟩, .slice none 0 0, .slice none 0 0, .int .i64 0] (0, 0) _ rfl HX3.out Try.underlying29 rfl info40) rfl ?_
      exact ⟨_, rfl, by rw [HO.out]; exact HNO.out _, HB3.out⟩
    | cons d r =>
      obtain ⟨ao, c, rfl⟩ := hl.form
      obtain ⟨g, o, k5, t5, mv5, lv5, p5, rfl, hS, -, hat, e0, e1, e2, e3, e4, o5, o6⟩ := hl.get 0 (by simp)
      have hg : g < w2.heap.size := World.block_lt_of_cell? w2 _ e0
      simp only [Nat.zero_mul, Nat.add_zero] at e0 e1 e2 e3 e4
      have z5 : (#[.int .i64 k5, .string t5, mv5, lv5, .int .i64 p5] : Array Value).all (·.oneCell') = true := by simp [Value.oneCell'] at o5 o6 ⊢; exact ⟨o5, o6⟩
      have HX5 : Hid ((w2.setRow w.heap.size #[.int .i64 k5, .string t5, mv5, lv5, .int .i64 p5]).heap[w.heap.size]? = some (.cells #[.int .i64 k5, .string t5, mv5, lv5, .int .i64 p5] 29 (0, 0))) := setRow_heap w2 w.heap.size _ _ 29 (0, 0) HX2.out
      have HB5 : Hid (Below w.heap.size w (w2.setRow w.heap.size #[.int .i64 k5, .string t5, mv5, lv5, .int .i64 p5])) := below_setRowB HB2.out _ _ (Nat.le_refl _)
      have HA5 : Hid (Dt.At (fun g => w.heap.size ≤ g) (w2.setRow w.heap.size #[.int .i64 k5, .string t5, mv5, lv5, .int .i64 p5]) d #[.int .i64 k5, .string t5, mv5, lv5, .int .i64 p5]) := by
        refine Dt.At.mono (S := fun g => X.heap.size ≤ g) (fun g h => by have : X.heap.size ≤ g := h; omega) _ _ (Dt.At.keeps (fun x c T fz hx hh _ => ⟨fz, ?_⟩) _ _ hat)
        have : X.heap.size ≤ x := hx
        rw [setRow_other w2 _ x _ (by omega)]; exact hh
      have HL := Lib.hid hg
      have hlen : (d :: r).length = r.length + 1 := rfl
      rw [hlen]
      have hrl : decide (0 < r.length + 1) = true := decide_eq_true (by omega)
      clear hat hS hl hlen hg
      go_wp2_with (refine wpList_store_row rfl 29 _ _ rfl w.heap.size #[.int .i64 k5, .string t5, mv5, lv5, .int .i64 p5] rfl rfl 29 Z5 HX2.out info40 rfl z5 ?_)
      refine bodyPost_ret (results_cell_row rfl _ _ w.heap.size 29 #[.int .i64 k5, .string t5, mv5, lv5, .int .i64 p5] (0, 0) _ rfl HX5.out Try.underlying29 rfl info40) rfl ?_
      exact ⟨_, rfl, by rw [HO.out]; exact HA5.out, HB5.out⟩
end Go.Proofs.Ythhaegncnoekbaa
namespace Go.Proofs.Ythhaegncnoekbaa
open Go.RowKit
theorem LitsAt.belowB {w w' : World} {v : Value} {ls : List ByteArray} {B : Nat} (h : LitsAt w v ls) (hB : ∀ x, v.ownBlock = some x → x < B) (hb : Below B w w') : LitsAt w' v ls := by
  rcases h with h | ⟨g, o, cap, arr, fz, rfl, hg, hd⟩
  · exact .inl h
  · exact .inr ⟨g, o, cap, arr, fz, rfl, by rw [hb.block g (hB g rfl)]; exact hg, hd⟩
def nxtDots : List Dt → Bool
  | [] => false
  | d :: _ => d.dots
mutual
/-- The variables of a pattern, with their depths, in order. -/
def Dt.vars (V : Dt → Bool) : Dt → Int → List (Dt × Int)
  | .mk k t ms l p, n => if V (.mk k t ms l p) = true then [(.mk k t ms l p, n)] else varss V l n
def varss (V : Dt → Bool) : List Dt → Int → List (Dt × Int)
  | [], _ => []
  | d :: r, n => d.vars V (if nxtDots r = true then n + 1 else n) ++ varss V r n
end
theorem vars_mk (V : Dt → Bool) (k : Int) (t : ByteArray) (ms : List Int) (l : List Dt) (p : Int) (n : Int) : (Dt.mk k t ms l p).vars V n = if V (.mk k t ms l p) = true then [(.mk k t ms l p, n)] else varss V l n := by rw [Dt.vars]
theorem varss_cons (V : Dt → Bool) (d : Dt) (r : List Dt) (n : Int) : varss V (d :: r) n = d.vars V (if nxtDots r = true then n + 1 else n) ++ varss V r n := by rw [varss]
mutual
theorem vars_len (V : Dt → Bool) : ∀ (d : Dt) (n : Int), (d.vars V n).length ≤ d.size
  | .mk k t ms l p, n => by
    rw [vars_mk]
    have := varss_len V l n
    split
    · simp only [Dt.size, List.length_singleton]; omega
    · simp only [Dt.size]; omega
theorem varss_len (V : Dt → Bool) : ∀ (l : List Dt) (n : Int), (varss V l n).length ≤ Dt.sizes l
  | [], n => by simp [varss]
  | d :: r, n => by
    rw [varss_cons, List.length_append]
    have h1 := vars_len V d (if nxtDots r = true then n + 1 else n)
    have h2 := varss_len V r n
    simp only [Dt.sizes]; omega
end
/-- A row of names with depths that the call owns; the names' parts lie below B. -/
def OwnN (B : Nat) (w : World) (v : Value) (ns : List (Dt × Int)) : Prop :=
  ∃ xs, w.ownsRow B 93 6 v ns.length xs ∧ ∀ j (h : j < ns.length), ∃ cs : Array Value, cs.size = 5 ∧ (∀ i, i < 5 → xs[6 * j + i]? = cs[i]?) ∧ xs[6 * j + 5]? = some (.int .i64 ns[j].2) ∧ Dt.At (fun g => g < B) w ns[j].1 cs
theorem OwnN.nil (B : Nat) (w : World) : OwnN B w (.slice none 0 0) [] := ⟨[], World.ownsRow_nil _ _ _ _, fun j h => by simp at h⟩
/-- What a call that puts something behind a row that it was given leaves. -/
def Grw (w w' : World) (v v' : Value) : Prop := w.grownBy w' v.ownBlock ∧ (v'.ownBlock = v.ownBlock ∨ ∃ b, v'.ownBlock = some b ∧ w.heap.size ≤ b ∧ b < w'.heap.size)
theorem Grw.refl (w : World) (v : Value) : Grw w w v v := ⟨⟨rfl, rfl, rfl, Nat.le_refl _, fun _ _ _ => rfl⟩, .inl rfl⟩
theorem Grw.of_below {w w' : World} (h : Below w.heap.size w w') (v : Value) : Grw w w' v v := ⟨⟨h.os, h.tape, h.output, h.size, fun k hk _ => h.block k hk⟩, .inl rfl⟩
theorem Grw.trans {a b c : World} {v v' v'' : Value} (h : Grw a b v v') (k : Grw b c v' v'') : Grw a c v v'' := by
  obtain ⟨h1, h2⟩ := h
  obtain ⟨k1, k2⟩ := k
  have s1 := h1.size
  have s2 := k1.size
  refine ⟨⟨k1.os.trans h1.os, k1.tape.trans h1.tape, k1.output.trans h1.output, by omega, fun x hx hn => ?_⟩, ?_⟩
  · rw [k1.block x (by omega) (fun e => ?_), h1.block x hx hn]
    rcases h2 with h2 | ⟨b, h2, hb, _⟩
    · exact hn (e.trans h2)
    · rw [h2] at e; injection e with e; omega
  · rcases k2 with k2 | ⟨b, k2, hb, hc⟩
    · rcases h2 with h2 | ⟨b, h2, hb, hc⟩
      · exact .inl (k2.trans h2)
      · exact .inr ⟨b, k2.trans h2, hb, by omega⟩
    · exact .inr ⟨b, k2, by omega, hc⟩
theorem Grw.below {B : Nat} {w w' : World} {v v' : Value} (h : Grw w w' v v') (hB : B ≤ w.heap.size) (hv : ∀ x, v.ownBlock = some x → B ≤ x) : Below B w w' :=
  ⟨h.1.os, h.1.tape, h.1.output, h.1.size, fun k hk => h.1.block k (by omega) (fun e => by have := hv k e.symm; omega)⟩
theorem keeps_low {B : Nat} {w w' : World} (h : Below B w w') : Keeps (fun g => g < B) w w' := fun g c T fz hs hg _ => ⟨fz, by rw [h.block g hs]; exact hg⟩
theorem OwnN.low {B : Nat} {w : World} {v : Value} {ns : List (Dt × Int)} (h : OwnN B w v ns) : ∀ x, v.ownBlock = some x → B ≤ x ∧ x < w.heap.size := by
  obtain ⟨xs, ho, _⟩ := h
  exact ho.lt
theorem OwnN.below {B : Nat} {w w' : World} {v : Value} {ns : List (Dt × Int)} (h : OwnN B w v ns) (hb : Below w.heap.size w w') (hB : B ≤ w.heap.size) : OwnN B w' v ns := by
  obtain ⟨xs, ho, hd⟩ := h
  refine ⟨xs, ho.kept (Below.grownRow hb none) (by cases v.ownBlock <;> simp), fun j hj => ?_⟩
  obtain ⟨cs, h5, h1, h2, h3⟩ := hd j hj
  exact ⟨cs, h5, h1, h2, Dt.At.keeps (keeps_low (hb.mono hB)) _ _ h3⟩
theorem OwnN.form {B : Nat} {w : World} {v : Value} {ns : List (Dt × Int)} (h : OwnN B w v ns) : ∃ ao c, v = .slice ao ns.length c := by
  obtain ⟨xs, ho, _⟩ := h
  exact row_form6 ho
where
  row_form6 {w : World} {B T n : Nat} {v : Value} {xs : List Value} (h : w.ownsRow B T 6 v n xs) : ∃ ao c, v = .slice ao n c := by
    rcases h.2 with ⟨rfl, hz⟩ | ⟨g, cap, cur, rfl, _⟩
    · subst hz; exact ⟨none, 0, rfl⟩
    · exact ⟨_, _, rfl⟩
def ZN : Array Value := #[.int .i64 0, .string ⟨#[]⟩, .slice none 0 0, .slice none 0 0, .int .i64 0, .int .i64 0]
theorem infoN : (Try.prog.info? 93).map (fun i => (i.zero, i.size, i.bytes)) = some (some (.agg ZN), 6, 88) := by kernel_rfl
theorem run_appN (w : World) (B ty : Nat) (v : Value) (n : Nat) (xs : List Value) (hown : w.ownsRow B 93 6 v n xs) (g0 c : Nat) (news : List Value) (hl : news.length = 6)
    (hnews : ∀ j u, news[j]? = some u → w.cell? ⟨g0, j, none⟩ = some u) (h1 : ∀ u ∈ news, u.oneCell' = true) (hn : n + 1 ≤ 1000000000) (hB : B ≤ w.heap.size) :
    ∃ v' w', (Builtin.append_ #[89, 89] ty #[v, .slice (some ⟨g0, 0, none⟩) 1 c]).run Try.prog w = .ok v' w' ∧ w'.ownsRow B 93 6 v' (n + 1) (xs ++ news) ∧ w.grownBy w' v.ownBlock ∧ (v'.ownBlock = v.ownBlock ∨ v'.ownBlock = some w.heap.size) := by
  obtain ⟨i, hi, hz, hs, hb⟩ := info_parts infoN
  have hnews' : ∀ j u, news[j]? = some u → w.cell? ((⟨g0, 0, none⟩ : Addr).add j) = some u := by
    intro j u hu
    have e : (⟨g0, 0, none⟩ : Addr).add j = ⟨g0, j, none⟩ := by unfold Addr.add; split <;> simp_all
    rw [e]; exact hnews j u hu
  have hl1 : news.length = 1 * 6 := by omega
  obtain ⟨v', w', hr, h2, h3, _⟩ := run_append_own (P := Try.prog) w B 89 ty 93 i (.agg ZN) 6 88 Try.underlying89 hi hz hs hb rfl (by decide) v n xs hown ⟨g0, 0, none⟩ 1 c news hl1 hnews' h1 (by unfold maxLen; omega) (by omega) hB
  refine ⟨v', w', hr, h2, h3, ?_⟩
  have hl2 : news.length = 1 * i.size := by rw [hs]; exact hl1
  rcases hown.2 with ⟨rfl, rfl⟩ | ⟨g, cap, cur, rfl, hbg, hg, hnc, hcm, hcs, htake⟩
  · have hr2 := run_append_nil (P := Try.prog) w 89 ty 93 i (.agg ZN) Try.underlying89 hi hz ⟨g0, 0, none⟩ 1 c news hl2 hnews' (by decide) (by decide) (by rw [hb]; decide)
    rw [hr] at hr2
    injection hr2 with e1 e2
    right; rw [e1]; rfl
  · by_cases hroom : n + 1 ≤ cap
    · have hfit : n * i.size + news.length ≤ cur.size := by rw [hs, hl, hcs]; omega
      have hr2 := run_append_room (P := Try.prog) w 89 ty 93 i Try.underlying89 hi g n cap cur hg ⟨g0, 0, none⟩ 1 c news hl2 hnews' h1 hroom hfit
      rw [hr] at hr2
      injection hr2 with e1 e2
      left; rw [e1]; rfl
    · have hlo : xs.length = n * i.size := by rw [hs]; exact hown.1
      have hr2 := run_append_grow (P := Try.prog) w 89 ty 93 i (.agg ZN) Try.underlying89 hi hz ⟨g, 0, none⟩ n cap xs hlo (hown.cells (g := g) rfl) ⟨g0, 0, none⟩ 1 c news hl2 hnews' (by omega) (by omega) (growslice_fits (by omega) (by rw [hb]; omega))
      rw [hr] at hr2
      injection hr2 with e1 e2
      right; rw [e1]; rfl
theorem wpList_appN {ops : Array Oper} {rest : List Oper} {o : Oper} {a : Act} {w : World} {Q : Exit → Act → World → Prop} (hgd : o.guard = none) (s x : Operand)
    (ho : o.op = .call { callee := .builtin .append, args := #[s, x], argTypes := #[89, 89] }) (B : Nat) (v : Value) (n : Nat) (xs : List Value) (hs : a.eval s = v) (hown : w.ownsRow B 93 6 v n xs)
    (g0 c : Nat) (hx : a.eval x = .slice (some ⟨g0, 0, none⟩) 1 c) (news : List Value) (hl : news.length = 6)
    (hnews : ∀ j u, news[j]? = some u → w.cell? ⟨g0, j, none⟩ = some u) (h1 : ∀ u ∈ news, u.oneCell' = true) (hn : n + 1 ≤ 1000000000) (hB : B ≤ w.heap.size)
    (h : ∀ v' w', w'.ownsRow B 93 6 v' (n + 1) (xs ++ news) → w.grownBy w' v.ownBlock → (v'.ownBlock = v.ownBlock ∨ v'.ownBlock = some w.heap.size) → wpList Try.prog ops Q rest (a.put o.dst v') w') : wpList Try.prog ops Q (o :: rest) a w := by
  refine wpList_plain hgd fun K hK => ?_
  obtain ⟨v', w', hr, h2, h3, h4⟩ := run_appN w B o.type v n xs hown g0 c news hl hnews h1 hn hB
  unfold Oper.wp execOp
  simp only [ho, resolve, invoke, builtin, Sem.run_bind, Sem.run_pure, Result.andThen_ok, List.map_toArray, List.map_cons, List.map_nil, hs, hx, hr]
  exact hK _ _ (h v' w' h2 h3 h4)
/-- One name more. -/
theorem OwnN.snoc {B : Nat} {w : World} {v : Value} {ns : List (Dt × Int)} {d : Dt} {n : Int} {cs : Array Value} (h : OwnN B w v ns) (h5 : cs.size = 5) (hd : Dt.At (fun g => g < B) w d cs) (hB : B ≤ w.heap.size) :
    ∃ xs, w.ownsRow B 93 6 v ns.length xs ∧ ∀ v' w9, w9.ownsRow B 93 6 v' (ns.length + 1) (xs ++ (cs.toList ++ [.int .i64 n])) → w.grownBy w9 v.ownBlock → OwnN B w9 v' (ns ++ [(d, n)]) := by
  have hlow := h.low
  obtain ⟨xs, ho, hx⟩ := h
  refine ⟨xs, ho, fun v' w9 h9 hg => ⟨_, by simpa using h9, fun j hj => ?_⟩⟩
  have hk : Keeps (fun g => g < B) w w9 := keeps_low ⟨hg.os, hg.tape, hg.output, hg.size, fun k hk => hg.block k (by omega) (fun e => by have := (hlow k e.symm).1; omega)⟩
  have hl : xs.length = ns.length * 6 := ho.1
  have hcl : cs.toList.length = 5 := by simpa using h5
  by_cases hlt : j < ns.length
  · obtain ⟨c, c5, c1, c2, c3⟩ := hx j hlt
    refine ⟨c, c5, fun i hi => ?_, ?_, ?_⟩
    · rw [List.getElem?_append_left (by omega)]; exact c1 i hi
    · rw [List.getElem?_append_left (by omega), List.getElem_append_left hlt]; exact c2
    · rw [List.getElem_append_left hlt]; exact Dt.At.keeps hk _ _ c3
  · have hj' : j = ns.length := by simp at hj; omega
    subst hj'
    refine ⟨cs, h5, fun i hi => ?_, ?_, ?_⟩
    · rw [List.getElem?_append_right (by omega), show 6 * ns.length + i - xs.length = i by omega, List.getElem?_append_left (by omega)]; simp
    · rw [List.getElem?_append_right (by omega), show 6 * ns.length + 5 - xs.length = 5 by omega, List.getElem?_append_right (by omega), List.getElem_append_right (by omega)]
      simp [hcl]
    · rw [List.getElem_append_right (by omega)]
      simp
      exact Dt.At.keeps hk _ _ hd
end Go.Proofs.Ythhaegncnoekbaa
namespace Go.Proofs.Ythhaegncnoekbaa
open Go.RowKit
def RetVs (B : Nat) (w : World) (nv : Value) (ns : List (Dt × Int)) (e : Ending) (w' : World) : Prop := ∃ nv', e = .returned nv' ∧ OwnN B w' nv' ns ∧ Grw w w' nv nv'
def VsInv (V : Dt → Bool) (B : Nat) (l : List Dt) (deep : Int) (nv0 : Value) (ns : List (Dt × Int)) (w : World) (nv iv : Value) (wr : World) : Prop :=
  ∃ (j : Nat) (ms : List (Dt × Int)), iv = .int .i64 (j : Int) ∧ j ≤ l.length ∧ OwnN B wr nv ms ∧ ms ++ varss V (l.drop j) deep = ns ++ varss V l deep ∧ ms.length + Dt.sizes (l.drop j) ≤ ns.length + Dt.sizes l ∧ Grw w wr nv0 nv
theorem slice_lit {so : Option Addr} {n m c : Nat} {ao : Option Addr} {k : Nat} (h : Value.slice so n c = .slice ao m k) : n = m := by injection h
set_option maxHeartbeats 16000000 in
set_option maxRecDepth 100000 in
theorem refvars_any (n : Nat) : n ≤ 1000000 → ∀ (d : Dt), d.size ≤ n → ∀ (B : Nat) (cs : Array Value) (ls : List ByteArray) (v : Value) (deep : Int) (nv : Value) (ns : List (Dt × Int)) (w : World), B ≤ w.heap.size → Dt.At (fun g => g < B) w d cs → LitsAt w v ls → (∀ x, v.ownBlock = some x → x < B) → ls.length ≤ 1000000 → OwnN B w nv ns →
    ns.length + d.size ≤ 3000000 → 0 ≤ deep → deep + n ≤ 3000000 → Calls Try.prog 49 #[v, .agg cs, .int .i64 deep, nv] w (RetVs B w nv (ns ++ d.vars (isVar ls) deep)) := by
  induction n with
  | zero => intro _ d hd; cases d; simp [Dt.size] at hd
  | succ n ih0 =>
    intro hn d hd B cs ls v deep nv ns w hBw hat hv hvB hls hown hnl hdp hdn
    have IH := Lib.hid (ih0 (by omega))
    have hata := hat
    obtain ⟨d0, hd0⟩ : ∃ d0, d0 = d := ⟨_, rfl⟩
    rw [← hd0] at hata
    obtain ⟨k, t, ms, l, p⟩ := d
    have HP := Lib.hid (vars_mk (isVar ls) k t ms l p deep)
    rw [← hd0] at HP ⊢
    obtain ⟨k', t', mo, mn, mc, lo, ln, lc, p', hcs⟩ := At_slices hat
    rw [At_mk] at hat
    obtain ⟨mv, lv, e2, hm, hl⟩ := hat
    rw [hcs] at e2
    simp only [Array.mk.injEq, List.cons.injEq, Value.int.injEq, Value.string.injEq, true_and, and_true] at e2
    obtain ⟨rfl, rfl, rfl, rfl, rfl⟩ := e2
    obtain ⟨ao, cap, hlf⟩ := hl.form
    obtain rfl := slice_lit hlf
    clear hlf
    subst hcs
    have hsz : Dt.sizes l ≤ n := by simp only [Dt.size] at hd; omega
    have hll := length_sizes l
    have hb0 : Below w.heap.size w (w.alloc (.cells #[.int .i64 k', .string t', .slice mo mn mc, .slice lo l.length lc, .int .i64 p'] 29)) := (Below.refl w.heap.size w).alloc (Nat.le_refl _) _
    have hx := alloc_at w (.cells #[.int .i64 k', .string t', .slice mo mn mc, .slice lo l.length lc, .int .i64 p'] 29)
    have hxs : (w.alloc (.cells #[.int .i64 k', .string t', .slice mo mn mc, .slice lo l.length lc, .int .i64 p'] 29)).heap.size = w.heap.size + 1 := by simp
    have HO1 := hown.below hb0 hBw
    have hnlow := hown.low
    have FV := Lib.hid (refvar_any (Dt.At.keeps (Keeps.of_below hb0) _ _ hata) ls v _ (hv.below hb0) hls)
    have HV0 := Lib.hid (hv.below hb0)
    have HL0 := Lib.hid (hl.keeps (Keeps.of_below hb0))
    have HA0 := Lib.hid (Dt.At.keeps (Keeps.of_below hb0) _ _ hata)
    obtain ⟨no, nc, rfl⟩ := hown.form
    obtain ⟨vo, vc, rfl⟩ := hv.form
    have hdsz : ns.length + Dt.sizes l ≤ 3000000 := by simp only [Dt.size] at hnl; omega
    obtain ⟨nl, hnl9⟩ : ∃ nl, nl = ns.length := ⟨_, rfl⟩
    have HG0 := Lib.hid (Grw.of_below hb0 (.slice no nl nc))
    rw [← hnl9] at HO1 hnlow ⊢
    have HO := Lib.hid HO1
    have HVB := Lib.hid hvB
    have HNL := Lib.hid hnlow
    have HNN := Lib.hid hnl9
    have hnlb : nl ≤ 3000000 := by omega
    obtain ⟨X, hX⟩ : ∃ X, X = w.alloc (.cells #[.int .i64 k', .string t', .slice mo mn mc, .slice lo l.length lc, .int .i64 p'] 29) := ⟨_, rfl⟩
    rw [← hX] at hx hxs FV HV0 HL0 HA0 HG0 HO
    have HX := Lib.hid hX
    clear hata hm hl hv hown hb0 HO1 hvB hnlow hd ih0 hnl9 hd0 hX
    go_enter Try.func49, Try.ntmps49
    go_upto_region 1 with fail
    rw [← HX.out]
    go_wp2_with (refine wpList_load_row rfl 29 _ rfl w.heap.size rfl 29 #[.int .i64 k', .string t', .slice mo mn mc, .slice lo l.length lc, .int .i64 p'] (0, 0) _ hx Try.underlying29 rfl info40 ?_)
    refine FV.out.mono ?_
    rintro e w2 ⟨rfl, hb2⟩
    have hs2 := hb2.size
    have hx2 : w2.heap[w.heap.size]? = some (.cells #[.int .i64 k', .string t', .slice mo mn mc, .slice lo l.length lc, .int .i64 p'] 29 (0, 0)) := by rw [hb2.block _ (by omega)]; exact hx
    have HO2 := Lib.hid (HO.out.below hb2 (by omega))
    have HV2 := Lib.hid (HV0.out.below hb2)
    have HL2 := Lib.hid (HL0.out.keeps (Keeps.of_below hb2))
    have HA2 := Lib.hid (Dt.At.keeps (Keeps.of_below hb2) _ _ HA0.out)
    have HG2 := Lib.hid (HG0.out.trans (Grw.of_below hb2 _))
    clear hb2 HO HV0 HL0 HA0 HG0 hx FV
    cases hvr : isVar ls d0 with
    | true =>
      have hb9 : Below w2.heap.size w2 (w2.alloc (.cells #[.int .i64 k', .string t', .slice mo mn mc, .slice lo l.length lc, .int .i64 p', .int .i64 deep] 93)) := (Below.refl _ _).alloc (Nat.le_refl _) _
      have hB2 : B ≤ w2.heap.size := by omega
      obtain ⟨xs, hxo, hsn⟩ := OwnN.snoc (n := deep) (HO2.out.below hb9 hB2) rfl (Dt.At.keeps (Keeps.of_below hb9) _ _ HA2.out) (by have := hb9.size; omega)
      have HSN := Lib.hid hsn
      have HXO := Lib.hid hxo
      have hB9 : B ≤ (w2.alloc (.cells #[.int .i64 k', .string t', .slice mo mn mc, .slice lo l.length lc, .int .i64 p', .int .i64 deep] 93)).heap.size := by have := hb9.size; omega
      have HG9 := Lib.hid (HG2.out.trans (Grw.of_below hb9 _))
      have hnl1 : ns.length + 1 ≤ 1000000000 := by omega
      clear hsn hxo hb9
      go_wp2_with (first | refine wpList_load_row rfl 29 _ rfl w.heap.size rfl 29 #[.int .i64 k', .string t', .slice mo mn mc, .slice lo l.length lc, .int .i64 p'] (0, 0) _ hx2 Try.underlying29 rfl info40 ?_ | (refine wpList_appN rfl (Operand.tmp 14) (Operand.tmp 18) rfl B (.slice no nl nc) ns.length xs rfl HXO.out w2.heap.size 1 rfl [.int .i64 k', .string t', .slice mo mn mc, .slice lo l.length lc, .int .i64 p', .int .i64 deep] rfl (fun i u hu => by (have q : (w2.alloc (.cells #[.int .i64 k', .string t', .slice mo mn mc, .slice lo l.length lc, .int .i64 p', .int .i64 deep] 93)).cell? ⟨w2.heap.size, i, none⟩ = some u := by (rw [Lib.cell_of_heap (alloc_at w2 (.cells #[.int .i64 k', .string t', .slice mo mn mc, .slice lo l.length lc, .int .i64 p', .int .i64 deep] 93))]; simpa using hu)); exact q) (by simp [Value.oneCell']) hnl1 hB9 ?_; intro v' w9 h9 hg hv; have H9 := Lib.hid h9; have HGR := Lib.hid hg; have HVV := Lib.hid hv; clear h9 hg hv))
      go_ret
      refine ⟨v', rfl, ?_, HG9.out.trans ⟨HGR.out, ?_⟩⟩
      · rw [HP.out, if_pos hvr]
        exact HSN.out v' w9 H9.out HGR.out
      · rcases HVV.out with e | e
        · exact .inl e
        · exact .inr ⟨_, e, Nat.le_refl _, (H9.out.lt _ e).2⟩
    | false =>
      have c3 : w2.cell? ⟨w.heap.size, 3, none⟩ = some (.slice lo l.length lc) := by rw [Lib.cell_of_heap hx2]; rfl
      have hw2 : w.heap.size < w2.heap.size := by omega
      have HC3 := Lib.hid c3
      have HVR := Lib.hid hvr
      have e1 : IntKind.i64.wrap (deep + 1) = deep + 1 := by rw [IntKind.wrap_i64]; omega
      clear hx2 c3 hvr
      go_wp2_with fail
      go_loopw [3, 9] (fun nv iv wr => VsInv (isVar ls) B l deep (.slice no nl nc) ns w2 nv iv wr) (fun nv iv _ => l.length - (intOf iv).toNat)
      case atStart => exact ⟨0, ns, rfl, Nat.zero_le _, HO2.out, by simp, by simp, Grw.refl _ _⟩
      case round =>
        obtain ⟨j, ms2, rfl, hj, ho, he, hlen, hg⟩ := hrel
        obtain ⟨mo2, mc2, rfl⟩ := ho.form
        have hnB : ∀ x, (Value.slice no nl nc).ownBlock = some x → B ≤ x := fun x hx => (HNL.out x hx).1
        have hbB := hg.below (by omega : B ≤ w2.heap.size) hnB
        have HBB := Lib.hid hbB
        have HGr := Lib.hid hg
        have HEQ := Lib.hid he
        have HOr := Lib.hid ho
        have HVr := Lib.hid (HV2.out.belowB HVB.out hbB)
        have c3 : wr.cell? ⟨w.heap.size, 3, none⟩ = some (.slice lo l.length lc) := by
          have h1 := hg.1.block w.heap.size hw2 (fun e => by have := (HNL.out _ e.symm).2; omega)
          rw [← HC3.out]; simp only [World.cell?, h1]
        have hwr := hg.1.size
        have HLr := Lib.hid (HL2.out.keeps (keeps_low hbB))
        clear hbB hg he ho hnB
        by_cases hlt : j < l.length
        · have q1 : decide ((j : Int) < (l.length : Int)) = true := decide_eq_true (by omega)
          obtain ⟨g, o, k5, t5, mv5, lv5, p5, rfl, hS, -, hat, e0, e1', e2, e3, e4, o5, o6⟩ := HLr.out.get j hlt
          have hsj := size_get l j hlt
          have hdr : l.drop j = l[j] :: l.drop (j + 1) := List.drop_eq_getElem_cons hlt
          by_cases hnx : j + 1 < l.length
          · have q2 : decide ((j : Int) + 1 < (l.length : Int)) = true := decide_eq_true (by omega)
            obtain ⟨g2, o2, k6, t6, mv6, lv6, p6, e9, hS2, -, hat2, f0, f1, f2, f3, f4, o7, o8⟩ := HLr.out.get (j + 1) hnx
            simp only [Option.some.injEq, Addr.mk.injEq, and_true] at e9
            obtain ⟨rfl, rfl⟩ := e9
            have FE := Lib.hid (fun W => refdots_any hat2 W)
            obtain ⟨be, hbe⟩ : ∃ b, b = l[j + 1].dots := ⟨_, rfl⟩
            rw [← hbe] at FE
            have hnd : nxtDots (l.drop (j + 1)) = be := by rw [List.drop_eq_getElem_cons hnx, hbe]; rfl
            have e9 : ∀ i, o + (j + 1) * 5 + i = o + j * 5 + 5 + i := fun i => by omega
            have hgl : g < wr.heap.size := World.block_lt_of_cell? wr _ e0
            have HAT := Lib.hid hat
            clear hbe hat2 hat hS hS2 e9
            go_wp2_with fail
            refine (FE.out _).mono ?_
            rintro e w3 ⟨rfl, hb3⟩
            have HBW := Lib.hid hb3
            have HATW := Lib.hid (Dt.At.keeps (Keeps.of_below hb3) _ _ HAT.out)
            have HVW := Lib.hid (HVr.out.below hb3)
            have HOW := Lib.hid (HOr.out.below hb3 (by omega))
            have HGW := Lib.hid (HGr.out.trans (Grw.of_below hb3 _))
            have c3' := (hb3.cell (p := ⟨w.heap.size, 3, none⟩) (by show w.heap.size < _; omega)).trans c3
            have g0 := (hb3.cell hgl).trans e0
            have g1 := (hb3.cell (p := ⟨g, o + j * 5 + 1, none⟩) hgl).trans e1'
            have g2' := (hb3.cell (p := ⟨g, o + j * 5 + 2, none⟩) hgl).trans e2
            have g3 := (hb3.cell (p := ⟨g, o + j * 5 + 3, none⟩) hgl).trans e3
            have g4 := (hb3.cell (p := ⟨g, o + j * 5 + 4, none⟩) hgl).trans e4
            clear hb3 e0 e1' e2 e3 e4 f0 f1 f2 f3 f4 c3 FE
            cases be with
            | true =>
              have HE : Hid (ms2 ++ (l[j].vars (isVar ls) (deep + 1) ++ varss (isVar ls) (l.drop (j + 1)) deep) = ns ++ varss (isVar ls) l deep) := by
                have h := HEQ.out
                rw [hdr, varss_cons, hnd, if_pos rfl] at h
                exact h
              have hvl := vars_len (isVar ls) l[j] (deep + 1)
              have hlen2 := hlen
              rw [hdr] at hlen2
              simp only [Dt.sizes] at hlen2
              have FR := Lib.hid (IH.out l[j] (by omega) B _ ls _ (deep + 1) _ ms2 w3 (by have := HBW.out.size; omega) HATW.out HVW.out HVB.out hls HOW.out (by omega) (by omega) (by push_cast at hdn ⊢; omega))
              have hlen3 : (ms2 ++ l[j].vars (isVar ls) (deep + 1)).length + Dt.sizes (l.drop (j + 1)) ≤ ns.length + Dt.sizes l := by rw [List.length_append]; omega
              have HLEN := Lib.hid hlen3
              clear hlen2 hlen3 hvl hdr
              go_wp2_with fail
              refine FR.out.mono ?_
              rintro e w5 ⟨nv5, rfl, ho5, hg5⟩
              have HFIN : Hid (VsInv (isVar ls) B l deep (.slice no nl nc) ns w2 nv5 (.int .i64 ((j + 1 : Nat) : Int)) w5) := ⟨j + 1, _, rfl, by omega, ho5, by rw [List.append_assoc]; exact HE.out, HLEN.out, HGW.out.trans hg5⟩
              obtain ⟨o5, c5, rfl⟩ := ho5.form
              clear ho5 hg5
              go_wp2_with fail
              go_roundw
              case rel =>
                have q := HFIN.out
                simp only [List.length_append] at q
                push_cast at q
                exact q
              case measure => simp [intOf]; omega
            | false =>
              have HE : Hid (ms2 ++ (l[j].vars (isVar ls) (deep) ++ varss (isVar ls) (l.drop (j + 1)) deep) = ns ++ varss (isVar ls) l deep) := by
                have h := HEQ.out
                rw [hdr, varss_cons, hnd, if_neg (by decide)] at h
                exact h
              have hvl := vars_len (isVar ls) l[j] (deep)
              have hlen2 := hlen
              rw [hdr] at hlen2
              simp only [Dt.sizes] at hlen2
              have FR := Lib.hid (IH.out l[j] (by omega) B _ ls _ (deep) _ ms2 w3 (by have := HBW.out.size; omega) HATW.out HVW.out HVB.out hls HOW.out (by omega) (by omega) (by push_cast at hdn ⊢; omega))
              have hlen3 : (ms2 ++ l[j].vars (isVar ls) (deep)).length + Dt.sizes (l.drop (j + 1)) ≤ ns.length + Dt.sizes l := by rw [List.length_append]; omega
              have HLEN := Lib.hid hlen3
              clear hlen2 hlen3 hvl hdr
              go_wp2_with fail
              refine FR.out.mono ?_
              rintro e w5 ⟨nv5, rfl, ho5, hg5⟩
              have HFIN : Hid (VsInv (isVar ls) B l deep (.slice no nl nc) ns w2 nv5 (.int .i64 ((j + 1 : Nat) : Int)) w5) := ⟨j + 1, _, rfl, by omega, ho5, by rw [List.append_assoc]; exact HE.out, HLEN.out, HGW.out.trans hg5⟩
              obtain ⟨o5, c5, rfl⟩ := ho5.form
              clear ho5 hg5
              go_wp2_with fail
              go_roundw
              case rel =>
                have q := HFIN.out
                simp only [List.length_append] at q
                push_cast at q
                exact q
              case measure => simp [intOf]; omega
          · have q2 : decide ((j : Int) + 1 < (l.length : Int)) = false := decide_eq_false (by omega)
            have hnd : nxtDots (l.drop (j + 1)) = false := by rw [List.drop_eq_nil_of_le (by omega)]; rfl
            have HBW := Lib.hid (Below.refl wr.heap.size wr)
            have HATW := Lib.hid hat
            have HVW := HVr
            have HOW := HOr
            have HGW := HGr
            clear hat hS
            have HE : Hid (ms2 ++ (l[j].vars (isVar ls) (deep) ++ varss (isVar ls) (l.drop (j + 1)) deep) = ns ++ varss (isVar ls) l deep) := by
              have h := HEQ.out
              rw [hdr, varss_cons, hnd, if_neg (by decide)] at h
              exact h
            have hvl := vars_len (isVar ls) l[j] (deep)
            have hlen2 := hlen
            rw [hdr] at hlen2
            simp only [Dt.sizes] at hlen2
            have FR := Lib.hid (IH.out l[j] (by omega) B _ ls _ (deep) _ ms2 wr (by have := HBW.out.size; omega) HATW.out HVW.out HVB.out hls HOW.out (by omega) (by omega) (by push_cast at hdn ⊢; omega))
            have hlen3 : (ms2 ++ l[j].vars (isVar ls) (deep)).length + Dt.sizes (l.drop (j + 1)) ≤ ns.length + Dt.sizes l := by rw [List.length_append]; omega
            have HLEN := Lib.hid hlen3
            clear hlen2 hlen3 hvl hdr
            go_wp2_with fail
            refine FR.out.mono ?_
            rintro e w5 ⟨nv5, rfl, ho5, hg5⟩
            have HFIN : Hid (VsInv (isVar ls) B l deep (.slice no nl nc) ns w2 nv5 (.int .i64 ((j + 1 : Nat) : Int)) w5) := ⟨j + 1, _, rfl, by omega, ho5, by rw [List.append_assoc]; exact HE.out, HLEN.out, HGW.out.trans hg5⟩
            obtain ⟨o5, c5, rfl⟩ := ho5.form
            clear ho5 hg5
            go_wp2_with fail
            go_roundw
            case rel =>
              have q := HFIN.out
              simp only [List.length_append] at q
              push_cast at q
              exact q
            case measure => simp [intOf]; omega
        · obtain rfl : j = l.length := by omega
          have q1 : decide ((l.length : Int) < (l.length : Int)) = false := decide_eq_false (by omega)
          have HE : Hid (ms2 = ns ++ d0.vars (isVar ls) deep) := by
            have h := HEQ.out
            rw [List.drop_length] at h
            show _ = _
            rw [HP.out, if_neg (by rw [HVR.out]; decide), ← h]
            simp [varss]
          go_wp2_with fail
          go_ret
          exact ⟨_, rfl, by rw [← HE.out]; exact HOr.out, HG2.out.trans HGr.out⟩
end Go.Proofs.Ythhaegncnoekbaa
