/- The document's Text of a term. -/
import Derived.Test.YtmcgocbkjdacaaaDoorTX5
namespace Go.Proofs.YtmcgocbkjdacaaaDoor
open Go.RowKit Go.BigM
set_option linter.unusedVariables false
set_option linter.unusedSimpArgs false
theorem wrs_true : ∀ (l : List Et), l ≠ [] → Et.wrs true l = 32 :: Et.wrs false l
  | [], h => absurd rfl h
  | e :: l, _ => by simp [Et.wrs]
theorem wrs_one : ∀ (l : List Et) (h : 0 < l.length), l.length = 1 → Et.wrs true l = (32 : UInt8) :: (l[0]'h).wr
  | [e], _, _ => by simp [Et.wrs]
set_option maxHeartbeats 8000000 in
set_option maxRecDepth 100000 in
theorem rt1 (t : ByteArray) (ns : List ByteArray) (a : List Et) (ih : ∀ e ∈ a, RTC e) (hl : a.length ≤ 100000) (hnl : ns.length ≤ 100) (hns : ∀ s ∈ ns, s.size ≤ 100) (hts : t.size ≤ 100) (hwl : (Et.mk 1 t ns a).wr.length ≤ 1000000000) : RTC (.mk 1 t ns a) := by
  intro S cs w hat
  rw [EAt_mk] at hat
  obtain ⟨nv, av, rfl, hm, hla⟩ := hat
  have o1 := hm.one
  have o2 := hla.one
  obtain ⟨no, nc, rfl⟩ := hm.form
  obtain ⟨ao, ac, rfl⟩ := hla.form
  obtain ⟨res, hres⟩ : ∃ res : ByteArray, res = ⟨(Et.mk 1 t ns a).wr.toArray⟩ := ⟨_, rfl⟩
  rw [← hres]
  have A1 := Lib.hid ((Below.refl w.heap.size w).alloc (Nat.le_refl _) (.cells #[.int .i64 1, .string t, .slice no ns.length nc, .slice ao a.length ac] 28))
  have HE1 : Hid (EB (w.alloc (.cells #[.int .i64 1, .string t, .slice no ns.length nc, .slice ao a.length ac] 28)) w.heap.size 1 t (.slice no ns.length nc) (.slice ao a.length ac)) := alloc_at _ _
  have HM1 := Lib.hid (hm.keeps (Keeps.of_below A1.out))
  have HA1 := Lib.hid (hla.keeps (Keeps.of_below A1.out))
  have hg1 : w.heap.size < (w.alloc (.cells #[.int .i64 1, .string t, .slice no ns.length nc, .slice ao a.length ac] 28)).heap.size := by simp
  have IH := Lib.hid ih
  have HNS := Lib.hid hns
  have HWL := Lib.hid hwl
  have HRES := Lib.hid hres
  clear hm hla ih hns hwl hres
  have hr5 := HRES.out
  rw [wr_mk] at hr5
  rw [if_neg (show ¬ (1 : Int) = 3 by decide)] at hr5
  rw [if_neg (show ¬ (1 : Int) = 4 by decide)] at hr5
  rw [if_neg (show ¬ (1 : Int) = 6 by decide)] at hr5
  rw [if_neg (show ¬ (1 : Int) = 7 by decide)] at hr5
  rw [if_neg (show ¬ (1 : Int) = 8 by decide)] at hr5
  rw [if_neg (show ¬ (1 : Int) = 9 by decide)] at hr5
  rw [if_neg (show ¬ (1 : Int) = 10 by decide)] at hr5
  have HR : Hid (res = t) := by show _ = _; rw [hr5]
  clear hr5
  go_enter Tryd.func26, Tryd.ntmps26
  go_upto_region 1 with fail
  generalize w.alloc (.cells #[.int .i64 1, .string t, .slice no ns.length nc, .slice ao a.length ac] 28) = W1 at A1 HE1 HM1 HA1 hg1 ⊢
  obtain ⟨gs, hgs⟩ : ∃ gs, gs = w.heap.size := ⟨_, rfl⟩
  rw [← hgs] at HE1 hg1
  simp only [← hgs]
  clear hgs
  obtain ⟨c0, c1, c2, c3⟩ := EB.cell _ _ _ _ _ _ HE1.out
  go_wp2_with fail
  go_ret
  exact ⟨by rw [HR.out]; rfl, A1.out⟩
set_option maxHeartbeats 8000000 in
set_option maxRecDepth 100000 in
theorem rt2 (t : ByteArray) (ns : List ByteArray) (a : List Et) (ih : ∀ e ∈ a, RTC e) (hl : a.length ≤ 100000) (hnl : ns.length ≤ 100) (hns : ∀ s ∈ ns, s.size ≤ 100) (hts : t.size ≤ 100) (hwl : (Et.mk 2 t ns a).wr.length ≤ 1000000000) : RTC (.mk 2 t ns a) := by
  intro S cs w hat
  rw [EAt_mk] at hat
  obtain ⟨nv, av, rfl, hm, hla⟩ := hat
  have o1 := hm.one
  have o2 := hla.one
  obtain ⟨no, nc, rfl⟩ := hm.form
  obtain ⟨ao, ac, rfl⟩ := hla.form
  obtain ⟨res, hres⟩ : ∃ res : ByteArray, res = ⟨(Et.mk 2 t ns a).wr.toArray⟩ := ⟨_, rfl⟩
  rw [← hres]
  have A1 := Lib.hid ((Below.refl w.heap.size w).alloc (Nat.le_refl _) (.cells #[.int .i64 2, .string t, .slice no ns.length nc, .slice ao a.length ac] 28))
  have HE1 : Hid (EB (w.alloc (.cells #[.int .i64 2, .string t, .slice no ns.length nc, .slice ao a.length ac] 28)) w.heap.size 2 t (.slice no ns.length nc) (.slice ao a.length ac)) := alloc_at _ _
  have HM1 := Lib.hid (hm.keeps (Keeps.of_below A1.out))
  have HA1 := Lib.hid (hla.keeps (Keeps.of_below A1.out))
  have hg1 : w.heap.size < (w.alloc (.cells #[.int .i64 2, .string t, .slice no ns.length nc, .slice ao a.length ac] 28)).heap.size := by simp
  have IH := Lib.hid ih
  have HNS := Lib.hid hns
  have HWL := Lib.hid hwl
  have HRES := Lib.hid hres
  clear hm hla ih hns hwl hres
  have hr5 := HRES.out
  rw [wr_mk] at hr5
  rw [if_neg (show ¬ (2 : Int) = 3 by decide)] at hr5
  rw [if_neg (show ¬ (2 : Int) = 4 by decide)] at hr5
  rw [if_neg (show ¬ (2 : Int) = 6 by decide)] at hr5
  rw [if_neg (show ¬ (2 : Int) = 7 by decide)] at hr5
  rw [if_neg (show ¬ (2 : Int) = 8 by decide)] at hr5
  rw [if_neg (show ¬ (2 : Int) = 9 by decide)] at hr5
  rw [if_neg (show ¬ (2 : Int) = 10 by decide)] at hr5
  have HR : Hid (res = t) := by show _ = _; rw [hr5]
  clear hr5
  go_enter Tryd.func26, Tryd.ntmps26
  go_upto_region 1 with fail
  generalize w.alloc (.cells #[.int .i64 2, .string t, .slice no ns.length nc, .slice ao a.length ac] 28) = W1 at A1 HE1 HM1 HA1 hg1 ⊢
  obtain ⟨gs, hgs⟩ : ∃ gs, gs = w.heap.size := ⟨_, rfl⟩
  rw [← hgs] at HE1 hg1
  simp only [← hgs]
  clear hgs
  obtain ⟨c0, c1, c2, c3⟩ := EB.cell _ _ _ _ _ _ HE1.out
  go_wp2_with fail
  go_ret
  exact ⟨by rw [HR.out]; rfl, A1.out⟩
set_option maxHeartbeats 8000000 in
set_option maxRecDepth 100000 in
theorem rt5 (t : ByteArray) (ns : List ByteArray) (a : List Et) (ih : ∀ e ∈ a, RTC e) (hl : a.length ≤ 100000) (hnl : ns.length ≤ 100) (hns : ∀ s ∈ ns, s.size ≤ 100) (hts : t.size ≤ 100) (hwl : (Et.mk 5 t ns a).wr.length ≤ 1000000000) : RTC (.mk 5 t ns a) := by
  intro S cs w hat
  rw [EAt_mk] at hat
  obtain ⟨nv, av, rfl, hm, hla⟩ := hat
  have o1 := hm.one
  have o2 := hla.one
  obtain ⟨no, nc, rfl⟩ := hm.form
  obtain ⟨ao, ac, rfl⟩ := hla.form
  obtain ⟨res, hres⟩ : ∃ res : ByteArray, res = ⟨(Et.mk 5 t ns a).wr.toArray⟩ := ⟨_, rfl⟩
  rw [← hres]
  have A1 := Lib.hid ((Below.refl w.heap.size w).alloc (Nat.le_refl _) (.cells #[.int .i64 5, .string t, .slice no ns.length nc, .slice ao a.length ac] 28))
  have HE1 : Hid (EB (w.alloc (.cells #[.int .i64 5, .string t, .slice no ns.length nc, .slice ao a.length ac] 28)) w.heap.size 5 t (.slice no ns.length nc) (.slice ao a.length ac)) := alloc_at _ _
  have HM1 := Lib.hid (hm.keeps (Keeps.of_below A1.out))
  have HA1 := Lib.hid (hla.keeps (Keeps.of_below A1.out))
  have hg1 : w.heap.size < (w.alloc (.cells #[.int .i64 5, .string t, .slice no ns.length nc, .slice ao a.length ac] 28)).heap.size := by simp
  have IH := Lib.hid ih
  have HNS := Lib.hid hns
  have HWL := Lib.hid hwl
  have HRES := Lib.hid hres
  clear hm hla ih hns hwl hres
  have hr5 := HRES.out
  rw [wr_mk] at hr5
  rw [if_neg (show ¬ (5 : Int) = 3 by decide)] at hr5
  rw [if_neg (show ¬ (5 : Int) = 4 by decide)] at hr5
  rw [if_neg (show ¬ (5 : Int) = 6 by decide)] at hr5
  rw [if_neg (show ¬ (5 : Int) = 7 by decide)] at hr5
  rw [if_neg (show ¬ (5 : Int) = 8 by decide)] at hr5
  rw [if_neg (show ¬ (5 : Int) = 9 by decide)] at hr5
  rw [if_neg (show ¬ (5 : Int) = 10 by decide)] at hr5
  have HR : Hid (res = t) := by show _ = _; rw [hr5]
  clear hr5
  go_enter Tryd.func26, Tryd.ntmps26
  go_upto_region 1 with fail
  generalize w.alloc (.cells #[.int .i64 5, .string t, .slice no ns.length nc, .slice ao a.length ac] 28) = W1 at A1 HE1 HM1 HA1 hg1 ⊢
  obtain ⟨gs, hgs⟩ : ∃ gs, gs = w.heap.size := ⟨_, rfl⟩
  rw [← hgs] at HE1 hg1
  simp only [← hgs]
  clear hgs
  obtain ⟨c0, c1, c2, c3⟩ := EB.cell _ _ _ _ _ _ HE1.out
  go_wp2_with fail
  go_ret
  exact ⟨by rw [HR.out]; rfl, A1.out⟩
set_option maxHeartbeats 8000000 in
set_option maxRecDepth 100000 in
theorem rt3 (t : ByteArray) (ns : List ByteArray) (a : List Et) (ih : ∀ e ∈ a, RTC e) (hl : a.length ≤ 100000) (hnl : ns.length ≤ 100) (hns : ∀ s ∈ ns, s.size ≤ 100) (hts : t.size ≤ 100) (hwl : (Et.mk 3 t ns a).wr.length ≤ 1000000000) : RTC (.mk 3 t ns a) := by
  intro S cs w hat
  rw [EAt_mk] at hat
  obtain ⟨nv, av, rfl, hm, hla⟩ := hat
  have o1 := hm.one
  have o2 := hla.one
  obtain ⟨no, nc, rfl⟩ := hm.form
  obtain ⟨ao, ac, rfl⟩ := hla.form
  obtain ⟨res, hres⟩ : ∃ res : ByteArray, res = ⟨(Et.mk 3 t ns a).wr.toArray⟩ := ⟨_, rfl⟩
  rw [← hres]
  have A1 := Lib.hid ((Below.refl w.heap.size w).alloc (Nat.le_refl _) (.cells #[.int .i64 3, .string t, .slice no ns.length nc, .slice ao a.length ac] 28))
  have HE1 : Hid (EB (w.alloc (.cells #[.int .i64 3, .string t, .slice no ns.length nc, .slice ao a.length ac] 28)) w.heap.size 3 t (.slice no ns.length nc) (.slice ao a.length ac)) := alloc_at _ _
  have HM1 := Lib.hid (hm.keeps (Keeps.of_below A1.out))
  have HA1 := Lib.hid (hla.keeps (Keeps.of_below A1.out))
  have hg1 : w.heap.size < (w.alloc (.cells #[.int .i64 3, .string t, .slice no ns.length nc, .slice ao a.length ac] 28)).heap.size := by simp
  have IH := Lib.hid ih
  have HNS := Lib.hid hns
  have HWL := Lib.hid hwl
  have HRES := Lib.hid hres
  clear hm hla ih hns hwl hres
  have hr5 := HRES.out
  rw [wr_mk] at hr5
  rw [if_pos rfl] at hr5
  have HR : Hid (res = ⟨#[40, 41]⟩) := by show _ = _; rw [hr5]
  clear hr5
  go_enter Tryd.func26, Tryd.ntmps26
  go_upto_region 1 with fail
  generalize w.alloc (.cells #[.int .i64 3, .string t, .slice no ns.length nc, .slice ao a.length ac] 28) = W1 at A1 HE1 HM1 HA1 hg1 ⊢
  obtain ⟨gs, hgs⟩ : ∃ gs, gs = w.heap.size := ⟨_, rfl⟩
  rw [← hgs] at HE1 hg1
  simp only [← hgs]
  clear hgs
  obtain ⟨c0, c1, c2, c3⟩ := EB.cell _ _ _ _ _ _ HE1.out
  go_wp2_with fail
  go_ret
  exact ⟨by rw [HR.out]; rfl, A1.out⟩
set_option maxHeartbeats 8000000 in
set_option maxRecDepth 100000 in
theorem rt4 (t : ByteArray) (ns : List ByteArray) (a : List Et) (ih : ∀ e ∈ a, RTC e) (hl : a.length ≤ 100000) (hnl : ns.length ≤ 100) (hns : ∀ s ∈ ns, s.size ≤ 100) (hts : t.size ≤ 100) (hwl : (Et.mk 4 t ns a).wr.length ≤ 1000000000) : RTC (.mk 4 t ns a) := by
  intro S cs w hat
  rw [EAt_mk] at hat
  obtain ⟨nv, av, rfl, hm, hla⟩ := hat
  have o1 := hm.one
  have o2 := hla.one
  obtain ⟨no, nc, rfl⟩ := hm.form
  obtain ⟨ao, ac, rfl⟩ := hla.form
  obtain ⟨res, hres⟩ : ∃ res : ByteArray, res = ⟨(Et.mk 4 t ns a).wr.toArray⟩ := ⟨_, rfl⟩
  rw [← hres]
  have A1 := Lib.hid ((Below.refl w.heap.size w).alloc (Nat.le_refl _) (.cells #[.int .i64 4, .string t, .slice no ns.length nc, .slice ao a.length ac] 28))
  have HE1 : Hid (EB (w.alloc (.cells #[.int .i64 4, .string t, .slice no ns.length nc, .slice ao a.length ac] 28)) w.heap.size 4 t (.slice no ns.length nc) (.slice ao a.length ac)) := alloc_at _ _
  have HM1 := Lib.hid (hm.keeps (Keeps.of_below A1.out))
  have HA1 := Lib.hid (hla.keeps (Keeps.of_below A1.out))
  have hg1 : w.heap.size < (w.alloc (.cells #[.int .i64 4, .string t, .slice no ns.length nc, .slice ao a.length ac] 28)).heap.size := by simp
  have IH := Lib.hid ih
  have HNS := Lib.hid hns
  have HWL := Lib.hid hwl
  have HRES := Lib.hid hres
  clear hm hla ih hns hwl hres
  have hr5 := HRES.out
  rw [wr_mk] at hr5
  rw [if_neg (show ¬ (4 : Int) = 3 by decide)] at hr5
  rw [if_pos rfl] at hr5
  have HR : Hid (res = ⟨#[39]⟩ ++ t) := by show _ = _; rw [hr5]; exact (bytes_of (by rw [app_data]; simp)).symm
  clear hr5
  go_enter Tryd.func26, Tryd.ntmps26
  go_upto_region 1 with fail
  generalize w.alloc (.cells #[.int .i64 4, .string t, .slice no ns.length nc, .slice ao a.length ac] 28) = W1 at A1 HE1 HM1 HA1 hg1 ⊢
  obtain ⟨gs, hgs⟩ : ∃ gs, gs = w.heap.size := ⟨_, rfl⟩
  rw [← hgs] at HE1 hg1
  simp only [← hgs]
  clear hgs
  obtain ⟨c0, c1, c2, c3⟩ := EB.cell _ _ _ _ _ _ HE1.out
  go_wp2_with fail
  go_ret
  exact ⟨by rw [HR.out]; rfl, A1.out⟩
set_option maxHeartbeats 8000000 in
set_option maxRecDepth 100000 in
theorem rt7 (t : ByteArray) (ns : List ByteArray) (a : List Et) (ih : ∀ e ∈ a, RTC e) (hl : a.length ≤ 100000) (hnl : ns.length ≤ 100) (hns : ∀ s ∈ ns, s.size ≤ 100) (hts : t.size ≤ 100) (hwl : (Et.mk 7 t ns a).wr.length ≤ 1000000000) : RTC (.mk 7 t ns a) := by
  intro S cs w hat
  rw [EAt_mk] at hat
  obtain ⟨nv, av, rfl, hm, hla⟩ := hat
  have o1 := hm.one
  have o2 := hla.one
  obtain ⟨no, nc, rfl⟩ := hm.form
  obtain ⟨ao, ac, rfl⟩ := hla.form
  obtain ⟨res, hres⟩ : ∃ res : ByteArray, res = ⟨(Et.mk 7 t ns a).wr.toArray⟩ := ⟨_, rfl⟩
  rw [← hres]
  have A1 := Lib.hid ((Below.refl w.heap.size w).alloc (Nat.le_refl _) (.cells #[.int .i64 7, .string t, .slice no ns.length nc, .slice ao a.length ac] 28))
  have HE1 : Hid (EB (w.alloc (.cells #[.int .i64 7, .string t, .slice no ns.length nc, .slice ao a.length ac] 28)) w.heap.size 7 t (.slice no ns.length nc) (.slice ao a.length ac)) := alloc_at _ _
  have HM1 := Lib.hid (hm.keeps (Keeps.of_below A1.out))
  have HA1 := Lib.hid (hla.keeps (Keeps.of_below A1.out))
  have hg1 : w.heap.size < (w.alloc (.cells #[.int .i64 7, .string t, .slice no ns.length nc, .slice ao a.length ac] 28)).heap.size := by simp
  have IH := Lib.hid ih
  have HNS := Lib.hid hns
  have HWL := Lib.hid hwl
  have HRES := Lib.hid hres
  clear hm hla ih hns hwl hres
  have hwf : (Et.wrs false a).length ≤ 1000000000 := by
    have h1 := HWL.out
    rw [wr_mk] at h1
    rw [if_neg (show ¬ (7 : Int) = 3 by decide)] at h1
    rw [if_neg (show ¬ (7 : Int) = 4 by decide)] at h1
    rw [if_neg (show ¬ (7 : Int) = 6 by decide)] at h1
    rw [if_pos rfl] at h1
    have h2 := Lib.size_eq t
    simp at h1
    omega
  obtain ⟨rb, hrb⟩ : ∃ rb : ByteArray, rb = ⟨(Et.wrs false a).toArray⟩ := ⟨_, rfl⟩
  have hrs : rb.size ≤ 1000000000 := by rw [hrb, size_mk]; omega
  have HRB := Lib.hid (fun (S : Nat → Prop) (W : World) (h : AAt S W (.slice ao a.length ac) a) => row_any a IH.out (by omega) hl S _ W h)
  rw [← hrb] at HRB
  have hr5 := HRES.out
  rw [wr_mk] at hr5
  rw [if_neg (show ¬ (7 : Int) = 3 by decide)] at hr5
  rw [if_neg (show ¬ (7 : Int) = 4 by decide)] at hr5
  rw [if_neg (show ¬ (7 : Int) = 6 by decide)] at hr5
  rw [if_pos rfl] at hr5
  have HR : Hid (res = ⟨#[40]⟩ ++ rb ++ ⟨#[41]⟩) := by show _ = _; rw [hr5]; exact (bytes_of (by rw [app_data, app_data, hrb]; simp)).symm
  clear hr5 hrb
  go_enter Tryd.func26, Tryd.ntmps26
  go_upto_region 1 with fail
  generalize w.alloc (.cells #[.int .i64 7, .string t, .slice no ns.length nc, .slice ao a.length ac] 28) = W1 at A1 HE1 HM1 HA1 hg1 ⊢
  obtain ⟨gs, hgs⟩ : ∃ gs, gs = w.heap.size := ⟨_, rfl⟩
  rw [← hgs] at HE1 hg1
  simp only [← hgs]
  clear hgs
  obtain ⟨c0, c1, c2, c3⟩ := EB.cell _ _ _ _ _ _ HE1.out
  have HC := Lib.hid (HRB.out S W1 HA1.out)
  go_wp2_with fail
  refine HC.out.mono ?_
  rintro e w5 ⟨rfl, hb5⟩
  have HB5 := Lib.hid (A1.out.trans (hb5.mono A1.out.size))
  clear hb5
  go_wp2_with fail
  go_ret
  exact ⟨by rw [HR.out]; rfl, HB5.out⟩
set_option maxHeartbeats 8000000 in
set_option maxRecDepth 100000 in
theorem rt8 (t : ByteArray) (ns : List ByteArray) (a : List Et) (ih : ∀ e ∈ a, RTC e) (hl : a.length ≤ 100000) (hnl : ns.length ≤ 100) (hns : ∀ s ∈ ns, s.size ≤ 100) (hts : t.size ≤ 100) (hwl : (Et.mk 8 t ns a).wr.length ≤ 1000000000) (hne0 : a ≠ []) : RTC (.mk 8 t ns a) := by
  intro S cs w hat
  rw [EAt_mk] at hat
  obtain ⟨nv, av, rfl, hm, hla⟩ := hat
  have o1 := hm.one
  have o2 := hla.one
  obtain ⟨no, nc, rfl⟩ := hm.form
  obtain ⟨ao, ac, rfl⟩ := hla.form
  obtain ⟨res, hres⟩ : ∃ res : ByteArray, res = ⟨(Et.mk 8 t ns a).wr.toArray⟩ := ⟨_, rfl⟩
  rw [← hres]
  have A1 := Lib.hid ((Below.refl w.heap.size w).alloc (Nat.le_refl _) (.cells #[.int .i64 8, .string t, .slice no ns.length nc, .slice ao a.length ac] 28))
  have HE1 : Hid (EB (w.alloc (.cells #[.int .i64 8, .string t, .slice no ns.length nc, .slice ao a.length ac] 28)) w.heap.size 8 t (.slice no ns.length nc) (.slice ao a.length ac)) := alloc_at _ _
  have HM1 := Lib.hid (hm.keeps (Keeps.of_below A1.out))
  have HA1 := Lib.hid (hla.keeps (Keeps.of_below A1.out))
  have hg1 : w.heap.size < (w.alloc (.cells #[.int .i64 8, .string t, .slice no ns.length nc, .slice ao a.length ac] 28)).heap.size := by simp
  have IH := Lib.hid ih
  have HNS := Lib.hid hns
  have HWL := Lib.hid hwl
  have HRES := Lib.hid hres
  clear hm hla ih hns hwl hres
  have HNE0 := Lib.hid hne0
  have hwf : (Et.wrs false a).length ≤ 1000000000 := by
    have h1 := HWL.out
    rw [wr_mk] at h1
    rw [if_neg (show ¬ (8 : Int) = 3 by decide)] at h1
    rw [if_neg (show ¬ (8 : Int) = 4 by decide)] at h1
    rw [if_neg (show ¬ (8 : Int) = 6 by decide)] at h1
    rw [if_neg (show ¬ (8 : Int) = 7 by decide)] at h1
    rw [if_pos rfl] at h1
    rw [wrs_true a hne0] at h1
    have h2 := Lib.size_eq t
    simp at h1
    omega
  obtain ⟨rb, hrb⟩ : ∃ rb : ByteArray, rb = ⟨(Et.wrs false a).toArray⟩ := ⟨_, rfl⟩
  have hrs : rb.size ≤ 1000000000 := by rw [hrb, size_mk]; omega
  have HRB := Lib.hid (fun (S : Nat → Prop) (W : World) (h : AAt S W (.slice ao a.length ac) a) => row_any a IH.out (by omega) hl S _ W h)
  rw [← hrb] at HRB
  have hr5 := HRES.out
  rw [wr_mk] at hr5
  rw [if_neg (show ¬ (8 : Int) = 3 by decide)] at hr5
  rw [if_neg (show ¬ (8 : Int) = 4 by decide)] at hr5
  rw [if_neg (show ¬ (8 : Int) = 6 by decide)] at hr5
  rw [if_neg (show ¬ (8 : Int) = 7 by decide)] at hr5
  rw [if_pos rfl] at hr5
  have HR : Hid (res = ⟨#[40, 105, 102, 32]⟩ ++ rb ++ ⟨#[41]⟩) := by show _ = _; rw [hr5]; exact (bytes_of (by rw [app_data, app_data, hrb]; rw [wrs_true a hne0]; simp)).symm
  clear hr5 hrb hne0
  go_enter Tryd.func26, Tryd.ntmps26
  go_upto_region 1 with fail
  generalize w.alloc (.cells #[.int .i64 8, .string t, .slice no ns.length nc, .slice ao a.length ac] 28) = W1 at A1 HE1 HM1 HA1 hg1 ⊢
  obtain ⟨gs, hgs⟩ : ∃ gs, gs = w.heap.size := ⟨_, rfl⟩
  rw [← hgs] at HE1 hg1
  simp only [← hgs]
  clear hgs
  obtain ⟨c0, c1, c2, c3⟩ := EB.cell _ _ _ _ _ _ HE1.out
  have HC := Lib.hid (HRB.out S W1 HA1.out)
  go_wp2_with fail
  refine HC.out.mono ?_
  rintro e w5 ⟨rfl, hb5⟩
  have HB5 := Lib.hid (A1.out.trans (hb5.mono A1.out.size))
  clear hb5
  go_wp2_with fail
  go_ret
  exact ⟨by rw [HR.out]; rfl, HB5.out⟩
set_option maxHeartbeats 8000000 in
set_option maxRecDepth 100000 in
theorem rt10 (t : ByteArray) (ns : List ByteArray) (a : List Et) (ih : ∀ e ∈ a, RTC e) (hl : a.length ≤ 100000) (hnl : ns.length ≤ 100) (hns : ∀ s ∈ ns, s.size ≤ 100) (hts : t.size ≤ 100) (hwl : (Et.mk 10 t ns a).wr.length ≤ 1000000000) (hne0 : a ≠ []) : RTC (.mk 10 t ns a) := by
  intro S cs w hat
  rw [EAt_mk] at hat
  obtain ⟨nv, av, rfl, hm, hla⟩ := hat
  have o1 := hm.one
  have o2 := hla.one
  obtain ⟨no, nc, rfl⟩ := hm.form
  obtain ⟨ao, ac, rfl⟩ := hla.form
  obtain ⟨res, hres⟩ : ∃ res : ByteArray, res = ⟨(Et.mk 10 t ns a).wr.toArray⟩ := ⟨_, rfl⟩
  rw [← hres]
  have A1 := Lib.hid ((Below.refl w.heap.size w).alloc (Nat.le_refl _) (.cells #[.int .i64 10, .string t, .slice no ns.length nc, .slice ao a.length ac] 28))
  have HE1 : Hid (EB (w.alloc (.cells #[.int .i64 10, .string t, .slice no ns.length nc, .slice ao a.length ac] 28)) w.heap.size 10 t (.slice no ns.length nc) (.slice ao a.length ac)) := alloc_at _ _
  have HM1 := Lib.hid (hm.keeps (Keeps.of_below A1.out))
  have HA1 := Lib.hid (hla.keeps (Keeps.of_below A1.out))
  have hg1 : w.heap.size < (w.alloc (.cells #[.int .i64 10, .string t, .slice no ns.length nc, .slice ao a.length ac] 28)).heap.size := by simp
  have IH := Lib.hid ih
  have HNS := Lib.hid hns
  have HWL := Lib.hid hwl
  have HRES := Lib.hid hres
  clear hm hla ih hns hwl hres
  have HNE0 := Lib.hid hne0
  have hwf : (Et.wrs false a).length ≤ 1000000000 := by
    have h1 := HWL.out
    rw [wr_mk] at h1
    rw [if_neg (show ¬ (10 : Int) = 3 by decide)] at h1
    rw [if_neg (show ¬ (10 : Int) = 4 by decide)] at h1
    rw [if_neg (show ¬ (10 : Int) = 6 by decide)] at h1
    rw [if_neg (show ¬ (10 : Int) = 7 by decide)] at h1
    rw [if_neg (show ¬ (10 : Int) = 8 by decide)] at h1
    rw [if_neg (show ¬ (10 : Int) = 9 by decide)] at h1
    rw [if_pos rfl] at h1
    rw [wrs_true a hne0] at h1
    have h2 := Lib.size_eq t
    simp at h1
    omega
  obtain ⟨rb, hrb⟩ : ∃ rb : ByteArray, rb = ⟨(Et.wrs false a).toArray⟩ := ⟨_, rfl⟩
  have hrs : rb.size ≤ 1000000000 := by rw [hrb, size_mk]; omega
  have HRB := Lib.hid (fun (S : Nat → Prop) (W : World) (h : AAt S W (.slice ao a.length ac) a) => row_any a IH.out (by omega) hl S _ W h)
  rw [← hrb] at HRB
  have hr5 := HRES.out
  rw [wr_mk] at hr5
  rw [if_neg (show ¬ (10 : Int) = 3 by decide)] at hr5
  rw [if_neg (show ¬ (10 : Int) = 4 by decide)] at hr5
  rw [if_neg (show ¬ (10 : Int) = 6 by decide)] at hr5
  rw [if_neg (show ¬ (10 : Int) = 7 by decide)] at hr5
  rw [if_neg (show ¬ (10 : Int) = 8 by decide)] at hr5
  rw [if_neg (show ¬ (10 : Int) = 9 by decide)] at hr5
  rw [if_pos rfl] at hr5
  have HR : Hid (res = ⟨#[40]⟩ ++ t ++ ⟨#[32]⟩ ++ rb ++ ⟨#[41]⟩) := by show _ = _; rw [hr5]; exact (bytes_of (by rw [app_data, app_data, app_data, app_data, hrb]; rw [wrs_true a hne0]; simp)).symm
  clear hr5 hrb hne0
  go_enter Tryd.func26, Tryd.ntmps26
  go_upto_region 1 with fail
  generalize w.alloc (.cells #[.int .i64 10, .string t, .slice no ns.length nc, .slice ao a.length ac] 28) = W1 at A1 HE1 HM1 HA1 hg1 ⊢
  obtain ⟨gs, hgs⟩ : ∃ gs, gs = w.heap.size := ⟨_, rfl⟩
  rw [← hgs] at HE1 hg1
  simp only [← hgs]
  clear hgs
  obtain ⟨c0, c1, c2, c3⟩ := EB.cell _ _ _ _ _ _ HE1.out
  have HS0 : Hid (Below W1.heap.size W1 W1.drew) := (Below.refl _ _).drew
  have HC := Lib.hid (HRB.out S W1.drew (HA1.out.keeps (Keeps.of_below HS0.out)))
  go_upto_region 20 with fail
  refine wp_region_noPanic ?_
  refine wp_region_held_drew (S := Below W1.heap.size W1) (by kernel_rfl) HS0.out (fun hHeld => ?_)
  generalize W1.drew = X at HS0 HC hHeld ⊢
  refine wpAnyH_take (i := 0) (v := Value.pointer (some ⟨gs, 1, none⟩)) rfl (by kernel_rfl) (by kernel_rfl) (by kernel_rfl) (fun _ _ _ h => h) (Or.inl ⟨rfl, fun w' hw' => ?_⟩) hHeld ?_
  · go_simp
  simp only [List.getElem_toArray, List.getElem_cons_succ, List.getElem_cons_zero, Act.put, List.setIfInBounds_toArray, List.set_cons_zero, List.set_cons_succ]
  refine wpAnyH_take (i := 1) (v := Value.string t) rfl (by kernel_rfl) (by kernel_rfl) (by kernel_rfl) (fun _ _ _ h => h) (Or.inl ⟨rfl, fun w' hw' => ?_⟩) hHeld ?_
  · have q9 := (EB.cell _ _ _ _ _ _ (row_below hw' HE1.out)); obtain ⟨d0, d1, d2, d3⟩ := q9; go_simp
  simp only [List.getElem_toArray, List.getElem_cons_succ, List.getElem_cons_zero, Act.put, List.setIfInBounds_toArray, List.set_cons_zero, List.set_cons_succ]
  refine wpAnyH_take (i := 2) (v := Value.string (⟨#[40]⟩ ++ t)) rfl (by kernel_rfl) (by kernel_rfl) (by kernel_rfl) (fun _ _ _ h => h) (Or.inl ⟨rfl, fun w' hw' => ?_⟩) hHeld ?_
  · go_simp; omega
  simp only [List.getElem_toArray, List.getElem_cons_succ, List.getElem_cons_zero, Act.put, List.setIfInBounds_toArray, List.set_cons_zero, List.set_cons_succ]
  refine wpAnyH_take (i := 3) (v := Value.string (⟨#[40]⟩ ++ t ++ ⟨#[32]⟩)) rfl (by kernel_rfl) (by kernel_rfl) (by kernel_rfl) (fun _ _ _ h => h) (Or.inl ⟨rfl, fun w' hw' => ?_⟩) hHeld ?_
  · go_simp; omega
  simp only [List.getElem_toArray, List.getElem_cons_succ, List.getElem_cons_zero, Act.put, List.setIfInBounds_toArray, List.set_cons_zero, List.set_cons_succ]
  refine wpAnyH_take (i := 4) (v := Value.pointer (some ⟨gs, 3, none⟩)) rfl (by kernel_rfl) (by kernel_rfl) (by kernel_rfl) (fun _ _ _ h => h) (Or.inl ⟨rfl, fun w' hw' => ?_⟩) hHeld ?_
  · go_simp
  simp only [List.getElem_toArray, List.getElem_cons_succ, List.getElem_cons_zero, Act.put, List.setIfInBounds_toArray, List.set_cons_zero, List.set_cons_succ]
  refine wpAnyH_take (i := 5) (v := Value.slice ao a.length ac) rfl (by kernel_rfl) (by kernel_rfl) (by kernel_rfl) (fun _ _ _ h => h) (Or.inl ⟨rfl, fun w' hw' => ?_⟩) hHeld ?_
  · have q9 := (EB.cell _ _ _ _ _ _ (row_below hw' HE1.out)); obtain ⟨d0, d1, d2, d3⟩ := q9; go_simp
  simp only [List.getElem_toArray, List.getElem_cons_succ, List.getElem_cons_zero, Act.put, List.setIfInBounds_toArray, List.set_cons_zero, List.set_cons_succ]
  refine wpAnyH_ready (rs := [6]) (by kernel_rfl) (by simp) ?_
  refine (AllReadyH.cons rfl (fun K hK => ?_) AllReadyH.nil)
  go_simp
  refine HC.out.mono ?_
  rintro e w5 ⟨rfl, hb5⟩
  have HS5 := Lib.hid (HS0.out.trans (hb5.mono HS0.out.size))
  clear hb5
  refine hK.out _ _ HS5.out (fun hHeld => ?_)
  clear hK K
  try simp only [List.getElem_toArray, List.getElem_cons_succ, List.getElem_cons_zero, Act.put, List.setIfInBounds_toArray, List.set_cons_zero, List.set_cons_succ]
  refine wpAnyH_take (i := 7) (v := Value.string (⟨#[40]⟩ ++ t ++ ⟨#[32]⟩ ++ rb)) rfl (by kernel_rfl) (by kernel_rfl) (by kernel_rfl) (fun _ _ _ h => h) (Or.inl ⟨rfl, fun w' hw' => ?_⟩) hHeld ?_
  · go_simp; omega
  simp only [List.getElem_toArray, List.getElem_cons_succ, List.getElem_cons_zero, Act.put, List.setIfInBounds_toArray, List.set_cons_zero, List.set_cons_succ]
  refine wpAnyH_take (i := 8) (v := Value.string (⟨#[40]⟩ ++ t ++ ⟨#[32]⟩ ++ rb ++ ⟨#[41]⟩)) rfl (by kernel_rfl) (by kernel_rfl) (by kernel_rfl) (fun _ _ _ h => h) (Or.inl ⟨rfl, fun w' hw' => ?_⟩) hHeld ?_
  · go_simp; omega
  simp only [List.getElem_toArray, List.getElem_cons_succ, List.getElem_cons_zero, Act.put, List.setIfInBounds_toArray, List.set_cons_zero, List.set_cons_succ]
  refine wpAnyH_take (i := 9) (v := Value.string (⟨#[40]⟩ ++ t ++ ⟨#[32]⟩ ++ rb ++ ⟨#[41]⟩)) rfl (by kernel_rfl) (by kernel_rfl) (by kernel_rfl) (fun _ _ _ h => h) (Or.inl ⟨rfl, fun w' hw' => ?_⟩) hHeld ?_
  · go_simp
  simp only [List.getElem_toArray, List.getElem_cons_succ, List.getElem_cons_zero, Act.put, List.setIfInBounds_toArray, List.set_cons_zero, List.set_cons_succ]
  refine wpAnyH_done (by kernel_rfl) ?_ _
  refine NoPanic.normal ?_
  clear hHeld
  go_wp2_with fail
  go_ret
  exact ⟨by rw [HR.out]; rfl, A1.out.trans (HS5.out.mono A1.out.size)⟩
set_option maxHeartbeats 8000000 in
set_option maxRecDepth 100000 in
theorem rt6 (t : ByteArray) (ns : List ByteArray) (a : List Et) (ih : ∀ e ∈ a, RTC e) (hl : a.length ≤ 100000) (hnl : ns.length ≤ 100) (hns : ∀ s ∈ ns, s.size ≤ 100) (hts : t.size ≤ 100) (hwl : (Et.mk 6 t ns a).wr.length ≤ 1000000000) (hla1 : a.length = 1) : RTC (.mk 6 t ns a) := by
  intro S cs w hat
  rw [EAt_mk] at hat
  obtain ⟨nv, av, rfl, hm, hla⟩ := hat
  have o1 := hm.one
  have o2 := hla.one
  obtain ⟨no, nc, rfl⟩ := hm.form
  obtain ⟨ao, ac, rfl⟩ := hla.form
  obtain ⟨res, hres⟩ : ∃ res : ByteArray, res = ⟨(Et.mk 6 t ns a).wr.toArray⟩ := ⟨_, rfl⟩
  rw [← hres]
  have A1 := Lib.hid ((Below.refl w.heap.size w).alloc (Nat.le_refl _) (.cells #[.int .i64 6, .string t, .slice no ns.length nc, .slice ao a.length ac] 28))
  have HE1 : Hid (EB (w.alloc (.cells #[.int .i64 6, .string t, .slice no ns.length nc, .slice ao a.length ac] 28)) w.heap.size 6 t (.slice no ns.length nc) (.slice ao a.length ac)) := alloc_at _ _
  have HM1 := Lib.hid (hm.keeps (Keeps.of_below A1.out))
  have HA1 := Lib.hid (hla.keeps (Keeps.of_below A1.out))
  have hg1 : w.heap.size < (w.alloc (.cells #[.int .i64 6, .string t, .slice no ns.length nc, .slice ao a.length ac] 28)).heap.size := by simp
  have IH := Lib.hid ih
  have HNS := Lib.hid hns
  have HWL := Lib.hid hwl
  have HRES := Lib.hid hres
  clear hm hla ih hns hwl hres
  have h0 : 0 < a.length := by omega
  obtain ⟨p, hp⟩ : ∃ p, p = a[0] := ⟨_, rfl⟩
  have HP0 := Lib.hid hp
  have hw1 : Et.wrs true a = 32 :: p.wr := by rw [hp]; exact wrs_one a h0 hla1
  have hjl : (jn ns).length ≤ 20000 := by have := jn_le ns HNS.out; omega
  have hpl : p.wr.length ≤ 1000000000 := by
    have h1 := HWL.out
    rw [wr_mk] at h1
    rw [if_neg (show ¬ (6 : Int) = 3 by decide)] at h1
    rw [if_neg (show ¬ (6 : Int) = 4 by decide)] at h1
    rw [if_pos rfl] at h1
    rw [hw1] at h1
    simp at h1
    omega
  obtain ⟨jb, hjb⟩ : ∃ jb : ByteArray, jb = ⟨(jn ns).toArray⟩ := ⟨_, rfl⟩
  obtain ⟨pb, hpb⟩ : ∃ pb : ByteArray, pb = ⟨p.wr.toArray⟩ := ⟨_, rfl⟩
  have hjs : jb.size ≤ 20000 := by rw [hjb, size_mk]; omega
  have hps : pb.size ≤ 1000000000 := by rw [hpb, size_mk]; omega
  have HJB := Lib.hid (fun (S : Nat → Prop) (W : World) (h : NAt S W (.slice no ns.length nc) ns) => names_any ns HNS.out (by omega) S _ W h)
  have HPB := Lib.hid (IH.out p (by rw [hp]; exact List.getElem_mem h0))
  have HPB2 : Hid (∀ (S : Nat → Prop) (cs : Array Value) (w : World), Et.At S w p cs → Calls Tryd.prog 26 #[.agg cs] w (RetStr pb w)) := by show ∀ S, _; rw [hpb]; exact HPB.out
  rw [← hjb] at HJB
  have hr5 := HRES.out
  rw [wr_mk] at hr5
  rw [if_neg (show ¬ (6 : Int) = 3 by decide)] at hr5
  rw [if_neg (show ¬ (6 : Int) = 4 by decide)] at hr5
  rw [if_pos rfl] at hr5
  have HR : Hid (res = ⟨#[40, 108, 97, 109, 98, 100, 97, 32, 40]⟩ ++ jb ++ ⟨#[41, 32]⟩ ++ pb ++ ⟨#[41]⟩) := by show _ = _; rw [hr5]; exact (bytes_of (by rw [app_data, app_data, app_data, app_data, hjb, hpb, hw1]; simp)).symm
  clear hr5 hjb hpb hla1 HPB hp hw1
  go_enter Tryd.func26, Tryd.ntmps26
  go_upto_region 1 with fail
  generalize w.alloc (.cells #[.int .i64 6, .string t, .slice no ns.length nc, .slice ao a.length ac] 28) = W1 at A1 HE1 HM1 HA1 hg1 ⊢
  obtain ⟨gs, hgs⟩ : ∃ gs, gs = w.heap.size := ⟨_, rfl⟩
  rw [← hgs] at HE1 hg1
  simp only [← hgs]
  clear hgs
  obtain ⟨c0, c1, c2, c3⟩ := EB.cell _ _ _ _ _ _ HE1.out
  have HS0 : Hid (Below W1.heap.size W1 W1.drew) := (Below.refl _ _).drew
  have HJ := Lib.hid (HJB.out S W1.drew (HM1.out.keeps (Keeps.of_below HS0.out)))
  obtain ⟨g, o, k5, t5, nv5, av5, rfl, hS5, -, hat5, e0, e1, e2, e3, o5, o6⟩ := HA1.out.get 0 h0
  rw [← HP0.out] at hat5
  have HAT5 := Lib.hid hat5
  have HPC : Hid (∀ w', Below W1.heap.size W1 w' → w'.cell? ⟨g, o, none⟩ = some (.int .i64 k5) ∧ w'.cell? ⟨g, o + 1, none⟩ = some (.string t5) ∧ w'.cell? ⟨g, o + 2, none⟩ = some nv5 ∧ w'.cell? ⟨g, o + 3, none⟩ = some av5) := by
    simp only [Nat.zero_mul, Nat.add_zero] at e0 e1 e2 e3
    exact fun w' hw' => ⟨cell_below hw' e0, cell_below hw' e1, cell_below hw' e2, cell_below hw' e3⟩
  clear hat5 hS5 e0 e1 e2 e3
  go_upto_region 7 with fail
  refine wp_region_noPanic ?_
  refine wp_region_held_drew (S := Below W1.heap.size W1) (by kernel_rfl) HS0.out (fun hHeld => ?_)
  generalize W1.drew = X at HS0 HJ hHeld ⊢
  refine wpAnyH_take (i := 0) (v := Value.pointer (some ⟨gs, 2, none⟩)) rfl (by kernel_rfl) (by kernel_rfl) (by kernel_rfl) (fun _ _ _ h => h) (Or.inl ⟨rfl, fun w' hw' => ?_⟩) hHeld ?_
  · go_simp
  simp only [List.getElem_toArray, List.getElem_cons_succ, List.getElem_cons_zero, Act.put, List.setIfInBounds_toArray, List.set_cons_zero, List.set_cons_succ]
  refine wpAnyH_take (i := 1) (v := Value.slice no ns.length nc) rfl (by kernel_rfl) (by kernel_rfl) (by kernel_rfl) (fun _ _ _ h => h) (Or.inl ⟨rfl, fun w' hw' => ?_⟩) hHeld ?_
  · have q9 := (EB.cell _ _ _ _ _ _ (row_below hw' HE1.out)); obtain ⟨d0, d1, d2, d3⟩ := q9; go_simp
  simp only [List.getElem_toArray, List.getElem_cons_succ, List.getElem_cons_zero, Act.put, List.setIfInBounds_toArray, List.set_cons_zero, List.set_cons_succ]
  refine wpAnyH_take (i := 5) (v := Value.pointer (some ⟨gs, 3, none⟩)) rfl (by kernel_rfl) (by kernel_rfl) (by kernel_rfl) (fun _ _ _ h => h) (Or.inl ⟨rfl, fun w' hw' => ?_⟩) hHeld ?_
  · go_simp
  simp only [List.getElem_toArray, List.getElem_cons_succ, List.getElem_cons_zero, Act.put, List.setIfInBounds_toArray, List.set_cons_zero, List.set_cons_succ]
  refine wpAnyH_take (i := 6) (v := Value.slice (some ⟨g, o, none⟩) a.length ac) rfl (by kernel_rfl) (by kernel_rfl) (by kernel_rfl) (fun _ _ _ h => h) (Or.inl ⟨rfl, fun w' hw' => ?_⟩) hHeld ?_
  · have q9 := (EB.cell _ _ _ _ _ _ (row_below hw' HE1.out)); obtain ⟨d0, d1, d2, d3⟩ := q9; go_simp
  simp only [List.getElem_toArray, List.getElem_cons_succ, List.getElem_cons_zero, Act.put, List.setIfInBounds_toArray, List.set_cons_zero, List.set_cons_succ]
  refine wpAnyH_take (i := 7) (v := Value.pointer (some ⟨g, o, none⟩)) rfl (by kernel_rfl) (by kernel_rfl) (by kernel_rfl) (fun _ _ _ h => h) (Or.inl ⟨rfl, fun w' hw' => ?_⟩) hHeld ?_
  · go_simp
  simp only [List.getElem_toArray, List.getElem_cons_succ, List.getElem_cons_zero, Act.put, List.setIfInBounds_toArray, List.set_cons_zero, List.set_cons_succ]
  refine wpAnyH_take (i := 8) (v := Value.agg #[.int .i64 k5, .string t5, nv5, av5]) rfl (by kernel_rfl) (by kernel_rfl) (by kernel_rfl) (fun _ _ _ h => h) (Or.inl ⟨rfl, fun w' hw' => ?_⟩) hHeld ?_
  · obtain ⟨d0, d1, d2, d3⟩ := HPC.out w' hw'; go_simp
  simp only [List.getElem_toArray, List.getElem_cons_succ, List.getElem_cons_zero, Act.put, List.setIfInBounds_toArray, List.set_cons_zero, List.set_cons_succ]
  refine wpAnyH_ready (rs := [2]) (by kernel_rfl) (by simp) ?_
  refine (AllReadyH.cons rfl (fun K hK => ?_) AllReadyH.nil)
  go_simp
  refine HJ.out.mono ?_
  rintro e w5 ⟨rfl, hb5⟩
  have HS5 := Lib.hid (HS0.out.trans (hb5.mono HS0.out.size))
  have HP5 := Lib.hid (HPB2.out _ _ w5 (Et.At.keeps (Keeps.of_below HS5.out) _ _ HAT5.out))
  clear hb5
  refine hK.out _ _ HS5.out (fun hHeld => ?_)
  clear hK K
  try simp only [List.getElem_toArray, List.getElem_cons_succ, List.getElem_cons_zero, Act.put, List.setIfInBounds_toArray, List.set_cons_zero, List.set_cons_succ]
  refine wpAnyH_take (i := 3) (v := Value.string (⟨#[40, 108, 97, 109, 98, 100, 97, 32, 40]⟩ ++ jb)) rfl (by kernel_rfl) (by kernel_rfl) (by kernel_rfl) (fun _ _ _ h => h) (Or.inl ⟨rfl, fun w' hw' => ?_⟩) hHeld ?_
  · go_simp; omega
  simp only [List.getElem_toArray, List.getElem_cons_succ, List.getElem_cons_zero, Act.put, List.setIfInBounds_toArray, List.set_cons_zero, List.set_cons_succ]
  refine wpAnyH_take (i := 4) (v := Value.string (⟨#[40, 108, 97, 109, 98, 100, 97, 32, 40]⟩ ++ jb ++ ⟨#[41, 32]⟩)) rfl (by kernel_rfl) (by kernel_rfl) (by kernel_rfl) (fun _ _ _ h => h) (Or.inl ⟨rfl, fun w' hw' => ?_⟩) hHeld ?_
  · go_simp; omega
  simp only [List.getElem_toArray, List.getElem_cons_succ, List.getElem_cons_zero, Act.put, List.setIfInBounds_toArray, List.set_cons_zero, List.set_cons_succ]
  refine wpAnyH_ready (rs := [9]) (by kernel_rfl) (by simp) ?_
  refine (AllReadyH.cons rfl (fun K hK => ?_) AllReadyH.nil)
  go_simp
  refine HP5.out.mono ?_
  rintro e w6 ⟨rfl, hb6⟩
  have HS6 := Lib.hid (HS5.out.trans (hb6.mono HS5.out.size))
  clear hb6
  refine hK.out _ _ HS6.out (fun hHeld => ?_)
  clear hK K
  try simp only [List.getElem_toArray, List.getElem_cons_succ, List.getElem_cons_zero, Act.put, List.setIfInBounds_toArray, List.set_cons_zero, List.set_cons_succ]
  refine wpAnyH_take (i := 10) (v := Value.string (⟨#[40, 108, 97, 109, 98, 100, 97, 32, 40]⟩ ++ jb ++ ⟨#[41, 32]⟩ ++ pb)) rfl (by kernel_rfl) (by kernel_rfl) (by kernel_rfl) (fun _ _ _ h => h) (Or.inl ⟨rfl, fun w' hw' => ?_⟩) hHeld ?_
  · go_simp; omega
  simp only [List.getElem_toArray, List.getElem_cons_succ, List.getElem_cons_zero, Act.put, List.setIfInBounds_toArray, List.set_cons_zero, List.set_cons_succ]
  refine wpAnyH_take (i := 11) (v := Value.string (⟨#[40, 108, 97, 109, 98, 100, 97, 32, 40]⟩ ++ jb ++ ⟨#[41, 32]⟩ ++ pb ++ ⟨#[41]⟩)) rfl (by kernel_rfl) (by kernel_rfl) (by kernel_rfl) (fun _ _ _ h => h) (Or.inl ⟨rfl, fun w' hw' => ?_⟩) hHeld ?_
  · go_simp; omega
  simp only [List.getElem_toArray, List.getElem_cons_succ, List.getElem_cons_zero, Act.put, List.setIfInBounds_toArray, List.set_cons_zero, List.set_cons_succ]
  refine wpAnyH_take (i := 12) (v := Value.string (⟨#[40, 108, 97, 109, 98, 100, 97, 32, 40]⟩ ++ jb ++ ⟨#[41, 32]⟩ ++ pb ++ ⟨#[41]⟩)) rfl (by kernel_rfl) (by kernel_rfl) (by kernel_rfl) (fun _ _ _ h => h) (Or.inl ⟨rfl, fun w' hw' => ?_⟩) hHeld ?_
  · go_simp
  simp only [List.getElem_toArray, List.getElem_cons_succ, List.getElem_cons_zero, Act.put, List.setIfInBounds_toArray, List.set_cons_zero, List.set_cons_succ]
  refine wpAnyH_done (by kernel_rfl) ?_ _
  refine NoPanic.normal ?_
  clear hHeld
  go_wp2_with fail
  go_ret
  exact ⟨by rw [HR.out]; rfl, A1.out.trans (HS6.out.mono A1.out.size)⟩
def RLInv (ns : List ByteArray) (a : List Et) (w : World) (sv iv : Value) (wr : World) : Prop :=
  ∃ (j : Nat) (sb : ByteArray), j ≤ ns.length ∧ iv = .int .i64 (j : Int) ∧ sv = .string sb ∧ sb.data.toList = [40, 108, 101, 116, 32, 40] ++ Et.wrb false (ns.take j) (a.take j) ∧ Below w.heap.size w wr
set_option maxHeartbeats 8000000 in
set_option maxRecDepth 100000 in
theorem rt9 (t : ByteArray) (ns : List ByteArray) (a : List Et) (ih : ∀ e ∈ a, RTC e) (hl : a.length ≤ 100000) (hnl : ns.length ≤ 100) (hns : ∀ s ∈ ns, s.size ≤ 100) (hts : t.size ≤ 100) (hwl : (Et.mk 9 t ns a).wr.length ≤ 1000000000) (hll : a.length = ns.length + 1) : RTC (.mk 9 t ns a) := by
  intro S cs w hat
  rw [EAt_mk] at hat
  obtain ⟨nv, av, rfl, hm, hla⟩ := hat
  have o1 := hm.one
  have o2 := hla.one
  obtain ⟨no, nc, rfl⟩ := hm.form
  obtain ⟨ao, ac, rfl⟩ := hla.form
  obtain ⟨res, hres⟩ : ∃ res : ByteArray, res = ⟨(Et.mk 9 t ns a).wr.toArray⟩ := ⟨_, rfl⟩
  rw [← hres]
  have A1 := Lib.hid ((Below.refl w.heap.size w).alloc (Nat.le_refl _) (.cells #[.int .i64 9, .string t, .slice no ns.length nc, .slice ao a.length ac] 28))
  have HE1 : Hid (EB (w.alloc (.cells #[.int .i64 9, .string t, .slice no ns.length nc, .slice ao a.length ac] 28)) w.heap.size 9 t (.slice no ns.length nc) (.slice ao a.length ac)) := alloc_at _ _
  have HM1 := Lib.hid (hm.keeps (Keeps.of_below A1.out))
  have HA1 := Lib.hid (hla.keeps (Keeps.of_below A1.out))
  have hg1 : w.heap.size < (w.alloc (.cells #[.int .i64 9, .string t, .slice no ns.length nc, .slice ao a.length ac] 28)).heap.size := by simp
  have IH := Lib.hid ih
  have HNS := Lib.hid hns
  have HWL := Lib.hid hwl
  have HRES := Lib.hid hres
  clear hm hla ih hns hwl hres
  have HLL := Lib.hid hll
  have hbl : (Et.wrb false ns a).length + (Et.wrl ns a).length + 8 ≤ 1000000000 := by
    have h1 := HWL.out
    rw [wr_mk] at h1
    rw [if_neg (show ¬ (9 : Int) = 3 by decide)] at h1
    rw [if_neg (show ¬ (9 : Int) = 4 by decide)] at h1
    rw [if_neg (show ¬ (9 : Int) = 6 by decide)] at h1
    rw [if_neg (show ¬ (9 : Int) = 7 by decide)] at h1
    rw [if_neg (show ¬ (9 : Int) = 8 by decide)] at h1
    rw [if_pos rfl] at h1
    simp at h1
    omega
  have hnl1 : ns.length < a.length := by omega
  obtain ⟨p, hp⟩ : ∃ p, p = a[ns.length] := ⟨_, rfl⟩
  have HPL : Hid (∀ j (hj : j < a.length), j = ns.length → a[j] = p) := by show ∀ j (hj : j < a.length), _ → _; rintro j hj rfl; exact hp.symm
  have hwl9 := wrl_last ns a hnl1 hll
  rw [← hp] at hwl9
  have hpl : (Et.wrb false ns a).length + p.wr.length + 9 ≤ 1000000000 := by rw [hwl9] at hbl; simp at hbl; omega
  obtain ⟨pb, hpb⟩ : ∃ pb : ByteArray, pb = ⟨p.wr.toArray⟩ := ⟨_, rfl⟩
  have hps : pb.size = p.wr.length := by rw [hpb, size_mk]
  have hpb1 : (Et.wrb false ns a).length + pb.size + 9 ≤ 1000000000 := by omega
  have HPB := Lib.hid (IH.out p (by rw [hp]; exact List.getElem_mem hnl1))
  have HPB2 : Hid (∀ (S : Nat → Prop) (cs : Array Value) (w : World), Et.At S w p cs → Calls Tryd.prog 26 #[.agg cs] w (RetStr pb w)) := by show ∀ S, _; rw [hpb]; exact HPB.out
  have hr5 := HRES.out
  rw [wr_mk] at hr5
  rw [if_neg (show ¬ (9 : Int) = 3 by decide)] at hr5
  rw [if_neg (show ¬ (9 : Int) = 4 by decide)] at hr5
  rw [if_neg (show ¬ (9 : Int) = 6 by decide)] at hr5
  rw [if_neg (show ¬ (9 : Int) = 7 by decide)] at hr5
  rw [if_neg (show ¬ (9 : Int) = 8 by decide)] at hr5
  rw [if_pos rfl] at hr5
  have HR : Hid (∀ sb : ByteArray, sb.data.toList = [40, 108, 101, 116, 32, 40] ++ Et.wrb false ns a → sb ++ ⟨#[41, 32]⟩ ++ pb ++ ⟨#[41]⟩ = res) := by
    show ∀ sb : ByteArray, _ → _
    intro sb hsb
    rw [hr5]
    refine bytes_of ?_
    rw [app_data, app_data, app_data, hsb, hpb, hwl9]; simp
  obtain ⟨m, hm⟩ : ∃ m, m = ns.length := ⟨_, rfl⟩
  have hnm : a.length = m + 1 := by omega
  have hlt9 : m < a.length := by omega
  have HM := Lib.hid hm
  have HAL := Lib.hid hnm
  clear hr5 hpb HPB hp hwl9 hbl hps hpl hll hnl1 hnm
  rw [← hm] at A1 HE1 hg1 ⊢
  have hm9 : Hid (NAt S (w.alloc (.cells #[.int .i64 9, .string t, .slice no m nc, .slice ao a.length ac] 28)) (.slice no m nc) ns) := by show NAt _ _ _ _; rw [hm]; exact HM1.out
  have ha9 : Hid (AAt S (w.alloc (.cells #[.int .i64 9, .string t, .slice no m nc, .slice ao a.length ac] 28)) (.slice ao a.length ac) a) := by show AAt _ _ _ _; rw [hm]; exact HA1.out
  clear HM1 HA1 hm
  have HM1 := hm9
  have HA1 := ha9
  clear hm9 ha9
  go_enter Tryd.func26, Tryd.ntmps26
  go_upto_region 1 with fail
  generalize w.alloc (.cells #[.int .i64 9, .string t, .slice no m nc, .slice ao a.length ac] 28) = W1 at A1 HE1 HM1 HA1 hg1 ⊢
  obtain ⟨gs, hgs⟩ : ∃ gs, gs = w.heap.size := ⟨_, rfl⟩
  rw [← hgs] at HE1 hg1
  simp only [← hgs]
  clear hgs
  obtain ⟨c0, c1, c2, c3⟩ := EB.cell _ _ _ _ _ _ HE1.out
  go_wp2_with fail
  go_loopw [3, 4] (fun sv iv wr => RLInv ns a W1 sv iv wr) (fun _ iv _ => ns.length - (intOf iv).toNat)
  case atStart => exact ⟨0, _, Nat.zero_le _, rfl, rfl, by simp [Et.wrb], Below.refl _ _⟩
  case round =>
    obtain ⟨j, sb, hj, rfl, rfl, hsb, hb⟩ := hrel
    have G2 := Lib.hid hb
    have GN := Lib.hid (HM1.out.keeps (Keeps.of_below hb))
    have GA := Lib.hid (HA1.out.keeps (Keeps.of_below hb))
    have HER : Hid (EB wr gs 9 t (.slice no m nc) (.slice ao a.length ac)) := row_below hb HE1.out
    have HSB := Lib.hid hsb
    have hsl : sb.size = 6 + (Et.wrb false (ns.take j) (a.take j)).length := by rw [Lib.size_eq, hsb]; simp; omega
    obtain ⟨c0r, c1r, c2r, c3r⟩ := EB.cell _ _ _ _ _ _ HER.out
    clear hb hsb c0 c1 c2 c3 c0r c1r
    by_cases hlt : j < m
    · have q1 : decide ((j : Int) < (m : Int)) = true := decide_eq_true (by omega)
      have hjn : j < ns.length := by have := HM.out; omega
      have hja : j < a.length := by omega
      obtain ⟨gn, on, rfl, -, hx0⟩ := GN.out.get j hjn
      obtain ⟨g, o, k5, t5, nv5, av5, rfl, hS5, -, hat5, e0, e1, e2, e3, o5, o6⟩ := GA.out.get j hja
      have HTK := Lib.hid (wrb_take ns a false j hja hjn)
      have hle := wrb_take_le ns a false (j + 1)
      rw [HTK.out] at hle
      obtain ⟨x, hx⟩ : ∃ x, ns[j] = x := ⟨_, rfl⟩
      have hxl := Lib.size_eq x
      rw [hx] at HTK hle hx0
      obtain ⟨xb, hxb⟩ : ∃ xb : ByteArray, xb = ⟨a[j].wr.toArray⟩ := ⟨_, rfl⟩
      have hxbl : xb.size = a[j].wr.length := by rw [hxb, size_mk]
      have HXB : Hid (xb.data.toList = a[j].wr) := by show _ = _; rw [hxb]
      have HXC : Hid (∀ (S : Nat → Prop) (cs : Array Value) (w : World), Et.At S w a[j] cs → Calls Tryd.prog 26 #[.agg cs] w (RetStr xb w)) := by show ∀ S, _; rw [hxb]; exact IH.out _ (List.getElem_mem hja)
      have HAT5 := Lib.hid hat5
      have HXN : Hid (∀ w', Below wr.heap.size wr w' → w'.cell? ⟨gn, on + j, none⟩ = some (.string x)) := fun w' hw' => cell_below hw' hx0
      have HPC : Hid (∀ w', Below wr.heap.size wr w' → w'.cell? ⟨g, o + j * 4, none⟩ = some (.int .i64 k5) ∧ w'.cell? ⟨g, o + j * 4 + 1, none⟩ = some (.string t5) ∧ w'.cell? ⟨g, o + j * 4 + 2, none⟩ = some nv5 ∧ w'.cell? ⟨g, o + j * 4 + 3, none⟩ = some av5) := fun w' hw' => ⟨cell_below hw' e0, cell_below hw' e1, cell_below hw' e2, cell_below hw' e3⟩
      clear hx hx0 hat5 hS5 e0 e1 e2 e3 hxb
      by_cases hj0 : 0 < j
      · skip
        have q2 : decide ((0 : Int) < (j : Int)) = true := decide_eq_true (by omega)
        obtain ⟨sc, hsc⟩ : ∃ sc, sc = (sb ++ ⟨#[32]⟩) := ⟨_, rfl⟩
        have hscl : sc.size + x.size + xb.size + 4 ≤ 1000000000 := by
          rw [hsc, ByteArray.size_append]
          have e32 : (⟨#[32]⟩ : ByteArray).size = 1 := rfl
          simp [hj0] at hle
          omega
        have HNX : Hid (∀ w', Below wr.heap.size wr w' → RLInv ns a W1 (.string (sc ++ ⟨#[40]⟩ ++ x ++ ⟨#[32]⟩ ++ xb ++ ⟨#[41]⟩)) (.int .i64 ((j : Int) + 1)) w') := fun w' hw' => ⟨j + 1, _, by have := HM.out; omega, by go_num, rfl, by rw [HTK.out, app_data, app_data, app_data, app_data, app_data, HXB.out, hsc]; simp [HSB.out, hj0], G2.out.trans (hw'.mono G2.out.size)⟩
        have hsb1 : sb.size + 1 ≤ 1000000000 := by rw [hsc, ByteArray.size_append] at hscl; have e32 : (⟨#[32]⟩ : ByteArray).size = 1 := rfl; omega
        have HSC := Lib.hid hsc
        clear hle hsc hxl hxbl hsl
        go_upto_region 17 with fail
        rw [← HSC.out]
        have HS0 : Hid (Below wr.heap.size wr wr.drew) := (Below.refl _ _).drew
        have HC := Lib.hid (HXC.out _ _ wr.drew (Et.At.keeps (Keeps.of_below HS0.out) _ _ HAT5.out))
        have HEC : Hid (∀ w', Below wr.heap.size wr w' → w'.cell? ⟨gs, 2, none⟩ = some (.slice (some ⟨gn, on, none⟩) m nc) ∧ w'.cell? ⟨gs, 3, none⟩ = some (.slice (some ⟨g, o, none⟩) a.length ac)) := fun w' hw' => ⟨(EB.cell _ _ _ _ _ _ (row_below hw' HER.out)).2.2.1, (EB.cell _ _ _ _ _ _ (row_below hw' HER.out)).2.2.2⟩
        refine wp_region_noPanic ?_
        refine wp_region_held_drew (S := Below wr.heap.size wr) (by kernel_rfl) HS0.out (fun hHeld => ?_)
        generalize wr.drew = X at HS0 HC hHeld ⊢
        refine wpAnyH_take (i := 0) (v := Value.string sc) rfl (by kernel_rfl) (by kernel_rfl) (by kernel_rfl) (fun _ _ _ h => h) (Or.inl ⟨rfl, fun w' hw' => ?_⟩) hHeld ?_
        · go_simp
        simp only [List.getElem_toArray, List.getElem_cons_succ, List.getElem_cons_zero, Act.put, List.setIfInBounds_toArray, List.set_cons_zero, List.set_cons_succ]
        refine wpAnyH_take (i := 1) (v := Value.string (sc ++ ⟨#[40]⟩)) rfl (by kernel_rfl) (by kernel_rfl) (by kernel_rfl) (fun _ _ _ h => h) (Or.inl ⟨rfl, fun w' hw' => ?_⟩) hHeld ?_
        · go_simp; omega
        simp only [List.getElem_toArray, List.getElem_cons_succ, List.getElem_cons_zero, Act.put, List.setIfInBounds_toArray, List.set_cons_zero, List.set_cons_succ]
        refine wpAnyH_take (i := 2) (v := Value.pointer (some ⟨gs, 2, none⟩)) rfl (by kernel_rfl) (by kernel_rfl) (by kernel_rfl) (fun _ _ _ h => h) (Or.inl ⟨rfl, fun w' hw' => ?_⟩) hHeld ?_
        · go_simp
        simp only [List.getElem_toArray, List.getElem_cons_succ, List.getElem_cons_zero, Act.put, List.setIfInBounds_toArray, List.set_cons_zero, List.set_cons_succ]
        refine wpAnyH_take (i := 3) (v := Value.slice (some ⟨gn, on, none⟩) m nc) rfl (by kernel_rfl) (by kernel_rfl) (by kernel_rfl) (fun _ _ _ h => h) (Or.inl ⟨rfl, fun w' hw' => ?_⟩) hHeld ?_
        · have q9 := (HEC.out w' hw').1; go_simp
        simp only [List.getElem_toArray, List.getElem_cons_succ, List.getElem_cons_zero, Act.put, List.setIfInBounds_toArray, List.set_cons_zero, List.set_cons_succ]
        refine wpAnyH_take (i := 4) (v := Value.int .i64 (j : Int)) rfl (by kernel_rfl) (by kernel_rfl) (by kernel_rfl) (fun _ _ _ h => h) (Or.inl ⟨rfl, fun w' hw' => ?_⟩) hHeld ?_
        · go_simp
        simp only [List.getElem_toArray, List.getElem_cons_succ, List.getElem_cons_zero, Act.put, List.setIfInBounds_toArray, List.set_cons_zero, List.set_cons_succ]
        refine wpAnyH_take (i := 5) (v := Value.pointer (some ⟨gn, on + j, none⟩)) rfl (by kernel_rfl) (by kernel_rfl) (by kernel_rfl) (fun _ _ _ h => h) (Or.inl ⟨rfl, fun w' hw' => ?_⟩) hHeld ?_
        · go_simp
        simp only [List.getElem_toArray, List.getElem_cons_succ, List.getElem_cons_zero, Act.put, List.setIfInBounds_toArray, List.set_cons_zero, List.set_cons_succ]
        refine wpAnyH_take (i := 6) (v := Value.string x) rfl (by kernel_rfl) (by kernel_rfl) (by kernel_rfl) (fun _ _ _ h => h) (Or.inl ⟨rfl, fun w' hw' => ?_⟩) hHeld ?_
        · have q9 := HXN.out w' hw'; go_simp
        simp only [List.getElem_toArray, List.getElem_cons_succ, List.getElem_cons_zero, Act.put, List.setIfInBounds_toArray, List.set_cons_zero, List.set_cons_succ]
        refine wpAnyH_take (i := 7) (v := Value.string (sc ++ ⟨#[40]⟩ ++ x)) rfl (by kernel_rfl) (by kernel_rfl) (by kernel_rfl) (fun _ _ _ h => h) (Or.inl ⟨rfl, fun w' hw' => ?_⟩) hHeld ?_
        · go_simp; omega
        simp only [List.getElem_toArray, List.getElem_cons_succ, List.getElem_cons_zero, Act.put, List.setIfInBounds_toArray, List.set_cons_zero, List.set_cons_succ]
        refine wpAnyH_take (i := 8) (v := Value.string (sc ++ ⟨#[40]⟩ ++ x ++ ⟨#[32]⟩)) rfl (by kernel_rfl) (by kernel_rfl) (by kernel_rfl) (fun _ _ _ h => h) (Or.inl ⟨rfl, fun w' hw' => ?_⟩) hHeld ?_
        · go_simp; omega
        simp only [List.getElem_toArray, List.getElem_cons_succ, List.getElem_cons_zero, Act.put, List.setIfInBounds_toArray, List.set_cons_zero, List.set_cons_succ]
        refine wpAnyH_take (i := 9) (v := Value.pointer (some ⟨gs, 3, none⟩)) rfl (by kernel_rfl) (by kernel_rfl) (by kernel_rfl) (fun _ _ _ h => h) (Or.inl ⟨rfl, fun w' hw' => ?_⟩) hHeld ?_
        · go_simp
        simp only [List.getElem_toArray, List.getElem_cons_succ, List.getElem_cons_zero, Act.put, List.setIfInBounds_toArray, List.set_cons_zero, List.set_cons_succ]
        refine wpAnyH_take (i := 10) (v := Value.slice (some ⟨g, o, none⟩) a.length ac) rfl (by kernel_rfl) (by kernel_rfl) (by kernel_rfl) (fun _ _ _ h => h) (Or.inl ⟨rfl, fun w' hw' => ?_⟩) hHeld ?_
        · have q9 := (HEC.out w' hw').2; go_simp
        simp only [List.getElem_toArray, List.getElem_cons_succ, List.getElem_cons_zero, Act.put, List.setIfInBounds_toArray, List.set_cons_zero, List.set_cons_succ]
        refine wpAnyH_take (i := 11) (v := Value.int .i64 (j : Int)) rfl (by kernel_rfl) (by kernel_rfl) (by kernel_rfl) (fun _ _ _ h => h) (Or.inl ⟨rfl, fun w' hw' => ?_⟩) hHeld ?_
        · go_simp
        simp only [List.getElem_toArray, List.getElem_cons_succ, List.getElem_cons_zero, Act.put, List.setIfInBounds_toArray, List.set_cons_zero, List.set_cons_succ]
        refine wpAnyH_take (i := 12) (v := Value.pointer (some ⟨g, o + j * 4, none⟩)) rfl (by kernel_rfl) (by kernel_rfl) (by kernel_rfl) (fun _ _ _ h => h) (Or.inl ⟨rfl, fun w' hw' => ?_⟩) hHeld ?_
        · go_simp
        simp only [List.getElem_toArray, List.getElem_cons_succ, List.getElem_cons_zero, Act.put, List.setIfInBounds_toArray, List.set_cons_zero, List.set_cons_succ]
        refine wpAnyH_take (i := 13) (v := Value.agg #[.int .i64 k5, .string t5, nv5, av5]) rfl (by kernel_rfl) (by kernel_rfl) (by kernel_rfl) (fun _ _ _ h => h) (Or.inl ⟨rfl, fun w' hw' => ?_⟩) hHeld ?_
        · obtain ⟨d0, d1, d2, d3⟩ := HPC.out w' hw'; go_simp
        simp only [List.getElem_toArray, List.getElem_cons_succ, List.getElem_cons_zero, Act.put, List.setIfInBounds_toArray, List.set_cons_zero, List.set_cons_succ]
        refine wpAnyH_ready (rs := [14]) (by kernel_rfl) (by simp) ?_
        refine (AllReadyH.cons rfl (fun K hK => ?_) AllReadyH.nil)
        go_simp
        refine HC.out.mono ?_
        rintro e w5 ⟨rfl, hb5⟩
        have HS5 := Lib.hid (HS0.out.trans (hb5.mono HS0.out.size))
        have HN5 := Lib.hid (HNX.out w5 HS5.out)
        clear hb5
        refine hK.out _ _ HS5.out (fun hHeld => ?_)
        clear hK K
        try simp only [List.getElem_toArray, List.getElem_cons_succ, List.getElem_cons_zero, Act.put, List.setIfInBounds_toArray, List.set_cons_zero, List.set_cons_succ]
        refine wpAnyH_take (i := 15) (v := Value.string (sc ++ ⟨#[40]⟩ ++ x ++ ⟨#[32]⟩ ++ xb)) rfl (by kernel_rfl) (by kernel_rfl) (by kernel_rfl) (fun _ _ _ h => h) (Or.inl ⟨rfl, fun w' hw' => ?_⟩) hHeld ?_
        · go_simp; omega
        simp only [List.getElem_toArray, List.getElem_cons_succ, List.getElem_cons_zero, Act.put, List.setIfInBounds_toArray, List.set_cons_zero, List.set_cons_succ]
        refine wpAnyH_take (i := 16) (v := Value.string (sc ++ ⟨#[40]⟩ ++ x ++ ⟨#[32]⟩ ++ xb ++ ⟨#[41]⟩)) rfl (by kernel_rfl) (by kernel_rfl) (by kernel_rfl) (fun _ _ _ h => h) (Or.inl ⟨rfl, fun w' hw' => ?_⟩) hHeld ?_
        · go_simp; omega
        simp only [List.getElem_toArray, List.getElem_cons_succ, List.getElem_cons_zero, Act.put, List.setIfInBounds_toArray, List.set_cons_zero, List.set_cons_succ]
        refine wpAnyH_take (i := 17) (v := Value.string (sc ++ ⟨#[40]⟩ ++ x ++ ⟨#[32]⟩ ++ xb ++ ⟨#[41]⟩)) rfl (by kernel_rfl) (by kernel_rfl) (by kernel_rfl) (fun _ _ _ h => h) (Or.inl ⟨rfl, fun w' hw' => ?_⟩) hHeld ?_
        · go_simp
        simp only [List.getElem_toArray, List.getElem_cons_succ, List.getElem_cons_zero, Act.put, List.setIfInBounds_toArray, List.set_cons_zero, List.set_cons_succ]
        refine wpAnyH_done (by kernel_rfl) ?_ _
        refine NoPanic.normal ?_
        clear hHeld
        go_wp2_with fail
        go_roundw
        case rel => exact HN5.out
        case measure => have := HM.out; simp [intOf]; omega
      · skip
        have q2 : decide ((0 : Int) < (j : Int)) = false := decide_eq_false (by omega)
        obtain ⟨sc, hsc⟩ : ∃ sc, sc = sb := ⟨_, rfl⟩
        have hscl : sc.size + x.size + xb.size + 4 ≤ 1000000000 := by
          rw [hsc]
          skip
          simp [hj0] at hle
          omega
        have HNX : Hid (∀ w', Below wr.heap.size wr w' → RLInv ns a W1 (.string (sc ++ ⟨#[40]⟩ ++ x ++ ⟨#[32]⟩ ++ xb ++ ⟨#[41]⟩)) (.int .i64 ((j : Int) + 1)) w') := fun w' hw' => ⟨j + 1, _, by have := HM.out; omega, by go_num, rfl, by rw [HTK.out, app_data, app_data, app_data, app_data, app_data, HXB.out, hsc]; simp [HSB.out, hj0], G2.out.trans (hw'.mono G2.out.size)⟩
        have HSC := Lib.hid hsc
        clear hle hsc hxl hxbl hsl
        go_upto_region 17 with fail
        obtain rfl : sc = sb := HSC.out
        have HS0 : Hid (Below wr.heap.size wr wr.drew) := (Below.refl _ _).drew
        have HC := Lib.hid (HXC.out _ _ wr.drew (Et.At.keeps (Keeps.of_below HS0.out) _ _ HAT5.out))
        have HEC : Hid (∀ w', Below wr.heap.size wr w' → w'.cell? ⟨gs, 2, none⟩ = some (.slice (some ⟨gn, on, none⟩) m nc) ∧ w'.cell? ⟨gs, 3, none⟩ = some (.slice (some ⟨g, o, none⟩) a.length ac)) := fun w' hw' => ⟨(EB.cell _ _ _ _ _ _ (row_below hw' HER.out)).2.2.1, (EB.cell _ _ _ _ _ _ (row_below hw' HER.out)).2.2.2⟩
        refine wp_region_noPanic ?_
        refine wp_region_held_drew (S := Below wr.heap.size wr) (by kernel_rfl) HS0.out (fun hHeld => ?_)
        generalize wr.drew = X at HS0 HC hHeld ⊢
        refine wpAnyH_take (i := 0) (v := Value.string sc) rfl (by kernel_rfl) (by kernel_rfl) (by kernel_rfl) (fun _ _ _ h => h) (Or.inl ⟨rfl, fun w' hw' => ?_⟩) hHeld ?_
        · go_simp
        simp only [List.getElem_toArray, List.getElem_cons_succ, List.getElem_cons_zero, Act.put, List.setIfInBounds_toArray, List.set_cons_zero, List.set_cons_succ]
        refine wpAnyH_take (i := 1) (v := Value.string (sc ++ ⟨#[40]⟩)) rfl (by kernel_rfl) (by kernel_rfl) (by kernel_rfl) (fun _ _ _ h => h) (Or.inl ⟨rfl, fun w' hw' => ?_⟩) hHeld ?_
        · go_simp; omega
        simp only [List.getElem_toArray, List.getElem_cons_succ, List.getElem_cons_zero, Act.put, List.setIfInBounds_toArray, List.set_cons_zero, List.set_cons_succ]
        refine wpAnyH_take (i := 2) (v := Value.pointer (some ⟨gs, 2, none⟩)) rfl (by kernel_rfl) (by kernel_rfl) (by kernel_rfl) (fun _ _ _ h => h) (Or.inl ⟨rfl, fun w' hw' => ?_⟩) hHeld ?_
        · go_simp
        simp only [List.getElem_toArray, List.getElem_cons_succ, List.getElem_cons_zero, Act.put, List.setIfInBounds_toArray, List.set_cons_zero, List.set_cons_succ]
        refine wpAnyH_take (i := 3) (v := Value.slice (some ⟨gn, on, none⟩) m nc) rfl (by kernel_rfl) (by kernel_rfl) (by kernel_rfl) (fun _ _ _ h => h) (Or.inl ⟨rfl, fun w' hw' => ?_⟩) hHeld ?_
        · have q9 := (HEC.out w' hw').1; go_simp
        simp only [List.getElem_toArray, List.getElem_cons_succ, List.getElem_cons_zero, Act.put, List.setIfInBounds_toArray, List.set_cons_zero, List.set_cons_succ]
        refine wpAnyH_take (i := 4) (v := Value.int .i64 (j : Int)) rfl (by kernel_rfl) (by kernel_rfl) (by kernel_rfl) (fun _ _ _ h => h) (Or.inl ⟨rfl, fun w' hw' => ?_⟩) hHeld ?_
        · go_simp
        simp only [List.getElem_toArray, List.getElem_cons_succ, List.getElem_cons_zero, Act.put, List.setIfInBounds_toArray, List.set_cons_zero, List.set_cons_succ]
        refine wpAnyH_take (i := 5) (v := Value.pointer (some ⟨gn, on + j, none⟩)) rfl (by kernel_rfl) (by kernel_rfl) (by kernel_rfl) (fun _ _ _ h => h) (Or.inl ⟨rfl, fun w' hw' => ?_⟩) hHeld ?_
        · go_simp
        simp only [List.getElem_toArray, List.getElem_cons_succ, List.getElem_cons_zero, Act.put, List.setIfInBounds_toArray, List.set_cons_zero, List.set_cons_succ]
        refine wpAnyH_take (i := 6) (v := Value.string x) rfl (by kernel_rfl) (by kernel_rfl) (by kernel_rfl) (fun _ _ _ h => h) (Or.inl ⟨rfl, fun w' hw' => ?_⟩) hHeld ?_
        · have q9 := HXN.out w' hw'; go_simp
        simp only [List.getElem_toArray, List.getElem_cons_succ, List.getElem_cons_zero, Act.put, List.setIfInBounds_toArray, List.set_cons_zero, List.set_cons_succ]
        refine wpAnyH_take (i := 7) (v := Value.string (sc ++ ⟨#[40]⟩ ++ x)) rfl (by kernel_rfl) (by kernel_rfl) (by kernel_rfl) (fun _ _ _ h => h) (Or.inl ⟨rfl, fun w' hw' => ?_⟩) hHeld ?_
        · go_simp; omega
        simp only [List.getElem_toArray, List.getElem_cons_succ, List.getElem_cons_zero, Act.put, List.setIfInBounds_toArray, List.set_cons_zero, List.set_cons_succ]
        refine wpAnyH_take (i := 8) (v := Value.string (sc ++ ⟨#[40]⟩ ++ x ++ ⟨#[32]⟩)) rfl (by kernel_rfl) (by kernel_rfl) (by kernel_rfl) (fun _ _ _ h => h) (Or.inl ⟨rfl, fun w' hw' => ?_⟩) hHeld ?_
        · go_simp; omega
        simp only [List.getElem_toArray, List.getElem_cons_succ, List.getElem_cons_zero, Act.put, List.setIfInBounds_toArray, List.set_cons_zero, List.set_cons_succ]
        refine wpAnyH_take (i := 9) (v := Value.pointer (some ⟨gs, 3, none⟩)) rfl (by kernel_rfl) (by kernel_rfl) (by kernel_rfl) (fun _ _ _ h => h) (Or.inl ⟨rfl, fun w' hw' => ?_⟩) hHeld ?_
        · go_simp
        simp only [List.getElem_toArray, List.getElem_cons_succ, List.getElem_cons_zero, Act.put, List.setIfInBounds_toArray, List.set_cons_zero, List.set_cons_succ]
        refine wpAnyH_take (i := 10) (v := Value.slice (some ⟨g, o, none⟩) a.length ac) rfl (by kernel_rfl) (by kernel_rfl) (by kernel_rfl) (fun _ _ _ h => h) (Or.inl ⟨rfl, fun w' hw' => ?_⟩) hHeld ?_
        · have q9 := (HEC.out w' hw').2; go_simp
        simp only [List.getElem_toArray, List.getElem_cons_succ, List.getElem_cons_zero, Act.put, List.setIfInBounds_toArray, List.set_cons_zero, List.set_cons_succ]
        refine wpAnyH_take (i := 11) (v := Value.int .i64 (j : Int)) rfl (by kernel_rfl) (by kernel_rfl) (by kernel_rfl) (fun _ _ _ h => h) (Or.inl ⟨rfl, fun w' hw' => ?_⟩) hHeld ?_
        · go_simp
        simp only [List.getElem_toArray, List.getElem_cons_succ, List.getElem_cons_zero, Act.put, List.setIfInBounds_toArray, List.set_cons_zero, List.set_cons_succ]
        refine wpAnyH_take (i := 12) (v := Value.pointer (some ⟨g, o + j * 4, none⟩)) rfl (by kernel_rfl) (by kernel_rfl) (by kernel_rfl) (fun _ _ _ h => h) (Or.inl ⟨rfl, fun w' hw' => ?_⟩) hHeld ?_
        · go_simp
        simp only [List.getElem_toArray, List.getElem_cons_succ, List.getElem_cons_zero, Act.put, List.setIfInBounds_toArray, List.set_cons_zero, List.set_cons_succ]
        refine wpAnyH_take (i := 13) (v := Value.agg #[.int .i64 k5, .string t5, nv5, av5]) rfl (by kernel_rfl) (by kernel_rfl) (by kernel_rfl) (fun _ _ _ h => h) (Or.inl ⟨rfl, fun w' hw' => ?_⟩) hHeld ?_
        · obtain ⟨d0, d1, d2, d3⟩ := HPC.out w' hw'; go_simp
        simp only [List.getElem_toArray, List.getElem_cons_succ, List.getElem_cons_zero, Act.put, List.setIfInBounds_toArray, List.set_cons_zero, List.set_cons_succ]
        refine wpAnyH_ready (rs := [14]) (by kernel_rfl) (by simp) ?_
        refine (AllReadyH.cons rfl (fun K hK => ?_) AllReadyH.nil)
        go_simp
        refine HC.out.mono ?_
        rintro e w5 ⟨rfl, hb5⟩
        have HS5 := Lib.hid (HS0.out.trans (hb5.mono HS0.out.size))
        have HN5 := Lib.hid (HNX.out w5 HS5.out)
        clear hb5
        refine hK.out _ _ HS5.out (fun hHeld => ?_)
        clear hK K
        try simp only [List.getElem_toArray, List.getElem_cons_succ, List.getElem_cons_zero, Act.put, List.setIfInBounds_toArray, List.set_cons_zero, List.set_cons_succ]
        refine wpAnyH_take (i := 15) (v := Value.string (sc ++ ⟨#[40]⟩ ++ x ++ ⟨#[32]⟩ ++ xb)) rfl (by kernel_rfl) (by kernel_rfl) (by kernel_rfl) (fun _ _ _ h => h) (Or.inl ⟨rfl, fun w' hw' => ?_⟩) hHeld ?_
        · go_simp; omega
        simp only [List.getElem_toArray, List.getElem_cons_succ, List.getElem_cons_zero, Act.put, List.setIfInBounds_toArray, List.set_cons_zero, List.set_cons_succ]
        refine wpAnyH_take (i := 16) (v := Value.string (sc ++ ⟨#[40]⟩ ++ x ++ ⟨#[32]⟩ ++ xb ++ ⟨#[41]⟩)) rfl (by kernel_rfl) (by kernel_rfl) (by kernel_rfl) (fun _ _ _ h => h) (Or.inl ⟨rfl, fun w' hw' => ?_⟩) hHeld ?_
        · go_simp; omega
        simp only [List.getElem_toArray, List.getElem_cons_succ, List.getElem_cons_zero, Act.put, List.setIfInBounds_toArray, List.set_cons_zero, List.set_cons_succ]
        refine wpAnyH_take (i := 17) (v := Value.string (sc ++ ⟨#[40]⟩ ++ x ++ ⟨#[32]⟩ ++ xb ++ ⟨#[41]⟩)) rfl (by kernel_rfl) (by kernel_rfl) (by kernel_rfl) (fun _ _ _ h => h) (Or.inl ⟨rfl, fun w' hw' => ?_⟩) hHeld ?_
        · go_simp
        simp only [List.getElem_toArray, List.getElem_cons_succ, List.getElem_cons_zero, Act.put, List.setIfInBounds_toArray, List.set_cons_zero, List.set_cons_succ]
        refine wpAnyH_done (by kernel_rfl) ?_ _
        refine NoPanic.normal ?_
        clear hHeld
        go_wp2_with fail
        go_roundw
        case rel => exact HN5.out
        case measure => have := HM.out; simp [intOf]; omega
    · have q1 : decide ((j : Int) < (m : Int)) = false := decide_eq_false (by omega)
      obtain rfl : j = m := by have := HM.out; omega
      have hsb9 : sb.data.toList = [40, 108, 101, 116, 32, 40] ++ Et.wrb false ns a := by
        have h1 := HSB.out
        rw [HM.out, List.take_length, wrb_short] at h1
        exact h1
      have hsl9 : sb.size = 6 + (Et.wrb false ns a).length := by rw [Lib.size_eq, hsb9]; simp; omega
      have hbd : sb.size + pb.size + 3 ≤ 1000000000 := by omega
      have HRS := Lib.hid (HR.out sb hsb9)
      obtain ⟨g, o, k5, t5, nv5, av5, rfl, hS5, -, hat5, e0, e1, e2, e3, o5, o6⟩ := GA.out.get j hlt9
      have hpj : a[j] = p := HPL.out j hlt9 HM.out
      rw [hpj] at hat5
      have HC := Lib.hid (HPB2.out _ _ wr hat5)
      clear hsb9 hsl9 hsl hpj hat5 hS5
      go_wp2_with fail
      refine HC.out.mono ?_
      rintro e w5 ⟨rfl, hb5⟩
      have HB5 := Lib.hid ((A1.out.trans (G2.out.mono A1.out.size)).trans (hb5.mono (Nat.le_trans A1.out.size G2.out.size)))
      clear hb5
      go_wp2_with fail
      go_ret
      exact ⟨by rw [← HRS.out]; rfl, HB5.out⟩
theorem reftext_tree (N : Nat) : N ≤ 10000 → ∀ (e : Et), e.size ≤ N → e.right num = true → e.fine → RTC e := by
  induction N with
  | zero => intro _ e he; cases e; simp [Et.size] at he
  | succ N IH =>
    intro hN e he hr hf
    obtain ⟨k, t, ns, a⟩ := e
    have hwl := wr_le _ hf
    have hsz : Et.sizes a ≤ N := by simp only [Et.size] at he; omega
    have hl := length_esizes a
    obtain ⟨hk, hra, h9, h10, h6, h8, h7, h10a, -, -⟩ := kind_of_right hr
    rw [fine_mk] at hf
    obtain ⟨hf1, hf2, hf3, hf4⟩ := hf
    have ih : ∀ e ∈ a, RTC e := by
      intro e hm
      obtain ⟨j, hj, rfl⟩ := List.getElem_of_mem hm
      exact IH (by omega) _ (by have := esize_get a j hj; omega) ((rights_all a).1 hra _ hm) (hf4 _ hm)
    have hl5 : a.length ≤ 100000 := by omega
    have hwl5 : (Et.mk k t ns a).wr.length ≤ 1000000000 := by omega
    have ne : 0 < a.length → a ≠ [] := by rintro h rfl; simp at h
    rcases hk with rfl | rfl | rfl | rfl | rfl | rfl | rfl | rfl | rfl | rfl
    · exact rt1 t ns a ih hl5 hf2 hf3 hf1 hwl5
    · exact rt2 t ns a ih hl5 hf2 hf3 hf1 hwl5
    · exact rt3 t ns a ih hl5 hf2 hf3 hf1 hwl5
    · exact rt4 t ns a ih hl5 hf2 hf3 hf1 hwl5
    · exact rt5 t ns a ih hl5 hf2 hf3 hf1 hwl5
    · exact rt6 t ns a ih hl5 hf2 hf3 hf1 hwl5 (h6 rfl).1
    · exact rt7 t ns a ih hl5 hf2 hf3 hf1 hwl5
    · exact rt8 t ns a ih hl5 hf2 hf3 hf1 hwl5 (ne (by have := h8 rfl; omega))
    · exact rt9 t ns a ih hl5 hf2 hf3 hf1 hwl5 (h9 rfl).1
    · exact rt10 t ns a ih hl5 hf2 hf3 hf1 hwl5 (ne (by have := h10 rfl; have := h10a rfl; omega))
theorem reftext_any (e : Et) (hr : e.right num = true) (hf : e.fine) (hs : e.size ≤ 10000) : RTC e := reftext_tree e.size hs e (Nat.le_refl _) hr hf
end Go.Proofs.YtmcgocbkjdacaaaDoor
