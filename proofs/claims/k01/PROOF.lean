import PyProof.Rows.All
import Wide.All
import OpenK.AllK
import Wide.FinOn
import HandS.ForMost
import HandS.ForExc
import HandS.Nested
import HandS.ExcInit
import HandS.ExcSuper
import HandS.ExcField
import HandS.ExcIs
import HandS.IsInst
import HandS.FStr
import HandS.Star
import HandS.MakeKwOnly
import HandS.DictComp
import HandS.RaiseMore
import HandS.Walk
import HandS.SortInts
import HandS.TryMany
import HandS.Flow
import KE.KExcSuper
import KE.KExcIs
import PySem.Challenge.RW_surelywhole_k01_table_attributes
set_option Elab.async false
set_option linter.all false
set_option maxRecDepth 100000
set_option maxHeartbeats 4000000
/-! # What every law of the set begins with: the dealt hand, a draw from it, the spelt words -/
namespace Sw
open PySem PySem.Spec PyProof.Rows L2
/-! ## two operators -/
section
variable {X : Cx}
/-- list + list, where the left one may be the script -/
def rJoinL (K : PySem.W.Frag) : R2 := fun x y H Q => ∃ (l b : Addr) (xs zs : List V), x = .ref l ∧ y = .ref b ∧ SqL K H l xs ∧ SqL K H b zs ∧ xs.length + zs.length ≤ sizeLine ∧
  ∀ p, H p = none → Q (.ref p) (upd H p (.lst (xs ++ zs)))
theorem op_joinL : OpR X (binaryOp .Add) (rJoinL X.K) := by
  intro pins s σ H x y v u Q I rx ry h
  obtain ⟨l, b, xs, zs, rfl, rfl, hl, hb, hz, q⟩ := h
  cases rx
  cases ry
  obtain ⟨vs, r1, p1, _⟩ := I.list hl
  obtain ⟨ws, r2, p2, _⟩ := I.list hb
  obtain ⟨⟨c1, d1, a1, s1⟩, n1, g1, e1, f1, k1⟩ := p1
  obtain ⟨⟨c2, d2, a2, s2⟩, n2, g2, e2, f2, k2⟩ := p2
  simp only at e1 f1 k1 e2 f2 k2
  subst e1 f1 k1 e2 f2 k2
  have len1 := r1.length
  have len2 := r2.length
  refine concat_meets ⟨_, g1, rfl⟩ ⟨_, g2, rfl⟩ noFill_list_add seq_list_add PySem.F.slot_list_add PySem.F.entry_list_add (PySem.F.args_list_add_2 _ _)
    (list_addW l b vs.toArray ws.toArray n1 n2 none none s1 s2 (by rw [List.size_toArray, List.size_toArray]; omega)) ⟨g1, g2, ?_⟩
  have ea : vs.toArray ++ ws.toArray = (vs ++ ws).toArray := by simp
  rw [ea]
  exact ⟨.ref _, _, I.lnew (t' := s.toks) (r1.append r2) (by rw [List.length_append]; omega), rfl, q _ I.fresh⟩
/-- a text times nought or one -/
def rStr01 : R2 := fun x y H Q => ∃ (z : Str) (n : Int), x = .str z ∧ y = .int n ∧ 0 ≤ n ∧ n < 2 ∧ Q (.str (if n = 0 then Str.empty else z)) H
theorem op_str01 : OpR X (binaryOp .Mult) rStr01 := by
  intro pins s σ H x y v u Q I rx ry h
  obtain ⟨z, n, rfl, rfl, h0, h2, q⟩ := h
  obtain ⟨t, rfl⟩ := rx
  obtain ⟨t', rfl⟩ := ry
  have hn : n = 0 ∨ n = 1 := by omega
  rcases hn with rfl | rfl
  · rw [if_pos rfl] at q
    exact PySem.P.mul_str_none (by decide) (by decide) ⟨.str Str.empty, H, I.tok _, ⟨_, rfl⟩, q⟩
  · rw [if_neg (by decide)] at q
    refine PySem.P.mul_str (by decide) (fun _ e => absurd e (by simp)) (fun _ e => absurd e (by simp)) ?_
    rw [if_neg (by decide), if_pos (by simp)]
    exact ⟨.str z, H, I, ⟨_, rfl⟩, q⟩
end
end Sw
/-! ## the hand -/
namespace Sw
open PySem PySem.Spec PyProof.Rows L2
/-- at a: a hand, sixty-one ints -/
def HandAt (H : Hp) (a : Addr) : Prop := ∃ ns : List Int, H a = some (.lst (ns.map V.int)) ∧ ns.length = 61
/-- all but a is as it was -/
def But (a : Addr) (H H' : Hp) : Prop := ∀ b, b ≠ a → H' b = H b
/-- _law_deal(script, k): a new hand -/
def spDeal (K : PySem.W.Frag) : Sp := fun vs H Q _ => ∃ (s : Addr) (ns : List Int) (k : Nat), vs = [.ref s, .int (k : Int)] ∧ SqL K H s (ns.map V.int) ∧ ns.length ≤ 63 ∧ k < 7 ∧
  ∀ (H' : Hp) (p : Addr), Same H H' → H p = none → HandAt H' p → Q (.ref p) H'
/-- _law_take(hand, many): some number below many; the hand stays a hand -/
def spTake : Sp := fun vs H Q _ => ∃ (a : Addr) (m : Int), vs = [.ref a, .int m] ∧ HandAt H a ∧ 0 < m ∧ ∀ (v : Int) (H' : Hp), 0 ≤ v → v < m → HandAt H' a → But a H H' → Q (.int v) H'
/-- the names of built-ins that stay built-ins -/
structure Blt (mg : Str → Option Value) : Prop where
  int : mg "int" = none
  range : mg "range" = none
  len : mg "len" = none
theorem bInt : bootBuiltins "int" = some (.type "int") := by decide +kernel
/-- the script's cell, or nought -/
theorem cell_at {ns : List Int} {k : Nat} (hk : k < 7) : ∃ c : Int, ((ns.map V.int) ++ [V.int 0, V.int 0, V.int 0, V.int 0, V.int 0, V.int 0, V.int 0])[k]? = some (V.int c) := by
  by_cases h : k < ns.length
  · refine ⟨ns[k], ?_⟩
    rw [List.getElem?_append_left (by rw [List.length_map]; exact h), List.getElem?_map, List.getElem?_eq_getElem h]
    rfl
  · refine ⟨0, ?_⟩
    rw [List.getElem?_append_right (by rw [List.length_map]; omega), List.length_map]
    generalize hj : k - ns.length = j
    have hj7 : j < 7 := by omega
    match j, hj7 with
    | 0, _ => rfl
    | 1, _ => rfl
    | 2, _ => rfl
    | 3, _ => rfl
    | 4, _ => rfl
    | 5, _ => rfl
    | 6, _ => rfl
theorem intV_get {ns : List Int} {i : Nat} (h : i < ns.length) : (ns.map V.int)[i]? = some (V.int ns[i]) := by
  rw [List.getElem?_map, List.getElem?_eq_getElem h]
  rfl
theorem atI_int {ns : List Int} {z : Int} (h0 : 0 ≤ z) (h : z < ns.length) : ∃ c : Int, atI (ns.map V.int) z = some (V.int c) := by
  obtain ⟨k, rfl⟩ := Int.eq_ofNat_of_zero_le h0
  have hk : k < ns.length := by omega
  exact ⟨ns[k], atI_nat (intV_get hk)⟩
theorem pick2 (u r : Int) : atI [V.int u, V.int r] (if decide (0 < r) = true then 1 else 0) = some (V.int (if 0 < r then r else u)) := by
  by_cases h : 0 < r
  · rw [decide_eq_true h, if_pos rfl, if_pos h]
    exact atI_nat (j := 1) rfl
  · rw [decide_eq_false h, if_neg (by decide), if_neg h]
    exact atI_nat (j := 0) rfl
theorem mod_small (z : Int) : -(2 ^ 64) < z % 2147483647 ∧ z % 2147483647 < 2 ^ 64 := by
  have m0 := Int.emod_nonneg z (show (2147483647 : Int) ≠ 0 by decide)
  have m1 := Int.emod_lt_of_pos z (show (0 : Int) < 2147483647 by decide)
  constructor <;> omega
theorem same_new {H : Hp} {p : Addr} {o : HO} (h : H p = none) : Same H (upd H p o) := fun b x e => by
  rw [upd_ne (ne_of_none e h)]
  exact e
/-- an object that H doesn't know may change -/
theorem same_mut {H H' : Hp} {p : Addr} {o : HO} (e : Same H H') (h : H p = none) : Same H (upd H' p o) := fun b x hb => by
  rw [upd_ne (ne_of_none hb h)]
  exact e b x hb
theorem but_refl (a : Addr) (H : Hp) : But a H H := fun _ _ => rfl
theorem but_upd {a : Addr} {H H' : Hp} {o : HO} (h : But a H H') : But a H (upd H' a o) := fun b hb => by
  rw [upd_ne hb]
  exact h b hb
end Sw
/-! ## the spelt words -/
namespace Sw
open PySem PySem.Spec PyProof.Rows L2
open TL (tl)
/-- a word over the signs, one to eight of them -/
def Wd (sg w : Str) : Prop := 1 ≤ (tl w).length ∧ (tl w).length ≤ 8 ∧ ∀ c ∈ tl w, c ∈ tl sg
/-- all that H knows, but a, is as it was -/
def SBut (a : Addr) (H H' : Hp) : Prop := ∀ b o, b ≠ a → H b = some o → H' b = some o
theorem SBut.refl (a : Addr) (H : Hp) : SBut a H H := fun _ _ _ e => e
theorem SBut.trans {a : Addr} {H H1 H2 : Hp} (x : SBut a H H1) (y : SBut a H1 H2) : SBut a H H2 := fun b o hb e => y b o hb (x b o hb e)
theorem Same.sbut {a : Addr} {H H1 : Hp} (x : Same H H1) : SBut a H H1 := fun b o _ e => x b o e
theorem But.sbut {a : Addr} {H H1 : Hp} (x : But a H H1) : SBut a H H1 := fun b o hb e => by
  rw [x b hb]
  exact e
theorem HandAt.some {H : Hp} {a : Addr} (h : HandAt H a) : ∃ o, H a = some o := by
  obtain ⟨ns, e, _⟩ := h
  exact ⟨_, e⟩
theorem HandAt.same {H H' : Hp} {a : Addr} (h : HandAt H a) (s : Same H H') : HandAt H' a := by
  obtain ⟨ns, e, hl⟩ := h
  exact ⟨ns, s _ _ e, hl⟩
theorem HandAt.ne {H : Hp} {a p : Addr} (h : HandAt H a) (n : H p = none) : p ≠ a := by
  obtain ⟨ns, e, _⟩ := h
  exact (ne_of_none e n).symm
/-- an object that is none of H's may change, but for the hand -/
theorem SBut.mut {a : Addr} {H H' : Hp} {p : Addr} {o : HO} (e : SBut a H H') (h : H p = none) : SBut a H (upd H' p o) := fun b x hb hx => by
  rw [upd_ne (ne_of_none hx h)]
  exact e b x hb hx
theorem SBut.free {a : Addr} {H H' : Hp} {p : Addr} (e : SBut a H H') (h : HandAt H' a) (n : H' p = none) : H p = none ∧ p ≠ a := by
  have ne := h.ne n
  refine ⟨?_, ne⟩
  cases q : H p with
  | none => rfl
  | some o =>
    rw [e p o ne q] at n
    cases n
theorem HandAt.upd {H : Hp} {a p : Addr} {o : HO} (h : HandAt H a) (ne : p ≠ a) : HandAt (upd H p o) a := by
  obtain ⟨ns, e, hl⟩ := h
  exact ⟨ns, by rw [upd_ne ne.symm]; exact e, hl⟩
/-- a sign at a place that is drawn -/
theorem sign_at {sg : Str} {z : Int} (h0 : 0 ≤ z) (h : z < (tl sg).length) : ∃ c : Nat, atI sg.cps.toList z = some c ∧ c ∈ tl sg := by
  obtain ⟨k, rfl⟩ := Int.eq_ofNat_of_zero_le h0
  have hk : k < (tl sg).length := by omega
  exact ⟨(tl sg)[k], atI_nat (List.getElem?_eq_getElem hk), List.getElem_mem hk⟩
theorem len_tl (z : Str) : z.length = (tl z).length := by
  show z.cps.size = z.cps.toList.length
  rw [Array.length_toList]
theorem sign_ix {sg : Str} {sh i : Nat} (pos : 0 < (tl sg).length) : atI sg.cps.toList (((sh : Int) + 5 * (0 + (i : Int))) % ((sg.length : Nat) : Int)) = some ((tl sg).getD ((sh + 5 * i) % (tl sg).length) 0) := by
  have e : ((sh : Int) + 5 * (0 + (i : Int))) % ((sg.length : Nat) : Int) = (((sh + 5 * i) % (tl sg).length : Nat) : Int) := by
    rw [len_tl, Int.natCast_emod, Int.natCast_add, Int.natCast_mul, Int.zero_add]
    rfl
  have lj : (sh + 5 * i) % (tl sg).length < (tl sg).length := Nat.mod_lt _ pos
  rw [e, List.getD_eq_getElem?_getD, List.getElem?_eq_getElem lj]
  exact atI_nat (List.getElem?_eq_getElem lj)
theorem tail_ix {t0 t1 : Str} {i : Nat} : atI [V.str t0, V.str t1] ((0 + (i : Int)) % 2) = some (V.str (if i % 2 = 0 then t0 else t1)) := by
  have e : (0 + (i : Int)) % 2 = ((i % 2 : Nat) : Int) := by omega
  rw [e]
  by_cases h : i % 2 = 0
  · rw [h, if_pos rfl]
    exact atI_nat (j := 0) rfl
  · have h1 : i % 2 = 1 := by omega
    rw [h1, if_neg (by decide)]
    exact atI_nat (j := 1) rfl
theorem sum_ones : ∀ cs : List Nat, (cs.map fun _ => 1).sum = cs.length
  | [] => rfl
  | c :: r => by
    show 1 + (r.map fun _ => 1).sum = r.length + 1
    rw [sum_ones r, Nat.add_comm]
def spSpell : Sp := fun vs H Q _ => ∃ (a : Addr) (m : Nat) (sg : Str), vs = [.ref a, .int (m : Int), .str sg] ∧ HandAt H a ∧ m ≤ 5 ∧ ((tl sg).length = 26 ∨ (tl sg).length = 36) ∧ (tl sg).Nodup ∧
  ∀ (H' : Hp) (p : Addr) (ws : List Str), HandAt H' a → SBut a H H' → H p = none → p ≠ a → H' p = some (.lst (ws.map V.str)) → ws.length = m → ws.Nodup → (∀ w ∈ ws, Wd sg w) → Q (.ref p) H'
theorem joinL_nil : ∀ ps : List (List Nat), TL.joinL [] ps = ps.flatten
  | [] => rfl
  | [p] => by
    show p = p ++ []
    rw [List.append_nil]
  | p :: q :: r => by
    show p ++ ([] ++ TL.joinL [] (q :: r)) = p ++ (q :: r).flatten
    rw [joinL_nil (q :: r)]
    rfl
theorem flat_singles : ∀ cs : List Nat, (cs.map fun c => [c]).flatten = cs
  | [] => rfl
  | c :: r => by
    show [c] ++ (r.map fun c => [c]).flatten = c :: r
    rw [flat_singles r]
    rfl
/-- the signs drawn, as one text -/
def baseOf (cs : List Nat) : Str := Txt.join Str.empty (cs.map fun c => (⟨#[c]⟩ : Str))
theorem tl_base (cs : List Nat) : tl (baseOf cs) = cs := by
  unfold baseOf
  rw [TL.join_eq, TL.tl_join]
  show TL.joinL [] ((cs.map fun c => (⟨#[c]⟩ : Str)).map tl) = cs
  rw [joinL_nil, List.map_map]
  exact flat_singles cs
theorem tl_cut_from (z : Str) (k : Nat) (h : k ≤ (tl z).length) : tl (cutS z (some (k : Int)) none) = (tl z).drop k := by
  unfold cutS
  show (((tl z).drop (HT.sIx z.length 0 (some (k : Int)))).take (HT.sIx z.length z.length none - HT.sIx z.length 0 (some (k : Int)))).toArray.toList = _
  rw [HT.sIx_nat, HT.sIx_none, len_tl, Nat.min_eq_left h, List.toList_toArray, List.take_of_length_le (by rw [List.length_drop]; omega)]
theorem tl_cut_to (z : Str) (k : Nat) (h : k ≤ (tl z).length) : tl (cutS z none (some (k : Int))) = (tl z).take k := by
  unfold cutS
  show (((tl z).drop (HT.sIx z.length 0 none)).take (HT.sIx z.length z.length (some (k : Int)) - HT.sIx z.length 0 none)).toArray.toList = _
  rw [HT.sIx_nat, HT.sIx_none, len_tl, Nat.min_eq_left h, List.toList_toArray, List.drop_zero, Nat.sub_zero]
/-- the j-th word -/
def wordAt (b sg : Str) (pl sh : Nat) (t0 t1 : Str) (j : Nat) : Str := cutS b none (some (pl : Int)) ++ (⟨#[(tl sg).getD ((sh + 5 * j) % (tl sg).length) 0]⟩ : Str) ++ (if j % 2 = 0 then t0 else t1)
theorem tl_one (c : Nat) : tl (⟨#[c]⟩ : Str) = [c] := rfl
theorem tl_word {b sg t0 t1 : Str} {pl sh j : Nat} (hp : pl ≤ (tl b).length) : tl (wordAt b sg pl sh t0 t1 j) = (tl b).take pl ++ ([(tl sg).getD ((sh + 5 * j) % (tl sg).length) 0] ++ tl (if j % 2 = 0 then t0 else t1)) := by
  unfold wordAt
  rw [TL.tl_append, TL.tl_append, tl_cut_to _ _ hp, tl_one, List.append_assoc]
theorem word_inj {b sg t0 t1 : Str} {pl sh j k : Nat} (hp : pl ≤ (tl b).length) (hm : (tl sg).length = 26 ∨ (tl sg).length = 36) (nd : (tl sg).Nodup) (hj : j < 5) (hk : k < 5) (e : wordAt b sg pl sh t0 t1 j = wordAt b sg pl sh t0 t1 k) : j = k := by
  have e2 := congrArg tl e
  rw [tl_word hp, tl_word hp] at e2
  have e3 := List.append_cancel_left e2
  have e4 : (tl sg).getD ((sh + 5 * j) % (tl sg).length) 0 = (tl sg).getD ((sh + 5 * k) % (tl sg).length) 0 := (List.cons.inj e3).1
  have pos : 0 < (tl sg).length := by omega
  have lj : (sh + 5 * j) % (tl sg).length < (tl sg).length := Nat.mod_lt _ pos
  have lk : (sh + 5 * k) % (tl sg).length < (tl sg).length := Nat.mod_lt _ pos
  rw [List.getD_eq_getElem?_getD, List.getD_eq_getElem?_getD, List.getElem?_eq_getElem lj, List.getElem?_eq_getElem lk] at e4
  have e5 : (sh + 5 * j) % (tl sg).length = (sh + 5 * k) % (tl sg).length := (List.getElem_inj nd).mp e4
  rcases hm with hm | hm
  · rw [hm] at e5
    omega
  · rw [hm] at e5
    omega
theorem words_nodup {b sg t0 t1 : Str} {pl sh m : Nat} (hp : pl ≤ (tl b).length) (hm : (tl sg).length = 26 ∨ (tl sg).length = 36) (nd : (tl sg).Nodup) (h5 : m ≤ 5) : ((List.range m).map (wordAt b sg pl sh t0 t1)).Nodup := by
  rw [List.nodup_iff_pairwise_ne, List.pairwise_map]
  refine List.Pairwise.imp_of_mem ?_ (List.nodup_range (n := m))
  intro j k hj hk ne e
  exact ne (word_inj hp hm nd (Nat.lt_of_lt_of_le (List.mem_range.mp hj) h5) (Nat.lt_of_lt_of_le (List.mem_range.mp hk) h5) e)
theorem word_wd {b sg t0 t1 : Str} {pl sh j : Nat} (hp : pl ≤ (tl b).length) (hb : (tl b).length ≤ 7) (hs : ∀ c ∈ tl b, c ∈ tl sg) (pos : 0 < (tl sg).length) (h0 : tl t0 = (tl b).drop pl) (h1 : tl t1 = [] ∨ tl t1 = (tl b).drop pl) : Wd sg (wordAt b sg pl sh t0 t1 j) := by
  have ht : tl (if j % 2 = 0 then t0 else t1) = [] ∨ tl (if j % 2 = 0 then t0 else t1) = (tl b).drop pl := by
    split
    · exact .inr h0
    · exact h1
  have lj : (sh + 5 * j) % (tl sg).length < (tl sg).length := Nat.mod_lt _ pos
  have l2 : (tl (if j % 2 = 0 then t0 else t1)).length ≤ (tl b).length - pl := by
    rcases ht with e | e
    · rw [e]
      exact Nat.zero_le _
    · rw [e, List.length_drop]
      exact Nat.le_refl _
  unfold Wd
  rw [tl_word hp]
  refine ⟨?_, ?_, fun c hc => ?_⟩
  · simp only [List.length_append, List.length_cons, List.length_nil]
    omega
  · simp only [List.length_append, List.length_cons, List.length_nil, List.length_take]
    omega
  · rcases List.mem_append.mp hc with h | h
    · exact hs c (List.mem_of_mem_take h)
    · rcases List.mem_append.mp h with h | h
      · have e := List.mem_singleton.mp h
        rw [e, List.getD_eq_getElem?_getD, List.getElem?_eq_getElem lj]
        exact List.getElem_mem lj
      · rcases ht with e | e
        · rw [e] at h
          cases h
        · rw [e] at h
          exact hs c (List.mem_of_mem_drop h)
end Sw
/-! ## own errors whose __init__ says super().__init__(..) -/
namespace Sw
open PySem PySem.Spec PyProof.Rows L2 NdefX
section
variable {prog : Program} {w : World} {A : Around} {E : Value → Shared → Prop} {h : Heap} {g : Array GenState} {d : Drawn} {t : Nat} {os : OsState}
variable {nm q : Str} {C N : Addr} {bs bm : List Value} {hdct : Bool} {sn : List Str} {sub : List Value} {ab : Bool} {col : Option Bool} {dd : Option Addr} {k0 k1 k2 k3 k5 : Option Value}
/-- ValueError's own __init__, bound to the error e, is called -/
theorem call_mw {u e t0 : Addr} {rest : List Value} {Q : Value → Shared → Prop}
    (hC : h.get? C = some (excClassObj nm q C N bs bm hdct sn sub ab col dd k0 k1 k2 k3 k5 "ValueError.__new__")) (he : h.get? e = some (PySem.HandSPX.excO C t0)) (hu : h.get? u = some (PySem.W.kxs_mw "ValueError.__init__" e)) (hrest : rest.length ≤ sizeLine)
    (hq : ∀ (h' : Heap) (t1 : Addr), (∀ b o, b ≠ e → h.get? b = some o → h'.get? b = some o) → h'.get? e = some (PySem.HandSPX.excO C t1) → Q .none ⟨h', g, d, t, os⟩) :
    wpAny (model prog w) A (call (.ref u) rest) Q E ⟨h, g, d, t, os⟩ := by
  have F := PySem.F.excBase_ValueError
  refine wpAny_call (codeAny_of_tree ?_)
  simp only [callAny]
  refine wpAny_bind (wpAny_load hu ?_)
  have b1 : (Value.type "method-wrapper" == Value.type "method" || Value.type "method-wrapper" == Value.type "builtin_function_or_method" || Value.type "method-wrapper" == Value.type "method-wrapper") = true := by decide
  simp only [PySem.W.kxs_mw, b1, if_true]
  refine PySem.W.KFB.if_so (by decide) ?_
  refine wpAny_bind (PySem.ESX.check_bound F hC he rfl (wpAny_bind (wpAny_pure (wpAny_pure ?_))))
  refine ⟨Code.quiet_builtin _ (by decide +kernel), codeAny_builtin F.initEntry ?_⟩
  rw [Around.under_plainId F.init.plain _]
  wp_walk
  refine hq _ h.objs.size (fun b o hb ho => ?_) ?_
  · exact (Heap.get?_update_other _ _ (Ne.symm hb)).trans (Heap.get?_push_of_some _ ho)
  · exact Heap.get?_update_self _ (Heap.get?_push_of_some _ he) rfl
end
end Sw
namespace Sw
open PySem PySem.Spec PyProof.Rows L2 NdefX
theorem look1 {α : Type} (x y : Str) (c : α) : List.lookup y [(x, c)] = if y = x then some c else none := by
  by_cases h : y = x
  · subst h
    simp [List.lookup]
  · have e : (y == x) = false := by simpa using h
    rw [if_neg h]
    simp [List.lookup, e]
/-- what the written part says of an __init__ at f of a class at D that says super() -/
structure SupTxt (P : Program) (K : PySem.W.Frag) (mg : Str → Option Value) (qual : Str) (st : Stmt) (D f cc cda : Addr) (fd : FuncData) : Prop where
  fn : ∃ (oc : Value) (od : Option Addr) (doc pm : Value) (an : Option Addr) (ct : Value) (osl : Array (Option Value)),
    fd = PySem.W.fnX "__init__" qual (defArgs st) (defBody st) (defScope st) [("__class__", cc)] .none .none doc pm an (.ref cda) ct ∧ K.lookup f = some ⟨oc, od, .func fd, osl⟩
  code : PySem.W.codeIn K (.ref cda) qual = true
  file : ∃ (c1 : Value) (c2 : Option Addr) (vs : Array Value) (c3 : Array (Option Value)) (fl : Str) (tf : Tok), K.lookup cda = some ⟨c1, c2, .fields vs, c3⟩ ∧ vs[2]? = some (.str fl tf) ∧ ((P.main.file : Str) == fl) = true
  cell : ∃ (c1 : Value) (c2 : Option Addr) (c3 : Array (Option Value)), K.lookup cc = some ⟨c1, c2, .cell (some (.ref D)), c3⟩
  cls : (PySem.W.clsIn K D).isSome = true
  mro : PySem.W.mroIn K D (.ref D) = some true
  ini : (PySem.W.clsIn K D).bind (fun cd => PySem.W.alongIn K "__init__" ((cd.mro.dropWhile (· != .ref D)).drop 1)) = some (some (.builtin "ValueError.__init__"))
  ve : PySem.W.subIn K (.ref D) (.type "ValueError") = some true
  opq : PySem.W.nsIn K cStatics "thirdparty.any" = some none
  msup : mg "super" = none
  msc : (P.main.scope.names.lookup ("super" : Str)).isSome = false
/-- the context of such an __init__ -/
abbrev sF (qual : Str) (st : Stmt) (cc cda : Addr) : NF := ⟨"__init__", qual, defArgs st, defBody st, defScope st, [("__class__", cc)], cda⟩
section
variable {P : Program} {w : World} {K : PySem.W.Frag} {mg : Str → Option Value} {base : Heap} {qual : Str} {st : Stmt} {D f cc cda : Addr} {fd : FuncData}
theorem fn_super {N ps : List Str} {k : Nat} {sp : Sp} {p0 p1 p2 p3 p4 : Pos} {e : Expr} {rest : List Stmt} {ar : Arg} (T : SupTxt P K mg qual st D f cc cda fd) (O : OexC K D) (S : NScope N ps ["__class__"] (defScope st)) (len : ∀ vs H Q E, sp vs H Q E → vs.length = ps.length)
    (hst : defBody st = .Expr (.Call (.Attribute (.Call (.Name "super" p0) [] [] p1) "__init__" p2) [e] [] p3) p4 :: rest)
    (har : ((defArgs st).posonlyargs ++ (defArgs st).args).head? = some ar) (hp0 : ps[0]? = some ar.arg)
    (hks : (defScope st).names.lookup ("super" : Str) = some .globalImplicit) (hkc : (defScope st).names.lookup ("__class__" : Str) = some .free)
    (hsw : ∀ env : Env, swapsWith (.Call (.Attribute (.Call (.Name "super" p0) [] [] p1) "__init__" p2) [e] [] p3) none p4.line env = pure false)
    (hev : ∀ env : Env, ∃ pl : Sem Bool, eval (.Call (.Attribute (.Call (.Name "super" p0) [] [] p1) "__init__" p2) [e] [] p3) env = (do
      let ov ← attributeBase (.Call (.Name "super" p0) [] [] p1) "__init__" env (eval (.Call (.Name "super" p0) [] [] p1) env)
      standAt p2.atName
      let (f, first) ← holding [ov] (getMethod ov "__init__" pl)
      callWith p3 f first (backTo p3 (starEach [e] env)) []))
    (hse : ∀ env : Env, starEach [e] env = [(false, eval e env)])
    (hbody : ∀ (A : Around) (outer : List Env) (s : Shared) (H : Hp) (vs : List V) (Q : VK) (E : XK), Room k (A.deeper (envF (sF qual st cc cda) f s.heap.objs.size)) → sp vs H Q E →
      ∃ (te : TE) (t : TS) (a : Addr), vs[0]? = some (.ref a) ∧ H a = some (exo a D none) ∧ PE (ncx CX0 P w K mg base N (sF qual st cc cda) f A outer s H E).nox e te ∧ PSs (ncx CX0 P w K mg base N (sF qual st cc cda) f A outer s H E).nox rest t ∧
        te (startF N vs [some (.ref D)]) H (fun y H1 => [y].length = 1 ∧ H1 a = some (exo a D none) ∧ t { nx := fun _ H' => Q .non H', rt := Q } (startF N vs [some (.ref D)]) H1)) :
    FnOk P w K mg base CX0 (k + 1) f fd ps sp := by
  obtain ⟨oc, od, doc, pm, an, ct, osl, rfl, lk⟩ := T.fn
  obtain ⟨f1, f2, vsf, f3, fl, tf, hcda, hvs2, hfl⟩ := T.file
  obtain ⟨c1, c2, c3, hcc⟩ := T.cell
  obtain ⟨nm, q, Nn, bs, bm, sn, sub, ab, col, dd, k0, k1, k2, k3, k5, hD, hbm⟩ := O.cls
  have hcl : PySem.W.clsIn K D = some { name := nm, bases := bs, mro := .ref D :: bm, ns := Nn, qualname := q, hasDict := true, slotNames := sn, subclasses := sub, abstract := ab, collection := col, hasDel := false } := by unfold PySem.W.clsIn; rw [hD] <;> rfl
  refine ⟨len, fun A outer s H args us vs Q E hr e0 hb r hsp => ?_⟩
  have hl := len _ _ _ _ hsp
  have KX : K.In s.heap := e0.mod.kin.keeps fun b o e => (e0.bs b o e).1
  have lim : s.heap.NoLimit := e0.mod.nolimit.keeps fun b o e => (e0.bs b o e).1
  have kb : ∀ (b : Addr) (o : Obj), K.lookup b = some o → H b = none := fun b o e => (e0.bs b o (e0.mod.kin _ _ e)).2
  refine codeAny_call_function hr.depth (KX _ _ lk) rfl S.co S.gen rfl (PySem.W.codeRec_of KX T.code) (hb _ _ _ _ ?_)
  refine wpAny_newFunctionEnv S.nocell (fun ⟨n, _⟩ hy => S.par n (List.of_mem_zip hy).1) (fun h₁ hns hsb => ⟨lim.fresh _ hsb, ?_⟩) S.kind
  show codeAny _ _ (.func (defBody st) (envF (sF qual st cc cda) f s.heap.objs.size)) _ _
  refine PySem.ks_codeAny_funcAt ?_
  have kp : ∀ b o, s.heap.get? b = some o → h₁.get? b = some o := fun b o e => hsb.extBut b o (Nat.ne_of_lt (Heap.lt_size e)) (Heap.get?_push_of_some _ e)
  have clk : ∀ (y : Str) (c : Addr), (sF qual st cc cda).cl.lookup y = some c → y = "__class__" ∧ c = cc := fun y c e => by
    have e : List.lookup y [(("__class__" : Str), cc)] = some c := e
    rw [look1] at e
    split at e
    · rename_i hy
      exact ⟨hy, (Option.some.inj e).symm⟩
    · cases e
  have C : CellsAt (sF qual st cc cda).cl ["__class__"] [some (.ref D)] s.heap H := by
    refine ⟨rfl, fun y c e => ?_, fun x y c e1 e2 => ?_, fun i y hi => ?_⟩
    · obtain ⟨_, rfl⟩ := clk y c e
      exact ⟨kb _ _ hcc, _, ⟨_, KX _ _ hcc, rfl⟩⟩
    · exact (clk x c e1).1.trans (clk y c e2).1.symm
    · match i, hi with
      | 0, hi =>
        have ey : ("__class__" : Str) = y := Option.some.inj hi
        subst ey
        refine ⟨cc, by show List.lookup ("__class__" : Str) [(("__class__" : Str), cc)] = some cc; rw [look1, if_pos rfl], fun v hv => ?_⟩
        have ev : V.ref D = v := Option.some.inj (Option.some.inj hv)
        subst ev
        exact ⟨.ref D, rfl, ⟨_, KX _ _ hcc, rfl⟩⟩
      | i + 1, hi => simp at hi
  have I : Inv (ncx CX0 P w K mg base N (sF qual st cc cda) f A outer s H E) [] (startF N vs [some (.ref D)]) H { s with heap := h₁, toks := s.toks + (ps.zip us).length } := inv_startN S hr.hd e0 hl r C hns kp
  obtain ⟨te, tt, a, hva, hHa, pe, pss, hq⟩ := hbody A outer s H vs Q E (hr.deeper _) hsp
  rw [hst]
  obtain ⟨pl, hev⟩ := hev (envF (sF qual st cc cda) f s.heap.objs.size)
  refine PySem.ks_wpAt_execs_cons (PySem.ks_wpAt_Expr_any (PySem.ks_wpAt_MethodCall ?_ hev) I.quiet (hsw _))
  have KI : K.In h₁ := I.kIn
  refine PySem.ks_wpAt_super_base hks hkc (by decide) rfl (KI _ _ lk) rfl har rfl (KI _ _ hcda) rfl hvs2 hfl T.msc ?_
  obtain ⟨mb, hb1, hb2⟩ := I.mod.blt
  refine PySem.W.ks_loadName_global S.kind hks (Calls.loadGlobal_builtin (I.mod.glob.keeps I.bk) T.msup (hb1.keeps I.bk) ((hb2 _ (by decide)).trans (by decide +kernel)) ⟨rfl, ?_⟩)
  refine wpAny_loadName_free S.kind hkc rfl ⟨_, KI _ _ hcc, rfl⟩ ?_
  have hN0 : N[0]? = some ar.arg := by
    have z : (N.take (ps.length + 1))[0]? = some ar.arg := by
      have y : N.take (ps.length + 1) = ps ++ ([("__class__" : Str)] : List Str) := S.pre
      rw [y, List.getElem?_append_left (List.getElem?_eq_some_iff.mp hp0).1]
      exact hp0
    rw [List.getElem?_take_of_lt (Nat.succ_pos _)] at z
    exact z
  have hka : (defScope st).names.lookup ar.arg = some .local := S.par _ (List.mem_of_getElem? hp0)
  have hs0 : (startF N vs [some (V.ref D)])[0]? = some (some (V.ref a)) := by
    unfold startF
    have lv : 0 < vs.length := (List.getElem?_eq_some_iff.mp hva).1
    rw [List.getElem?_append_left (by rw [List.length_map]; exact lv), List.getElem?_map, hva]
    rfl
  obtain ⟨m, hnl, hm⟩ := I.loc
  obtain ⟨u, hu, hlook⟩ := hm 0 ar.arg (.ref a) hN0 hs0 (.inl hka)
  obtain rfl : u = Value.ref a := hu
  have hmx : m ar.arg = some (.ref a) := by
    rcases hlook with ⟨_, z⟩ | ⟨z, _⟩
    · exact z
    · have z : (defScope st).names.lookup ar.arg = some .cell ∨ (defScope st).names.lookup ar.arg = some .free := z
      rw [hka] at z
      rcases z with z | z <;> cases z
  refine wpAny_loadName_local S.kind hka hnl hmx ?_
  have hD1 := KI _ _ hD
  refine PySem.ks_wpAny_isType_cls hD1 rfl ⟨rfl, ?_⟩
  obtain ⟨t0, hexo⟩ := exo_at I.hok hHa
  refine PySem.ks_wpAny_call_super hD1 rfl hexo rfl (fun c e => by cases e) (PySem.W.looks_mroIn KI T.mro) (fun h2 hso k2 => ?_)
  have I2 : Inv (ncx CX0 P w K mg base N (sF qual st cc cda) f A outer s H E) [] (startF N vs [some (.ref D)]) H { s with heap := h2, toks := s.toks + (ps.zip us).length } := I.kept (t' := s.toks + (ps.zip us).length) k2
  have K2 : K.In h2 := I2.kIn
  have J2 : PySem.W.InstAt h2 a (PySem.HandSPX.excO D t0) D none := ⟨k2 _ _ hexo, rfl, rfl, trivial⟩
  have hini : PySem.W.alongIn K "__init__" (((Value.ref D :: bm).dropWhile (· != .ref D)).drop 1) = some (some (.builtin "ValueError.__init__")) := by
    have z := T.ini
    rw [hcl] at z
    exact z
  refine PySem.W.kxs_getMethod PySem.W.kxs_ValueError hso (PySem.W.looks_opaque K2 T.opq) (l₀ := .ref D :: bm) (fun A Q E s k q => wpAny_bind ((PySem.W.looks_clsIn K2 hcl) A _ E s k (wpAny_pure q))) rfl K2 hini (J2.type.andThen (PySem.W.looks_subIn K2 T.ve)) (PySem.W.ks_ne K2 J2 hcl) (by decide) ?_
  -- the bound __init__, pinned
  have kp3 : ∀ b o, h2.get? b = some o → (h2.push (PySem.W.kxs_mw "ValueError.__init__" a)).get? b = some o := fun b o e => Heap.get?_push_of_some _ e
  have hu3 : (h2.push (PySem.W.kxs_mw "ValueError.__init__" a)).get? h2.objs.size = some (PySem.W.kxs_mw "ValueError.__init__" a) := Heap.get?_push_size _ rfl
  have fp : FpOk (ncx CX0 P w K mg base N (sF qual st cc cda) f A outer s H E) [] H h2.objs.size := I2.fpOk (Nat.le_refl _) (I2.hok.fresh (Nat.le_refl _))
  have I3 := (I2.kept (t' := s.toks + (ps.zip us).length + 1) kp3).pinned (fp := [h2.objs.size]) (fun b hb => by rw [List.mem_singleton.mp hb]; exact fp) (fun b hb => by rw [List.mem_singleton.mp hb]; exact ⟨_, hu3, fun v e => by cases e⟩)
  rw [hse]
  refine PySem.W.kxs_callWith (i := "ValueError.__init__") (x := a) rfl (Calls.evalArgs_plain ?_)
  have pa : PA (ncx CX0 P w K mg base N (sF qual st cc cda) f A outer s H E).nox [e] (tCons te tNil) := pa_cons pe pa_nil (hse _)
  have run := pa.run p3 _ _ _ _ (fun vs1 H1 => vs1.length = 1 ∧ H1 a = some (exo a D none) ∧ tt { nx := fun _ H' => Q .non H', rt := Q } (startF N vs [some (.ref D)]) H1) (I3.wish fun _ _ => False) hq
  rw [hse] at run
  refine wpAny_mono run (fun us1 s1 hh => ?_) fun _ _ z => z.elim
  obtain ⟨vs1, H1, I4, r4, l4, hH1a, hq4⟩ := hh
  have hpin := I4.pin (h2.objs.size, PySem.W.kxs_mw "ValueError.__init__" a) (List.mem_append_right _ (List.mem_append_right _ (mem_pinsAt (List.mem_singleton.mpr rfl) hu3)))
  refine ⟨hpin.1, ?_⟩
  obtain ⟨t1, hexo1⟩ := exo_at I4.hok hH1a
  have lus : ([] ++ us1 : List Value).length ≤ sizeLine := by
    have z := r4.length
    rw [List.nil_append, ← z, l4]
    decide
  obtain ⟨hp4, g4, d4, tk4, os4⟩ := s1
  refine call_mw (I4.kIn _ _ hD) hexo1 hpin.1 lus fun h5 t5 k5 hx5 => ?_
  have J := I4.write (t' := tk4) (x := a) (e := a) (o := exo a D none) (by rw [hH1a]; exact True.intro) (.inl rfl) k5 ⟨_, hx5⟩ (exo_ok hx5)
  have eu : upd H1 a (exo a D none) = H1 := by
    funext b
    by_cases hb : b = a
    · rw [hb, upd_same, hH1a]
    · rw [upd_ne hb]
  rw [eu] at J
  show _root_.PySem.wpAt _ _ _ (execs rest _) _ _ _
  refine wpAt_of_wpAny (wpAny_mono (pss.run [] _ _ _ _ J.unpinned hq4) (fun fl s' hs => ?_) fun _ _ z => z.elim)
  have fin : ∀ {σ' : L2.St} {H' : Hp} {v : V} {u : Value}, Inv (ncx CX0 P w K mg base N (sF qual st cc cda) f A outer s H E).nox [] σ' H' s' → L2.RelV v u → Q v H' → CE outer P w H s Q u s' :=
    fun {σ' H' v u} J rv q => ⟨v, H', J.os, J.bare, J.base, J.hok, rv, q⟩
  cases fl with
  | ret u =>
    obtain ⟨v, σ', H', J, rv, q⟩ := hs
    exact fin J rv q
  | next =>
    obtain ⟨σ', H', J, q⟩ := hs
    exact fin (v := V.non) (u := Value.none) J rfl q
  | brk =>
    obtain ⟨_, _, _, q⟩ := hs
    exact False.elim q
  | cont =>
    obtain ⟨_, _, _, q⟩ := hs
    exact False.elim q
end
end Sw
namespace Sw
open PySem PySem.Spec PyProof.Rows L2 NdefX
/-- __init__ of an own error with one field: the field lies in the error's own dict, new -/
def spErr (D : Addr) (fld : Str) (Pv : V → Hp → Prop) : Sp := fun vs H Q _ => ∃ (a : Addr) (v : V), vs = [.ref a, v] ∧ H a = some (exo a D none) ∧ Pv v H ∧
  ∀ dx, H dx = none → dx ≠ a → Q .non (upd (upd H dx (exd dx [(fld, v)])) a (exo a D (some dx)))
/-- the value is a short text -/
def PStr (v : V) (_ : Hp) : Prop := ∃ z : Str, v = .str z ∧ z.length ≤ 1000
theorem room_len {a b : Nat} (h : a + b ≤ 2000) : a + b ≤ sizeLine := Nat.le_trans h (by decide)
theorem str_app_len (x y : Str) : (x ++ y).length = x.length + y.length := by
  rw [len_tl, len_tl, len_tl, TL.tl_append, List.length_append]
end Sw
namespace Sw
open PySem PySem.Spec PyProof.Rows L2 NdefX
/-- an own error with one field is made: what is left to show behind its argument -/
theorem mk_err {D : Addr} {fld : Str} {Pv : V → Hp → Prop} {v : V} {H1 : Hp} {Q : XK} (hp : ∀ a, H1 a = none → Pv v (upd H1 a (exo a D none))) (q : ∀ dd, H1 dd = none → Q (.ref D) (some dd) (upd H1 dd (.xd [(fld, v)]))) :
    [v].length ≤ 1000 ∧ ∀ a, H1 a = none → spErr D fld Pv (.ref a :: ([v] ++ [])) (upd H1 a (exo a D none)) (fun u H2 => u = .non ∧ ∃ (d : Addr) (fs : List (Str × V)), H2 a = some (exo a D (some d)) ∧ H2 d = some (exd d fs) ∧ H1 d = none ∧ Q (.ref D) (some d) (upd (del H2 a) d (.xd fs))) (fun _ _ _ => False) := by
  refine ⟨by show 1 ≤ 1000; decide, fun a ha => ⟨a, v, rfl, upd_same, hp a ha, fun dx h1 h2 => ⟨rfl, dx, [(fld, v)], upd_same, ?_, ?_, ?_⟩⟩⟩
  · rw [upd_ne h2, upd_same]
  · rw [upd_ne h2] at h1
    exact h1
  · have h3 : H1 dx = none := by
      rw [upd_ne h2] at h1
      exact h1
    have e : upd (del (upd (upd (upd H1 a (exo a D none)) dx (exd dx [(fld, v)])) a (exo a D (some dx))) a) dx (.xd [(fld, v)]) = upd H1 dx (.xd [(fld, v)]) := by
      funext b
      by_cases hb : b = dx
      · rw [hb, upd_same, upd_same]
      · rw [upd_ne hb, upd_ne hb]
        by_cases hba : b = a
        · rw [hba, del_same, ha]
        · rw [del_ne hba, upd_ne hba, upd_ne hb, upd_ne hba]
    rw [e]
    exact q dx h3
/-- what the text says of an own error class with one field -/
structure ErrTxt (P : Program) (K : PySem.W.Frag) (mg : Str → Option Value) (x qual : Str) (st : Stmt) (D f cc cda : Addr) (fd : FuncData) (fld : Str) : Prop where
  sup : SupTxt P K mg qual st D f cc cda fd
  oex : OexC K D
  nf : PySem.W.findIn K (.ref D) fld = some none
  gC : mg x = some (.ref D)
  iC : PySem.W.findIn K (.ref D) "__init__" = some (some (.ref f))
  tI : PySem.W.typeIn K (.ref f) = some (.type "function")
  bd : Binds K fd ["self", fld] []
end Sw
/-! ## dicts of what occurs, strictly ascending lists -/
namespace Sw
open PySem PySem.Spec PyProof.Rows L2
section
variable {X : Cx}
theorem PE.or {e : Expr} {t1 t2 : TE} (h1 : PE X e t1) (h2 : PE X e t2) : PE X e (fun σ H Q => t1 σ H Q ∨ t2 σ H Q) := ⟨fun pins s σ H Q I h => h.elim (h1.run pins s σ H Q I) (h2.run pins s σ H Q I)⟩
theorem PS.or {st : Stmt} {t1 t2 : TS} (h1 : PS X st t1) (h2 : PS X st t2) : PS X st (fun D σ H => t1 D σ H ∨ t2 D σ H) := ⟨fun pins s σ H D I h => h.elim (h1.run pins s σ H D I) (h2.run pins s σ H D I)⟩
theorem PI.or {tg e : Expr} {t1 t2 : TI} (h1 : PI X tg e t1) (h2 : PI X tg e t2) : PI X tg e (fun σ H R => t1 σ H R ∨ t2 σ H R) := ⟨fun pins s σ H R I h => h.elim (h1.run pins s σ H R I) (h2.run pins s σ H R I)⟩
end
/-- a dict whose keys are the us, each with True -/
def onceK {α : Type} (f : α → Key) (us : List α) : List (Key × V) := us.map fun u => (f u, V.bl true)
theorem onceK_val {α : Type} {f : α → Key} (inj : ∀ a b, f a = f b → a = b) : ∀ (us : List α) (u : α), (u ∈ us → valV (onceK f us) (f u) = some (V.bl true)) ∧ (u ∉ us → valV (onceK f us) (f u) = none)
  | [], u => ⟨fun h => (nomatch h), fun _ => rfl⟩
  | x :: r, u => by
    have ih := onceK_val inj r u
    by_cases e : f x = f u
    · refine ⟨fun _ => valV_pos (p := (f x, V.bl true)) e, fun h => absurd (List.mem_cons.mpr (.inl (inj _ _ e).symm)) h⟩
    · have e2 : valV (onceK f (x :: r)) (f u) = valV (onceK f r) (f u) := valV_neg (p := (f x, V.bl true)) e
      rw [e2]
      refine ⟨fun h => ih.1 ?_, fun h => ih.2 fun z => h (List.mem_cons_of_mem _ z)⟩
      rcases List.mem_cons.mp h with h | h
      · exact absurd (congrArg f h.symm) e
      · exact h
theorem onceK_put {α : Type} [DecidableEq α] {f : α → Key} (inj : ∀ a b, f a = f b → a = b) (us : List α) (u : α) : putK (onceK f us) (f u) (V.bl true) = onceK f (if u ∈ us then us else us ++ [u]) := by
  by_cases h : u ∈ us
  · rw [if_pos h]
    have hv := (onceK_val inj us u).1 h
    unfold putK
    rw [valV_any, hv]
    show (onceK f us).map _ = _
    have e : ∀ kv ∈ onceK f us, (if kv.1 = f u then (kv.1, V.bl true) else kv) = kv := by
      intro kv hk
      obtain ⟨x, _, rfl⟩ := List.mem_map.mp hk
      split <;> rfl
    exact (List.map_congr_left e).trans (List.map_id _)
  · rw [if_neg h, putK_new _ ((onceK_val inj us u).2 h)]
    unfold onceK
    rw [List.map_append]
    rfl
/-- the different ones of l, as far as they were met -/
structure Once {α : Type} (us l : List α) : Prop where
  nd : us.Nodup
  mem : ∀ x, x ∈ us ↔ x ∈ l
  len : us.length ≤ l.length
theorem Once.nil {α : Type} : Once ([] : List α) [] := ⟨List.nodup_nil, fun _ => Iff.rfl, Nat.le_refl _⟩
theorem Once.snoc {α : Type} [DecidableEq α] {us l : List α} (o : Once us l) (u : α) : Once (if u ∈ us then us else us ++ [u]) (l ++ [u]) := by
  by_cases h : u ∈ us
  · rw [if_pos h]
    refine ⟨o.nd, fun x => ?_, by rw [List.length_append]; exact Nat.le_trans o.len (Nat.le_add_right _ _)⟩
    rw [List.mem_append, o.mem, List.mem_singleton]
    refine ⟨.inl, fun z => z.elim id fun e => ?_⟩
    rw [e]
    exact (o.mem u).mp h
  · rw [if_neg h]
    refine ⟨nd_snoc o.nd h, fun x => ?_, by rw [List.length_append, List.length_append]; exact Nat.add_le_add_right o.len 1⟩
    rw [List.mem_append, List.mem_append, o.mem]
theorem take_snoc {α : Type} : ∀ {l : List α} {i : Nat} {x : α}, l[i]? = some x → l.take (i + 1) = l.take i ++ [x]
  | [], i, x, h => by simp at h
  | a :: l, 0, x, h => by
    have e : a = x := Option.some.inj h
    rw [← e]
    rfl
  | a :: l, i + 1, x, h => by
    show a :: l.take (i + 1) = a :: (l.take i ++ [x])
    rw [take_snoc (l := l) (i := i) (x := x) h]
/-- strictly ascending texts: by their signs -/
def SLt (x y : Str) : Prop := x.cps.toList < y.cps.toList
def AscS (ws : List Str) : Prop := ws.Pairwise SLt
def AscI (ns : List Int) : Prop := ns.Pairwise (· < ·)
theorem tl_inj {x y : Str} (h : x.cps.toList = y.cps.toList) : x = y := by
  obtain ⟨⟨a⟩⟩ := x
  obtain ⟨⟨b⟩⟩ := y
  have h : a = b := h
  rw [h]
theorem SLt.trans {x y z : Str} (h1 : SLt x y) (h2 : SLt y z) : SLt x z := List.lt_trans h1 h2
theorem SLt.irrefl (x : Str) : ¬ SLt x x := List.lt_irrefl _
theorem SLt.tri (x y : Str) (h1 : ¬ SLt y x) (ne : x ≠ y) : SLt x y := by
  have h2 : x.cps.toList ≤ y.cps.toList := h1
  rcases List.le_iff_lt_or_eq.mp h2 with h | h
  · exact h
  · exact absurd (tl_inj h) ne
theorem asc_of_rising : ∀ (l : List Str) (p : Str), PyProof.Rows.risingS p l = true → (p :: l).Nodup → AscS (p :: l)
  | [], p, _, _ => List.pairwise_singleton ..
  | x :: r, p, h, nd => by
    have h : (!PySem.Spec.ltCps x.cps.toList p.cps.toList && PyProof.Rows.risingS x r) = true := h
    obtain ⟨h1, h2⟩ := Bool.and_eq_true_iff.mp h
    obtain ⟨n1, n2⟩ := List.nodup_cons.mp nd
    have ih := asc_of_rising r x h2 n2
    have hpx : SLt p x := by
      refine SLt.tri p x (fun z => ?_) (fun e => n1 (by rw [e]; exact List.mem_cons_self))
      rw [ltCps_eq, decide_eq_true (show x.cps.toList < p.cps.toList from z)] at h1
      cases h1
    refine List.pairwise_cons.mpr ⟨fun y hy => ?_, ih⟩
    rcases List.mem_cons.mp hy with e | hy
    · rw [e]
      exact hpx
    · exact hpx.trans ((List.pairwise_cons.mp ih).1 y hy)
theorem asc_of_sorted {l : List Str} (h : sortedS l = true) (nd : l.Nodup) : AscS l := by
  cases l with
  | nil => exact List.Pairwise.nil
  | cons x r => exact asc_of_rising r x h nd
theorem ascI_of {l : List Int} (h : l.Pairwise (· ≤ ·)) (nd : l.Nodup) : AscI l := by
  have nd2 : l.Pairwise (· ≠ ·) := nd
  exact (List.pairwise_and_iff.mpr ⟨h, nd2⟩).imp fun ⟨a, b⟩ => by omega
/-- what is strictly ascending is told by its members -/
theorem asc_unique {α : Type} {R : α → α → Prop} (irr : ∀ x, ¬ R x x) (tr : ∀ x y z, R x y → R y z → R x z) : ∀ (a b : List α), a.Pairwise R → b.Pairwise R → (∀ x, x ∈ a ↔ x ∈ b) → a = b
  | [], [], _, _, _ => rfl
  | [], y :: b, _, _, h => absurd ((h y).mpr List.mem_cons_self) (by simp)
  | x :: a, [], _, _, h => absurd ((h x).mp List.mem_cons_self) (by simp)
  | x :: a, y :: b, pa, pb, h => by
    obtain ⟨ha, pa'⟩ := List.pairwise_cons.mp pa
    obtain ⟨hb, pb'⟩ := List.pairwise_cons.mp pb
    have exy : x = y := by
      rcases List.mem_cons.mp ((h x).mp List.mem_cons_self) with e | hx
      · exact e
      · rcases List.mem_cons.mp ((h y).mpr List.mem_cons_self) with e | hy
        · exact e.symm
        · exact absurd (tr _ _ _ (hb x hx) (ha y hy)) (irr y)
    subst exy
    have hm : ∀ z, z ∈ a ↔ z ∈ b := fun z => by
      constructor
      · intro hz
        rcases List.mem_cons.mp ((h z).mp (List.mem_cons_of_mem _ hz)) with e | q
        · rw [e] at hz
          exact absurd (ha x hz) (irr x)
        · exact q
      · intro hz
        rcases List.mem_cons.mp ((h z).mpr (List.mem_cons_of_mem _ hz)) with e | q
        · rw [e] at hz
          exact absurd (hb x hz) (irr x)
        · exact q
    rw [asc_unique irr tr a b pa' pb' hm]
theorem ascS_unique {a b : List Str} (ha : AscS a) (hb : AscS b) (h : ∀ x, x ∈ a ↔ x ∈ b) : a = b := asc_unique SLt.irrefl (fun _ _ _ => SLt.trans) a b ha hb h
theorem ascI_unique {a b : List Int} (ha : AscI a) (hb : AscI b) (h : ∀ x, x ∈ a ↔ x ∈ b) : a = b := asc_unique (fun x => Int.lt_irrefl x) (fun _ _ _ => Int.lt_trans) a b ha hb h
end Sw
namespace Sw
open PySem PySem.Spec PyProof.Rows L2
structure Blt2 (mg : Str → Option Value) : Prop where
  tuple : mg "tuple" = none
  sorted : mg "sorted" = none
  str : mg "str" = none
  int : mg "int" = none
theorem bTuple : bootBuiltins "tuple" = some (.type "tuple") := by decide +kernel
theorem bSorted : bootBuiltins "sorted" = some (.builtin "sorted") := by decide +kernel
theorem bStr : bootBuiltins "str" = some (.type "str") := by decide +kernel
/-- words to be had at a: a list, a tuple, a dict's keys -/
def Words (K : PySem.W.Frag) (H : Hp) (a : Addr) (ws : List Str) : Prop :=
  (SqL K H a (ws.map V.str) ∨ SqT K H a (ws.map V.str)) ∨ ∃ kvs : List (Key × V), H a = some (.dK kvs) ∧ kvs.map (·.1) = ws.map Sum.inr
/-- ascending(words) -/
def spAsc (K : PySem.W.Frag) : Sp := fun vs H Q _ => ∃ (a : Addr) (ws : List Str), vs = [.ref a] ∧ Words K H a ws ∧ ws.length < 64 ∧
  ∀ (H' : Hp) (p : Addr) (us : List Str), Same H H' → H p = none → H' p = some (.tup (us.map V.str)) → AscS us → (∀ x, x ∈ us ↔ x ∈ ws) → Q (.ref p) H'
theorem bList : bootBuiltins "list" = some (.type "list") := by decide +kernel
/-- once(things) over texts -/
def spOnce (K : PySem.W.Frag) : Sp := fun vs H Q _ => ∃ (a : Addr) (ws : List Str), vs = [.ref a] ∧ Words K H a ws ∧ ws.length < 64 ∧
  ∀ (H' : Hp) (p : Addr) (us : List Str), Same H H' → H p = none → H' p = some (.lst (us.map V.str)) → Once us ws → Q (.ref p) H'
/-- a value of a dict of values: its key, where it stands, its words -/
abbrev Ent := Key × Addr × List Str
/-- at a: a dict of lists or tuples of words -/
structure LDict (K : PySem.W.Frag) (H : Hp) (a : Addr) (es : List Ent) : Prop where
  at_ : H a = some (.dK (es.map fun e => (e.1, V.ref e.2.1)))
  nd : (es.map (·.1)).Nodup
  len : es.length ≤ 100
  all : ∀ e ∈ es, (SqL K H e.2.1 (e.2.2.map V.str) ∨ SqT K H e.2.1 (e.2.2.map V.str)) ∧ e.2.2.length < 64
/-- at a: a dict of ascending tuples of words -/
structure TDict (H : Hp) (a : Addr) (rs : List Ent) : Prop where
  at_ : H a = some (.dK (rs.map fun e => (e.1, V.ref e.2.1)))
  all : ∀ r ∈ rs, H r.2.1 = some (.tup (r.2.2.map V.str)) ∧ AscS r.2.2
/-- with the same keys, and the same words -/
def Alike (es rs : List Ent) : Prop := Paired (fun (e r : Ent) => r.1 = e.1 ∧ ∀ x, x ∈ r.2.2 ↔ x ∈ e.2.2) es rs
/-- with_ascending(values) -/
def spWA (K : PySem.W.Frag) : Sp := fun vs H Q _ => ∃ (v : V) (es : List Ent), vs = [v] ∧ ((v = .non ∧ es = []) ∨ ∃ a, v = .ref a ∧ LDict K H a es) ∧
  ∀ (H' : Hp) (d : Addr) (rs : List Ent), Same H H' → H d = none → TDict H' d rs → Alike es rs → Q (.ref d) H'
theorem TDict.same {H H' : Hp} {a : Addr} {rs : List Ent} (t : TDict H a rs) (s : Same H H') : TDict H' a rs := ⟨s _ _ t.at_, fun r hr => ⟨s _ _ (t.all r hr).1, (t.all r hr).2⟩⟩
theorem Alike.keys {es rs : List Ent} (h : Alike es rs) : rs.map (·.1) = es.map (·.1) := by
  unfold Alike at h
  induction h with
  | nil => rfl
  | cons h _ ih => rw [List.map_cons, List.map_cons, ih, h.1]
theorem Alike.snoc {es rs : List Ent} {e r : Ent} (h : Alike es rs) (h1 : r.1 = e.1) (h2 : ∀ x, x ∈ r.2.2 ↔ x ∈ e.2.2) : Alike (es ++ [e]) (rs ++ [r]) := by
  unfold Alike at h ⊢
  induction h with
  | nil => exact .cons ⟨h1, h2⟩ .nil
  | cons a _ ih => exact .cons a ih
theorem valV_of_nd {κ : Type} [DecidableEq κ] : ∀ {kvs : List (κ × V)} {k : κ} {v : V}, (kvs.map (·.1)).Nodup → (k, v) ∈ kvs → valV kvs k = some v
  | [], _, _, _, h => (nomatch h)
  | p :: r, k, v, nd, h => by
    have nd : (p.1 :: r.map (·.1)).Nodup := nd
    obtain ⟨n1, n2⟩ := List.nodup_cons.mp nd
    rcases List.mem_cons.mp h with e | h
    · rw [← e]
      exact valV_pos (p := (k, v)) rfl
    · rw [valV_neg fun e => n1 (by rw [e]; exact List.mem_map.mpr ⟨_, h, rfl⟩)]
      exact valV_of_nd n2 h
theorem sqL_lock {K : PySem.W.Frag} {H : Hp} {a la : Addr} {o : HO} {kvs : List (Key × V)} {xs : List V} (ha : H a = some (.dK kvs)) (h : SqL K H la xs) : SqL K (upd H a o) la xs := by
  rcases h with (h | ⟨u, h⟩) | h
  · exact .inl (.inl (by rw [upd_ne (ne_of h ha (fun z => nomatch z))]; exact h))
  · exact .inl (.inr ⟨u, by rw [upd_ne (ne_of h ha (fun z => nomatch z))]; exact h⟩)
  · exact .inr h
theorem sqT_lock {K : PySem.W.Frag} {H : Hp} {a la : Addr} {o : HO} {kvs : List (Key × V)} {xs : List V} (ha : H a = some (.dK kvs)) (h : SqT K H la xs) : SqT K (upd H a o) la xs := by
  rcases h with (h | ⟨u, h⟩) | h
  · exact .inl (.inl (by rw [upd_ne (ne_of h ha (fun z => nomatch z))]; exact h))
  · exact .inl (.inr ⟨u, by rw [upd_ne (ne_of h ha (fun z => nomatch z))]; exact h⟩)
  · exact .inr h
/-- behind the lock all is as it was, and what came new -/
theorem unlock_same {H H' : Hp} {a : Addr} {u w : HO} (ha : H a = some u) (s : Same (upd H a w) H') : Same H (upd H' a u) := fun b o e => by
  by_cases hb : b = a
  · rw [hb, upd_same]
    rw [hb, ha] at e
    exact e
  · rw [upd_ne hb]
    exact s b o (by rw [upd_ne hb]; exact e)
end Sw
namespace Sw
open PySem PySem.Spec PyProof.Rows L2
section
variable {X : Cx}
/-- y = {k: v for .. in ..} on one row, y a local name -/
theorem ps_setDc {i : Nat} {y : Str} {py : Pos} {kx vx tg iter : Expr} {ifs : List Expr} {scope : Scope} {own : List (Str × Nat)} {pos spos : Pos} {wi : TI} {g : TG} {tt : TT} {tk tv : TE} (hc : X.calm = true) (hN : X.N.Nodup) (hy : X.N[i]? = some y) (hyl : X.env.scope.names.lookup y = some .local)
    (hsw : swapsWith (.DictComp kx vx [⟨tg, iter, ifs, 0⟩] scope pos) (some (.Name y py)) spos.line X.env = pure true) (hi : PI X tg iter wi) (ok : BlkOk X.N X.env.scope scope own)
    (hg : ∀ (s : Shared) (H : Hp) (C : Addr) (cl : List (Str × Addr)) (fp : List Addr), PG (X.blk s H scope (compEnvC scope cl C X.env) fp) tg g) (ht : ∀ (s : Shared) (H : Hp) (C : Addr) (cl : List (Str × Addr)) (fp : List Addr), PTs (X.blk s H scope (compEnvC scope cl C X.env) fp) ifs tt) (hk : ∀ (s : Shared) (H : Hp) (C : Addr) (cl : List (Str × Addr)) (fp : List Addr), PE (X.blk s H scope (compEnvC scope cl C X.env) fp) kx tk)
    (he : ∀ (s : Shared) (H : Hp) (C : Addr) (cl : List (Str × Addr)) (fp : List Addr), PE (X.blk s H scope (compEnvC scope cl C X.env) fp) vx tv) (hs : ∀ x, foldedSetIterable iter X.env x = pure x := by intro _; rfl) :
    PS X (.Assign [.Name y py] (.DictComp kx vx [⟨tg, iter, ifs, 0⟩] scope pos) spos) (tAsg (tDc wi g tt tk tv (own.map (·.2))) (gName i)) := by
  refine ⟨fun pins s σ H D I h => ?_⟩
  have hw : tDc wi g tt tk tv (own.map (·.2)) σ H (fun x H1 => gName i x σ H1 D.nx) := h
  rw [exec_Assign_Name_used _ _ _ _ hsw]
  refine wpAny_bind (wpAny_standAt (wpAny_bind (?_ : wpAny _ X.A (do let _ ← comprehension (.DictComp kx vx [⟨tg, iter, ifs, 0⟩] scope pos) scope X.env (firstIterPos [⟨tg, iter, ifs, 0⟩] pos) newDict false (eval iter X.env) (some (assign (.Name y py) X.env))) _ _ s)))
  refine wpAny_bind (thn (dc_core (Qf := fun _ s' => SP X pins D .next s') hc hN I hi ok hg ht hk he hs hw fun L C s' m H' I' q hn f => ?_) fun _ s' hq => wpAny_pure (wpAny_pure hq))
  refine (wpAny_assign_Name (store_ok2 (v := V.ref L) I' hN hy (.inl hyl) rfl (fun s2 I2 ⟨a, sb, ha⟩ => ?_) (.inr hyl)) : wpAny _ _ (assign (.Name y py) X.env (.ref L)) _ _ _)
  obtain ⟨f0, f1, f2, f3, f4, f5⟩ := f
  have hCa : C ≠ a := ha.elim (fun z => by rw [z]; exact f1) fun z e => f4 y a z e.symm
  exact ⟨m, hn.sameBut sb hCa, fun h3 sb3 => ⟨_, H', I2.turned (t' := s2.toks) (fun b o hb e => (sb3.2 b hb).trans e) f0 f1 f3 f4 f5, q⟩⟩
theorem sw_dict {kx vx : Expr} {gs : List Comprehension} {scope : Scope} {pos py : Pos} {y : Str} {l : Nat} {env : Env} (hk : env.scope.kind = .function) (hy : env.scope.names.lookup y = some .local) (hl : (py.line == pos.line) = true)
    (ha : (scope.names.any fun (n, k) => n == y && (k == .local || k == .cell)) = false) : swapsWith (.DictComp kx vx gs scope pos) (some (.Name y py)) l env = pure true := by
  have hky : env.kindOf y = some .local := hy
  have hbk : env.blockKind = .function := by
    unfold Env.blockKind
    rw [hk] <;> rfl
  unfold swapsWith
  simp only [hbk, hky, ha, Expr.pos, hl] <;> rfl
end
end Sw
/-! ## comprehensions of one name -/
namespace Sw
open PySem PySem.Spec PyProof.Rows L2
theorem same_seqT {K : PySem.W.Frag} {H H' : Hp} {a : Addr} {xs : List V} (e : Same H H') (h : SqT K H a xs) : SqT K H' a xs := by
  rcases h with (h | ⟨o, h⟩) | h
  · exact .inl (.inl (e _ _ h))
  · exact .inl (.inr ⟨o, e _ _ h⟩)
  · exact .inr h
theorem wipe_set (σ : L2.St) (j : Nat) (x : Option V) : wipe ((wipe σ [j]).set j x) [j] = wipe σ [j] := by
  show (((σ.set j none).set j x).set j none) = σ.set j none
  rw [List.set_set, List.set_set]
theorem wipe_var {σ : L2.St} {j : Nat} (h : j < σ.length) (x : V) : ((wipe σ [j]).set j (some x))[j]? = some (some x) := by
  rw [List.getElem?_set_self]
  show j < (σ.set j none).length
  rw [List.length_set]
  exact h
/-- {x: True for x in ..} -/
theorem dc_once {J : It} {α : Type} [DecidableEq α] {f : α → Key} (inj : ∀ a b, f a = f b → a = b) {l : List α} {G : Hp → Prop} (w : Walk J l.length G (fun i H x H' => H' = H ∧ ∃ u, l[i]? = some u ∧ x = kV (f u))) {j : Nat} {σ : L2.St} (hj : j < σ.length)
    {H1 : Hp} {D : Addr} {Qd : Hp → Prop} (hG : ∀ o, G (upd H1 D o)) (hl : l.length ≤ 1000) (hd : ∀ us, Once us l → Qd (upd H1 D (.dK (onceK f us)))) :
    ∃ W : Nat → Nat → Hp → Prop, (∃ m, W 0 m (upd H1 D (.dK []))) ∧ ∀ i m H, W i m H →
      (J.stop i H ∧ Qd H) ∨ (J.go i H ∧ ∃ Nx : Hp → Prop, (∀ H', Nx H' → ∃ m', m' < m ∧ W (i + 1) m' H') ∧ ∀ x H', J.yld i H x H' → gName j x (wipe σ [j]) H' fun σ2 H2 => wipe σ2 [j] = wipe σ [j] ∧ tYes σ2 H2 fun b H3 =>
        if b = true then tVar j σ2 H3 fun y H4 => tC (.bl true) σ2 H4 fun z H5 => ∃ kvs k, y = kV k ∧ H5 D = some (.dK kvs) ∧ kvs.length < sizeLine ∧ Nx (upd H5 D (.dK (putK kvs k z))) else Nx H3) := by
  refine ⟨fun i m H => m = l.length - i ∧ i ≤ l.length ∧ ∃ us, Once us (l.take i) ∧ H = upd H1 D (.dK (onceK f us)), ⟨l.length, rfl, Nat.zero_le _, [], Once.nil, rfl⟩, ?_⟩
  rintro i m H ⟨rfl, hi, us, o, rfl⟩
  by_cases hlt : i < l.length
  · refine .inr ⟨w.goes i _ hlt (hG _), fun H' => ∃ us, Once us (l.take (i + 1)) ∧ H' = upd H1 D (.dK (onceK f us)), fun H' ⟨us', o', e⟩ => ⟨l.length - (i + 1), by omega, rfl, hlt, us', o', e⟩, fun x H' y => ?_⟩
    obtain ⟨rfl, u, hu, rfl⟩ := w.yields i _ _ _ hlt (hG _) y
    refine ⟨wipe_set σ j _, ?_⟩
    refine ⟨kV (f u), wipe_var hj _, onceK f us, f u, rfl, upd_same, ?_, if u ∈ us then us else us ++ [u], ?_, ?_⟩
    · unfold onceK
      rw [List.length_map]
      refine Nat.lt_of_le_of_lt o.len ?_
      rw [List.length_take]
      exact Nat.lt_of_le_of_lt (Nat.min_le_right _ _) (small1000 hl)
    · rw [take_snoc hu]
      exact o.snoc u
    · rw [onceK_put inj, upd_upd]
  · have e : i = l.length := by omega
    subst e
    rw [List.take_length] at o
    exact .inl ⟨w.stops _ (hG _), hd us o⟩
/-- {k: v for x in ..}: what holds by the turn and the heap, the new dict at D within -/
theorem dc_it {J : It} {n : Nat} {G : Hp → Prop} {Y : Nat → Hp → V → Hp → Prop} (w : Walk J n G Y) {g : TG} {tt : TT} {tk tv : TE} {vs : List Nat} {σ : L2.St} {H1 : Hp} {D : Addr} {Qd : Hp → Prop} (Pv : Nat → Hp → Prop) (h0 : Pv 0 (upd H1 D (.dK []))) (hG : ∀ i H, i ≤ n → Pv i H → G H)
    (hs : ∀ i x H H', i < n → Pv i H → Y i H x H' → g x (wipe σ vs) H' fun σ2 H2 => wipe σ2 vs = wipe σ vs ∧ tt σ2 H2 fun b H3 =>
      if b = true then tk σ2 H3 fun y H4 => tv σ2 H4 fun z H5 => ∃ kvs k, y = kV k ∧ H5 D = some (.dK kvs) ∧ kvs.length < sizeLine ∧ Pv (i + 1) (upd H5 D (.dK (putK kvs k z))) else Pv (i + 1) H3) (hd : ∀ H, Pv n H → Qd H) :
    ∃ W : Nat → Nat → Hp → Prop, (∃ m, W 0 m (upd H1 D (.dK []))) ∧ ∀ i m H, W i m H →
      (J.stop i H ∧ Qd H) ∨ (J.go i H ∧ ∃ Nx : Hp → Prop, (∀ H', Nx H' → ∃ m', m' < m ∧ W (i + 1) m' H') ∧ ∀ x H', J.yld i H x H' → g x (wipe σ vs) H' fun σ2 H2 => wipe σ2 vs = wipe σ vs ∧ tt σ2 H2 fun b H3 =>
        if b = true then tk σ2 H3 fun y H4 => tv σ2 H4 fun z H5 => ∃ kvs k, y = kV k ∧ H5 D = some (.dK kvs) ∧ kvs.length < sizeLine ∧ Nx (upd H5 D (.dK (putK kvs k z))) else Nx H3) := by
  refine ⟨fun i m H => m = n - i ∧ i ≤ n ∧ Pv i H, ⟨n, rfl, Nat.zero_le _, h0⟩, ?_⟩
  rintro i m H ⟨rfl, hi, p⟩
  by_cases hlt : i < n
  · exact .inr ⟨w.goes i H hlt (hG i H hi p), Pv (i + 1), fun H' p' => ⟨n - (i + 1), by omega, rfl, hlt, p'⟩, fun x H' y => hs i x H H' hlt p (w.yields i H x H' hlt (hG i H hi p) y)⟩
  · obtain rfl : i = n := by omega
    exact .inl ⟨w.stops H (hG i H hi p), hd H p⟩
/-- [out(x) for x in ..], where out reads alone -/
theorem lc_pure {J : It} {α : Type} {val out : α → V} {l : List α} {G : Hp → Prop} (w : Walk J l.length G (fun i H x H' => H' = H ∧ ∃ u, l[i]? = some u ∧ x = val u)) {te : TE} {j : Nat} {σ : L2.St}
    {H1 : Hp} {D : Addr} {Qd : Hp → Prop} (hG : ∀ o, G (upd H1 D o)) (hl : l.length ≤ 1000)
    (ht : ∀ (i : Nat) (u : α) (acc : List V) (Q : VK), l[i]? = some u → Q (out u) (upd H1 D (.lst acc)) → te ((wipe σ [j]).set j (some (val u))) (upd H1 D (.lst acc)) Q) (hd : Qd (upd H1 D (.lst (l.map out)))) :
    ∃ W : Nat → Nat → Hp → Prop, (∃ m, W 0 m (upd H1 D (.lst []))) ∧ ∀ i m H, W i m H →
      (J.stop i H ∧ Qd H) ∨ (J.go i H ∧ ∃ Nx : Hp → Prop, (∀ H', Nx H' → ∃ m', m' < m ∧ W (i + 1) m' H') ∧ ∀ x H', J.yld i H x H' → gName j x (wipe σ [j]) H' fun σ2 H2 => wipe σ2 [j] = wipe σ [j] ∧ tYes σ2 H2 fun b H3 =>
        if b = true then te σ2 H3 fun y H4 => ∃ acc, H4 D = some (.lst acc) ∧ acc.length < sizeLine ∧ Nx (upd H4 D (.lst (acc ++ [y]))) else Nx H3) := by
  refine ⟨fun i m H => m = l.length - i ∧ i ≤ l.length ∧ H = upd H1 D (.lst ((l.take i).map out)), ⟨l.length, rfl, Nat.zero_le _, rfl⟩, ?_⟩
  rintro i m H ⟨rfl, hi, rfl⟩
  by_cases hlt : i < l.length
  · refine .inr ⟨w.goes i _ hlt (hG _), fun H' => H' = upd H1 D (.lst ((l.take (i + 1)).map out)), fun H' e => ⟨l.length - (i + 1), by omega, rfl, hlt, e⟩, fun x H' y => ?_⟩
    obtain ⟨rfl, u, hu, rfl⟩ := w.yields i _ _ _ hlt (hG _) y
    refine ⟨wipe_set σ j _, ?_⟩
    refine ht i u _ _ hu ⟨_, upd_same, ?_, ?_⟩
    · rw [List.length_map, List.length_take]
      exact Nat.lt_of_le_of_lt (Nat.min_le_right _ _) (small1000 hl)
    · rw [take_snoc hu, List.map_append, upd_upd]
      rfl
  · have e : i = l.length := by omega
    subst e
    rw [List.take_length]
    exact .inl ⟨w.stops _ (hG _), hd⟩
/-- walks that give what a list of data stands for -/
theorem YAt.of {α : Type} {val : α → V} {l : List α} {xs : List V} (e : xs = l.map val) : ∀ (i : Nat) (H : Hp) (x : V) (H' : Hp), YAt xs i H x H' → H' = H ∧ ∃ u, l[i]? = some u ∧ x = val u := by
  rintro i H x H' ⟨h1, h2⟩
  rw [e, List.getElem?_map] at h2
  cases hu : l[i]? with
  | none => rw [hu] at h2; cases h2
  | some u =>
    rw [hu] at h2
    exact ⟨h1, u, rfl, (Option.some.inj h2).symm⟩
section
variable {K : PySem.W.Frag} {a d : Addr} {o : Obj} {α : Type} {l : List α}
theorem wk_list {val : α → V} : Walk (Itl K a) l.length (fun H => SqL K H a (l.map val)) (fun i H x H' => H' = H ∧ ∃ u, l[i]? = some u ∧ x = val u) := by
  have w := walk_list (K := K) (a := a) (xs := l.map val)
  rw [List.length_map] at w
  exact w.mono (fun _ h => h) fun i H x H' _ _ y => YAt.of rfl i H x H' y
theorem wk_tup {val : α → V} : Walk (Itt K a) l.length (fun H => SqT K H a (l.map val)) (fun i H x H' => H' = H ∧ ∃ u, l[i]? = some u ∧ x = val u) := by
  have w := walk_tup (K := K) (a := a) (xs := l.map val)
  rw [List.length_map] at w
  exact w.mono (fun _ h => h) fun i H x H' _ _ y => YAt.of rfl i H x H' y
theorem wk_keys {f : α → Key} {kvs : List (Key × V)} (e : kvs.map (·.1) = l.map f) : Walk (Itk d o kvs) l.length (fun H => H d = some (.frz o (.dK kvs))) (fun i H x H' => H' = H ∧ ∃ u, l[i]? = some u ∧ x = kV (f u)) := by
  have w := walk_keys (d := d) (o := o) (kvs := kvs)
  have hl : kvs.length = l.length := by
    have z := congrArg List.length e
    rw [List.length_map, List.length_map] at z
    exact z
  rw [hl] at w
  refine w.mono (fun _ h => h) fun i H x H' _ _ y => ?_
  obtain ⟨h1, k, v, h2, rfl⟩ := y
  have h3 : (kvs.map (·.1))[i]? = some k := by
    rw [List.getElem?_map, h2]
    rfl
  rw [e, List.getElem?_map] at h3
  cases hu : l[i]? with
  | none => rw [hu] at h3; cases h3
  | some u =>
    rw [hu] at h3
    exact ⟨h1, u, rfl, by rw [← Option.some.inj h3]⟩
end
end Sw
namespace Sw
open PySem PySem.Spec PyProof.Rows L2
/-- what is known between two statements is said once -/
def tMid (t u : TS) : TS := fun D σ H => ∃ Mid : L2.St → Hp → Prop, t { D with nx := Mid } σ H ∧ ∀ σ' H', Mid σ' H' → u D σ' H'
theorem pss_mid {X : Cx} {st : Stmt} {rest : List Stmt} {t u : TS} (h1 : PS X st t) (h2 : PSs X rest u) : PSs X (st :: rest) (tMid t u) := by
  refine ⟨fun pins s σ H D I hw => ?_⟩
  obtain ⟨Mid, ht, hu⟩ := hw
  refine wpAny_execs_cons (thn (h1.run pins s σ H { D with nx := Mid } I ht) fun f s1 q => ?_)
  cases f with
  | next => exact q.elim fun σ' q => q.elim fun H' q => h2.run pins s1 σ' H' D q.1 (hu σ' H' q.2)
  | ret _ => exact q
  | brk => exact q
  | cont => exact q
/-- a thing that was locked while something new was made -/
theorem unlock_new {H : Hp} {a D : Addr} {u w o : HO} (ha : H a = some u) (hD : upd H a w D = none) : upd (upd (upd H a w) D o) a u = upd H D o := by
  have ne : a ≠ D := ne_of_none upd_same hD
  funext b
  by_cases hb : b = a
  · rw [hb, upd_same, upd_ne ne, ha]
  · rw [upd_ne hb]
    by_cases hd : b = D
    · rw [hd, upd_same, upd_same]
    · rw [upd_ne hd, upd_ne hd, upd_ne hb]
theorem free_lock {H : Hp} {a D : Addr} {u w : HO} (ha : H a = some u) (hD : upd H a w D = none) : H D = none := by
  have ne : a ≠ D := ne_of_none upd_same hD
  rw [upd_ne ne.symm] at hD
  exact hD
end Sw
namespace Sw
open PySem PySem.Spec PyProof.Rows L2
/-- a table's fields -/
def tabF (nm : Str) (wd : Int) (k l r : Addr) : List (Str × V) := [("name", .str nm), ("width", .int wd), ("key", .ref k), ("lists", .ref l), ("refers", .ref r)]
/-- at x: a table; its key, its lists, its references -/
structure TabAt (K : PySem.W.Frag) (CT : Addr) (H : Hp) (x : Addr) (nm : Str) (wd : Int) (ks : List Int) (ts : List Ent) (rs : List V) : Prop where
  ex : ∃ dx kA lA rA, H x = some (.ins CT dx (tabF nm wd kA lA rA)) ∧ H kA = some (.tup (ks.map V.int)) ∧ TDict H lA ts ∧ SqT K H rA rs
  ks : AscI ks
/-- what the class Table is -/
structure TabC (K : PySem.W.Frag) (CT : Addr) : Prop where
  cl : Cls K CT
  n1 : NoAttr K CT "name"
  n2 : NoAttr K CT "width"
  n3 : NoAttr K CT "key"
  n4 : NoAttr K CT "lists"
  n5 : NoAttr K CT "refers"
/-- all that H knows, but x, is as it was; an empty instance turned into a table -/
def spTab (K : PySem.W.Frag) (CT : Addr) : Sp := fun vs H Q _ => ∃ (x dx kA rA : Addr) (nm : Str) (wd : Int) (ks : List Int) (lv : V) (es : List Ent) (rs : List V), vs = [.ref x, .str nm, .int wd, .ref kA, lv, .ref rA] ∧
  H x = some (.ins CT dx []) ∧ SqT K H kA (ks.map V.int) ∧ ks.length ≤ 100 ∧ ((lv = .non ∧ es = []) ∨ ∃ a, lv = .ref a ∧ LDict K H a es) ∧ SqT K H rA rs ∧
  ∀ (H' : Hp) (ks' : List Int) (ts : List Ent), SBut x H H' → TabAt K CT H' x nm wd ks' ts rs → (∀ z, z ∈ ks' ↔ z ∈ ks) → Alike es ts → Q .non H'
/-- the same, and its dict of lists is new -/
def spTabN (K : PySem.W.Frag) (CT : Addr) : Sp := fun vs H Q _ => ∃ (x dx kA rA : Addr) (nm : Str) (wd : Int) (ks : List Int) (lv : V) (es : List Ent) (rs : List V), vs = [.ref x, .str nm, .int wd, .ref kA, lv, .ref rA] ∧
  H x = some (.ins CT dx []) ∧ SqT K H kA (ks.map V.int) ∧ ks.length ≤ 100 ∧ ((lv = .non ∧ es = []) ∨ ∃ a, lv = .ref a ∧ LDict K H a es) ∧ SqT K H rA rs ∧
  ∀ (H' : Hp) (ks' : List Int) (ts : List Ent), SBut x H H' → TabAt K CT H' x nm wd ks' ts rs → (∀ z, z ∈ ks' ↔ z ∈ ks) → Alike es ts → (∀ dy kB lB rB, H' x = some (.ins CT dy (tabF nm wd kB lB rB)) → H lB = none) → Q .non H'
theorem spTabN_of {K : PySem.W.Frag} {CT : Addr} {vs : List V} {H : Hp} {Q : VK} {E : XK} (h : spTab K CT vs H Q E) : spTabN K CT vs H Q E :=
  let ⟨x, dx, kA, rA, nm, wd, ks, lv, es, rs, h1, h2, h3, h4, h5, h6, q⟩ := h
  ⟨x, dx, kA, rA, nm, wd, ks, lv, es, rs, h1, h2, h3, h4, h5, h6, fun H' ks' ts a b c d _ => q H' ks' ts a b c d⟩
theorem SqT.but {K : PySem.W.Frag} {H H' : Hp} {x a : Addr} {xs : List V} (e : SBut x H H') (h : SqT K H a xs) (hx : ∀ o : HO, H x = some o → (∀ ys, o ≠ .tup ys) ∧ ∀ u ys, o ≠ .frz u (.tup ys)) : SqT K H' a xs := by
  rcases h with (h | ⟨o, h⟩) | h
  · exact .inl (.inl (e _ _ (fun z => (hx _ (by rw [← z]; exact h)).1 _ rfl) h))
  · exact .inl (.inr ⟨o, e _ _ (fun z => (hx _ (by rw [← z]; exact h)).2 _ _ rfl) h⟩)
  · exact .inr h
theorem SqL.but {K : PySem.W.Frag} {H H' : Hp} {x a : Addr} {xs : List V} (e : SBut x H H') (h : SqL K H a xs) (hx : ∀ o : HO, H x = some o → (∀ ys, o ≠ .lst ys) ∧ ∀ u ys, o ≠ .frz u (.lst ys)) : SqL K H' a xs := by
  rcases h with (h | ⟨o, h⟩) | h
  · exact .inl (.inl (e _ _ (fun z => (hx _ (by rw [← z]; exact h)).1 _ rfl) h))
  · exact .inl (.inr ⟨o, e _ _ (fun z => (hx _ (by rw [← z]; exact h)).2 _ _ rfl) h⟩)
  · exact .inr h
theorem LDict.but {K : PySem.W.Frag} {H H' : Hp} {x a C dx : Addr} {fs : List (Str × V)} {es : List Ent} (h : LDict K H a es) (e : SBut x H H') (hx : H x = some (.ins C dx fs)) : LDict K H' a es := by
  refine ⟨e _ _ (ne_of h.at_ hx (fun z => nomatch z)) h.at_, h.nd, h.len, fun r hr => ⟨?_, (h.all r hr).2⟩⟩
  rcases (h.all r hr).1 with z | z
  · exact .inl (SqL.but e z fun o ho => by rw [hx] at ho; cases ho; exact ⟨fun _ y => (nomatch y), fun _ _ y => (nomatch y)⟩)
  · exact .inr (SqT.but e z fun o ho => by rw [hx] at ho; cases ho; exact ⟨fun _ y => (nomatch y), fun _ _ y => (nomatch y)⟩)
theorem sqT_ins {K : PySem.W.Frag} {H H' : Hp} {x a C dx : Addr} {fs : List (Str × V)} {xs : List V} (h : SqT K H a xs) (e : SBut x H H') (hx : H x = some (.ins C dx fs)) : SqT K H' a xs :=
  SqT.but e h fun o ho => by rw [hx] at ho; cases ho; exact ⟨fun _ y => (nomatch y), fun _ _ y => (nomatch y)⟩
theorem SBut.step {x : Addr} {H H1 : Hp} {o : HO} (h : SBut x H H1) : SBut x H (upd H1 x o) := fun b u hb e => by
  rw [upd_ne hb]
  exact h b u hb e
theorem SBut.same {x : Addr} {H H1 H2 : Hp} (h : SBut x H H1) (s : Same H1 H2) : SBut x H H2 := fun b u hb e => s _ _ (h b u hb e)
theorem putF_new {f : Str} {v : V} : ∀ {fs : List (Str × V)}, (∀ p ∈ fs, p.1 ≠ f) → putF f v fs = fs ++ [(f, v)]
  | [], _ => rfl
  | p :: r, h => by
    show (if p.1 = f then _ else p :: putF f v r) = _
    rw [if_neg (h p List.mem_cons_self), putF_new fun q hq => h q (List.mem_cons_of_mem _ hq)]
    rfl
end Sw
namespace Sw
open PySem PySem.Spec PyProof.Rows L2
/-- a table as a schema sees it: its place, its name, where its references lead -/
structure Tb where
  x : Addr
  nm : Str
  zs : List Str
def leads (l : List Tb) (y : Str) : List Str := ((l.find? fun t => decide (t.nm = y)).map Tb.zs).getD []
inductive Rch (l : List Tb) (a : Str) : Str → Prop
  | one {b : Str} : b ∈ leads l a → Rch l a b
  | snoc {b c : Str} : Rch l a b → c ∈ leads l b → Rch l a c
def RefTo (K : PySem.W.Frag) (H : Hp) (v : V) (z : Str) : Prop := ∃ a xs, v = .ref a ∧ SqT K H a xs ∧ xs[1]? = some (.str z)
/-- references that lead to zs -/
structure Lead (K : PySem.W.Frag) (H : Hp) (a : Addr) (rs : List V) (zs : List Str) : Prop where
  at_ : SqT K H a rs
  len : rs.length = zs.length
  sml : zs.length ≤ 100
  all : ∀ (i : Nat) (v : V), rs[i]? = some v → ∃ z, zs[i]? = some z ∧ RefTo K H v z
structure TbAt (K : PySem.W.Frag) (CT : Addr) (H : Hp) (t : Tb) : Prop where
  ex : ∃ dx wd kA lA rA rs, H t.x = some (.ins CT dx (tabF t.nm wd kA lA rA)) ∧ Lead K H rA rs t.zs
def kvT (l : List Tb) : List (Key × V) := l.map fun t => (Sum.inr t.nm, .ref t.x)
/-- at s: a schema whose dict holds kvs, by names -/
def SchemaAt (CS : Addr) (H : Hp) (s : Addr) (kvs : List (Key × V)) : Prop := ∃ dx d, H s = some (.ins CS dx [("named", .ref d)]) ∧ H d = some (.dK kvs)
structure SchAt (K : PySem.W.Frag) (CT CS : Addr) (H : Hp) (S : Addr) (l : List Tb) : Prop where
  ex : SchemaAt CS H S (kvT l)
  tbs : ∀ t ∈ l, TbAt K CT H t
  nd : (l.map Tb.nm).Nodup
  len : l.length ≤ 100
theorem Lead.same {K : PySem.W.Frag} {H H' : Hp} {a : Addr} {rs : List V} {zs : List Str} (h : Lead K H a rs zs) (e : Same H H') : Lead K H' a rs zs :=
  ⟨same_seqT e h.at_, h.len, h.sml, fun i v q => let ⟨z, e1, b, xs, e2, e3, e4⟩ := h.all i v q; ⟨z, e1, b, xs, e2, same_seqT e e3, e4⟩⟩
theorem Lead.but {K : PySem.W.Frag} {H H' : Hp} {a S C dx : Addr} {fs : List (Str × V)} {rs : List V} {zs : List Str} (h : Lead K H a rs zs) (e : SBut S H H') (hx : H S = some (.ins C dx fs)) : Lead K H' a rs zs :=
  ⟨sqT_ins h.at_ e hx, h.len, h.sml, fun i v q => let ⟨z, e1, b, xs, e2, e3, e4⟩ := h.all i v q; ⟨z, e1, b, xs, e2, sqT_ins e3 e hx, e4⟩⟩
theorem TbAt.same {K : PySem.W.Frag} {CT : Addr} {H H' : Hp} {t : Tb} (h : TbAt K CT H t) (e : Same H H') : TbAt K CT H' t := by
  obtain ⟨dx, wd, kA, lA, rA, rs, h1, h2⟩ := h.ex
  exact ⟨dx, wd, kA, lA, rA, rs, e _ _ h1, h2.same e⟩
/-- beside an instance that is no table of this name -/
theorem TbAt.but {K : PySem.W.Frag} {CT S C dS : Addr} {fs : List (Str × V)} {H H' : Hp} {t : Tb} (h : TbAt K CT H t) (e : SBut S H H') (hx : H S = some (.ins C dS fs)) (hl : fs.length ≤ 1) : TbAt K CT H' t := by
  obtain ⟨dx, wd, kA, lA, rA, rs, h1, h2⟩ := h.ex
  refine ⟨dx, wd, kA, lA, rA, rs, e _ _ (fun z => ?_) h1, h2.but e hx⟩
  rw [z, hx] at h1
  have q := congrArg (fun o : Option HO => match o with | some (.ins _ _ f) => f.length | _ => 0) h1
  have q : fs.length = 5 := q
  omega
theorem SchemaAt.same {CS S : Addr} {H H' : Hp} {kvs : List (Key × V)} (h : SchemaAt CS H S kvs) (e : Same H H') : SchemaAt CS H' S kvs := let ⟨a, b, x, y⟩ := h; ⟨a, b, e _ _ x, e _ _ y⟩
theorem SchAt.same {K : PySem.W.Frag} {CT CS S : Addr} {H H' : Hp} {l : List Tb} (h : SchAt K CT CS H S l) (e : Same H H') : SchAt K CT CS H' S l := ⟨h.ex.same e, fun t m => (h.tbs t m).same e, h.nd, h.len⟩
theorem find_nm : ∀ {l : List Tb} {t : Tb}, (l.map Tb.nm).Nodup → t ∈ l → l.find? (fun u => decide (u.nm = t.nm)) = some t
  | [], _, _, h => nomatch h
  | u :: r, t, nd, h => by
    rw [List.find?_cons]
    rcases List.mem_cons.mp h with e | e
    · subst e
      simp
    · have n : u.nm ≠ t.nm := fun z => (List.nodup_cons.mp nd).1 (by rw [z]; exact List.mem_map.mpr ⟨t, e, rfl⟩)
      simp only [n, decide_false]
      exact find_nm (List.nodup_cons.mp nd).2 e
theorem leads_of {l : List Tb} {t : Tb} (nd : (l.map Tb.nm).Nodup) (h : t ∈ l) : leads l t.nm = t.zs := by
  unfold leads
  rw [find_nm nd h]
  rfl
theorem kvT_keys (l : List Tb) : (kvT l).map (·.1) = (l.map Tb.nm).map Sum.inr := by
  unfold kvT
  rw [List.map_map, List.map_map]
  rfl
theorem valV_kvT : ∀ (l : List Tb) (z : Str), valV (kvT l) (Sum.inr z : Key) = (l.find? fun t => decide (t.nm = z)).map fun t => V.ref t.x
  | [], _ => rfl
  | u :: r, z => by
    show valV ((Sum.inr u.nm, V.ref u.x) :: kvT r) (Sum.inr z : Key) = _
    rw [List.find?_cons]
    by_cases e : u.nm = z
    · rw [valV_pos (by rw [e])]
      simp [e]
    · rw [valV_neg (fun q => e (Sum.inr.inj q))]
      simp only [e, decide_false]
      exact valV_kvT r z
theorem valV_tb {l : List Tb} {t : Tb} (nd : (l.map Tb.nm).Nodup) (h : t ∈ l) : valV (kvT l) (Sum.inr t.nm : Key) = some (.ref t.x) := by
  rw [valV_kvT, find_nm nd h]
  rfl
theorem valV_no {l : List Tb} {z : Str} (h : ¬ z ∈ l.map Tb.nm) : valV (kvT l) (Sum.inr z : Key) = none := by
  rw [valV_kvT]
  cases e : l.find? fun t => decide (t.nm = z) with
  | none => rfl
  | some t => exact absurd (List.mem_map.mpr ⟨t, List.mem_of_find?_eq_some e, by have q := List.find?_some e; simpa using q⟩) h
theorem inV_str (z : Str) : ∀ fs : List Str, inV (.str z) (fs.map V.str) = decide (z ∈ fs)
  | [] => by simp [inV]
  | f :: r => by
    have ih : (r.map V.str).any (fun y => eqV y (.str z)) = decide (z ∈ r) := inV_str z r
    show (eqV (.str f) (.str z) || (r.map V.str).any (fun y => eqV y (.str z))) = _
    rw [ih]
    have e : eqV (.str f) (.str z) = (f == z) := rfl
    rw [e]
    by_cases q : f = z
    · simp [q]
    · have q2 : ¬ z = f := fun y => q y.symm
      simp [q, q2]
theorem flat_str : ∀ fs : List Str, (fs.map V.str).all flatV = true
  | [] => rfl
  | _ :: r => by
    show (true && (r.map V.str).all flatV) = true
    rw [flat_str r]
    rfl
theorem nodup_le : ∀ {fs ns : List Str}, fs.Nodup → (∀ z ∈ fs, z ∈ ns) → fs.length ≤ ns.length
  | [], _, _, _ => Nat.zero_le _
  | f :: r, ns, nd, h => by
    have h1 : f ∈ ns := h f List.mem_cons_self
    have ih := nodup_le (fs := r) (ns := ns.erase f) (List.nodup_cons.mp nd).2 fun z hz => (List.mem_erase_of_ne (fun e => (List.nodup_cons.mp nd).1 (by rw [← e]; exact hz))).mpr (h z (List.mem_cons_of_mem _ hz))
    rw [List.length_erase_of_mem h1] at ih
    have : 0 < ns.length := List.length_pos_of_mem h1
    show r.length + 1 ≤ ns.length
    omega
/-- all references lead to tables -/
def Known (l : List Tb) : Prop := ∀ t ∈ l, ∀ z ∈ t.zs, z ∈ l.map Tb.nm
theorem leads_known {l : List Tb} (k : Known l) {y z : Str} (h : z ∈ leads l y) : z ∈ l.map Tb.nm := by
  unfold leads at h
  cases e : l.find? fun t => decide (t.nm = y) with
  | none => rw [e] at h; exact nomatch h
  | some t =>
    rw [e] at h
    exact k t (List.mem_of_find?_eq_some e) z h
theorem Rch.known {l : List Tb} {a b : Str} (h : Rch l a b) (k : Known l) : b ∈ l.map Tb.nm := by
  cases h with
  | one h => exact leads_known k h
  | snoc _ h => exact leads_known k h
theorem nil_or_snoc {α : Type} (l : List α) : l = [] ∨ ∃ a b, l = a ++ [b] := by
  cases h : l with
  | nil => exact .inl rfl
  | cons x r => exact .inr ⟨(x :: r).dropLast, (x :: r).getLast (by simp), (List.dropLast_concat_getLast _).symm⟩
def lenAt (H : Hp) (a : Addr) : Nat := match H a with | some (.lst xs) => xs.length | _ => 0
theorem lenAt_of {H : Hp} {a : Addr} {xs : List V} (h : H a = some (.lst xs)) : lenAt H a = xs.length := by
  unfold lenAt
  rw [h]
/-- schema.reached(name) -/
def spReach (K : PySem.W.Frag) (CT CS : Addr) : Sp := fun vs H Q _ => ∃ (S : Addr) (nm : Str) (l : List Tb), vs = [.ref S, .str nm] ∧ SchAt K CT CS H S l ∧ Known l ∧ nm ∈ l.map Tb.nm ∧
  ∀ (H' : Hp) (F : Addr) (R : List Str), Same H H' → H F = none → H' F = some (.lst (R.map V.str)) → (∀ z, z ∈ R ↔ Rch l nm z) → Q (.ref F) H'
end Sw
namespace Sw
open PySem PySem.Spec PyProof.Rows L2
theorem seq_way {t u : TS} {D : Ends} {σ : L2.St} {H : Hp} (h : t { D with nx := u D } σ H) : tSeq t u D σ H := h
theorem name_way {i : Nat} {v : V} {σ : L2.St} {H : Hp} {Q : L2.St → Hp → Prop} (h : Q (σ.set i (some v)) H) : gName i v σ H Q := h
end Sw
namespace Sw
open PySem PySem.Spec PyProof.Rows L2
/-- the first reference that leads to no table -/
def unkOf (l : List Tb) : Option Str := (l.flatMap Tb.zs).find? fun z => decide (¬ z ∈ l.map Tb.nm)
theorem known_of {l : List Tb} (h : ∀ z ∈ l.flatMap Tb.zs, z ∈ l.map Tb.nm) : Known l := fun t ht z hz => h z (List.mem_flatMap.mpr ⟨t, ht, hz⟩)
theorem find_first {α : Type} {p : α → Bool} : ∀ {l : List α} {i : Nat} {z : α}, (∀ x ∈ l.take i, p x = false) → l[i]? = some z → p z = true → l.find? p = some z
  | [], _, _, _, h, _ => nomatch h
  | x :: r, 0, z, _, h, q => by
    obtain rfl : x = z := Option.some.inj h
    rw [List.find?_cons, q]
  | x :: r, i + 1, z, ha, h, q => by
    rw [List.find?_cons, ha x List.mem_cons_self]
    exact find_first (fun y hy => ha y (List.mem_cons_of_mem _ hy)) h q
theorem kvT_snoc {l : List Tb} {i : Nat} {t : Tb} (nd : (l.map Tb.nm).Nodup) (h : l[i]? = some t) : putK (kvT (l.take i)) (Sum.inr t.nm) (.ref t.x) = kvT (l.take (i + 1)) := by
  have nd2 : ((l.take (i + 1)).map Tb.nm).Nodup := nd.sublist ((List.take_sublist _ _).map _)
  rw [take_snoc h, List.map_append] at nd2
  rw [putK_new, take_snoc h]
  · unfold kvT
    rw [List.map_append]
    rfl
  · exact valV_no fun m => (List.nodup_append.mp nd2).2.2 t.nm m t.nm List.mem_cons_self rfl
/-- [.. for u in .. for v in ..], where out u is what the inner walk gives -/
theorem lc2_pure {J : It} {α : Type} {val : α → V} {Pin : α → Nat → V → Prop} {out : α → List V} {l : List α} {G : Hp → Prop} (w : Walk J l.length G (fun i H x H' => H' = H ∧ ∃ u, l[i]? = some u ∧ x = val u)) {wi1 : TI} {te : TE} {j j1 : Nat} {vs vs1 : List Nat} {σ : L2.St}
    {H1 : Hp} {D : Addr} {Qd : Hp → Prop} (hG : ∀ o, G (upd H1 D o)) (hl : (l.flatMap out).length ≤ 1000)
    (e1 : ∀ v, wipe ((wipe σ vs).set j (some v)) vs = wipe σ vs) (e2 : ∀ v v', wipe ((wipe ((wipe σ vs).set j (some v)) vs1).set j1 (some v')) vs1 = wipe ((wipe σ vs).set j (some v)) vs1)
    (hw : ∀ (u : α) (acc : List V) (R : It → Hp → Prop), u ∈ l → (∀ (J1 : It) (G1 : Hp → Prop), Walk J1 (out u).length G1 (fun k H x H' => H' = H ∧ Pin u k x) → (∀ o, G1 (upd H1 D o)) → R J1 (upd H1 D (.lst acc))) → wi1 ((wipe σ vs).set j (some (val u))) (upd H1 D (.lst acc)) R)
    (ht : ∀ (u : α) (k : Nat) (v y : V) (acc : List V) (Q : VK), u ∈ l → Pin u k v → (out u)[k]? = some y → Q y (upd H1 D (.lst acc)) → te ((wipe ((wipe σ vs).set j (some (val u))) vs1).set j1 (some v)) (upd H1 D (.lst acc)) Q) (hd : Qd (upd H1 D (.lst (l.flatMap out)))) :
    ∃ W : Nat → Nat → Hp → Prop, (∃ m, W 0 m (upd H1 D (.lst []))) ∧ ∀ i m H, W i m H →
      (J.stop i H ∧ Qd H) ∨ (J.go i H ∧ ∃ Nx : Hp → Prop, (∀ H', Nx H' → ∃ m', m' < m ∧ W (i + 1) m' H') ∧ ∀ x H', J.yld i H x H' → gName j x (wipe σ vs) H' fun σ2 H2 => wipe σ2 vs = wipe σ vs ∧ tYes σ2 H2 fun b H3 =>
        if b = true then wi1 σ2 H3 fun J1 H4 => ∃ W1 : Nat → Nat → Hp → Prop, (∃ m, W1 0 m H4) ∧ ∀ j k H, W1 j k H →
          (J1.stop j H ∧ Nx H) ∨ (J1.go j H ∧ ∃ Nx1 : Hp → Prop, (∀ H', Nx1 H' → ∃ k', k' < k ∧ W1 (j + 1) k' H') ∧ ∀ x H', J1.yld j H x H' → gName j1 x (wipe σ2 vs1) H' fun σ3 H5 => wipe σ3 vs1 = wipe σ2 vs1 ∧ tYes σ3 H5 fun b H6 =>
            if b = true then te σ3 H6 fun y H7 => ∃ acc, H7 D = some (.lst acc) ∧ acc.length < sizeLine ∧ Nx1 (upd H7 D (.lst (acc ++ [y]))) else Nx1 H6)
        else Nx H3) := by
  refine ⟨fun i m H => m = l.length - i ∧ i ≤ l.length ∧ H = upd H1 D (.lst ((l.take i).flatMap out)), ⟨l.length, rfl, Nat.zero_le _, rfl⟩, ?_⟩
  rintro i m H ⟨rfl, hi, rfl⟩
  by_cases hlt : i < l.length
  · refine .inr ⟨w.goes i _ hlt (hG _), fun H' => H' = upd H1 D (.lst ((l.take (i + 1)).flatMap out)), fun H' e => ⟨l.length - (i + 1), by omega, rfl, hlt, e⟩, fun x H' y => ?_⟩
    obtain ⟨rfl, u, hu, rfl⟩ := w.yields i _ _ _ hlt (hG _) y
    have hm := List.mem_of_getElem? hu
    refine ⟨e1 _, ?_⟩
    refine hw u _ _ hm fun J1 G1 w1 hG1 => ⟨fun k m H => m = (out u).length - k ∧ k ≤ (out u).length ∧ H = upd H1 D (.lst ((l.take i).flatMap out ++ (out u).take k)), ⟨(out u).length, rfl, Nat.zero_le _, by rw [List.take_zero, List.append_nil]⟩, ?_⟩
    rintro k m H ⟨rfl, hk, rfl⟩
    by_cases hlk : k < (out u).length
    · refine .inr ⟨w1.goes k _ hlk (hG1 _), fun H' => H' = upd H1 D (.lst ((l.take i).flatMap out ++ (out u).take (k + 1))), fun H' e => ⟨(out u).length - (k + 1), by omega, rfl, hlk, e⟩, fun x H' y => ?_⟩
      obtain ⟨rfl, hx⟩ := w1.yields k _ _ _ hlk (hG1 _) y
      have ho : (out u)[k]? = some ((out u)[k]'hlk) := List.getElem?_eq_getElem _
      refine ⟨e2 _ _, ?_⟩
      refine ht u k x _ _ _ hm hx ho ⟨_, upd_same, ?_, ?_⟩
      · refine Nat.lt_of_le_of_lt ?_ (small1000 hl)
        have h2 : l.flatMap out = (l.take i).flatMap out ++ (l.drop i).flatMap out := by rw [← List.flatMap_append, List.take_append_drop]
        have h3 : (l.drop i).flatMap out = out u ++ (l.drop (i + 1)).flatMap out := by
          rw [List.drop_eq_getElem_cons hlt, List.flatMap_cons, (List.getElem?_eq_some_iff.mp hu).2]
        rw [h2, h3]
        simp only [List.length_append, List.length_take]
        omega
      · rw [take_snoc ho, upd_upd, List.append_assoc]
    · have e : k = (out u).length := by omega
      subst e
      refine .inl ⟨w1.stops _ (hG1 _), ?_⟩
      show _ = _
      rw [List.take_length, take_snoc hu, List.flatMap_append]
      simp
  · have e : i = l.length := by omega
    subst e
    rw [List.take_length]
    exact .inl ⟨w.stops _ (hG _), hd⟩
/-- Schema(*tables) -/
def spSchema (K : PySem.W.Frag) (CT CS DU DR : Addr) : Sp := fun vs H Q E => ∃ (S dS : Addr) (l : List Tb), vs = .ref S :: l.map (fun t => V.ref t.x) ∧ H S = some (.ins CS dS []) ∧ (∀ t ∈ l, TbAt K CT H t) ∧ (l.map Tb.nm).Nodup ∧ l.length ≤ 100 ∧ (l.flatMap Tb.zs).length ≤ 1000 ∧
  (∀ u, unkOf l = some u → u.length ≤ 1000 ∧ ∀ (H1 : Hp) (dd : Addr), SBut S H H1 → H1 dd = none → E (.ref DU) (some dd) (upd H1 dd (.xd [("name", .str u)]))) ∧
  (unkOf l = none → (∀ i t, l[i]? = some t → (∀ u ∈ l.take i, ¬ Rch l u.nm u.nm) → Rch l t.nm t.nm → t.nm.length ≤ 1000 ∧ ∀ (H1 : Hp) (dd : Addr), SBut S H H1 → H1 dd = none → E (.ref DR) (some dd) (upd H1 dd (.xd [("name", .str t.nm)]))) ∧
    ((∀ u ∈ l, ¬ Rch l u.nm u.nm) → ∀ H1 : Hp, SBut S H H1 → SchAt K CT CS H1 S l → Q .non H1))
end Sw
namespace Sw
open PySem PySem.Spec PyProof.Rows L2
/-- the j-th of the made tables without references: its name, its width -/
structure TbW (K : PySem.W.Frag) (CT : Addr) (ws : List Str) (wds : List Int) (H : Hp) (j : Nat) (t : Tb) : Prop where
  zs : t.zs = []
  nm : ws[j]? = some t.nm
  at_ : ∃ wd, wds[j]? = some wd ∧ ∃ dx kA lA rA, H t.x = some (.ins CT dx (tabF t.nm wd kA lA rA)) ∧ SqT K H rA []
theorem TbW.same {K : PySem.W.Frag} {CT : Addr} {ws : List Str} {wds : List Int} {H H' : Hp} {j : Nat} {t : Tb} (h : TbW K CT ws wds H j t) (e : Same H H') : TbW K CT ws wds H' j t :=
  ⟨h.zs, h.nm, let ⟨wd, h1, dx, kA, lA, rA, h2, h3⟩ := h.at_; ⟨wd, h1, dx, kA, lA, rA, e _ _ h2, same_seqT e h3⟩⟩
theorem TbW.tb {K : PySem.W.Frag} {CT : Addr} {ws : List Str} {wds : List Int} {H : Hp} {j : Nat} {t : Tb} (h : TbW K CT ws wds H j t) : TbAt K CT H t :=
  ⟨let ⟨wd, _, dx, kA, lA, rA, h2, h3⟩ := h.at_; ⟨dx, wd, kA, lA, rA, [], h2, ⟨h3, by rw [h.zs] <;> rfl, by rw [h.zs]; exact Nat.zero_le _, fun i v e => (nomatch e)⟩⟩⟩
theorem leads_none {l : List Tb} (h : ∀ t ∈ l, t.zs = []) (y : Str) : leads l y = [] := by
  unfold leads
  cases e : l.find? fun t => decide (t.nm = y) with
  | none => rfl
  | some t => exact h t (List.mem_of_find?_eq_some e)
theorem rch_none {l : List Tb} (h : ∀ t ∈ l, t.zs = []) {a b : Str} (r : Rch l a b) : False := by
  cases r with
  | one m => rw [leads_none h] at m; exact nomatch m
  | snoc _ m => rw [leads_none h] at m; exact nomatch m
/-- Schema of tables without references -/
theorem sch_plain {K : PySem.W.Frag} {CT CS DU DR : Addr} {H : Hp} {l : List Tb} {E : XK} {Q : VK} (hz : ∀ t ∈ l, t.zs = []) (htb : ∀ t ∈ l, TbAt K CT H t) (nd : (l.map Tb.nm).Nodup) (hl : l.length ≤ 100) {x dx : Addr} (nx : H x = none) (ndx : H dx = none) (ne : dx ≠ x)
    (q : ∀ H', Same H H' → SchAt K CT CS H' x l → Q .non H') : spSchema K CT CS DU DR (V.ref x :: l.map fun t => V.ref t.x) (upd (upd H dx (.own x)) x (.ins CS dx [])) Q E := by
  have s1 : Same H (upd (upd H dx (.own x)) x (.ins CS dx [])) := (same_new ndx).trans (same_new (by rw [upd_ne ne.symm]; exact nx))
  have hf : l.flatMap Tb.zs = [] := List.flatMap_eq_nil_iff.mpr hz
  have hu : unkOf l = none := by
    unfold unkOf
    rw [hf]
    rfl
  refine ⟨x, dx, l, rfl, upd_same, fun t ht => (htb t ht).same s1, nd, hl, by rw [hf]; exact Nat.zero_le _, fun u h => ?_, fun _ => ⟨fun i t _ _ r => (rch_none hz r).elim, fun _ H1 sb sc => q H1 (fun b o e => sb b o (ne_of_none e nx) (s1 b o e)) sc⟩⟩
  rw [hu] at h
  exact nomatch h
end Sw
namespace Sw
open PySem PySem.Spec PyProof.Rows L2
theorem spSchema_imp {K : PySem.W.Frag} {CT CS DU DR : Addr} {vs : List V} {H : Hp} {E : XK} {Q Q' : VK} (h : spSchema K CT CS DU DR vs H Q E) (hq : ∀ v H', Q v H' → Q' v H') : spSchema K CT CS DU DR vs H Q' E := by
  obtain ⟨S, dS, l, e1, e2, e3, e4, e5, e6, e7, e8⟩ := h
  exact ⟨S, dS, l, e1, e2, e3, e4, e5, e6, e7, fun hn => ⟨(e8 hn).1, fun h1 H1 sb sc => hq _ _ ((e8 hn).2 h1 H1 sb sc)⟩⟩
end Sw
namespace Sw
open PySem PySem.Spec PyProof.Rows L2
theorem not_take {α : Type} {l : List α} {i m : Nat} {x : α} (nd : l.Nodup) (h : l[i]? = some x) (hm : m ≤ i) : ¬ x ∈ l.take m := fun e => by
  have hd : x ∈ l.drop m := by
    refine List.mem_of_getElem? (i := i - m) ?_
    rw [List.getElem?_drop, show m + (i - m) = i by omega]
    exact h
  have nd2 : (l.take m ++ l.drop m).Nodup := by rw [List.take_append_drop]; exact nd
  exact (List.nodup_append.mp nd2).2.2 x e x hd rfl
end Sw
namespace Sw
open PySem PySem.Spec PyProof.Rows L2
/-- isinstance(e, c), e the exception that the suite holds, its class an own one, its fields in its dict -/
def rIsX (K : PySem.W.Frag) (cls : Value) (d : Option Addr) (D a : Addr) : List V → Hp → VK → Prop := fun xs H Q => cls = .ref D ∧ ∃ (dd : Addr) (fs : List (Str × V)) (c : V) (cv : Value) (b : Bool), d = some dd ∧ H dd = some (.xd fs) ∧ xs = [.ref a, c] ∧
  (∀ u, RelV c u → u = cv) ∧ PySem.W.kitOne K (.ref D) cv = some b ∧ Q (.bl b) H
theorem call_isX {X : Cx} {a D : Addr} {cls : Value} {d : Option Addr} {oe : Obj} {pn : List (Addr × Obj)} (C : ExcC X.K D) (hz : Zc cls d oe) (hf : ∃ vs, oe.data = .fields vs) : CallR (X.suite a ((a, oe) :: pn)) (.builtin "isinstance") (rIsX X.K cls d D a) := by
  intro pins s σ H xs us Q I r h
  obtain ⟨ec, dd, fs, c, cv, b, ed, hdd, rfl, hcv, e, q⟩ := h
  obtain ⟨u, w', rfl, ru, rw'⟩ := vals2 r
  cases ru
  have ew := hcv _ rw'
  subst ew
  obtain ⟨mA, hns, -⟩ : ObjOk X.prog X.w H s.heap dd (.xd fs) := I.hok dd _ hdd
  obtain ⟨od, ho, -⟩ := lookIn_ns hns
  have hget := (I.pin (a, oe) (List.mem_append.mpr (.inl List.mem_cons_self))).1
  have J : PySem.W.InstAt s.heap a oe D (some od) := by
    refine ⟨hget, by rw [hz.1, ec], ?_, by rw [hz.2, ed]; exact ho⟩
    obtain ⟨vs, hv⟩ := hf
    unfold PySem.W.notCls
    rw [hv] <;> rfl
  have hcl : (PySem.W.clsIn X.K D).isSome = true := by
    obtain ⟨cd, hc, _⟩ := PySem.W.any_some C.hd
    rw [hc] <;> rfl
  refine PySem.W.kia_one (PySem.W.kitx_exc (x := a) (ox := oe) (od := some od) hcl C.hg C.hk C.hs C.ha C.hn C.ht C.hm) I.kIn J e (fun z => nomatch z) fun tk => ?_
  exact ⟨.bl b, H, I.kept (t' := tk) fun _ _ z => z, rfl, q⟩
end Sw
namespace Sw
open PySem PySem.Spec PyProof.Rows L2
/-- o.m(e, ..) in a try: what it lets out is told by the slots -/
def tMethE (C : Addr) (m : Str) (sp : Sp) (Ex : L2.St → XK) (to : TE) (t : TA) : TE := fun σ H Q =>
  to σ H fun y Ha => ∃ q dq gs, y = .ref q ∧ Ha q = some (.ins C dq gs) ∧ gs.lookup m = none ∧ t σ Ha fun ws Hb => sp (y :: ws) Hb Q (Ex σ)
theorem pe_methE {X : Cx} {CX : CXT} {k : Nat} {f C : Addr} {fd : FuncData} {ps : List Str} {sp : Sp} {Ex : L2.St → XK} {m : Str} {pos apos : Pos} {o e : Expr} {es : List Expr} {to : TE} {t : TA} {look : Sem Bool}
    (ho : PE X o to) (c : Cls X.K C) (hm : Meth X.K C m f) (F : FnOk X.prog X.w X.K X.mg X.base CX k f fd ps sp) (hr : Room k X.A) (hb : Binds X.K fd ps []) (hx : ∀ σ, PassesAt CX X σ (Ex σ)) (ha : PA X (e :: es) t)
    (h1 : starEach (e :: es) X.env = (false, eval e X.env) :: starEach es X.env := by rfl) (h2 : (backTo pos (starEach es X.env)).any (·.1) = false := by rfl)
    (h3 : eval (.Call (.Attribute o m apos) (e :: es) [] pos) X.env = (do
        let whole ← eval o X.env
        standAt apos.atName
        let pair ← holding [whole] (getMethod whole m look)
        callWith pos pair.1 pair.2 (backTo pos (starEach (e :: es) X.env)) (backToKw pos (keywordEach [] X.env))) := by rfl) :
    PE X (.Call (.Attribute o m apos) (e :: es) [] pos) (tMethE C m sp Ex to t) := by
  refine ⟨fun pins s σ H Q I h => ?_⟩
  refine PySem.W.methodCall_KW (pl := look) (thn (ho.run pins s σ H _ I h) fun u sa hu => ?_) h3
  obtain ⟨y, Ha, Ia, ry, q, dq, gs, rfl, eq_, lq, hq⟩ := hu
  obtain rfl : u = Value.ref q := ry
  refine getmeth_ok Ia eq_ c hm lq (PySem.W.callWith_K (first := [.ref q]) (h₀ := X.base) I.ok.mod.kin hm.kp (thn (ha.run pos pins sa σ Ha _ Ia hq) fun us sb hv => ?_) h1 h2)
  obtain ⟨ws, Hb, Ib, rw_, hs⟩ := hv
  exact ⟨Ib.kIn, run_fnS (us := .ref q :: us) (vs := .ref q :: ws) F hr hb (hx σ) Ib (.cons rfl rw_) hs⟩
end Sw
namespace Sw
open PySem PySem.Spec PyProof.Rows L2
/-- a list that stood before the hand at p was dealt -/
theorem sqL_past {K : PySem.W.Frag} {H H1 H2 : Hp} {a p : Addr} {xs : List V} (h : SqL K H a xs) (s : Same H H1) (n : H p = none) (e : SBut p H1 H2) : SqL K H2 a xs := by
  rcases h with (h | ⟨o, h⟩) | h
  · exact .inl (.inl (e _ _ (ne_of_none h n) (s _ _ h)))
  · exact .inl (.inr ⟨o, e _ _ (ne_of_none h n) (s _ _ h)⟩)
  · exact .inr h
end Sw
namespace Sw
open PySem PySem.Spec PyProof.Rows L2
/-- a tuple beside a list that grew -/
theorem sqT_upd {K : PySem.W.Frag} {H : Hp} {a p : Addr} {xs : List V} {o o' : HO} (h : SqT K H a xs) (hp : H p = some o) (n : ∀ ys, o ≠ .tup ys ∧ ∀ u, o ≠ .frz u (.tup ys)) : SqT K (upd H p o') a xs := by
  have go : ∀ w, H a = some w → w ≠ o → upd H p o' a = some w := fun w e z => by
    rw [upd_ne (ne_of e hp z)]
    exact e
  rcases h with (h | ⟨u, h⟩) | h
  · exact .inl (.inl (go _ h fun z => (n xs).1 z.symm))
  · exact .inl (.inr ⟨u, go _ h fun z => (n xs).2 u z.symm⟩)
  · exact .inr h
end Sw
namespace Sw
open PySem PySem.Spec PyProof.Rows L2
/-- a new item put before the first that is not smaller -/
theorem ins_asc {α : Type} {lt : α → α → Prop} [DecidableRel lt] (irr : ∀ x, ¬ lt x x) (tr : ∀ x y z, lt x y → lt y z → lt x z) (tri : ∀ x y, ¬ lt y x → x ≠ y → lt x y) : ∀ (us : List α) (z : α), us.Pairwise lt → ¬ z ∈ us →
    (us.take (us.filter fun u => decide (lt u z)).length ++ [z] ++ us.drop (us.filter fun u => decide (lt u z)).length).Pairwise lt ∧ ∀ x, x ∈ us.take (us.filter fun u => decide (lt u z)).length ++ [z] ++ us.drop (us.filter fun u => decide (lt u z)).length ↔ x ∈ us ∨ x = z
  | [], z, _, _ => by simp
  | u :: r, z, h, n => by
    have n1 : z ≠ u := fun e => n (by rw [e]; exact List.mem_cons_self)
    have n2 : ¬ z ∈ r := fun e => n (List.mem_cons_of_mem _ e)
    obtain ⟨hu, hr⟩ := List.pairwise_cons.mp h
    by_cases c : lt u z
    · have ih := ins_asc irr tr tri r z hr n2
      have e : ((u :: r).filter fun u => decide (lt u z)).length = (r.filter fun u => decide (lt u z)).length + 1 := by
        rw [List.filter_cons_of_pos (by simp [c])]
        rfl
      rw [e]
      refine ⟨List.pairwise_cons.mpr ⟨fun x hx => ?_, ih.1⟩, fun x => ?_⟩
      · rcases (ih.2 x).mp hx with q | q
        · exact hu x q
        · rw [q]
          exact c
      · show x ∈ u :: (r.take _ ++ [z] ++ r.drop _) ↔ _
        rw [List.mem_cons, ih.2 x, List.mem_cons]
        constructor
        · rintro (q | q | q)
          · exact .inl (.inl q)
          · exact .inl (.inr q)
          · exact .inr q
        · rintro ((q | q) | q)
          · exact .inl q
          · exact .inr (.inl q)
          · exact .inr (.inr q)
    · have hz : lt z u := tri z u c n1
      have e : ((u :: r).filter fun u => decide (lt u z)).length = 0 := by
        rw [List.filter_cons_of_neg (by simp [c])]
        rw [List.length_eq_zero_iff, List.filter_eq_nil_iff]
        intro v hv q
        have q : lt v z := of_decide_eq_true q
        exact irr z (tr z u z hz (tr u v z (hu v hv) q))
      rw [e]
      show (z :: (u :: r)).Pairwise lt ∧ ∀ x, x ∈ z :: (u :: r) ↔ _
      refine ⟨List.pairwise_cons.mpr ⟨fun x hx => ?_, h⟩, fun x => ?_⟩
      · rcases List.mem_cons.mp hx with q | q
        · rw [q]
          exact hz
        · exact tr z u x hz (hu x q)
      · rw [List.mem_cons]
        exact ⟨fun q => q.symm, fun q => q.symm⟩
/-- [out(x) for x in .. if p(x)], where p and out read alone -/
theorem lc_filter {J : It} {α : Type} {val out : α → V} {p : α → Bool} {l : List α} {G : Hp → Prop} (w : Walk J l.length G (fun i H x H' => H' = H ∧ ∃ u, l[i]? = some u ∧ x = val u)) {tt : TT} {te : TE} {j : Nat} {vs : List Nat} {σ : L2.St}
    {H1 : Hp} {D : Addr} {Qd : Hp → Prop} (hG : ∀ o, G (upd H1 D o)) (hl : l.length ≤ 1000) (e1 : ∀ v, wipe ((wipe σ vs).set j (some v)) vs = wipe σ vs)
    (hp : ∀ (i : Nat) (u : α) (acc : List V) (Q : Bool → Hp → Prop), l[i]? = some u → Q (p u) (upd H1 D (.lst acc)) → tt ((wipe σ vs).set j (some (val u))) (upd H1 D (.lst acc)) Q)
    (ht : ∀ (i : Nat) (u : α) (acc : List V) (Q : VK), l[i]? = some u → p u = true → Q (out u) (upd H1 D (.lst acc)) → te ((wipe σ vs).set j (some (val u))) (upd H1 D (.lst acc)) Q) (hd : Qd (upd H1 D (.lst ((l.filter p).map out)))) :
    ∃ W : Nat → Nat → Hp → Prop, (∃ m, W 0 m (upd H1 D (.lst []))) ∧ ∀ i m H, W i m H →
      (J.stop i H ∧ Qd H) ∨ (J.go i H ∧ ∃ Nx : Hp → Prop, (∀ H', Nx H' → ∃ m', m' < m ∧ W (i + 1) m' H') ∧ ∀ x H', J.yld i H x H' → gName j x (wipe σ vs) H' fun σ2 H2 => wipe σ2 vs = wipe σ vs ∧ tt σ2 H2 fun b H3 =>
        if b = true then te σ2 H3 fun y H4 => ∃ acc, H4 D = some (.lst acc) ∧ acc.length < sizeLine ∧ Nx (upd H4 D (.lst (acc ++ [y]))) else Nx H3) := by
  refine ⟨fun i m H => m = l.length - i ∧ i ≤ l.length ∧ H = upd H1 D (.lst (((l.take i).filter p).map out)), ⟨l.length, rfl, Nat.zero_le _, rfl⟩, ?_⟩
  rintro i m H ⟨rfl, hi, rfl⟩
  by_cases hlt : i < l.length
  · refine .inr ⟨w.goes i _ hlt (hG _), fun H' => H' = upd H1 D (.lst (((l.take (i + 1)).filter p).map out)), fun H' e => ⟨l.length - (i + 1), by omega, rfl, hlt, e⟩, fun x H' y => ?_⟩
    obtain ⟨rfl, u, hu, rfl⟩ := w.yields i _ _ _ hlt (hG _) y
    refine ⟨e1 _, ?_⟩
    refine hp i u _ _ hu ?_
    cases q : p u with
    | true =>
      refine iteT ?_
      refine ht i u _ _ hu q ⟨_, upd_same, ?_, ?_⟩
      · rw [List.length_map]
        refine Nat.lt_of_le_of_lt (List.length_filter_le _ _) ?_
        rw [List.length_take]
        exact Nat.lt_of_le_of_lt (Nat.min_le_right _ _) (small1000 hl)
      · rw [take_snoc hu, List.filter_append, List.map_append, upd_upd]
        simp [q]
    | false =>
      refine iteF ?_
      rw [take_snoc hu, List.filter_append]
      simp [q]
  · have e : i = l.length := by omega
    subst e
    rw [List.take_length]
    exact .inl ⟨w.stops _ (hG _), hd⟩
instance : DecidableRel SLt := fun x y => inferInstanceAs (Decidable (x.cps.toList < y.cps.toList))
def ILt (x y : Int) : Prop := x < y
instance : DecidableRel ILt := fun x y => inferInstanceAs (Decidable (x < y))
/-- _law_rising(items), of texts, of whole numbers -/
def spRiseS (K : PySem.W.Frag) : Sp := fun vs H Q _ => ∃ (a : Addr) (l : List Str), vs = [.ref a] ∧ SqL K H a (l.map V.str) ∧ l.length ≤ 100 ∧
  ∀ (H' : Hp) (R : Addr) (us : List Str), Same H H' → H R = none → H' R = some (.lst (us.map V.str)) → AscS us → (∀ z, z ∈ us ↔ z ∈ l) → Q (.ref R) H'
def spRiseI (K : PySem.W.Frag) : Sp := fun vs H Q _ => ∃ (a : Addr) (l : List Int), vs = [.ref a] ∧ SqL K H a (l.map V.int) ∧ l.length ≤ 100 ∧
  ∀ (H' : Hp) (R : Addr) (us : List Int), Same H H' → H R = none → H' R = some (.lst (us.map V.int)) → AscI us → (∀ z, z ∈ us ↔ z ∈ l) → Q (.ref R) H'
theorem inV_int (z : Int) : ∀ fs : List Int, inV (.int z) (fs.map V.int) = decide (z ∈ fs)
  | [] => by simp [inV]
  | f :: r => by
    have ih : (r.map V.int).any (fun y => eqV y (.int z)) = decide (z ∈ r) := inV_int z r
    show (eqV (.int f) (.int z) || (r.map V.int).any (fun y => eqV y (.int z))) = _
    rw [ih]
    have e : eqV (.int f) (.int z) = (f == z) := rfl
    rw [e]
    by_cases q : f = z
    · simp [q]
    · have q2 : ¬ z = f := fun y => q y.symm
      simp [q, q2]
theorem flat_int : ∀ fs : List Int, (fs.map V.int).all flatV = true
  | [] => rfl
  | _ :: r => by
    show (true && (r.map V.int).all flatV) = true
    rw [flat_int r]
    rfl
end Sw
namespace Sw
open PySem PySem.Spec PyProof.Rows L2
theorem LDict.same {K : PySem.W.Frag} {H H' : Hp} {a : Addr} {es : List Ent} (h : LDict K H a es) (e : Same H H') : LDict K H' a es :=
  ⟨e _ _ h.at_, h.nd, h.len, fun r hr => ⟨(h.all r hr).1.imp (fun z => e.seq z) (fun z => same_seqT e z), (h.all r hr).2⟩⟩
theorem TabAt.same {K : PySem.W.Frag} {CT : Addr} {H H' : Hp} {x : Addr} {nm : Str} {wd : Int} {ks : List Int} {ts : List Ent} {rs : List V} (h : TabAt K CT H x nm wd ks ts rs) (e : Same H H') : TabAt K CT H' x nm wd ks ts rs :=
  ⟨let ⟨dx, kA, lA, rA, h1, h2, h3, h4⟩ := h.ex; ⟨dx, kA, lA, rA, e _ _ h1, e _ _ h2, h3.same e, same_seqT e h4⟩, h.ks⟩
/-- a dealt table: name, width, key, menus, references -/
structure Rw where
  nm : Str
  wd : Int
  ks : List Int
  es : List Ent
  ls : List (Int × Str × Int)
/-- tuples (column, name, column) -/
structure LeadsV (K : PySem.W.Frag) (H : Hp) (vs : List V) (ls : List (Int × Str × Int)) : Prop where
  len : vs.length = ls.length
  sml : ls.length ≤ 100
  all : ∀ (i : Nat) (v : V), vs[i]? = some v → ∃ e, ls[i]? = some e ∧ ∃ q, v = .ref q ∧ SqT K H q [.int e.1, .str e.2.1, .int e.2.2]
theorem LeadsV.same {K : PySem.W.Frag} {H H' : Hp} {vs : List V} {ls : List (Int × Str × Int)} (h : LeadsV K H vs ls) (e : Same H H') : LeadsV K H' vs ls :=
  ⟨h.len, h.sml, fun i v q => let ⟨z, e1, b, e2, e3⟩ := h.all i v q; ⟨z, e1, b, e2, same_seqT e e3⟩⟩
theorem LeadsV.lead {K : PySem.W.Frag} {H : Hp} {a : Addr} {vs : List V} {ls : List (Int × Str × Int)} (h : LeadsV K H vs ls) (ha : SqT K H a vs) : Lead K H a vs (ls.map fun e => e.2.1) :=
  ⟨ha, by rw [List.length_map]; exact h.len, by rw [List.length_map]; exact h.sml, fun i v q => by
    obtain ⟨z, e1, b, e2, e3⟩ := h.all i v q
    exact ⟨z.2.1, by rw [List.getElem?_map, e1]; rfl, b, _, e2, e3, rfl⟩⟩
structure RwAt (K : PySem.W.Frag) (H : Hp) (v : V) (r : Rw) : Prop where
  ex : ∃ a k m e vs, v = .ref a ∧ SqL K H a [.str r.nm, .int r.wd, .ref k, .ref m, .ref e] ∧ SqL K H k (r.ks.map V.int) ∧ LDict K H m r.es ∧ SqL K H e vs ∧ LeadsV K H vs r.ls
  kl : r.ks.length ≤ 100
  ml : ∀ e ∈ r.es, SqL K H e.2.1 (e.2.2.map V.str)
theorem RwAt.same {K : PySem.W.Frag} {H H' : Hp} {v : V} {r : Rw} (h : RwAt K H v r) (s : Same H H') : RwAt K H' v r :=
  ⟨let ⟨a, k, m, e, vs, h1, h2, h3, h4, h5, h6⟩ := h.ex; ⟨a, k, m, e, vs, h1, s.seq h2, s.seq h3, h4.same s, s.seq h5, h6.same s⟩, h.kl, fun e he => s.seq (h.ml e he)⟩
/-- the list of the dealt tables -/
structure RowsAt (K : PySem.W.Frag) (H : Hp) (a : Addr) (vs : List V) (rows : List Rw) : Prop where
  at_ : SqL K H a vs
  len : vs.length = rows.length
  all : ∀ (i : Nat) (v : V), vs[i]? = some v → ∃ r, rows[i]? = some r ∧ RwAt K H v r
theorem RowsAt.same {K : PySem.W.Frag} {H H' : Hp} {a : Addr} {vs : List V} {rows : List Rw} (h : RowsAt K H a vs rows) (s : Same H H') : RowsAt K H' a vs rows :=
  ⟨s.seq h.at_, h.len, fun i v q => let ⟨r, h1, h2⟩ := h.all i v q; ⟨r, h1, h2.same s⟩⟩
/-- the table that was made of a dealt one -/
structure TbOf (K : PySem.W.Frag) (CT : Addr) (H : Hp) (t : Tb) (r : Rw) : Prop where
  nm : t.nm = r.nm
  zs : t.zs = r.ls.map fun e => e.2.1
  tab : ∃ ks ts vs, TabAt K CT H t.x r.nm r.wd ks ts vs ∧ (∀ z, z ∈ ks ↔ z ∈ r.ks) ∧ Alike r.es ts ∧ LeadsV K H vs r.ls
theorem TbOf.same {K : PySem.W.Frag} {CT : Addr} {H H' : Hp} {t : Tb} {r : Rw} (h : TbOf K CT H t r) (s : Same H H') : TbOf K CT H' t r :=
  ⟨h.nm, h.zs, let ⟨ks, ts, vs, h1, h2, h3, h4⟩ := h.tab; ⟨ks, ts, vs, h1.same s, h2, h3, h4.same s⟩⟩
theorem TbOf.tb {K : PySem.W.Frag} {CT : Addr} {H : Hp} {t : Tb} {r : Rw} (h : TbOf K CT H t r) : TbAt K CT H t := by
  obtain ⟨ks, ts, vs, ⟨⟨dx, kA, lA, rA, h1, h2, h3, h4⟩, _⟩, _, _, h5⟩ := h.tab
  refine ⟨dx, r.wd, kA, lA, rA, vs, by rw [h.nm]; exact h1, ?_⟩
  rw [h.zs]
  exact h5.lead h4
/-- the tables keep the rules of a schema -/
structure Sane (rows : List Rw) : Prop where
  nd : (rows.map Rw.nm).Nodup
  ok : ∀ l : List Tb, l.length = rows.length → (∀ (i : Nat) (t : Tb), l[i]? = some t → ∃ r : Rw, rows[i]? = some r ∧ t.nm = r.nm ∧ t.zs = r.ls.map fun e => e.2.1) → Known l ∧ ∀ u ∈ l, ¬ Rch l u.nm u.nm
  n1 : 1 ≤ rows.length
  n3 : rows.length ≤ 3
  ls : ∀ r ∈ rows, r.ls.length ≤ 100
/-- the schema that was made of the dealt tables -/
structure SchOf (K : PySem.W.Frag) (CT CS : Addr) (H : Hp) (S : Addr) (rows : List Rw) (l : List Tb) : Prop where
  sch : SchAt K CT CS H S l
  len : l.length = rows.length
  all : ∀ (i : Nat) (t : Tb), l[i]? = some t → ∃ r, rows[i]? = some r ∧ TbOf K CT H t r
theorem SchOf.same {K : PySem.W.Frag} {CT CS S : Addr} {H H' : Hp} {rows : List Rw} {l : List Tb} (h : SchOf K CT CS H S rows l) (s : Same H H') : SchOf K CT CS H' S rows l :=
  ⟨h.sch.same s, h.len, fun i t q => let ⟨r, h1, h2⟩ := h.all i t q; ⟨r, h1, h2.same s⟩⟩
/-- _law_build(tables) -/
def spBuild (K : PySem.W.Frag) (CT CS : Addr) : Sp := fun vs H Q _ => ∃ (a : Addr) (xs : List V) (rows : List Rw), vs = [.ref a] ∧ RowsAt K H a xs rows ∧ Sane rows ∧
  ∀ (H' : Hp) (S : Addr) (l : List Tb), Same H H' → H S = none → SchOf K CT CS H' S rows l → Q (.ref S) H'
/-- Schema of tables that keep the rules -/
theorem sch_sane {K : PySem.W.Frag} {CT CS DU DR : Addr} {H : Hp} {l : List Tb} {E : XK} {Q : VK} (kn : Known l) (nr : ∀ u ∈ l, ¬ Rch l u.nm u.nm) (htb : ∀ t ∈ l, TbAt K CT H t) (nd : (l.map Tb.nm).Nodup) (hl : l.length ≤ 100) (hz : (l.flatMap Tb.zs).length ≤ 1000) {x dx : Addr} (nx : H x = none) (ndx : H dx = none) (ne : dx ≠ x)
    (q : ∀ H', Same H H' → SchAt K CT CS H' x l → Q .non H') : spSchema K CT CS DU DR (V.ref x :: l.map fun t => V.ref t.x) (upd (upd H dx (.own x)) x (.ins CS dx [])) Q E := by
  have s1 : Same H (upd (upd H dx (.own x)) x (.ins CS dx [])) := (same_new ndx).trans (same_new (by rw [upd_ne ne.symm]; exact nx))
  have hu : unkOf l = none := List.find?_eq_none.mpr fun z hz => by
    obtain ⟨t, ht, hzt⟩ := List.mem_flatMap.mp hz
    simp [kn t ht z hzt]
  refine ⟨x, dx, l, rfl, upd_same, fun t ht => (htb t ht).same s1, nd, hl, hz, fun u h => ?_, fun _ => ⟨fun i t hi _ r => absurd r (nr t (List.mem_of_getElem? hi)), fun _ H1 sb sc => q H1 (fun b o e => sb b o (ne_of_none e nx) (s1 b o e)) sc⟩⟩
  rw [hu] at h
  exact nomatch h
end Sw
namespace Sw
open PySem PySem.Spec PyProof.Rows L2
theorem flat_len : ∀ {l : List Tb}, (∀ t ∈ l, t.zs.length ≤ 100) → (l.flatMap Tb.zs).length ≤ l.length * 100
  | [], _ => Nat.zero_le _
  | t :: r, h => by
    rw [List.flatMap_cons, List.length_append, List.length_cons]
    have h1 := h t List.mem_cons_self
    have h2 := flat_len (l := r) fun u hu => h u (List.mem_cons_of_mem _ hu)
    omega
theorem len2 {α : Type} {l : List α} (h : l.length = 2) : ∃ a b, l = [a, b] := by
  match l, h with
  | [a, b], _ => exact ⟨a, b, rfl⟩
theorem len3 {α : Type} {l : List α} (h : l.length = 3) : ∃ a b c, l = [a, b, c] := by
  match l, h with
  | [a, b, c], _ => exact ⟨a, b, c, rfl⟩
/-- all but lists is as it was -/
def NotL (H H' : Hp) : Prop := ∀ b o, H b = some o → (∀ ys, o ≠ .lst ys) → H' b = some o
theorem notL_upd {H : Hp} {M : Addr} {ys : List V} {o : HO} (h : H M = some (.lst ys)) : NotL H (upd H M o) := fun b u e n => by
  rw [upd_ne fun z => ?_]
  · exact e
  · rw [z, h] at e
    exact n ys (Option.some.inj e).symm
theorem NotL.tup {K : PySem.W.Frag} {H H' : Hp} {a : Addr} {xs : List V} (e : NotL H H') (h : SqT K H a xs) : SqT K H' a xs := by
  rcases h with (h | ⟨o, h⟩) | h
  · exact .inl (.inl (e _ _ h fun ys z => nomatch z))
  · exact .inl (.inr ⟨o, e _ _ h fun ys z => nomatch z⟩)
  · exact .inr h
theorem LeadsV.notL {K : PySem.W.Frag} {H H' : Hp} {vs : List V} {ls : List (Int × Str × Int)} (h : LeadsV K H vs ls) (e : NotL H H') : LeadsV K H' vs ls :=
  ⟨h.len, h.sml, fun i v q => let ⟨z, e1, b, e2, e3⟩ := h.all i v q; ⟨z, e1, b, e2, e.tup e3⟩⟩
theorem TabAt.notL {K : PySem.W.Frag} {CT : Addr} {H H' : Hp} {x : Addr} {nm : Str} {wd : Int} {ks : List Int} {ts : List Ent} {rs : List V} (h : TabAt K CT H x nm wd ks ts rs) (e : NotL H H') : TabAt K CT H' x nm wd ks ts rs :=
  ⟨let ⟨dx, kA, lA, rA, h1, h2, h3, h4⟩ := h.ex; ⟨dx, kA, lA, rA, e _ _ h1 (fun ys z => nomatch z), e _ _ h2 (fun ys z => nomatch z), ⟨e _ _ h3.at_ (fun ys z => nomatch z), fun r hr => ⟨e _ _ (h3.all r hr).1 (fun ys z => nomatch z), (h3.all r hr).2⟩⟩, e.tup h4⟩, h.ks⟩
theorem TbOf.notL {K : PySem.W.Frag} {CT : Addr} {H H' : Hp} {t : Tb} {r : Rw} (h : TbOf K CT H t r) (s : NotL H H') : TbOf K CT H' t r :=
  ⟨h.nm, h.zs, let ⟨ks, ts, vs, h1, h2, h3, h4⟩ := h.tab; ⟨ks, ts, vs, h1.notL s, h2, h3, h4.notL s⟩⟩
end Sw
namespace Sw
open PySem PySem.Spec PyProof.Rows L2
theorem pick_one (its : List Value) : slicePick its.toArray none none (some 1) = its.toArray := by
  have e : slicePick its.toArray none none (some 1) = slicePick its.toArray none none none := rfl
  rw [e, slicePick_cut]
  have h0 : HT.sIx its.length 0 none = 0 := rfl
  have h1 : HT.sIx its.length its.length none = its.length := rfl
  simp [h0, h1]
/-- xs[::s], s one or minus one -/
def tStep (K : PySem.W.Frag) (te ts : TE) : TE := fun σ H Q => te σ H fun x H1 => ts σ H1 fun y H2 => ∃ s : Int, y = .int s ∧ ∃ (a : Addr) (xs : List V), x = .ref a ∧ SqL K H2 a xs ∧
  ((s = 1 ∧ ∀ p, H2 p = none → Q (.ref p) (upd H2 p (.lst xs))) ∨ (s = -1 ∧ ∀ p, H2 p = none → Q (.ref p) (upd H2 p (.lst xs.reverse))))
theorem pe_step {X : Cx} {e st : Expr} {te ts : TE} {p3 pos : Pos} (he : PE X e te) (hst : PE X st ts) : PE X (.Subscript e (.Slice none none (some st) p3) pos) (tStep X.K te ts) := by
  refine ⟨fun pins s σ H Q I h => ?_⟩
  refine Subscript_ (thn (he.run pins s σ H _ I h) fun v sa ⟨x, Ha, Ia, ra, qa⟩ => ?_)
  refine wpAny_Slice (thn (po_none.run pins sa σ Ha (fun o H2 => o = none ∧ H2 = Ha) Ia ⟨rfl, rfl⟩) fun vl sb ⟨l, Hb, Ib, pl, el, eb⟩ => ?_)
  subst el eb
  refine thn (po_none.run pins sb σ Hb (fun o H3 => o = none ∧ H3 = Hb) Ib ⟨rfl, rfl⟩) fun vu sc ⟨u, Hc, Ic, pu, eu, ec⟩ => ?_
  subst eu ec
  have part : PO X (some st) (tPart ts) := po_some hst
  refine thn (part.run pins sc σ Hc (fun o Hd => match o with | some k => (∃ (a : Addr) (xs : List V), x = .ref a ∧ SqL X.K Hd a xs ∧ ((k = 1 ∧ ∀ p, Hd p = none → Q (.ref p) (upd Hd p (.lst xs))) ∨ (k = -1 ∧ ∀ p, Hd p = none → Q (.ref p) (upd Hd p (.lst xs.reverse))))) | none => False) Ic qa) fun vs sd ⟨o, Hd, Id, ps, w⟩ => ?_
  cases o with
  | none => exact w.elim
  | some k =>
  obtain ⟨a, xs, ex, hx, hq⟩ := w
  subst ex
  cases ra
  have I5 : Inv X pins σ Hd { sd with heap := sd.heap.push { cls := .type "slice", data := .fields #[vl, vu, vs] } } := Id.kept (t' := sd.toks) fun b ob q => Heap.get?_push_of_some _ q
  obtain ⟨its, r, ht, hz⟩ := I5.list hx
  have hlen := r.length
  refine (tail_any (ops := [.ref a, .ref sd.heap.objs.size]) ht.isList.typeIs (PySem.slot_list_getitem.lookup) ?_ (by with_unfolding_all rfl) : wpAny (model X.prog X.w) X.A (subscriptTail e (.Slice none none (some st) p3) (.ref a) (.ref sd.heap.objs.size)) (EP X pins σ Q) X.xe { sd with heap := sd.heap.push { cls := .type "slice", data := .fields #[vl, vu, vs] } })
  refine wpAny_getItem_list_slice ht.isList (Heap.IsSliceOf.new _ vl vu vs) pl pu ps ?_ ?_ (by rw [List.size_toArray]; omega)
  · rcases hq with ⟨rfl, _⟩ | ⟨rfl, _⟩ <;> decide
  rcases hq with ⟨rfl, q⟩ | ⟨rfl, q⟩
  · rw [pick_one]
    exact ⟨.ref _, _, I5.laid (t' := sd.toks) (o := .lst xs) (fun b ob z => Heap.get?_push_of_some _ z) (Nat.le_refl _) ⟨hz, _, 0, r, Heap.get?_push_size _ rfl⟩, rfl, q _ (I5.hok.fresh (Nat.le_refl _))⟩
  · rw [PySem.W.krv_pick]
    exact ⟨.ref _, _, I5.laid (t' := sd.toks) (o := .lst xs.reverse) (fun b ob z => Heap.get?_push_of_some _ z) (Nat.le_refl _) ⟨by rw [List.length_reverse]; exact hz, _, 0, r.reverse, Heap.get?_push_size _ rfl⟩, rfl, q _ (I5.hok.fresh (Nat.le_refl _))⟩
end Sw
namespace Sw
open PySem PySem.Spec PyProof.Rows L2
/-- what holds of every dealt table: of its own -/
structure RwOwn (vals : List Str) (r : Rw) : Prop where
  wd : 1 ≤ r.wd ∧ r.wd ≤ 3
  ks : r.ks.length ≤ 3 ∧ ∀ k ∈ r.ks, 0 ≤ k ∧ k < r.wd
  es : ∀ e ∈ r.es, (∃ c : Int, e.1 = Sum.inl c ∧ 0 ≤ c ∧ c < r.wd) ∧ AscS e.2.2 ∧ e.2.2 ≠ [] ∧ e.2.2.length ≤ 3 ∧ ∀ z ∈ e.2.2, z ∈ vals
/-- a reference from the i-th to a later table -/
def LdOk (ws : List Str) (wds : List Int) (i : Nat) (e : Int × Str × Int) : Prop := ∃ (j : Nat) (v v' : Int), i < j ∧ wds[i]? = some v ∧ wds[j]? = some v' ∧ ws[j]? = some e.2.1 ∧ 0 ≤ e.1 ∧ e.1 < v ∧ 0 ≤ e.2.2 ∧ e.2.2 < v'
/-- the dealt tables, in the order of their names -/
structure Dealt (ws vals : List Str) (rows : List Rw) : Prop where
  nm : rows.map Rw.nm = ws
  own : ∀ r ∈ rows, RwOwn vals r
  ld : ∀ (i : Nat) (r : Rw), rows[i]? = some r → ∀ e ∈ r.ls, LdOk ws (rows.map Rw.wd) i e
  ne : (rows.map fun r => r.es.length).sum ≤ 2
  nl : (rows.map fun r => r.ls.length).sum ≤ 2
/-- _law_deal_tables(hand, names, values) -/
def spDealT (K : PySem.W.Frag) : Sp := fun vs H Q _ => ∃ (h N Va : Addr) (ws vals : List Str), vs = [.ref h, .ref N, .ref Va] ∧ HandAt H h ∧ H N = some (.lst (ws.map V.str)) ∧ H Va = some (.lst (vals.map V.str)) ∧ ws.Nodup ∧ 1 ≤ ws.length ∧ ws.length ≤ 3 ∧ vals.length = 5 ∧
  ∀ (H' : Hp) (T : Addr) (xs : List V) (rows : List Rw), HandAt H' h → SBut h H H' → H T = none → T ≠ h → H' T = some (.lst xs) → (RowsAt K H' T xs rows ∧ Dealt ws vals rows ∨ RowsAt K H' T xs rows.reverse ∧ Dealt ws vals rows) → Q (.ref T) H'
end Sw
namespace Sw
open PySem PySem.Spec PyProof.Rows L2
structure Cell where
  a : Addr
  k : Addr
  m : Addr
  e : Addr
/-- the places of a dealt table -/
structure CellAt (K : PySem.W.Frag) (H : Hp) (c : Cell) (r : Rw) : Prop where
  a : H c.a = some (.lst [.str r.nm, .int r.wd, .ref c.k, .ref c.m, .ref c.e])
  k : H c.k = some (.lst (r.ks.map V.int))
  m : H c.m = some (.dK (r.es.map fun e => (e.1, V.ref e.2.1)))
  mn : (r.es.map (·.1)).Nodup
  me : ∀ e ∈ r.es, H e.2.1 = some (.lst (e.2.2.map V.str)) ∧ e.2.2 ≠ [] ∧ e.2.2.length ≤ 3
  e : ∃ vs, H c.e = some (.lst vs) ∧ LeadsV K H vs r.ls
  kl : r.ks.length ≤ 3
  el : r.es.length ≤ 2
  ll : r.ls.length ≤ 2
def Mine (c : Cell) (r : Rw) (b : Addr) : Prop := b = c.a ∨ b = c.k ∨ b = c.m ∨ b = c.e ∨ ∃ e ∈ r.es, b = e.2.1
theorem SBut.seqT {K : PySem.W.Frag} {H H' : Hp} {x a : Addr} {xs : List V} (e : SBut x H H') (h : SqT K H a xs) (hx : ∃ o, H x = some o ∧ (∀ ys, o ≠ .tup ys) ∧ ∀ u ys, o ≠ .frz u (.tup ys)) : SqT K H' a xs := by
  obtain ⟨o, h1, h2⟩ := hx
  exact SqT.but e h fun o' h' => by rw [h1] at h'; cases h'; exact h2
theorem LeadsV.sbut {K : PySem.W.Frag} {H H' : Hp} {x : Addr} {vs : List V} {ls : List (Int × Str × Int)} (h : LeadsV K H vs ls) (e : SBut x H H') (hx : ∃ o, H x = some o ∧ (∀ ys, o ≠ .tup ys) ∧ ∀ u ys, o ≠ .frz u (.tup ys)) : LeadsV K H' vs ls :=
  ⟨h.len, h.sml, fun i v q => let ⟨z, e1, b, e2, e3⟩ := h.all i v q; ⟨z, e1, b, e2, e.seqT e3 hx⟩⟩
theorem CellAt.sbut {K : PySem.W.Frag} {H H' : Hp} {x : Addr} {c : Cell} {r : Rw} (h : CellAt K H c r) (e : SBut x H H') (n : ∀ b, Mine c r b → b ≠ x) (hx : ∃ o, H x = some o ∧ (∀ ys, o ≠ .tup ys) ∧ ∀ u ys, o ≠ .frz u (.tup ys)) : CellAt K H' c r :=
  ⟨e _ _ (n _ (.inl rfl)) h.a, e _ _ (n _ (.inr (.inl rfl))) h.k, e _ _ (n _ (.inr (.inr (.inl rfl)))) h.m, h.mn, fun u hu => ⟨e _ _ (n _ (.inr (.inr (.inr (.inr ⟨u, hu, rfl⟩))))) (h.me u hu).1, (h.me u hu).2⟩,
    let ⟨vs, h1, h2⟩ := h.e; ⟨vs, e _ _ (n _ (.inr (.inr (.inr (.inl rfl))))) h1, h2.sbut e hx⟩, h.kl, h.el, h.ll⟩
theorem CellAt.same {K : PySem.W.Frag} {H H' : Hp} {c : Cell} {r : Rw} (h : CellAt K H c r) (e : Same H H') : CellAt K H' c r :=
  ⟨e _ _ h.a, e _ _ h.k, e _ _ h.m, h.mn, fun u hu => ⟨e _ _ (h.me u hu).1, (h.me u hu).2⟩, let ⟨vs, h1, h2⟩ := h.e; ⟨vs, e _ _ h1, h2.same e⟩, h.kl, h.el, h.ll⟩
/-- what is mine is a short list or a dict -/
theorem CellAt.mine {K : PySem.W.Frag} {H : Hp} {c : Cell} {r : Rw} {b : Addr} (h : CellAt K H c r) (m : Mine c r b) : (∃ xs, H b = some (.lst xs) ∧ xs.length ≤ 5) ∨ ∃ kvs, H b = some (.dK kvs) := by
  rcases m with rfl | rfl | rfl | rfl | ⟨e, he, rfl⟩
  · exact .inl ⟨_, h.a, Nat.le_refl _⟩
  · exact .inl ⟨_, h.k, by rw [List.length_map]; exact Nat.le_trans h.kl (by decide)⟩
  · exact .inr ⟨_, h.m⟩
  · obtain ⟨vs, h1, h2⟩ := h.e
    exact .inl ⟨vs, h1, by rw [h2.len]; exact Nat.le_trans h.ll (by decide)⟩
  · exact .inl ⟨_, (h.me e he).1, by rw [List.length_map]; exact Nat.le_trans (h.me e he).2.2 (by decide)⟩
/-- short lists and dicts are not the hand -/
theorem hand_short {H : Hp} {h b : Addr} (hh : HandAt H h) (hb : (∃ xs, H b = some (.lst xs) ∧ xs.length ≤ 5) ∨ ∃ kvs, H b = some (.dK kvs)) : b ≠ h := by
  obtain ⟨ns, e, l⟩ := hh
  rintro rfl
  rcases hb with ⟨xs, h1, h2⟩ | ⟨kvs, h1⟩
  · rw [e] at h1
    have := HO.lst.inj (Option.some.inj h1)
    rw [← this, List.length_map] at h2
    omega
  · rw [e] at h1
    cases h1
theorem hand_noTup {H : Hp} {h : Addr} (hh : HandAt H h) : ∃ o, H h = some o ∧ (∀ ys, o ≠ .tup ys) ∧ ∀ u ys, o ≠ .frz u (.tup ys) := by
  obtain ⟨ns, e, l⟩ := hh
  exact ⟨_, e, fun ys z => (nomatch z), fun u ys z => (nomatch z)⟩
/-- the dealt tables at T -/
structure Grid (K : PySem.W.Frag) (H : Hp) (T : Addr) (cs : List Cell) (rows : List Rw) : Prop where
  tb : H T = some (.lst (cs.map fun c => V.ref c.a))
  len : cs.length = rows.length
  sml : cs.length ≤ 3
  all : ∀ (i : Nat) (c : Cell) (r : Rw), cs[i]? = some c → rows[i]? = some r → CellAt K H c r
  ke : ∀ c ∈ cs, ∀ c' ∈ cs, c.k ≠ c'.e
  nE : (cs.map Cell.e).Nodup
  nM : (cs.map Cell.m).Nodup
  nT : ∀ c ∈ cs, T ≠ c.e
theorem Grid.same {K : PySem.W.Frag} {H H' : Hp} {T : Addr} {cs : List Cell} {rows : List Rw} (g : Grid K H T cs rows) (e : Same H H') : Grid K H' T cs rows :=
  ⟨e _ _ g.tb, g.len, g.sml, fun i c r h1 h2 => (g.all i c r h1 h2).same e, g.ke, g.nE, g.nM, g.nT⟩
theorem Grid.hand {K : PySem.W.Frag} {H H' : Hp} {h T : Addr} {cs : List Cell} {rows : List Rw} (g : Grid K H T cs rows) (hh : HandAt H h) (e : SBut h H H') : Grid K H' T cs rows :=
  ⟨e _ _ (hand_short hh (.inl ⟨_, g.tb, by rw [List.length_map]; exact Nat.le_trans g.sml (by decide)⟩)) g.tb, g.len, g.sml, fun i c r h1 h2 => (g.all i c r h1 h2).sbut e (fun b m => hand_short hh ((g.all i c r h1 h2).mine m)) (hand_noTup hh), g.ke, g.nE, g.nM, g.nT⟩
/-- the list of the tables grew by a new one -/
theorem Grid.more {K : PySem.W.Frag} {H H' : Hp} {T : Addr} {cs : List Cell} {rows : List Rw} {c : Cell} {r : Rw} (g : Grid K H T cs rows) (hl : cs.length < 3) (e : Same H H') (hc : CellAt K H' c r) (ne : H c.e = none) (nm : H c.m = none) (nk : c.k ≠ c.e) (nke : ∀ c' ∈ cs, c.k ≠ c'.e)
    (na : c.a ≠ T) (nkT : c.k ≠ T) (nem : ∀ u ∈ r.es, u.2.1 ≠ T) (old : rows = [] ∨ ∀ (i : Nat) (c' : Cell) (r' : Rw), cs[i]? = some c' → rows[i]? = some r' → ∀ b, Mine c' r' b → b ≠ T) : Grid K (upd H' T (.lst (cs.map (fun c => V.ref c.a) ++ [.ref c.a]))) T (cs ++ [c]) (rows ++ [r]) := by
  have hT' := e _ _ g.tb
  have sb : SBut T H' (upd H' T (.lst (cs.map (fun c => V.ref c.a) ++ [.ref c.a]))) := fun b o hb h => by rw [upd_ne hb]; exact h
  have tx : ∃ o, H' T = some o ∧ (∀ ys, o ≠ .tup ys) ∧ ∀ u ys, o ≠ .frz u (.tup ys) := ⟨_, hT', fun ys z => (nomatch z), fun u ys z => (nomatch z)⟩
  have neT : c.e ≠ T := fun z => by rw [z, g.tb] at ne; cases ne
  have nmT : c.m ≠ T := fun z => by rw [z, g.tb] at nm; cases nm
  have inH : ∀ c' ∈ cs, (∃ o, H c'.e = some o) ∧ ∃ o, H c'.m = some o := fun c' h => by
    obtain ⟨i, hi⟩ := List.mem_iff_getElem?.mp h
    have hi2 := (List.getElem?_eq_some_iff.mp hi).1
    have hr := List.getElem?_eq_getElem (show i < rows.length by rw [← g.len]; exact hi2)
    have x := g.all i c' _ hi hr
    obtain ⟨vs, h1, _⟩ := x.e
    exact ⟨⟨_, h1⟩, ⟨_, x.m⟩⟩
  refine ⟨?_, ?_, ?_, ?_, ?_, ?_, ?_, ?_⟩
  · rw [upd_same, List.map_append]
    rfl
  · rw [List.length_append, List.length_append, g.len]
    rfl
  · rw [List.length_append]
    exact hl
  · intro i c' r' h1 h2
    by_cases hi : i < cs.length
    · rw [List.getElem?_append_left hi] at h1
      rw [List.getElem?_append_left (by rw [← g.len]; exact hi)] at h2
      refine ((g.all i c' r' h1 h2).same e).sbut sb ?_ tx
      rcases old with q | q
      · have hl2 := g.len
        rw [q] at hl2
        simp at hl2
        rw [hl2] at hi
        exact absurd hi (Nat.not_lt_zero _)
      · exact q i c' r' h1 h2
    · have ei : i = cs.length := by
        have := (List.getElem?_eq_some_iff.mp h1).1
        rw [List.length_append] at this
        simp at this
        omega
      subst ei
      rw [List.getElem?_append_right (Nat.le_refl _), Nat.sub_self] at h1
      rw [List.getElem?_append_right (by rw [g.len]; exact Nat.le_refl _), g.len, Nat.sub_self] at h2
      obtain rfl : c = c' := Option.some.inj h1
      obtain rfl : r = r' := Option.some.inj h2
      refine hc.sbut sb ?_ tx
      rintro b (rfl | rfl | rfl | rfl | ⟨u, hu, rfl⟩)
      · exact na
      · exact nkT
      · exact nmT
      · exact neT
      · exact nem u hu
  · intro x hx y hy
    rcases List.mem_append.mp hx with hx | hx <;> rcases List.mem_append.mp hy with hy | hy
    · exact g.ke x hx y hy
    · rw [List.mem_singleton.mp hy]
      intro z
      obtain ⟨i, hi⟩ := List.mem_iff_getElem?.mp hx
      have hr := List.getElem?_eq_getElem (show i < rows.length by rw [← g.len]; exact (List.getElem?_eq_some_iff.mp hi).1)
      have x1 := (g.all i x _ hi hr).k
      rw [z, ne] at x1
      cases x1
    · rw [List.mem_singleton.mp hx]
      exact nke y hy
    · rw [List.mem_singleton.mp hx, List.mem_singleton.mp hy]
      exact nk
  · rw [List.map_append, List.nodup_append]
    refine ⟨g.nE, by simp, fun x hx y hy z => ?_⟩
    obtain ⟨c', h1, h2⟩ := List.mem_map.mp hx
    obtain ⟨o, ho⟩ := (inH c' h1).1
    have hy : y = c.e := by simpa using hy
    rw [h2, z, hy, ne] at ho
    cases ho
  · rw [List.map_append, List.nodup_append]
    refine ⟨g.nM, by simp, fun x hx y hy z => ?_⟩
    obtain ⟨c', h1, h2⟩ := List.mem_map.mp hx
    obtain ⟨o, ho⟩ := (inH c' h1).2
    have hy : y = c.m := by simpa using hy
    rw [h2, z, hy, nm] at ho
    cases ho
  · intro x hx
    rcases List.mem_append.mp hx with hx | hx
    · exact g.nT x hx
    · rw [List.mem_singleton.mp hx]
      exact neT.symm
end Sw
namespace Sw
open PySem PySem.Spec PyProof.Rows L2
theorem mine_T {K : PySem.W.Frag} {H : Hp} {c : Cell} {r : Rw} {T x : Addr} {xs : List V} (h : CellAt K H c r) (hT : H T = some (.lst (V.ref x :: xs))) (he : T ≠ c.e) (hes : r.es = []) : ∀ b, Mine c r b → b ≠ T := by
  rintro b (rfl | rfl | rfl | rfl | ⟨u, hu, rfl⟩) z
  · have e := h.a
    rw [z, hT] at e
    have := HO.lst.inj (Option.some.inj e)
    cases this
  · have e := h.k
    rw [z, hT] at e
    have := HO.lst.inj (Option.some.inj e)
    cases hk : r.ks with
    | nil => rw [hk] at this; cases this
    | cons a b => rw [hk] at this; cases this
  · have e := h.m
    rw [z, hT] at e
    cases e
  · exact he z.symm
  · rw [hes] at hu
    cases hu
theorem width_of {v : Int} (h0 : 0 ≤ v) (h5 : v < 5) : ∃ wd : Int, atI [V.int 1, V.int 2, V.int 2, V.int 3, V.int 3] v = some (.int wd) ∧ 1 ≤ wd ∧ wd ≤ 3 := by
  obtain ⟨n, rfl⟩ := Int.eq_ofNat_of_zero_le h0
  have : n = 0 ∨ n = 1 ∨ n = 2 ∨ n = 3 ∨ n = 4 := by omega
  rcases this with rfl | rfl | rfl | rfl | rfl
  · exact ⟨1, atI_nat (j := 0) rfl, by decide, by decide⟩
  · exact ⟨2, atI_nat (j := 1) rfl, by decide, by decide⟩
  · exact ⟨2, atI_nat (j := 2) rfl, by decide, by decide⟩
  · exact ⟨3, atI_nat (j := 3) rfl, by decide, by decide⟩
  · exact ⟨3, atI_nat (j := 4) rfl, by decide, by decide⟩
theorem at4 {α : Type} {a b c d : α} {v : Int} (h0 : 0 ≤ v) (h4 : v < 4) : (v = 0 ∧ atI [a, b, c, d] v = some a) ∨ (v = 1 ∧ atI [a, b, c, d] v = some b) ∨ (v = 2 ∧ atI [a, b, c, d] v = some c) ∨ (v = 3 ∧ atI [a, b, c, d] v = some d) := by
  obtain ⟨n, rfl⟩ := Int.eq_ofNat_of_zero_le h0
  have : n = 0 ∨ n = 1 ∨ n = 2 ∨ n = 3 := by omega
  rcases this with rfl | rfl | rfl | rfl
  · exact .inl ⟨rfl, atI_nat (j := 0) rfl⟩
  · exact .inr (.inl ⟨rfl, atI_nat (j := 1) rfl⟩)
  · exact .inr (.inr (.inl ⟨rfl, atI_nat (j := 2) rfl⟩))
  · exact .inr (.inr (.inr ⟨rfl, atI_nat (j := 3) rfl⟩))
theorem cut01 {wd : Int} (h1 : 1 ≤ wd) (h3 : wd ≤ 3) : ∃ ns : List Int, cutV [V.int 0, V.int 1] none (some (wd - 1)) = ns.map V.int ∧ ns.length ≤ 3 ∧ ∀ k ∈ ns, 0 ≤ k ∧ k < wd := by
  have : wd = 1 ∨ wd = 2 ∨ wd = 3 := by omega
  rcases this with rfl | rfl | rfl
  · exact ⟨[], rfl, by decide, by decide⟩
  · exact ⟨[0], rfl, by decide, by decide⟩
  · exact ⟨[0, 1], rfl, by decide, by decide⟩
end Sw
namespace Sw
open PySem PySem.Spec PyProof.Rows L2
/-- one table changed, at x -/
theorem Grid.chg {K : PySem.W.Frag} {H H' : Hp} {T x : Addr} {cs : List Cell} {rows : List Rw} {i : Nat} {c : Cell} {r' : Rw} (g : Grid K H T cs rows) (hi : cs[i]? = some c) (e : SBut x H H') (hc : CellAt K H' c r') (nT : T ≠ x)
    (hx : ∃ o, H x = some o ∧ (∀ ys, o ≠ .tup ys) ∧ ∀ u ys, o ≠ .frz u (.tup ys)) (old : ∀ (j : Nat) (c1 : Cell) (r1 : Rw), j ≠ i → cs[j]? = some c1 → rows[j]? = some r1 → ∀ b, Mine c1 r1 b → b ≠ x) : Grid K H' T cs (rows.set i r') := by
  refine ⟨e _ _ nT g.tb, by rw [List.length_set]; exact g.len, g.sml, fun j c1 r1 h1 h2 => ?_, g.ke, g.nE, g.nM, g.nT⟩
  by_cases hj : j = i
  · subst hj
    rw [hi] at h1
    obtain rfl : c = c1 := Option.some.inj h1
    have hl : j < rows.length := by
      rw [← g.len]
      exact (List.getElem?_eq_some_iff.mp hi).1
    rw [List.getElem?_set_self hl] at h2
    obtain rfl : r' = r1 := Option.some.inj h2
    exact hc
  · rw [List.getElem?_set_ne (fun z => hj z.symm)] at h2
    exact (g.all j c1 r1 h1 h2).sbut e (old j c1 r1 hj h1 h2) hx
/-- an entry put into a menu's dict -/
def putE (es : List Ent) (k : Key) (R : Addr) (us : List Str) : List Ent := if (es.any fun e => decide (e.1 = k)) = true then es.map (fun e => if e.1 = k then (k, R, us) else e) else es ++ [(k, R, us)]
theorem putE_kv (es : List Ent) (k : Key) (R : Addr) (us : List Str) : putK (es.map fun e => (e.1, V.ref e.2.1)) k (.ref R) = (putE es k R us).map fun e => (e.1, V.ref e.2.1) := by
  have e : ((es.map fun e => (e.1, V.ref e.2.1)).any fun kv => decide (kv.1 = k)) = es.any fun e => decide (e.1 = k) := by
    rw [List.any_map]
    rfl
  unfold putE putK
  rw [e]
  cases es.any fun e => decide (e.1 = k) with
  | true =>
    rw [if_pos rfl, if_pos rfl, List.map_map, List.map_map]
    refine List.map_congr_left fun u _ => ?_
    by_cases q : u.1 = k
    · simp [q]
    · simp [q]
  | false =>
    rw [if_neg Bool.false_ne_true, if_neg Bool.false_ne_true, List.map_append]
    rfl
theorem putE_mem {es : List Ent} {k : Key} {R : Addr} {us : List Str} {u : Ent} (h : u ∈ putE es k R us) : u = (k, R, us) ∨ u ∈ es := by
  unfold putE at h
  split at h
  · obtain ⟨w, h1, h2⟩ := List.mem_map.mp h
    by_cases q : w.1 = k
    · rw [if_pos q] at h2
      exact .inl h2.symm
    · rw [if_neg q] at h2
      rw [← h2]
      exact .inr h1
  · rcases List.mem_append.mp h with q | q
    · exact .inr q
    · exact .inl (List.mem_singleton.mp q)
theorem putE_len (es : List Ent) (k : Key) (R : Addr) (us : List Str) : (putE es k R us).length ≤ es.length + 1 := by
  unfold putE
  split
  · rw [List.length_map]
    exact Nat.le_succ _
  · rw [List.length_append]
    exact Nat.le_refl _
theorem putE_nd {es : List Ent} (nd : (es.map (·.1)).Nodup) (k : Key) (R : Addr) (us : List Str) : ((putE es k R us).map (·.1)).Nodup := by
  unfold putE
  split
  · have e : (es.map fun e => if e.1 = k then (k, R, us) else e).map (·.1) = es.map (·.1) := by
      rw [List.map_map]
      refine List.map_congr_left fun u _ => ?_
      by_cases q : u.1 = k
      · simp [q]
      · simp [q]
    rw [e]
    exact nd
  · rename_i h
    rw [List.map_append, List.nodup_append]
    refine ⟨nd, by simp, fun x hx y hy z => h ?_⟩
    have hy : y = k := by simpa using hy
    obtain ⟨u, h1, h2⟩ := List.mem_map.mp hx
    exact List.any_eq_true.mpr ⟨u, h1, decide_eq_true (by rw [h2, z, hy])⟩
theorem sum_set {α : Type} (f : α → Nat) : ∀ {l : List α} {i : Nat} {a b : α}, l[i]? = some a → f b ≤ f a + 1 → ((l.set i b).map f).sum ≤ (l.map f).sum + 1
  | [], _, _, _, h, _ => nomatch h
  | x :: r, 0, a, b, h, q => by
    obtain rfl : x = a := Option.some.inj h
    show f b + (r.map f).sum ≤ f x + (r.map f).sum + 1
    omega
  | x :: r, i + 1, a, b, h, q => by
    have := sum_set f (l := r) (i := i) (a := a) (b := b) h q
    show f x + ((r.set i b).map f).sum ≤ f x + (r.map f).sum + 1
    omega
theorem le_sum {α : Type} (f : α → Nat) : ∀ {l : List α} {a : α}, a ∈ l → f a ≤ (l.map f).sum
  | x :: r, a, h => by
    rcases List.mem_cons.mp h with rfl | h
    · exact Nat.le_add_right _ _
    · exact Nat.le_trans (le_sum f h) (Nat.le_add_left _ _)
theorem map_set {α β : Type} (f : α → β) {l : List α} {i : Nat} {a b : α} (h : l[i]? = some a) (e : f b = f a) : (l.set i b).map f = l.map f := by
  refine List.ext_getElem? fun j => ?_
  rw [List.getElem?_map, List.getElem?_map]
  by_cases hj : i = j
  · subst hj
    rw [List.getElem?_set_self (List.getElem?_eq_some_iff.mp h).1, h]
    exact congrArg some e
  · rw [List.getElem?_set_ne hj]
theorem mem_set {α : Type} {l : List α} {i : Nat} {b x : α} (h : x ∈ l.set i b) : x = b ∨ x ∈ l := by
  rcases List.mem_or_eq_of_mem_set h with q | q
  · exact .inr q
  · exact .inl q
theorem cut_menu {vals : List Str} (h5 : vals.length = 5) {s u : Int} (s0 : 0 ≤ s) (s3 : s < 3) (u0 : 0 ≤ u) (u3 : u < 3) : ∃ ms : List Str, cutV (vals.map V.str) (some s) (some (s + 1 + u)) = ms.map V.str ∧ ms ≠ [] ∧ ms.length ≤ 3 ∧ ∀ z ∈ ms, z ∈ vals := by
  obtain ⟨n, rfl⟩ := Int.eq_ofNat_of_zero_le s0
  obtain ⟨m, rfl⟩ := Int.eq_ofNat_of_zero_le u0
  have e : (n : Int) + 1 + (m : Int) = ((n + 1 + m : Nat) : Int) := rfl
  have hn : n < 3 := by omega
  have hm : m < 3 := by omega
  refine ⟨(vals.drop n).take (n + 1 + m - n - (n + 1 + m - 5)), ?_, ?_, ?_, ?_⟩
  · unfold cutV
    rw [List.length_map, h5]
    have h1 : HT.sIx 5 0 (some (n : Int)) = n := by
      have := HT.sIx_nat 5 0 n
      have q : min n 5 = n := by omega
      rw [q] at this
      exact this
    have h2 : HT.sIx 5 5 (some ((n : Int) + 1 + (m : Int))) = min (n + 1 + m) 5 := HT.sIx_nat 5 5 (n + 1 + m)
    rw [h1, h2, List.map_take, List.map_drop]
    congr 1
    omega
  · intro z
    have := congrArg List.length z
    rw [List.length_take, List.length_drop, h5] at this
    simp at this
    omega
  · rw [List.length_take]
    omega
  · intro z hz
    exact List.mem_of_mem_drop (List.mem_of_mem_take hz)
end Sw
namespace Sw
open PySem PySem.Spec PyProof.Rows L2
theorem asc_nd : ∀ {us : List Str}, AscS us → us.Nodup
  | [], _ => .nil
  | u :: r, h => List.nodup_cons.mpr ⟨fun m => SLt.irrefl u ((List.pairwise_cons.mp h).1 u m), asc_nd (List.pairwise_cons.mp h).2⟩
theorem asc_sub {us ms : List Str} (as : AscS us) (hm : ∀ z, z ∈ us ↔ z ∈ ms) (h : ms.length ≤ 3) : us.length ≤ 3 := Nat.le_trans (nodup_le (asc_nd as) fun z hz => (hm z).mp hz) h
theorem asc_ne {us ms : List Str} (hm : ∀ z, z ∈ us ↔ z ∈ ms) (h : ms ≠ []) : us ≠ [] := fun e => by
  cases hms : ms with
  | nil => exact h hms
  | cons m r =>
    have : m ∈ us := (hm m).mpr (by rw [hms]; exact List.mem_cons_self)
    rw [e] at this
    cases this
end Sw
namespace Sw
open PySem PySem.Spec PyProof.Rows L2
theorem idx_inj {α β : Type} {f : α → β} : ∀ {l : List α} {i j : Nat} {a b : α}, (l.map f).Nodup → l[i]? = some a → l[j]? = some b → f a = f b → i = j
  | [], _, _, _, _, _, h, _, _ => nomatch h
  | x :: r, 0, 0, _, _, _, _, _, _ => rfl
  | x :: r, 0, j + 1, a, b, nd, h1, h2, e => by
    obtain rfl : x = a := Option.some.inj h1
    have h2 : r[j]? = some b := h2
    exact absurd (List.mem_map.mpr ⟨b, List.mem_of_getElem? h2, e.symm⟩) (List.nodup_cons.mp nd).1
  | x :: r, i + 1, 0, a, b, nd, h1, h2, e => by
    obtain rfl : x = b := Option.some.inj h2
    have h1 : r[i]? = some a := h1
    exact absurd (List.mem_map.mpr ⟨a, List.mem_of_getElem? h1, e⟩) (List.nodup_cons.mp nd).1
  | x :: r, i + 1, j + 1, a, b, nd, h1, h2, e => congrArg (· + 1) (idx_inj (l := r) (List.nodup_cons.mp nd).2 h1 h2 e)
end Sw
namespace Sw
open PySem PySem.Spec PyProof.Rows L2
/-- a list that begins with a text is no list of references -/
theorem lead_ne {K : PySem.W.Frag} {H : Hp} {vs : List V} {ls : List (Int × Str × Int)} {b e : Addr} {xs : List V} {z : Str} (h : LeadsV K H vs ls) (hb : H b = some (.lst xs)) (he : H e = some (.lst vs)) (hx : xs[0]? = some (.str z)) : b ≠ e := by
  rintro rfl
  rw [hb] at he
  have e1 := HO.lst.inj (Option.some.inj he)
  rw [e1] at hx
  obtain ⟨_, _, q, e2, _⟩ := h.all 0 _ hx
  cases e2
theorem LeadsV.snoc {K : PySem.W.Frag} {H : Hp} {vs : List V} {ls : List (Int × Str × Int)} {q : Addr} {e : Int × Str × Int} (h : LeadsV K H vs ls) (hq : SqT K H q [.int e.1, .str e.2.1, .int e.2.2]) (hl : ls.length + 1 ≤ 100) : LeadsV K H (vs ++ [.ref q]) (ls ++ [e]) := by
  refine ⟨by rw [List.length_append, List.length_append, h.len]; rfl, by rw [List.length_append]; exact hl, fun i v hv => ?_⟩
  by_cases hi : i < vs.length
  · rw [List.getElem?_append_left hi] at hv
    obtain ⟨e1, h1, h2⟩ := h.all i v hv
    exact ⟨e1, by rw [List.getElem?_append_left (by rw [← h.len]; exact hi)]; exact h1, h2⟩
  · have ei : i = vs.length := by
      have := (List.getElem?_eq_some_iff.mp hv).1
      rw [List.length_append] at this
      simp at this
      omega
    subst ei
    rw [List.getElem?_append_right (Nat.le_refl _), Nat.sub_self] at hv
    obtain rfl : V.ref q = v := Option.some.inj hv
    exact ⟨e, by rw [h.len, List.getElem?_append_right (Nat.le_refl _), Nat.sub_self]; rfl, q, rfl, hq⟩
theorem strs_head {ms : List Str} (h : ms ≠ []) : ∃ z, (ms.map V.str)[0]? = some (.str z) := by
  cases ms with
  | nil => exact absurd rfl h
  | cons z r => exact ⟨z, rfl⟩
end Sw
namespace Sw
open PySem PySem.Spec PyProof.Rows L2
theorem CellAt.rw {K : PySem.W.Frag} {H : Hp} {c : Cell} {r : Rw} (h : CellAt K H c r) : RwAt K H (.ref c.a) r := by
  obtain ⟨vs, e1, e2⟩ := h.e
  refine ⟨⟨c.a, c.k, c.m, c.e, vs, rfl, SqL.of h.a, SqL.of h.k, ⟨h.m, h.mn, Nat.le_trans h.el (by decide), fun e he => ⟨.inl (SqL.of (h.me e he).1), Nat.lt_of_le_of_lt (h.me e he).2.2 (by decide)⟩⟩, SqL.of e1, e2⟩, Nat.le_trans h.kl (by decide), fun e he => SqL.of (h.me e he).1⟩
theorem Grid.rows {K : PySem.W.Frag} {H : Hp} {T p : Addr} {cs : List Cell} {rows : List Rw} (g : Grid K H T cs rows) (hp : SqL K H p (cs.map fun c => V.ref c.a)) : RowsAt K H p (cs.map fun c => V.ref c.a) rows := by
  refine ⟨hp, by rw [List.length_map]; exact g.len, fun i v hv => ?_⟩
  rw [List.getElem?_map] at hv
  cases hc : cs[i]? with
  | none => rw [hc] at hv; cases hv
  | some c =>
    rw [hc] at hv
    obtain rfl : V.ref c.a = v := Option.some.inj hv
    have hr := List.getElem?_eq_getElem (show i < rows.length by rw [← g.len]; exact (List.getElem?_eq_some_iff.mp hc).1)
    exact ⟨_, hr, (g.all i c _ hc hr).rw⟩
theorem RowsAt.rev {K : PySem.W.Frag} {H : Hp} {T p : Addr} {xs : List V} {rows : List Rw} (h : RowsAt K H T xs rows) (hp : SqL K H p xs.reverse) : RowsAt K H p xs.reverse rows.reverse := by
  refine ⟨hp, by rw [List.length_reverse, List.length_reverse]; exact h.len, fun i v hv => ?_⟩
  have hi : i < xs.length := by
    have := (List.getElem?_eq_some_iff.mp hv).1
    rw [List.length_reverse] at this
    exact this
  rw [List.getElem?_reverse hi] at hv
  obtain ⟨r, h1, h2⟩ := h.all _ v hv
  exact ⟨r, by rw [List.getElem?_reverse (by rw [← h.len]; exact hi), ← h.len]; exact h1, h2⟩
end Sw
namespace Sw
open PySem PySem.Spec PyProof.Rows L2
theorem Dealt.nth {ws vals : List Str} {rows : List Rw} (D : Dealt ws vals rows) {i : Nat} {r : Rw} (h : rows[i]? = some r) : ws[i]? = some r.nm := by
  rw [← D.nm, List.getElem?_map, h]
  rfl
/-- references lead to later names alone -/
theorem Dealt.up {ws vals : List Str} {rows rows' : List Rw} (D : Dealt ws vals rows) (hm : ∀ r ∈ rows', r ∈ rows) {l : List Tb} (hl : ∀ (i : Nat) (t : Tb), l[i]? = some t → ∃ r : Rw, rows'[i]? = some r ∧ t.nm = r.nm ∧ t.zs = r.ls.map fun e => e.2.1) {t : Tb} (ht : t ∈ l) {z : Str} (hz : z ∈ t.zs) :
    ∃ i j : Nat, ws[i]? = some t.nm ∧ ws[j]? = some z ∧ i < j := by
  obtain ⟨k, hk⟩ := List.mem_iff_getElem?.mp ht
  obtain ⟨r, h1, h2, h3⟩ := hl k t hk
  obtain ⟨i, hi⟩ := List.mem_iff_getElem?.mp (hm r (List.mem_of_getElem? h1))
  rw [h3] at hz
  obtain ⟨e, he, rfl⟩ := List.mem_map.mp hz
  obtain ⟨j, v, v', hij, _, _, hj, _⟩ := D.ld i r hi e he
  exact ⟨i, j, by rw [h2]; exact D.nth hi, hj, hij⟩
theorem nd_idx {ws : List Str} (nd : ws.Nodup) {i j : Nat} {a : Str} (h1 : ws[i]? = some a) (h2 : ws[j]? = some a) : i = j := idx_inj (f := id) (by rw [List.map_id]; exact nd) h1 h2 rfl
theorem Dealt.sane {ws vals : List Str} {rows rows' : List Rw} (D : Dealt ws vals rows) (nd : ws.Nodup) (n1 : 1 ≤ ws.length) (n3 : ws.length ≤ 3) (hm : ∀ r, r ∈ rows' ↔ r ∈ rows) (hn : (rows'.map Rw.nm).Nodup) (hlen : rows'.length = rows.length) : Sane rows' := by
  have hwl : rows.length = ws.length := by rw [← D.nm, List.length_map]
  refine ⟨hn, fun l hl ha => ?_, by omega, by omega, fun r hr => ?_⟩
  · have up : ∀ {a b : Str}, b ∈ leads l a → ∃ i j : Nat, ws[i]? = some a ∧ ws[j]? = some b ∧ i < j := fun {a b} h => by
      unfold leads at h
      cases e : l.find? fun t => decide (t.nm = a) with
      | none => rw [e] at h; exact nomatch h
      | some t =>
        rw [e] at h
        have q := List.find?_some e
        have q : t.nm = a := of_decide_eq_true q
        have z := D.up (fun r hr => (hm r).mp hr) ha (List.mem_of_find?_eq_some e) (z := b) h
        rw [q] at z
        exact z
    have names : ∀ z, z ∈ ws → z ∈ l.map Tb.nm := fun z hz => by
      rw [← D.nm] at hz
      obtain ⟨r, hr, rfl⟩ := List.mem_map.mp hz
      obtain ⟨k, hk⟩ := List.mem_iff_getElem?.mp ((hm r).mpr hr)
      have hk2 := (List.getElem?_eq_some_iff.mp hk).1
      have ht := List.getElem?_eq_getElem (show k < l.length by omega)
      obtain ⟨r', h1, h2, _⟩ := ha k _ ht
      rw [hk] at h1
      obtain rfl := Option.some.inj h1
      exact List.mem_map.mpr ⟨_, List.mem_of_getElem? ht, h2⟩
    refine ⟨fun t ht z hz => ?_, fun u hu r => ?_⟩
    · obtain ⟨i, j, _, h2, _⟩ := D.up (fun r hr => (hm r).mp hr) ha ht hz
      exact names z (List.mem_of_getElem? h2)
    · have rk : ∀ {a b : Str}, Rch l a b → ∃ i j : Nat, ws[i]? = some a ∧ ws[j]? = some b ∧ i < j := by
        intro a b r
        induction r with
        | one h => exact up h
        | snoc _ h ih =>
          obtain ⟨i, j, h1, h2, h3⟩ := ih
          obtain ⟨i', k, h4, h5, h6⟩ := up h
          have := nd_idx nd h2 h4
          exact ⟨i, k, h1, h5, by omega⟩
      obtain ⟨i, j, h1, h2, h3⟩ := rk r
      have := nd_idx nd h1 h2
      omega
  · have h1 := le_sum (fun r : Rw => r.ls.length) ((hm r).mp hr)
    have h2 : r.ls.length ≤ (rows.map fun r => r.ls.length).sum := h1
    have := D.nl
    omega
theorem nd_rev {α : Type} {l : List α} (h : l.Nodup) : l.reverse.Nodup := List.pairwise_reverse.mpr (List.Pairwise.imp (fun n z => n z.symm) h)
theorem Dealt.sane0 {ws vals : List Str} {rows : List Rw} (D : Dealt ws vals rows) (nd : ws.Nodup) (n1 : 1 ≤ ws.length) (n3 : ws.length ≤ 3) : Sane rows := D.sane nd n1 n3 (fun _ => .rfl) (by rw [D.nm]; exact nd) rfl
theorem Dealt.saneR {ws vals : List Str} {rows : List Rw} (D : Dealt ws vals rows) (nd : ws.Nodup) (n1 : 1 ≤ ws.length) (n3 : ws.length ≤ 3) : Sane rows.reverse :=
  D.sane nd n1 n3 (fun _ => List.mem_reverse) (by rw [List.map_reverse, D.nm]; exact nd_rev nd) (by rw [List.length_reverse])
end Sw
namespace Sw
open PySem PySem.Spec PyProof.Rows L2
/-- _law_find(tables, name): the dealt table of this name -/
def spFind (K : PySem.W.Frag) : Sp := fun vs H Q _ => ∃ (a : Addr) (z : Str) (xs : List V) (rows : List Rw), vs = [.ref a, .str z] ∧ RowsAt K H a xs rows ∧ rows.length ≤ 100 ∧ z ∈ rows.map Rw.nm ∧
  ∀ (H' : Hp) (i : Nat) (v : V) (r : Rw), Same H H' → xs[i]? = some v → rows[i]? = some r → r.nm = z → Q v H'
/-- the name's references lead down no deeper than d -/
def Ht (rows : List Rw) : Nat → Str → Prop
  | 0, _ => False
  | d + 1, z => z ∈ rows.map Rw.nm ∧ ∀ r ∈ rows, r.nm = z → ∀ e ∈ r.ls, Ht rows d e.2.1
/-- _law_cost(tables, name): some number -/
def spCost (K : PySem.W.Frag) (d : Nat) : Sp := fun vs H Q _ => ∃ (a : Addr) (z : Str) (xs : List V) (rows : List Rw), vs = [.ref a, .str z] ∧ RowsAt K H a xs rows ∧ rows.length ≤ 100 ∧ Ht rows d z ∧ ∀ (H' : Hp) (c : Int), Same H H' → Q (.int c) H'
theorem zip_fst {α β : Type} : ∀ {xs : List α} {ys : List β}, xs.length = ys.length → (xs.zip ys).map Prod.fst = xs
  | [], [], _ => rfl
  | x :: r, y :: s, h => by
    show x :: (r.zip s).map Prod.fst = _
    rw [zip_fst (Nat.succ.inj h)]
theorem zip_at {α β : Type} {xs : List α} {ys : List β} {i : Nat} {u : α × β} (h : (xs.zip ys)[i]? = some u) : xs[i]? = some u.1 ∧ ys[i]? = some u.2 := by
  rw [List.getElem?_zip_eq_some] at h
  exact h
theorem Dealt.ht {ws vals : List Str} {rows rows' : List Rw} (D : Dealt ws vals rows) (nd : ws.Nodup) (hm : ∀ r, r ∈ rows' ↔ r ∈ rows) : ∀ (d i : Nat) (z : Str), ws[i]? = some z → ws.length ≤ i + d → Ht rows' d z
  | 0, i, z, h, hd => by
    have := (List.getElem?_eq_some_iff.mp h).1
    omega
  | d + 1, i, z, h, hd => by
    refine ⟨?_, fun r hr hn e he => ?_⟩
    · have : z ∈ rows.map Rw.nm := by rw [D.nm]; exact List.mem_of_getElem? h
      obtain ⟨r, h1, h2⟩ := List.mem_map.mp this
      exact List.mem_map.mpr ⟨r, (hm r).mpr h1, h2⟩
    · obtain ⟨k, hk⟩ := List.mem_iff_getElem?.mp ((hm r).mp hr)
      have hkn := D.nth hk
      rw [hn] at hkn
      obtain rfl := nd_idx nd hkn h
      obtain ⟨j, v, v', hij, _, _, hj, _⟩ := D.ld k r hk e he
      exact D.ht nd hm d j e.2.1 hj (by omega)
end Sw
namespace Sw
open PySem PySem.Spec PyProof.Rows L2
/-- a list that is not as long as the hand -/
theorem sqL_hand {K : PySem.W.Frag} {H H' : Hp} {h a : Addr} {xs : List V} (q : SqL K H a xs) (hh : HandAt H h) (e : SBut h H H') (l : xs.length ≤ 60) : SqL K H' a xs := by
  obtain ⟨ns, e1, l1⟩ := hh
  rcases q with (q | ⟨o, q⟩) | q
  · refine .inl (.inl (e _ _ (fun z => ?_) q))
    rw [z, e1] at q
    have := HO.lst.inj (Option.some.inj q)
    rw [← this, List.length_map] at l
    omega
  · refine .inl (.inr ⟨o, e _ _ (fun z => ?_) q⟩)
    rw [z, e1] at q
    cases q
  · exact .inr q
theorem sqT_hand {K : PySem.W.Frag} {H H' : Hp} {h a : Addr} {xs : List V} (q : SqT K H a xs) (hh : HandAt H h) (e : SBut h H H') : SqT K H' a xs := e.seqT q (hand_noTup hh)
/-- a short text of real signs -/
def SOk (z : Str) : Prop := z.length ≤ 1000 ∧ PySem.PyData.strOk z = true
/-- begins with the sign of a variable -/
def isV (z : Str) : Bool := decide (V.str (cutS z none (some 1)) = V.str "?")
/-- a list of tuples of short texts -/
structure ShapesAt (K : PySem.W.Frag) (H : Hp) (a : Addr) (xs : List V) (ss : List (List Str)) : Prop where
  at_ : SqL K H a xs
  len : xs.length = ss.length
  sml : ss.length ≤ 10
  all : ∀ (i : Nat) (v : V), xs[i]? = some v → ∃ s, ss[i]? = some s ∧ (∃ q, v = .ref q ∧ SqT K H q (s.map V.str)) ∧ 2 ≤ s.length ∧ s.length ≤ 10 ∧ ∀ z ∈ s, SOk z
theorem ShapesAt.same {K : PySem.W.Frag} {H H' : Hp} {a : Addr} {xs : List V} {ss : List (List Str)} (h : ShapesAt K H a xs ss) (e : Same H H') : ShapesAt K H' a xs ss :=
  ⟨e.seq h.at_, h.len, h.sml, fun i v q => let ⟨s, h1, ⟨b, h2, h3⟩, h4⟩ := h.all i v q; ⟨s, h1, ⟨b, h2, same_seqT e h3⟩, h4⟩⟩
theorem ShapesAt.hand {K : PySem.W.Frag} {H H' : Hp} {h a : Addr} {xs : List V} {ss : List (List Str)} (q : ShapesAt K H a xs ss) (hh : HandAt H h) (e : SBut h H H') : ShapesAt K H' a xs ss :=
  ⟨sqL_hand q.at_ hh e (by rw [q.len]; have := q.sml; omega), q.len, q.sml, fun i v hv => let ⟨s, h1, ⟨b, h2, h3⟩, h4⟩ := q.all i v hv; ⟨s, h1, ⟨b, h2, sqT_hand h3 hh e⟩, h4⟩⟩
def shD (ss : List (List Str)) : List PyData := ss.map fun s => .tuple (s.map .str)
theorem dpStrs {K : PySem.W.Frag} {H : Hp} : ∀ s : List Str, DpAll K H (s.map V.str) (s.map .str)
  | [] => .nil
  | z :: r => .cons (.str z) (dpStrs r)
theorem ShapesAt.dp {K : PySem.W.Frag} {H : Hp} : ∀ {xs : List V} {ss : List (List Str)}, xs.length = ss.length → (∀ (i : Nat) (v : V), xs[i]? = some v → ∃ s, ss[i]? = some s ∧ (∃ q, v = .ref q ∧ SqT K H q (s.map V.str)) ∧ 2 ≤ s.length ∧ s.length ≤ 10 ∧ ∀ z ∈ s, SOk z) → DpAll K H xs (shD ss)
  | [], [], _, _ => .nil
  | x :: xs, s :: ss, hl, h => by
    obtain ⟨s', h1, ⟨q, rfl, h2⟩, _⟩ := h 0 x rfl
    obtain rfl : s = s' := Option.some.inj h1
    exact .cons (.tup h2 (dpStrs s)) (ShapesAt.dp (Nat.succ.inj hl) fun i v hv => h (i + 1) v hv)
theorem canStrs : ∀ {s : List Str}, (∀ z ∈ s, SOk z) → PySem.PyData.canLayAll0 (s.map .str) = true ∧ PySem.PyData.depthAll (s.map .str) = 0
  | [], _ => ⟨rfl, rfl⟩
  | z :: r, h => by
    obtain ⟨h1, h2⟩ := canStrs (s := r) fun x hx => h x (List.mem_cons_of_mem _ hx)
    constructor
    · show (PySem.PyData.strOk z && PySem.PyData.canLayAll0 (r.map .str)) = true
      rw [h1, (h z List.mem_cons_self).2]
      rfl
    · show max 0 (PySem.PyData.depthAll (r.map .str)) = 0
      rw [h2]
      rfl
theorem canShapes : ∀ {ss : List (List Str)}, (∀ s ∈ ss, ∀ z ∈ s, SOk z) → PySem.PyData.canLayAll0 (shD ss) = true ∧ PySem.PyData.depthAll (shD ss) ≤ 1
  | [], _ => ⟨rfl, Nat.zero_le _⟩
  | s :: r, h => by
    obtain ⟨h1, h2⟩ := canShapes (ss := r) fun x hx => h x (List.mem_cons_of_mem _ hx)
    obtain ⟨h3, h4⟩ := canStrs (h s List.mem_cons_self)
    constructor
    · show (PySem.PyData.canLayAll0 (s.map .str) && PySem.PyData.canLayAll0 (shD r)) = true
      rw [h1, h3]
      rfl
    · show max (PySem.PyData.depthAll (s.map .str) + 1) (PySem.PyData.depthAll (shD r)) ≤ 1
      rw [h4]
      omega
theorem shapedShapes {ss : List (List Str)} (h : ∀ s ∈ ss, ∀ z ∈ s, SOk z) : SeqAt.shaped (.list (shD ss)) = true := by
  obtain ⟨h1, h2⟩ := canShapes h
  unfold SeqAt.shaped
  have e1 : PySem.PyData.canLay0 (.list (shD ss)) = true := h1
  have e2 : PySem.PyData.depth (.list (shD ss)) = PySem.PyData.depthAll (shD ss) + 1 := rfl
  rw [e1, e2, decide_eq_true (by omega)]
  rfl
theorem eqvNil (ss : List (List Str)) : PySem.PyData.eqv (.list (shD ss)) (.list []) = ss.isEmpty := by
  cases ss with
  | nil => rfl
  | cons s r => rfl
/-- all variables, in their order, as often as they stand -/
def allVars (ss : List (List Str)) : List Str := ss.flatMap fun s => s.tail.filter isV
/-- _law_vars(shapes): the different variables -/
def spVars (K : PySem.W.Frag) : Sp := fun vs H Q _ => ∃ (a : Addr) (xs : List V) (ss : List (List Str)), vs = [.ref a] ∧ ShapesAt K H a xs ss ∧
  ∀ (H' : Hp) (D : Addr) (us : List Str), Same H H' → H D = none → H' D = some (.lst (us.map V.str)) → us.Nodup → (∀ z, z ∈ us ↔ z ∈ allVars ss) → us.length ≤ 100 → Q (.ref D) H'
theorem cut_tail (s : List Str) (h : 1 ≤ s.length) : cutV (s.map V.str) (some 1) none = s.tail.map V.str := by
  unfold cutV
  have h1 : HT.sIx (s.map V.str).length 0 (some 1) = 1 := by
    have := HT.sIx_nat (s.map V.str).length 0 1
    rw [List.length_map] at this ⊢
    have q : min 1 s.length = 1 := by omega
    rw [q] at this
    exact this
  rw [h1, HT.sIx_none]
  cases s with
  | nil => rfl
  | cons z r =>
    show ((r.map V.str)).take _ = r.map V.str
    rw [List.take_of_length_le]
    simp
theorem cut_upto (xs : List V) (k : Nat) : cutV xs none (some (k : Int)) = xs.take k := by
  unfold cutV
  rw [HT.sIx_none, HT.sIx_nat, List.drop_zero, Nat.sub_zero]
  by_cases h : k ≤ xs.length
  · rw [Nat.min_eq_left h]
  · rw [Nat.min_eq_right (by omega), List.take_length, List.take_of_length_le (by omega)]
theorem allVars_len : ∀ {ss : List (List Str)}, (∀ s ∈ ss, s.length ≤ 10) → (allVars ss).length ≤ ss.length * 10
  | [], _ => Nat.zero_le _
  | s :: r, h => by
    unfold allVars
    rw [List.flatMap_cons, List.length_append, List.length_cons]
    have h1 := h s List.mem_cons_self
    have h2 := List.length_filter_le isV s.tail
    have h3 := allVars_len (ss := r) fun u hu => h u (List.mem_cons_of_mem _ hu)
    unfold allVars at h3
    rw [List.length_tail] at h2
    omega
end Sw
namespace Sw
open PySem PySem.Spec PyProof.Rows L2
/-- a part of a dealt table: its name, then a term for each column -/
def PartOk (rows : List Rw) (tms : List Str) (s : List Str) : Prop := ∃ r ∈ rows, s.head? = some r.nm ∧ (s.tail.length : Int) = r.wd ∧ ∀ z ∈ s.tail, z ∈ tms ∨ ∃ e ∈ r.es, z ∈ e.2.2
/-- what the laws know of dealt tables -/
structure RowsOk (vals : List Str) (rows : List Rw) : Prop where
  own : ∀ r ∈ rows, RwOwn vals r
  ls : ∀ r ∈ rows, r.ls.length ≤ 2
  ht : ∀ r ∈ rows, Ht rows 3 r.nm
  n1 : 1 ≤ rows.length
  n3 : rows.length ≤ 3
/-- _law_parts(hand, tables, terms, many, room) -/
def spParts (K : PySem.W.Frag) : Sp := fun vs H Q _ => ∃ (h T Tm : Addr) (many : Nat) (room : Int) (xs : List V) (rows : List Rw) (vals tms : List Str), vs = [.ref h, .ref T, .ref Tm, .int (many : Int), .int room] ∧ HandAt H h ∧ RowsAt K H T xs rows ∧ RowsOk vals rows ∧ (∀ r ∈ rows, SOk r.nm) ∧ (∀ z ∈ vals, SOk z) ∧
  SqL K H Tm (tms.map V.str) ∧ 1 ≤ tms.length ∧ tms.length ≤ 60 ∧ (∀ z ∈ tms, SOk z) ∧ 1 ≤ many ∧ many ≤ 10 ∧
  ∀ (H' : Hp) (a : Addr) (ys : List V) (ss : List (List Str)), HandAt H' h → SBut h H H' → H a = none → a ≠ h → H' a = some (.lst ys) → ShapesAt K H' a ys ss → 1 ≤ ss.length → ss.length ≤ many → (∀ s ∈ ss, PartOk rows tms s) → Q (.ref a) H'
theorem LeadsV.hand {K : PySem.W.Frag} {H H' : Hp} {h : Addr} {vs : List V} {ls : List (Int × Str × Int)} (q : LeadsV K H vs ls) (hh : HandAt H h) (e : SBut h H H') : LeadsV K H' vs ls := q.sbut e (hand_noTup hh)
theorem RwAt.hand {K : PySem.W.Frag} {H H' : Hp} {h : Addr} {v : V} {r : Rw} {vals : List Str} (q : RwAt K H v r) (hh : HandAt H h) (e : SBut h H H') (o : RwOwn vals r) (l : r.ls.length ≤ 2) : RwAt K H' v r := by
  obtain ⟨⟨a, k, m, el, vs, h1, h2, h3, h4, h5, h6⟩, h7, h8⟩ := q
  refine ⟨⟨a, k, m, el, vs, h1, sqL_hand h2 hh e (by show 5 ≤ 60; decide), sqL_hand h3 hh e (by rw [List.length_map]; have := o.ks.1; omega), ⟨e _ _ (hand_short hh (.inr ⟨_, h4.at_⟩)) h4.at_, h4.nd, h4.len, fun u hu => ⟨(h4.all u hu).1.imp (fun z => sqL_hand z hh e ?_) (fun z => sqT_hand z hh e), (h4.all u hu).2⟩⟩, sqL_hand h5 hh e ?_, h6.hand hh e⟩, h7, fun u hu => sqL_hand (h8 u hu) hh e (by rw [List.length_map]; have := (o.es u hu).2.2.2.1; omega)⟩
  · rw [List.length_map]
    have := (o.es u hu).2.2.2.1
    omega
  · rw [h6.len]
    omega
theorem RowsAt.hand {K : PySem.W.Frag} {H H' : Hp} {h a : Addr} {xs : List V} {rows : List Rw} {vals : List Str} (q : RowsAt K H a xs rows) (hh : HandAt H h) (e : SBut h H H') (o : RowsOk vals rows) : RowsAt K H' a xs rows :=
  ⟨sqL_hand q.at_ hh e (by rw [q.len]; have := o.n3; omega), q.len, fun i v hv => let ⟨r, h1, h2⟩ := q.all i v hv; ⟨r, h1, h2.hand hh e (o.own r (List.mem_of_getElem? h1)) (o.ls r (List.mem_of_getElem? h1))⟩⟩
end Sw
namespace Sw
open PySem PySem.Spec PyProof.Rows L2
theorem valV_ent {es : List Ent} {k : Key} {v : V} (h : valV (es.map fun e => (e.1, V.ref e.2.1)) k = some v) : ∃ e ∈ es, v = .ref e.2.1 := by
  unfold valV at h
  cases hf : (es.map fun e => (e.1, V.ref e.2.1)).find? fun kv => decide (kv.1 = k) with
  | none => rw [hf] at h; cases h
  | some kv =>
    rw [hf] at h
    obtain ⟨e, h1, h2⟩ := List.mem_map.mp (List.mem_of_find?_eq_some hf)
    refine ⟨e, h1, ?_⟩
    rw [← h2] at h
    exact (Option.some.inj h).symm
end Sw
namespace Sw
open PySem PySem.Spec PyProof.Rows L2
theorem same_past {H H' : Hp} {h S : Addr} {o : HO} (e : SBut h H H') (n : H S = none) : SBut h H (upd H' S o) := fun b u hb hu => by
  rw [upd_ne (ne_of_none hu n)]
  exact e b u hb hu
theorem ShapesAt.snoc {K : PySem.W.Frag} {H : Hp} {a q : Addr} {xs : List V} {ss : List (List Str)} {s : List Str} (h : ShapesAt K H a xs ss) (ha : H a = some (.lst xs)) (hq : H q = some (.tup (s.map V.str))) (hl : ss.length < 10) (l2 : 2 ≤ s.length) (l10 : s.length ≤ 10) (hz : ∀ z ∈ s, SOk z) : ShapesAt K (upd H a (.lst (xs ++ [.ref q]))) a (xs ++ [.ref q]) (ss ++ [s]) := by
  have up : ∀ {b : Addr} {ys : List V}, SqT K H b ys → SqT K (upd H a (.lst (xs ++ [.ref q]))) b ys := fun z => sqT_upd z ha (fun ys => ⟨fun z => (nomatch z), fun u z => (nomatch z)⟩)
  refine ⟨SqL.of upd_same, by rw [List.length_append, List.length_append, h.len]; rfl, by rw [List.length_append]; exact hl, fun i v hv => ?_⟩
  by_cases hi : i < xs.length
  · rw [List.getElem?_append_left hi] at hv
    obtain ⟨s', h1, ⟨b, h2, h3⟩, h4⟩ := h.all i v hv
    exact ⟨s', by rw [List.getElem?_append_left (by rw [← h.len]; exact hi)]; exact h1, ⟨b, h2, up h3⟩, h4⟩
  · have ei : i = xs.length := by
      have := (List.getElem?_eq_some_iff.mp hv).1
      rw [List.length_append] at this
      simp at this
      omega
    subst ei
    rw [List.getElem?_append_right (Nat.le_refl _), Nat.sub_self] at hv
    obtain rfl : V.ref q = v := Option.some.inj hv
    exact ⟨s, by rw [h.len, List.getElem?_append_right (Nat.le_refl _), Nat.sub_self]; rfl, ⟨q, rfl, up (SqT.of hq)⟩, l2, l10, hz⟩
end Sw
namespace Sw
open PySem PySem.Spec PyProof.Rows L2
/-- a drawn question -/
structure Ask where
  hd : List Str
  ss : List (List Str)
  es : List Ent
  dup : Bool
/-- the menus of a drawn question's conditions: lists of values, by variables -/
structure Lims (K : PySem.W.Frag) (H : Hp) (a : Addr) (vals vars : List Str) (es : List Ent) : Prop where
  at_ : H a = some (.dK (es.map fun e => (e.1, V.ref e.2.1)))
  nd : (es.map (·.1)).Nodup
  all : ∀ e ∈ es, H e.2.1 = some (.lst (e.2.2.map V.str)) ∧ AscS e.2.2 ∧ e.2.2.length ≤ 3 ∧ (∀ z ∈ e.2.2, z ∈ vals) ∧ ∃ v, e.1 = Sum.inr v ∧ v ∈ vars
theorem Lims.same {K : PySem.W.Frag} {H H' : Hp} {a : Addr} {vals vars : List Str} {es : List Ent} (h : Lims K H a vals vars es) (s : Same H H') : Lims K H' a vals vars es :=
  ⟨s _ _ h.at_, h.nd, fun e he => ⟨s _ _ (h.all e he).1, (h.all e he).2⟩⟩
theorem Lims.hand {K : PySem.W.Frag} {H H' : Hp} {h a : Addr} {vals vars : List Str} {es : List Ent} (q : Lims K H a vals vars es) (hh : HandAt H h) (s : SBut h H H') : Lims K H' a vals vars es :=
  ⟨s _ _ (hand_short hh (.inr ⟨_, q.at_⟩)) q.at_, q.nd, fun e he => ⟨s _ _ (hand_short hh (.inl ⟨_, (q.all e he).1, by rw [List.length_map]; have := (q.all e he).2.2.1; omega⟩)) (q.all e he).1, (q.all e he).2⟩⟩
structure AskAt (K : PySem.W.Frag) (H : Hp) (a : Addr) (vals : List Str) (k : Ask) : Prop where
  ex : ∃ t sh li ys, H a = some (.lst [.ref t, .ref sh, .ref li, .bl k.dup]) ∧ H t = some (.tup (k.hd.map V.str)) ∧ ShapesAt K H sh ys k.ss ∧ Lims K H li vals (allVars k.ss) k.es
theorem AskAt.same {K : PySem.W.Frag} {H H' : Hp} {a : Addr} {vals : List Str} {k : Ask} (h : AskAt K H a vals k) (s : Same H H') : AskAt K H' a vals k :=
  ⟨let ⟨t, sh, li, ys, h1, h2, h3, h4⟩ := h.ex; ⟨t, sh, li, ys, s _ _ h1, s _ _ h2, h3.same s, h4.same s⟩⟩
/-- what a drawn question keeps -/
structure AskOk (rows : List Rw) (vals tms : List Str) (many : Nat) (k : Ask) : Prop where
  n1 : 1 ≤ k.ss.length
  nm : k.ss.length ≤ many
  part : ∀ s ∈ k.ss, PartOk rows (tms ++ vals.take 1) s
  hl : k.hd.length ≤ 3
  hd : ∀ z ∈ k.hd, z ∈ allVars k.ss ∨ z ∈ vals
  el : k.es.length ≤ 100
/-- _law_deal_ask(hand, tables, values, terms, many) -/
def spAsk (K : PySem.W.Frag) : Sp := fun vs H Q _ => ∃ (h T Va Tm : Addr) (many : Nat) (xs : List V) (rows : List Rw) (vals tms : List Str), vs = [.ref h, .ref T, .ref Va, .ref Tm, .int (many : Int)] ∧ HandAt H h ∧ RowsAt K H T xs rows ∧ RowsOk vals rows ∧ (∀ r ∈ rows, SOk r.nm) ∧ (∀ z ∈ vals, SOk z) ∧
  SqL K H Va (vals.map V.str) ∧ vals.length = 5 ∧ SqL K H Tm (tms.map V.str) ∧ tms.length ≤ 50 ∧ (∀ z ∈ tms, SOk z) ∧ 1 ≤ many ∧ many ≤ 9 ∧
  ∀ (H' : Hp) (a : Addr) (k : Ask), HandAt H' h → SBut h H H' → H a = none → a ≠ h → AskAt K H' a vals k → AskOk rows vals tms many k → Q (.ref a) H'
end Sw
namespace Sw
open PySem PySem.Spec PyProof.Rows L2
/-- what every law that deals tables begins with -/
structure BeginAt (K : PySem.W.Frag) (H : Hp) (R : Addr) (many : Nat) (xs : List V) (rows : List Rw) (vals tms : List Str) (k : Ask) : Prop where
  ex : ∃ T Va Tm A, H R = some (.lst [.ref T, .ref Va, .ref Tm, .ref A]) ∧ RowsAt K H T xs rows ∧ H Va = some (.lst (vals.map V.str)) ∧ H Tm = some (.lst (tms.map V.str)) ∧ AskAt K H A vals k
  ok : RowsOk vals rows
  sane : Sane rows
  ask : AskOk rows vals tms many k
  nms : ∀ r ∈ rows, SOk r.nm
  vls : ∀ z ∈ vals, SOk z
  tls : ∀ z ∈ tms, SOk z
  v5 : vals.length = 5
  t4 : tms.length = 4
  vnd : vals.Nodup
theorem BeginAt.same {K : PySem.W.Frag} {H H' : Hp} {R : Addr} {many : Nat} {xs : List V} {rows : List Rw} {vals tms : List Str} {k : Ask} (b : BeginAt K H R many xs rows vals tms k) (s : Same H H') : BeginAt K H' R many xs rows vals tms k :=
  { b with ex := let ⟨T, Va, Tm, A, h1, h2, h3, h4, h5⟩ := b.ex; ⟨T, Va, Tm, A, s _ _ h1, h2.same s, s _ _ h3, s _ _ h4, h5.same s⟩ }
/-- _law_begin(script, many) -/
def spBegin (K : PySem.W.Frag) : Sp := fun vs H Q _ => ∃ (a : Addr) (ns : List Int) (many : Nat), vs = [.ref a, .int (many : Int)] ∧ SqL K H a (ns.map V.int) ∧ ns.length ≤ 63 ∧ 1 ≤ many ∧ many ≤ 9 ∧
  ∀ (H' : Hp) (R : Addr) (xs : List V) (rows : List Rw) (vals tms : List Str) (k : Ask), Same H H' → H R = none → BeginAt K H' R many xs rows vals tms k → Q (.ref R) H'
theorem wd_ok {sg z : Str} (h : Wd sg z) (hs : ∀ c ∈ TL.tl sg, c < 0x110000) : SOk z := by
  refine ⟨by rw [len_tl]; exact Nat.le_trans h.2.1 (by decide), ?_⟩
  unfold PySem.PyData.strOk
  rw [← Array.all_toList, List.all_eq_true]
  intro c hc
  exact decide_eq_true (hs c (h.2.2 c hc))
theorem sok_q {z : Str} (h : z.length ≤ 900 ∧ PySem.PyData.strOk z = true) : SOk (("?" : Str) ++ z) := by
  refine ⟨by rw [str_app_len]; have : ("?" : Str).length = 1 := by decide +kernel
             omega, ?_⟩
  obtain ⟨_, h2⟩ := h
  unfold PySem.PyData.strOk at h2 ⊢
  rw [← Array.all_toList, List.all_eq_true] at h2 ⊢
  intro c hc
  have hc : c ∈ TL.tl (("?" : Str) ++ z) := hc
  rw [TL.tl_append] at hc
  rcases List.mem_append.mp hc with q | q
  · have : ∀ c ∈ TL.tl ("?" : Str), (decide (c < 0x110000)) = true := by decide +kernel
    exact this c q
  · exact h2 c q
/-- a hand that came and went -/
theorem same_hand {H H1 H2 : Hp} {p : Addr} (s : Same H H1) (n : H p = none) (e : SBut p H1 H2) : Same H H2 := fun b o h => e b o (ne_of_none h n) (s b o h)
end Sw
namespace Sw
open PySem PySem.Spec PyProof.Rows L2
theorem Dealt.rowsOk {ws vals : List Str} {rows rows' : List Rw} (D : Dealt ws vals rows) (nd : ws.Nodup) (n1 : 1 ≤ ws.length) (n3 : ws.length ≤ 3) (hm : ∀ r, r ∈ rows' ↔ r ∈ rows) (hlen : rows'.length = rows.length) : RowsOk vals rows' := by
  have hwl : rows.length = ws.length := by rw [← D.nm, List.length_map]
  refine ⟨fun r hr => D.own r ((hm r).mp hr), fun r hr => ?_, fun r hr => ?_, by omega, by omega⟩
  · have h1 := le_sum (fun r : Rw => r.ls.length) ((hm r).mp hr)
    have h2 : r.ls.length ≤ (rows.map fun r => r.ls.length).sum := h1
    have := D.nl
    omega
  · obtain ⟨i, hi⟩ := List.mem_iff_getElem?.mp ((hm r).mp hr)
    exact D.ht nd hm 3 i r.nm (D.nth hi) (by omega)
/-- either way round -/
theorem dealt_way {K : PySem.W.Frag} {H : Hp} {T : Addr} {xs : List V} {ws vals : List Str} {rows : List Rw} (h : RowsAt K H T xs rows ∧ Dealt ws vals rows ∨ RowsAt K H T xs rows.reverse ∧ Dealt ws vals rows) (nd : ws.Nodup) (n1 : 1 ≤ ws.length) (n3 : ws.length ≤ 3) :
    ∃ rows', RowsAt K H T xs rows' ∧ RowsOk vals rows' ∧ Sane rows' ∧ ∀ r ∈ rows', r.nm ∈ ws := by
  have nm : ∀ D : Dealt ws vals rows, ∀ r ∈ rows, r.nm ∈ ws := fun D r hr => by
    rw [← D.nm]
    exact List.mem_map.mpr ⟨r, hr, rfl⟩
  rcases h with ⟨h1, D⟩ | ⟨h1, D⟩
  · exact ⟨rows, h1, D.rowsOk nd n1 n3 (fun _ => .rfl) rfl, D.sane0 nd n1 n3, nm D⟩
  · exact ⟨rows.reverse, h1, D.rowsOk nd n1 n3 (fun _ => List.mem_reverse) (by rw [List.length_reverse]), D.saneR nd n1 n3, fun r hr => nm D r (List.mem_reverse.mp hr)⟩
end Sw
namespace Sw
open PySem PySem.Spec PyProof.Rows L2
/-- tuples (from, to, number) -/
structure EdgesAt (K : PySem.W.Frag) (H : Hp) (a : Addr) (vs : List V) (es : List (Str × Str × Int)) : Prop where
  at_ : SqL K H a vs
  len : vs.length = es.length
  sml : es.length ≤ 2
  all : ∀ (i : Nat) (v : V), vs[i]? = some v → ∃ e, es[i]? = some e ∧ ∃ q, v = .ref q ∧ SqT K H q [.str e.1, .str e.2.1, .int e.2.2]
theorem EdgesAt.same {K : PySem.W.Frag} {H H' : Hp} {a : Addr} {vs : List V} {es : List (Str × Str × Int)} (h : EdgesAt K H a vs es) (s : Same H H') : EdgesAt K H' a vs es :=
  ⟨s.seq h.at_, h.len, h.sml, fun i v q => let ⟨e, h1, b, h2, h3⟩ := h.all i v q; ⟨e, h1, b, h2, same_seqT s h3⟩⟩
/-- the tables' references are these edges -/
def EdgesOf (l : List Tb) (es : List (Str × Str × Int)) : Prop := ∀ u v, v ∈ leads l u ↔ ∃ n, (u, v, n) ∈ es
/-- _law_reaches(leads, start, goal) -/
def spReaches (K : PySem.W.Frag) : Sp := fun vs H Q _ => ∃ (a : Addr) (s g : Str) (xs : List V) (es : List (Str × Str × Int)) (l : List Tb), vs = [.ref a, .str s, .str g] ∧ EdgesAt K H a xs es ∧ EdgesOf l es ∧
  ∀ (H' : Hp) (b : Bool), Same H H' → (b = true ↔ Rch l s g) → Q (.bl b) H'
def DoneS (es : List (Str × Str × Int)) (g : Str) (seen : List Str) : Prop := ∀ e ∈ es, e.1 ∈ seen → e.2.1 ∈ seen ∧ e.2.1 ≠ g
theorem seen_few {l : List Tb} {es : List (Str × Str × Int)} (E : EdgesOf l es) {s : Str} {seen : List Str} (nd : seen.Nodup) (h : ∀ z ∈ seen, z = s ∨ Rch l s z) : seen.length ≤ es.length + 1 := by
  have := nodup_le (ns := s :: es.map fun e => e.2.1) nd fun z hz => by
    rcases h z hz with e | e
    · rw [e]
      exact List.mem_cons_self
    · refine List.mem_cons_of_mem _ ?_
      have : ∃ u n, (u, z, n) ∈ es := by
        cases e with
        | one m => exact ⟨_, (E _ _).mp m⟩
        | snoc _ m => exact ⟨_, (E _ _).mp m⟩
      obtain ⟨u, n, hm⟩ := this
      exact List.mem_map.mpr ⟨_, hm, rfl⟩
  rw [List.length_cons, List.length_map] at this
  exact this
theorem done_no {l : List Tb} {es : List (Str × Str × Int)} (E : EdgesOf l es) {s g : Str} {seen : List Str} (hs : s ∈ seen) (d : DoneS es g seen) : ¬ Rch l s g := by
  have go : ∀ {b : Str}, Rch l s b → b ∈ seen ∧ b ≠ g := by
    intro b r
    induction r with
    | one m =>
      obtain ⟨n, hn⟩ := (E _ _).mp m
      exact d _ hn hs
    | snoc _ m ih =>
      obtain ⟨n, hn⟩ := (E _ _).mp m
      exact d _ hn ih.1
  exact fun r => (go r).2 rfl
end Sw
namespace Sw
open PySem PySem.Spec PyProof.Rows L2
/-- the references of a table, as the drawn edges say -/
def ZsOf (es : List (Str × Str × Int)) (nm : Str) : List Str := (es.filter fun e => decide (e.1 = nm)).map fun e => e.2.1
theorem unk_first {l : List Tb} {es : List (Str × Str × Int)} {i j : Nat} {t : Tb} {e : Str × Str × Int} (hi : l[i]? = some t) (hj : es[j]? = some e) (hz : t.zs = ZsOf es t.nm) (h1 : ∀ z ∈ (l.take i).flatMap Tb.zs, z ∈ l.map Tb.nm) (h2 : ∀ u ∈ es.take j, u.1 = t.nm → u.2.1 ∈ l.map Tb.nm) (he : e.1 = t.nm) (hn : ¬ e.2.1 ∈ l.map Tb.nm) : unkOf l = some e.2.1 := by
  unfold unkOf
  have hil := (List.getElem?_eq_some_iff.mp hi)
  obtain ⟨hil, hit⟩ := hil
  have e1 : l.flatMap Tb.zs = (l.take i).flatMap Tb.zs ++ (t.zs ++ (l.drop (i + 1)).flatMap Tb.zs) := by
    have : l = l.take i ++ l.drop i := (List.take_append_drop i l).symm
    have d : l.drop i = t :: l.drop (i + 1) := by rw [List.drop_eq_getElem_cons hil, hit]
    rw [← List.flatMap_cons, ← d, ← List.flatMap_append, List.take_append_drop]
  obtain ⟨hjl, hjt⟩ := List.getElem?_eq_some_iff.mp hj
  have e2 : t.zs = ((es.take j).filter fun e => decide (e.1 = t.nm)).map (fun e => e.2.1) ++ (e.2.1 :: ((es.drop (j + 1)).filter fun e => decide (e.1 = t.nm)).map fun e => e.2.1) := by
    rw [hz]
    unfold ZsOf
    have d : es.drop j = e :: es.drop (j + 1) := by rw [List.drop_eq_getElem_cons hjl, hjt]
    have f : (e :: es.drop (j + 1)).filter (fun e => decide (e.1 = t.nm)) = e :: (es.drop (j + 1)).filter (fun e => decide (e.1 = t.nm)) := List.filter_cons_of_pos (by simp [he])
    have sp : es = es.take j ++ e :: es.drop (j + 1) := by rw [← d, List.take_append_drop]
    have q : (es.filter fun e => decide (e.1 = t.nm)) = (es.take j).filter (fun e => decide (e.1 = t.nm)) ++ e :: (es.drop (j + 1)).filter (fun e => decide (e.1 = t.nm)) := by
      rw [← f, ← List.filter_append, ← sp]
    rw [q, List.map_append, List.map_cons]
  have n1 : ((l.take i).flatMap Tb.zs).find? (fun z => decide (¬ z ∈ l.map Tb.nm)) = none := List.find?_eq_none.mpr fun z hz => by simp [h1 z hz]
  have n2 : (((es.take j).filter fun e => decide (e.1 = t.nm)).map fun e => e.2.1).find? (fun z => decide (¬ z ∈ l.map Tb.nm)) = none := List.find?_eq_none.mpr fun z hz => by
    obtain ⟨u, hu, rfl⟩ := List.mem_map.mp hz
    obtain ⟨hu1, hu2⟩ := List.mem_filter.mp hu
    have := h2 u hu1 (of_decide_eq_true hu2)
    simp [this]
  rw [e1, List.find?_append, n1, e2, List.append_assoc, List.find?_append, n2, List.cons_append, List.find?_cons]
  simp [hn]
/-- _law_expected(names, many, leads) -/
def spExpected (K : PySem.W.Frag) : Sp := fun vs H Q _ => ∃ (N a : Addr) (m : Nat) (ws : List Str) (xs : List V) (es : List (Str × Str × Int)) (l : List Tb), vs = [.ref N, .int (m : Int), .ref a] ∧ SqL K H N (ws.map V.str) ∧ l.map Tb.nm = ws.take m ∧ l.length = m ∧ 1 ≤ m ∧ m ≤ 3 ∧ EdgesAt K H a xs es ∧ EdgesOf l es ∧ (∀ t ∈ l, t.zs = ZsOf es t.nm) ∧
  (∀ z, unkOf l = some z → ∀ (H' : Hp) (T : Addr), Same H H' → H' T = some (.tup [.str "unknown", .str z]) → Q (.ref T) H') ∧
  (unkOf l = none → (∀ (i : Nat) (t : Tb), l[i]? = some t → (∀ u ∈ l.take i, ¬ Rch l u.nm u.nm) → Rch l t.nm t.nm → ∀ (H' : Hp) (T : Addr), Same H H' → H' T = some (.tup [.str "ring", .str t.nm]) → Q (.ref T) H') ∧
    ((∀ u ∈ l, ¬ Rch l u.nm u.nm) → ∀ (H' : Hp) (T : Addr) (z : Str), ws[0]? = some z → Same H H' → H' T = some (.tup [.str "good", .str z]) → Q (.ref T) H'))
end Sw
namespace Sw
open PySem PySem.Spec PyProof.Rows L2
/-- C(e, ..) in a try: what __init__ lets out is told by the slots -/
def tMakeE (C : Addr) (sp : Sp) (Ex : L2.St → XK) (t : TA) : TE := fun σ H Q => t σ H fun ws Ha => ∀ y dy, Ha y = none → Ha dy = none → dy ≠ y →
  sp (V.ref y :: ws) (upd (upd Ha dy (.own y)) y (.ins C dy [])) (fun u Hb => u = .non ∧ Q (.ref y) Hb) (Ex σ)
theorem pe_makeE {X : Cx} {CX : CXT} {k : Nat} {f C : Addr} {sp : Sp} {Ex : L2.St → XK} {x : Str} {p pos : Pos} {e : Expr} {es : List Expr} {t : TA}
    (M : Mk X.K C f) (F : FnR X.prog X.w X.K X.mg X.base CX k f sp) (hr : Room (k + 1) X.A) (hg : Gl X x) (hm : X.mg x = some (.ref C)) (hx : ∀ σ, PassesAt CX X σ (Ex σ)) (ha : PA X (e :: es) t)
    (h0 : (x == ("__debug__" : Str)) = false := by decide) (h1 : starEach (e :: es) X.env = (false, eval e X.env) :: starEach es X.env := by rfl) (h2 : (backTo pos (starEach es X.env)).any (·.1) = false := by rfl) :
    PE X (.Call (.Name x p) (e :: es) [] pos) (tMakeE C sp Ex t) := by
  refine ⟨fun pins s σ H Q I w => ?_⟩
  refine wpAny_Call_Name_kw (ld_glob I hg hm (PySem.W.callWith_K (h₀ := X.base) I.ok.mod.kin M.kp (thn (ha.run pos pins s σ H _ I w) fun us sa hu => ?_) h1 h2) h0)
  obtain ⟨ws, Ha, Ia, r, q⟩ := hu
  refine ⟨Ia.kIn, ?_⟩
  have z := q (sa.heap.objs.size + 1) sa.heap.objs.size (Ia.hok.fresh (Nat.le_succ _)) (Ia.hok.fresh (Nat.le_refl _)) (Nat.ne_of_lt (Nat.lt_succ_self _))
  have Ib := Inv.made (C := C) Ia
  have rb : Vals (V.ref (sa.heap.objs.size + 1) :: ws) (Value.ref (sa.heap.objs.size + 1) :: us) := .cons rfl r
  refine wpAny_call (make_map (f := f) Ia.kIn M.makes M.init (beq_iff_eq.mp M.fn) ?_)
  refine codeAny_mono (F _ X.stack _ _ _ _ _ _ (hr.make C us []) (Ib.env0.make C us []) rb z) fun res st hq => ?_
  cases res with
  | error er => exact hx σ pins _ _ er st Ib hq
  | ok fl =>
    cases fl with
    | ret u =>
      obtain ⟨v, Hb, Ic, rv, ev, q3⟩ := Ib.after hq
      subst ev
      exact ⟨rv, ⟨V.ref (sa.heap.objs.size + 1), Hb, Ic, rfl, q3⟩⟩
    | next => exact hq.elim
    | brk => exact hq.elim
    | cont => exact hq.elim
end Sw
namespace Sw
open PySem PySem.Spec PyProof.Rows L2
/-- an except clause with a name: the class, the name's slot, its suite's reading -/
structure Cl where
  c : Value
  i : Nat
  ts : Addr → Value → Option Addr → TS
/-- behind a clause's suite its name is gone -/
def gone (i : Nat) (D : Ends) : Ends := { nx := fun σ H => D.nx (σ.set i none) H, rt := D.rt, bk := fun σ H => D.bk (σ.set i none) H, ct := fun σ H => D.ct (σ.set i none) H }
/-- what clauses with names wish of an exception of the body -/
def wAll (K : PySem.W.Frag) (Wo : WX) (D : Ends) : List Cl → WX
  | [] => Wo
  | k :: r => fun cls d σ H => ∃ b, PySem.W.exmOne K cls k.c = some b ∧ (b = true → ∀ a, H a = none → k.ts a cls d (gone k.i D) (σ.set k.i (some (.ref a))) H) ∧ (b = false → wAll K Wo D r cls d σ H)
inductive ClsOk (X : Cx) : List ExceptHandler → List Cl → Prop
  | nil : ClsOk X [] []
  | cons {x n : Str} {k : Cl} {b₀ : Stmt} {more : List Stmt} {p1 p2 : Pos} {hds : List ExceptHandler} {l : List Cl} (hi : X.N[k.i]? = some n) (hl : X.env.kindOf n = some .local) (hc : Names X x k.c)
      (hsu : ∀ (a : Addr) (o : Obj) (cls : Value) (d : Option Addr) (pn : List (Addr × Obj)), Zc cls d o → (∃ vs, o.data = .fields vs) → PSs (X.suite a ((a, o) :: pn)) (b₀ :: more) (k.ts a cls d)) (r : ClsOk X hds l) :
      ClsOk X (.ExceptHandler (some (.Name x p1)) (some n) (b₀ :: more) p2 :: hds) (k :: l)
section
variable {X : Cx} {body : List Stmt} {hd₀ : ExceptHandler} {hds : List ExceptHandler} {l : List Cl} {pos : Pos} {tb : WX → TS} {Wo : WX}
theorem ps_try_all (hst : X.stack = X.env :: X.outer) (hfr : X.env.frame = some X.env.locals) (hN : X.N.Nodup) (tk : Takes X Wo)
    (hb : ∀ (W : WX) (pn : List (Addr × Obj)) (xe : Value → Shared → Prop), Takes (X.tr pn xe) W → PassesOwn (model X.prog X.w) X.A X.env xe → PSs (X.tr pn xe) body (tb W)) (hh : ClsOk X (hd₀ :: hds) l) :
    PS X (.Try body (hd₀ :: hds) [] [] pos) (fun D σ H => tb (wAll X.K Wo D l) D σ H) := by
  refine ⟨fun ps s σ H D I h => ?_⟩
  have ok0 := I.ok
  have frA : X.A.frames = some (X.env :: X.outer) := by rw [ok0.frames, hst]
  refine wpAny_Try_except (wpAny_mono ((hb (wAll X.K Wo D l) (X.pn ++ ps) (fun e s1 => wpAny (model X.prog X.w) X.A (noteFrame e X.env) (fun _ s2 => wpAny (model X.prog X.w) X.A (setFlight e none) (fun _ s3 => wpAny (model X.prog X.w) X.A (handleBy e X.env (hd₀ :: hds)) (SP X ps D) X.xe s3) X.xe s2) X.xe s1)
    (fun u s' xx => ?_) PassesOwn.looking).run [] s σ H D (I.toTry _) h) (fun f s1 sp => ?_) (fun e s1 he => he))
  · obtain ⟨a, B, sI, ps9, σ1, H1, cls, d, rfl, J0, nb, up, sky, na, os, ag, wish⟩ := xx
    have J1 : Inv X ps σ1 H1 sI := J0.ofTry ok0
    have sk : Sky B (X.env :: X.outer) a (Zc cls d) X.env.locals s'.heap := by rw [← hst]; exact sky
    show wpAny (model X.prog X.w) X.A (noteFrame (.ref a) X.env) _ _ _
    refine Sky.land Zc.steady frA hfr sk fun h3 fl3 up3 => ?_
    have K3 : Inv X ps σ1 H1 { s' with heap := h3 } := J1.landed nb fl3.1 (up.trans up3) os ag
    obtain ⟨o3, f3, at3, z3, da3⟩ := fl3.there
    have off : ∀ {g : Heap} {o : Obj} {vs : Array Value}, g.FunFrames B (X.env :: X.outer) → g.get? a = some o → o.data = .fields vs → a ∉ frs (X.env :: X.outer) := fun {g o vs} ff e1 dd hm => by
      obtain ⟨_, o2, e2, nd2⟩ := ff.mem hm
      cases e1.symm.trans e2
      exact nd2 _ dd
    have offA := off fl3.2.2.1 at3 da3
    have nL : a ≠ X.env.locals := fun z => offA (List.mem_filterMap.mpr ⟨X.env, List.mem_cons_self, by rw [hfr, z]⟩)
    have nF : a ∉ X.fs := fun hm => (List.mem_filterMap.mp hm).elim fun e q => offA (List.mem_filterMap.mpr ⟨e, List.mem_cons_of_mem _ q.1, q.2⟩)
    have T3 := K3.suite at3 da3 na nL nF
    have walk : ∀ {hs2 : List ExceptHandler} {l2 : List Cl}, ClsOk X hs2 l2 → wAll X.K Wo D l2 cls d σ1 H1 → wpAny (model X.prog X.w) X.A (handleBy (.ref a) X.env hs2) (SP X ps D) X.xe { s' with heap := h3 } := by
      intro hs2 l2 hk
      induction hk with
      | nil =>
        intro wo
        refine wpAny_handleBy_nil ?_
        obtain ⟨_, _, _, o4, f4, T4, _, _, at4, _, da4, tr4, _⟩ := id fl3
        unfold PySem.passOn
        refine wpAny_bind (wpAny_field at4 da4 tr4 ?_)
        rw [if_neg (show ¬ ((Value.ref T4 == Value.none) = true) from by simp)]
        have last : wpAny (model X.prog X.w) X.A (setFlight (.ref a) X.env.frame) (fun _ s4 => wpAny (model X.prog X.w) X.A (throw (.ref a) : Sem Flow) (SP X ps D) X.xe s4) X.xe { s' with heap := h3 } := by
          rw [hfr]
          refine HandSPX.setFlight_upZ fl3 fun h4 sk4 up4 => wpAny_throw (tk _ _ ⟨a, B, sI, ps, σ1, H1, cls, d, rfl, J1, nb, (up.trans up3).trans up4, .inr (.inr (by rw [hst]; exact sk4)), na, os, ag, wo⟩)
        first
          | exact wpAny_bind (wpAny_pure (wpAny_bind last))
          | exact wpAny_bind last
      | @cons x n k b₀ more p1 p2 hs3 l3 hi hl hc hsu r ih =>
        intro wo
        obtain ⟨b, eb, yes, no⟩ := wo
        refine wpAny_handleBy_cons (codeAny_handlers_test ?_) (by intro q; cases q)
        have looks : PySem.W.Looks (model X.prog X.w) h3 (typeOf (.ref a)) cls := fun A Q E s k q => wpAny_typeOf_ref (k _ _ at3) (by rw [z3.1]; exact q)
        have isx := PySem.W.exm_one (M := model X.prog X.w) (K3.kIn) looks eb
        have named : ∀ {Q E : Value → Shared → Prop}, Q k.c { s' with heap := h3 } → wpAny (model X.prog X.w) (X.A.mark (some (.ref a))) (eval (.Name x p1) X.env) Q E { s' with heap := h3 } := fun {Q E} q => by
          obtain ⟨g1, g2, g3 | ⟨g3, g4, g5⟩⟩ := hc
          · exact ld_glob (X := X.suite a ((a, o3) :: (X.pn ++ ps))) T3 g1 g3 q g2
          · exact ld_blt (X := X.suite a ((a, o3) :: (X.pn ++ ps))) T3 g1 g3 g4 q g5 g2
        refine named (isx.here ?_)
        cases b with
        | false =>
          show wpAny _ X.A (handleBy (.ref a) X.env hs3) _ _ _
          exact ih (no rfl)
        | true =>
          refine codeAny_handlers_suite_as (HandSPX.lands_againZ fl3 fun h4 fl4 up4 => ?_)
          have K4 : Inv X ps σ1 H1 { s' with heap := h4 } := J1.landed nb fl4.1 ((up.trans up3).trans up4) os ag
          obtain ⟨o4, f4, at4, z4, da4⟩ := fl4.there
          have T4 := K4.suite at4 da4 na nL nF
          refine store_ok (X := X.suite a ((a, o4) :: (X.pn ++ ps))) (v := .ref a) T4 hN hi (.inl hl) rfl (fun s5 T5 => ?_) (.inr hl)
          refine wpAny_mono ((hsu a o4 cls d (X.pn ++ ps) z4 ⟨_, da4⟩).run [] s5 _ H1 _ T5 (yes rfl a na)) (fun f s6 sp => ?_) (fun _ _ z => False.elim z)
          have leave : ∀ {σ6 : L2.St} {H6 : Hp} {Q : Shared → Prop}, Inv (X.suite a ((a, o4) :: (X.pn ++ ps))) [] σ6 H6 s6 → (∀ s7, Inv X ps (σ6.set k.i none) H6 s7 → Q s7) → wpAny (model X.prog X.w) X.A (do bindName X.env n .none; unbindBehindTheSuite X.env n p2) (fun _ s7 => Q s7) X.xe s6 :=
            fun {σ6 H6 Q} T6 hq => gone_ok (T6.unsuite ok0) hN hi hl hq
          cases f with
          | next => exact sp.elim fun σ6 z => z.elim fun H6 z => leave z.1 fun s7 J7 => ⟨_, _, J7, z.2⟩
          | brk => exact sp.elim fun σ6 z => z.elim fun H6 z => leave z.1 fun s7 J7 => ⟨_, _, J7, z.2⟩
          | cont => exact sp.elim fun σ6 z => z.elim fun H6 z => leave z.1 fun s7 J7 => ⟨_, _, J7, z.2⟩
          | ret u => exact sp.elim fun v6 z => z.elim fun σ6 z => z.elim fun H6 z => leave z.1 fun s7 J7 => ⟨_, _, _, J7, z.2.1, z.2.2⟩
    exact walk hh wish
  · cases f with
    | next => exact sp.elim fun σ1 z => z.elim fun H1 z => wpAny_execs_nil ⟨σ1, H1, z.1.ofTry ok0, z.2⟩
    | brk => exact sp.elim fun σ1 z => z.elim fun H1 z => ⟨σ1, H1, z.1.ofTry ok0, z.2⟩
    | cont => exact sp.elim fun σ1 z => z.elim fun H1 z => ⟨σ1, H1, z.1.ofTry ok0, z.2⟩
    | ret u => exact sp.elim fun v z => z.elim fun σ1 z => z.elim fun H1 z => ⟨v, σ1, H1, z.1.ofTry ok0, z.2.1, z.2.2⟩
end
end Sw
namespace Sw
open PySem PySem.Spec PyProof.Rows L2
/-- what the schema of the drawn tables comes to -/
inductive Ans (l : List Tb) (ws : List Str) : Str → Str → Prop
  | unk {z : Str} : unkOf l = some z → Ans l ws "unknown" z
  | ring {i : Nat} {t : Tb} : unkOf l = none → l[i]? = some t → (∀ u ∈ l.take i, ¬ Rch l u.nm u.nm) → Rch l t.nm t.nm → Ans l ws "ring" t.nm
  | good {z : Str} : unkOf l = none → (∀ u ∈ l, ¬ Rch l u.nm u.nm) → ws[0]? = some z → Ans l ws "good" z
/-- edges between known names -/
structure EdgesIn (ws : List Str) (m : Nat) (es : List (Str × Str × Int)) : Prop where
  src : ∀ e ∈ es, e.1 ∈ ws.take m
  dst : ∀ e ∈ es, e.2.1 ∈ ws
/-- edges and the tables that have them -/
theorem edges_of {l : List Tb} {ws : List Str} {m : Nat} {es : List (Str × Str × Int)} (hnm : l.map Tb.nm = ws.take m) (nd : (l.map Tb.nm).Nodup) (hz : ∀ t ∈ l, t.zs = ZsOf es t.nm) (hi : EdgesIn ws m es) : EdgesOf l es := by
  intro u v
  by_cases hu : u ∈ l.map Tb.nm
  · obtain ⟨t, ht, rfl⟩ := List.mem_map.mp hu
    rw [leads_of nd ht, hz t ht]
    unfold ZsOf
    constructor
    · intro h
      obtain ⟨e, he, rfl⟩ := List.mem_map.mp h
      obtain ⟨h1, h2⟩ := List.mem_filter.mp he
      exact ⟨e.2.2, by rw [← of_decide_eq_true h2]; exact h1⟩
    · rintro ⟨n, hn⟩
      exact List.mem_map.mpr ⟨_, List.mem_filter.mpr ⟨hn, decide_eq_true rfl⟩, rfl⟩
  · constructor
    · intro h
      unfold leads at h
      cases e : l.find? fun t => decide (t.nm = u) with
      | none => rw [e] at h; exact nomatch h
      | some t =>
        have h1 := List.mem_of_find?_eq_some e
        have h2 := List.find?_some e
        exact absurd (List.mem_map.mpr ⟨t, h1, of_decide_eq_true h2⟩) hu
    · rintro ⟨n, hn⟩
      exact absurd (by rw [hnm]; exact hi.src _ hn) hu
theorem Ans.one {l : List Tb} {ws : List Str} {k k' z z' : Str} (h : Ans l ws k z) (h' : Ans l ws k' z') : k = k' ∧ z = z' := by
  have first : ∀ {i j : Nat} {t u : Tb}, l[i]? = some t → l[j]? = some u → (∀ u ∈ l.take i, ¬ Rch l u.nm u.nm) → (∀ u ∈ l.take j, ¬ Rch l u.nm u.nm) → Rch l t.nm t.nm → Rch l u.nm u.nm → t = u := by
    intro i j t u hi hj bi bj ri rj
    rcases Nat.lt_trichotomy i j with h | h | h
    · exact absurd ri (bj t (List.mem_of_getElem? (by rw [List.getElem?_take_of_lt h]; exact hi)))
    · subst h
      exact Option.some.inj (hi.symm.trans hj)
    · exact absurd rj (bi u (List.mem_of_getElem? (by rw [List.getElem?_take_of_lt h]; exact hj)))
  cases h with
  | unk e => cases h' with
    | unk e' => exact ⟨rfl, Option.some.inj (e.symm.trans e')⟩
    | ring e' => cases e.symm.trans e'
    | good e' => cases e.symm.trans e'
  | ring e hi b r => cases h' with
    | unk e' => cases e.symm.trans e'
    | ring e' hi' b' r' =>
      obtain rfl := first hi hi' b b' r r'
      exact ⟨rfl, rfl⟩
    | good e' n => exact absurd r (n _ (List.mem_of_getElem? hi))
  | good e n hz => cases h' with
    | unk e' => cases e.symm.trans e'
    | ring e' hi' b' r' => exact absurd r' (n _ (List.mem_of_getElem? hi'))
    | good e' n' hz' => exact ⟨rfl, Option.some.inj (hz.symm.trans hz')⟩
/-- values that are tuples (from, to, number) -/
structure EdgesV (H : Hp) (vs : List V) (es : List (Str × Str × Int)) : Prop where
  len : vs.length = es.length
  all : ∀ (i : Nat) (v : V), vs[i]? = some v → ∃ e, es[i]? = some e ∧ ∃ q, v = .ref q ∧ H q = some (.tup [.str e.1, .str e.2.1, .int e.2.2])
theorem EdgesV.hand {H H' : Hp} {p : Addr} {vs : List V} {es : List (Str × Str × Int)} (h : EdgesV H vs es) (hh : HandAt H p) (s : SBut p H H') : EdgesV H' vs es :=
  ⟨h.len, fun i v e => let ⟨e1, h1, q, h2, h3⟩ := h.all i v e; ⟨e1, h1, q, h2, s _ _ (by obtain ⟨_, z, _⟩ := hh; exact ne_of h3 z (fun y => nomatch y)) h3⟩⟩
theorem EdgesV.same {H H' : Hp} {vs : List V} {es : List (Str × Str × Int)} (h : EdgesV H vs es) (s : Same H H') : EdgesV H' vs es :=
  ⟨h.len, fun i v e => let ⟨e1, h1, q, h2, h3⟩ := h.all i v e; ⟨e1, h1, q, h2, s _ _ h3⟩⟩
theorem EdgesV.notL {H H' : Hp} {vs : List V} {es : List (Str × Str × Int)} (h : EdgesV H vs es) (s : NotL H H') : EdgesV H' vs es :=
  ⟨h.len, fun i v e => let ⟨e1, h1, q, h2, h3⟩ := h.all i v e; ⟨e1, h1, q, h2, s _ _ h3 (fun _ z => nomatch z)⟩⟩
/-- values that are tuples whose second item is a name -/
structure LeadV (H : Hp) (rs : List V) (zs : List Str) : Prop where
  len : rs.length = zs.length
  all : ∀ (i : Nat) (v : V), rs[i]? = some v → ∃ z, zs[i]? = some z ∧ ∃ q x y, v = .ref q ∧ H q = some (.tup [x, .str z, y])
theorem LeadV.nil {H : Hp} : LeadV H [] [] := ⟨rfl, fun i v e => (by cases e)⟩
theorem LeadV.same {H H' : Hp} {vs : List V} {es : List Str} (h : LeadV H vs es) (s : Same H H') : LeadV H' vs es :=
  ⟨h.len, fun i v e => let ⟨e1, h1, q, x, y, h2, h3⟩ := h.all i v e; ⟨e1, h1, q, x, y, h2, s _ _ h3⟩⟩
theorem LeadV.notL {H H' : Hp} {vs : List V} {es : List Str} (h : LeadV H vs es) (s : NotL H H') : LeadV H' vs es :=
  ⟨h.len, fun i v e => let ⟨e1, h1, q, x, y, h2, h3⟩ := h.all i v e; ⟨e1, h1, q, x, y, h2, s _ _ h3 (fun _ z => nomatch z)⟩⟩
theorem LeadV.snoc {H : Hp} {vs : List V} {es : List Str} {q : Addr} {x y : V} {z : Str} (h : LeadV H vs es) (hq : H q = some (.tup [x, .str z, y])) : LeadV H (vs ++ [.ref q]) (es ++ [z]) := by
  refine ⟨by rw [List.length_append, List.length_append, h.len]; rfl, fun i v e => ?_⟩
  by_cases hi : i < vs.length
  · rw [List.getElem?_append_left hi] at e
    obtain ⟨e1, h1, h2⟩ := h.all i v e
    exact ⟨e1, by rw [List.getElem?_append_left (by rw [← h.len]; exact hi)]; exact h1, h2⟩
  · have ei : i = vs.length := by
      have := (List.getElem?_eq_some_iff.mp e).1
      rw [List.length_append] at this
      simp at this
      omega
    subst ei
    rw [List.getElem?_append_right (Nat.le_refl _), Nat.sub_self] at e
    obtain rfl : V.ref q = v := Option.some.inj e
    exact ⟨z, by rw [h.len, List.getElem?_append_right (Nat.le_refl _), Nat.sub_self]; rfl, q, x, y, rfl, hq⟩
theorem LeadV.lead {K : PySem.W.Frag} {H : Hp} {a : Addr} {vs : List V} {zs : List Str} (h : LeadV H vs zs) (ha : SqT K H a vs) (hl : zs.length ≤ 100) : Lead K H a vs zs :=
  ⟨ha, h.len, hl, fun i v e => let ⟨z, h1, q, x, y, h2, h3⟩ := h.all i v e; ⟨z, h1, q, [x, .str z, y], h2, SqT.of h3, rfl⟩⟩
theorem zsOf_snoc {es : List (Str × Str × Int)} {i : Nat} {e : Str × Str × Int} {nm : Str} (h : es[i]? = some e) : ZsOf (es.take (i + 1)) nm = ZsOf (es.take i) nm ++ (if e.1 = nm then [e.2.1] else []) := by
  unfold ZsOf
  rw [take_snoc h, List.filter_append, List.map_append]
  by_cases c : e.1 = nm
  · rw [if_pos c, List.filter_cons_of_pos (by simp [c])]
    rfl
  · rw [if_neg c, List.filter_cons_of_neg (by simp [c])]
    rfl
theorem zsOf_len (es : List (Str × Str × Int)) (nm : Str) : (ZsOf es nm).length ≤ es.length := by
  unfold ZsOf
  rw [List.length_map]
  exact List.length_filter_le _ _
/-- the j-th of the made tables -/
structure TbZ (K : PySem.W.Frag) (CT : Addr) (ws : List Str) (es : List (Str × Str × Int)) (H : Hp) (j : Nat) (t : Tb) : Prop where
  nm : ws[j]? = some t.nm
  zs : t.zs = ZsOf es t.nm
  at_ : ∃ dx wd kA lA rA rs, H t.x = some (.ins CT dx (tabF t.nm wd kA lA rA)) ∧ SqT K H rA rs ∧ LeadV H rs t.zs
theorem TbZ.same {K : PySem.W.Frag} {CT : Addr} {ws : List Str} {es : List (Str × Str × Int)} {H H' : Hp} {j : Nat} {t : Tb} (h : TbZ K CT ws es H j t) (s : Same H H') : TbZ K CT ws es H' j t :=
  ⟨h.nm, h.zs, let ⟨dx, wd, kA, lA, rA, rs, h1, h2, h3⟩ := h.at_; ⟨dx, wd, kA, lA, rA, rs, s _ _ h1, same_seqT s h2, h3.same s⟩⟩
theorem TbZ.notL {K : PySem.W.Frag} {CT : Addr} {ws : List Str} {es : List (Str × Str × Int)} {H H' : Hp} {j : Nat} {t : Tb} (h : TbZ K CT ws es H j t) (s : NotL H H') : TbZ K CT ws es H' j t :=
  ⟨h.nm, h.zs, let ⟨dx, wd, kA, lA, rA, rs, h1, h2, h3⟩ := h.at_; ⟨dx, wd, kA, lA, rA, rs, s _ _ h1 (fun _ z => nomatch z), s.tup h2, h3.notL s⟩⟩
theorem TbZ.tb {K : PySem.W.Frag} {CT : Addr} {ws : List Str} {es : List (Str × Str × Int)} {H : Hp} {j : Nat} {t : Tb} (h : TbZ K CT ws es H j t) (hl : es.length ≤ 100) : TbAt K CT H t :=
  ⟨let ⟨dx, wd, kA, lA, rA, rs, h1, h2, h3⟩ := h.at_; ⟨dx, wd, kA, lA, rA, rs, h1, h3.lead h2 (by rw [h.zs]; exact Nat.le_trans (zsOf_len _ _) hl)⟩⟩
theorem Ans.mem {l : List Tb} {ws : List Str} {m : Nat} {es : List (Str × Str × Int)} {k z : Str} (h : Ans l ws k z) (hz : ∀ t ∈ l, t.zs = ZsOf es t.nm) (hi : EdgesIn ws m es) (hn : l.map Tb.nm = ws.take m) : z ∈ ws := by
  cases h with
  | unk e =>
    obtain ⟨t, ht, hm⟩ := List.mem_flatMap.mp (List.mem_of_find?_eq_some e)
    rw [hz t ht] at hm
    obtain ⟨e1, h1, rfl⟩ := List.mem_map.mp hm
    exact hi.dst _ (List.mem_filter.mp h1).1
  | ring _ ht _ _ =>
    have := List.mem_map_of_mem (f := Tb.nm) (List.mem_of_getElem? ht)
    rw [hn] at this
    exact List.mem_of_mem_take this
  | good _ _ h0 => exact List.mem_of_getElem? h0
theorem Ans.ok {l : List Tb} {ws : List Str} {k z : Str} (h : Ans l ws k z) : SOk k := by
  cases h with
  | unk _ => exact ⟨by decide +kernel, by decide +kernel⟩
  | ring _ _ _ _ => exact ⟨by decide +kernel, by decide +kernel⟩
  | good _ _ _ => exact ⟨by decide +kernel, by decide +kernel⟩
/-- two tuples of the same two texts -/
theorem eqv_two {a b : Str} (ha : SOk a) (hb : SOk b) : SeqAt.shaped (.tuple [.str a, .str b]) = true ∧ PySem.PyData.eqv (.tuple [.str a, .str b]) (.tuple [.str a, .str b]) = true := by
  have c : PySem.PyData.canLay0 (.tuple [.str a, .str b]) = true := by
    show (PySem.PyData.strOk a && (PySem.PyData.strOk b && true)) = true
    rw [ha.2, hb.2]
    rfl
  refine ⟨?_, PySem.SeqAt.eqv_refl _ c⟩
  unfold SeqAt.shaped
  rw [c]
  rfl
end Sw
namespace Sw
open PySem PySem.Spec PyProof.Rows L2
/-- a dict of lists of words that is new, all its lists new -/
structure MenusAt (H0 H : Hp) (M : Addr) (es : List Ent) : Prop where
  at_ : H M = some (.dK (es.map fun e => (e.1, V.ref e.2.1)))
  nd : (es.map (·.1)).Nodup
  fr : H0 M = none
  all : ∀ e ∈ es, H e.2.1 = some (.lst (e.2.2.map V.str)) ∧ e.2.2.length ≤ 3 ∧ (∀ z ∈ e.2.2, SOk z) ∧ (∃ k : Int, e.1 = Sum.inl k) ∧ H0 e.2.1 = none
theorem MenusAt.same {H0 H H' : Hp} {M : Addr} {es : List Ent} (h : MenusAt H0 H M es) (s : Same H H') : MenusAt H0 H' M es :=
  ⟨s _ _ h.at_, h.nd, h.fr, fun e he => ⟨s _ _ (h.all e he).1, (h.all e he).2⟩⟩
theorem short_ne {H : Hp} {p b : Addr} {xs : List V} (hh : HandAt H p) (h : H b = some (.lst xs)) (l : xs.length ≤ 60) : b ≠ p := by
  rintro rfl
  obtain ⟨ns, e, hl⟩ := hh
  have := HO.lst.inj (Option.some.inj (h.symm.trans e))
  rw [this, List.length_map] at l
  omega
theorem MenusAt.hand {H0 H H' : Hp} {M p : Addr} {es : List Ent} (h : MenusAt H0 H M es) (hh : HandAt H p) (s : SBut p H H') : MenusAt H0 H' M es :=
  ⟨s _ _ (by obtain ⟨_, z, _⟩ := hh; exact ne_of h.at_ z (fun y => nomatch y)) h.at_, h.nd, h.fr, fun e he => ⟨s _ _ (short_ne hh (h.all e he).1 (by rw [List.length_map]; exact Nat.le_trans (h.all e he).2.1 (by decide))) (h.all e he).1, (h.all e he).2⟩⟩
theorem MenusAt.dict {K : PySem.W.Frag} {H0 H : Hp} {M : Addr} {es : List Ent} (h : MenusAt H0 H M es) (hl : es.length ≤ 3) : LDict K H M es :=
  ⟨h.at_, h.nd, Nat.le_trans hl (by decide), fun e he => ⟨.inl (SqL.of (h.all e he).1), Nat.lt_of_le_of_lt (h.all e he).2.1 (by decide)⟩⟩
/-- neither the dict nor one of its lists -/
def Out (M : Addr) (es : List Ent) (b : Addr) : Prop := b ≠ M ∧ ∀ e ∈ es, b ≠ e.2.1
def Keeps (M : Addr) (es : List Ent) (H H' : Hp) : Prop := ∀ b o, Out M es b → H b = some o → H' b = some o
theorem MenusAt.old {H0 H : Hp} {M b : Addr} {o : HO} {es : List Ent} (h : MenusAt H0 H M es) (hb : H0 b = some o) : Out M es b :=
  ⟨ne_of_none hb h.fr, fun e he => ne_of_none hb (h.all e he).2.2.2.2⟩
theorem MenusAt.new {H0 H : Hp} {M b : Addr} {es : List Ent} (h : MenusAt H0 H M es) (hb : H b = none) : Out M es b :=
  ⟨fun z => (by rw [z, h.at_] at hb; cases hb), fun e he z => (by rw [z, (h.all e he).1] at hb; cases hb)⟩
theorem MenusAt.kind {H0 H : Hp} {M b : Addr} {o : HO} {es : List Ent} (h : MenusAt H0 H M es) (hb : H b = some o) (h1 : ∀ kvs, o ≠ .dK kvs) (h2 : ∀ xs, o ≠ .lst xs) : Out M es b :=
  ⟨ne_of hb h.at_ (h1 _), fun e he => ne_of hb (h.all e he).1 (h2 _)⟩
/-- an entry for each of the dict's: its key, the words ascending -/
structure DueAt (H : Hp) (vs : List V) (es : List Ent) : Prop where
  len : vs.length = es.length
  all : ∀ (i : Nat) (v : V), vs[i]? = some v → ∃ e, es[i]? = some e ∧ ∃ q T us, v = .ref q ∧ H q = some (.tup [kV e.1, .ref T]) ∧ H T = some (.tup (us.map V.str)) ∧ AscS us ∧ (∀ z, z ∈ us ↔ z ∈ e.2.2)
theorem DueAt.nil {H : Hp} : DueAt H [] [] := ⟨rfl, fun i v e => (by cases e)⟩
/-- beside what is no tuple -/
def KeepT (H H' : Hp) : Prop := ∀ b xs, H b = some (.tup xs) → H' b = some (.tup xs)
theorem Same.keepT {H H' : Hp} (s : Same H H') : KeepT H H' := fun _ _ h => s _ _ h
theorem KeepT.trans {H H1 H' : Hp} (s : KeepT H H1) (t : KeepT H1 H') : KeepT H H' := fun _ _ h => t _ _ (s _ _ h)
theorem NotL.keepT {H H' : Hp} (s : NotL H H') : KeepT H H' := fun _ _ h => s _ _ h (fun _ z => nomatch z)
theorem hand_keepT {H H' : Hp} {p : Addr} (hh : HandAt H p) (s : SBut p H H') : KeepT H H' := fun b xs h => s _ _ (by obtain ⟨_, z, _⟩ := hh; exact ne_of h z (fun y => nomatch y)) h
theorem DueAt.keep {H H' : Hp} {vs : List V} {es : List Ent} (h : DueAt H vs es) (s : KeepT H H') : DueAt H' vs es :=
  ⟨h.len, fun i v e => let ⟨e1, h1, q, T, us, h2, h3, h4, h5⟩ := h.all i v e; ⟨e1, h1, q, T, us, h2, s _ _ h3, s _ _ h4, h5⟩⟩
theorem DueAt.snoc {H : Hp} {vs : List V} {es : List Ent} {e : Ent} {q T : Addr} {us : List Str} (h : DueAt H vs es) (hq : H q = some (.tup [kV e.1, .ref T])) (hT : H T = some (.tup (us.map V.str))) (ha : AscS us) (hm : ∀ z, z ∈ us ↔ z ∈ e.2.2) : DueAt H (vs ++ [.ref q]) (es ++ [e]) := by
  refine ⟨by rw [List.length_append, List.length_append, h.len]; rfl, fun i v hv => ?_⟩
  by_cases hi : i < vs.length
  · rw [List.getElem?_append_left hi] at hv
    obtain ⟨e1, h1, h2⟩ := h.all i v hv
    exact ⟨e1, by rw [List.getElem?_append_left (by rw [← h.len]; exact hi)]; exact h1, h2⟩
  · have ei : i = vs.length := by
      have := (List.getElem?_eq_some_iff.mp hv).1
      rw [List.length_append] at this
      simp at this
      omega
    subst ei
    rw [List.getElem?_append_right (Nat.le_refl _), Nat.sub_self] at hv
    obtain rfl : V.ref q = v := Option.some.inj hv
    exact ⟨e, by rw [h.len, List.getElem?_append_right (Nat.le_refl _), Nat.sub_self]; rfl, q, T, us, rfl, hq, hT, ha, hm⟩
/-- values that are tuples (number, name, number) -/
structure TripV (H : Hp) (vs : List V) (ls : List (Int × Str × Int)) : Prop where
  len : vs.length = ls.length
  all : ∀ (i : Nat) (v : V), vs[i]? = some v → ∃ e, ls[i]? = some e ∧ ∃ q, v = .ref q ∧ H q = some (.tup [.int e.1, .str e.2.1, .int e.2.2])
theorem TripV.nil {H : Hp} : TripV H [] [] := ⟨rfl, fun i v e => (by cases e)⟩
theorem TripV.keep {H H' : Hp} {vs : List V} {ls : List (Int × Str × Int)} (h : TripV H vs ls) (s : KeepT H H') : TripV H' vs ls :=
  ⟨h.len, fun i v e => let ⟨e1, h1, q, h2, h3⟩ := h.all i v e; ⟨e1, h1, q, h2, s _ _ h3⟩⟩
theorem TripV.snoc {H : Hp} {vs : List V} {ls : List (Int × Str × Int)} {e : Int × Str × Int} {q : Addr} (h : TripV H vs ls) (hq : H q = some (.tup [.int e.1, .str e.2.1, .int e.2.2])) : TripV H (vs ++ [.ref q]) (ls ++ [e]) := by
  refine ⟨by rw [List.length_append, List.length_append, h.len]; rfl, fun i v hv => ?_⟩
  by_cases hi : i < vs.length
  · rw [List.getElem?_append_left hi] at hv
    obtain ⟨e1, h1, h2⟩ := h.all i v hv
    exact ⟨e1, by rw [List.getElem?_append_left (by rw [← h.len]; exact hi)]; exact h1, h2⟩
  · have ei : i = vs.length := by
      have := (List.getElem?_eq_some_iff.mp hv).1
      rw [List.length_append] at this
      simp at this
      omega
    subst ei
    rw [List.getElem?_append_right (Nat.le_refl _), Nat.sub_self] at hv
    obtain rfl : V.ref q = v := Option.some.inj hv
    exact ⟨e, by rw [h.len, List.getElem?_append_right (Nat.le_refl _), Nat.sub_self]; rfl, q, rfl, hq⟩
def trD (ls : List (Int × Str × Int)) : List PyData := ls.map fun e => .tuple [.int e.1, .str e.2.1, .int e.2.2]
theorem TripV.dp {K : PySem.W.Frag} {H : Hp} : ∀ {vs : List V} {ls : List (Int × Str × Int)}, TripV H vs ls → DpAll K H vs (trD ls)
  | [], [], _ => .nil
  | [], _ :: _, h => nomatch h.len
  | _ :: _, [], h => nomatch h.len
  | v :: vs, l :: ls, h => by
    obtain ⟨e, h1, q, rfl, h2⟩ := h.all 0 _ rfl
    obtain rfl : l = e := Option.some.inj h1
    exact .cons (.tup (SqT.of h2) (.cons (.int _) (.cons (.str _) (.cons (.int _) .nil)))) (TripV.dp ⟨Nat.succ.inj h.len, fun i v hv => h.all (i + 1) v hv⟩)
theorem canTrips : ∀ {ls : List (Int × Str × Int)}, (∀ e ∈ ls, SOk e.2.1) → PySem.PyData.canLayAll0 (trD ls) = true ∧ PySem.PyData.depthAll (trD ls) ≤ 1
  | [], _ => ⟨rfl, Nat.zero_le _⟩
  | e :: r, h => by
    obtain ⟨h1, h2⟩ := canTrips (ls := r) fun x hx => h x (List.mem_cons_of_mem _ hx)
    constructor
    · show ((true && (PySem.PyData.strOk e.2.1 && (true && true))) && PySem.PyData.canLayAll0 (trD r)) = true
      rw [h1, (h e List.mem_cons_self).2]
      rfl
    · show max (max 0 (max 0 (max 0 0)) + 1) (PySem.PyData.depthAll (trD r)) ≤ 1
      omega
theorem shapedTrips {ls : List (Int × Str × Int)} (h : ∀ e ∈ ls, SOk e.2.1) : SeqAt.shaped (.tuple (trD ls)) = true ∧ PySem.PyData.eqv (.tuple (trD ls)) (.tuple (trD ls)) = true := by
  obtain ⟨h1, h2⟩ := canTrips h
  have e1 : PySem.PyData.canLay0 (.tuple (trD ls)) = true := h1
  refine ⟨?_, PySem.SeqAt.eqv_refl _ e1⟩
  unfold SeqAt.shaped
  have e2 : PySem.PyData.depth (.tuple (trD ls)) = PySem.PyData.depthAll (trD ls) + 1 := rfl
  rw [e1, e2, decide_eq_true (by omega)]
  rfl
theorem dpInts {K : PySem.W.Frag} {H : Hp} : ∀ s : List Int, DpAll K H (s.map V.int) (s.map .int)
  | [] => .nil
  | z :: r => .cons (.int z) (dpInts r)
theorem canInts : ∀ s : List Int, PySem.PyData.canLayAll0 (s.map .int) = true ∧ PySem.PyData.depthAll (s.map .int) = 0
  | [] => ⟨rfl, rfl⟩
  | z :: r => by
    obtain ⟨h1, h2⟩ := canInts r
    constructor
    · show (true && PySem.PyData.canLayAll0 (r.map .int)) = true
      rw [h1]
      rfl
    · show max 0 (PySem.PyData.depthAll (r.map .int)) = 0
      rw [h2]
      rfl
theorem shapedInts (s : List Int) : SeqAt.shaped (.tuple (s.map .int)) = true ∧ PySem.PyData.eqv (.tuple (s.map .int)) (.tuple (s.map .int)) = true := by
  obtain ⟨h1, h2⟩ := canInts s
  have e1 : PySem.PyData.canLay0 (.tuple (s.map .int)) = true := h1
  refine ⟨?_, PySem.SeqAt.eqv_refl _ e1⟩
  unfold SeqAt.shaped
  have e2 : PySem.PyData.depth (.tuple (s.map .int)) = PySem.PyData.depthAll (s.map .int) + 1 := rfl
  rw [e1, e2, h2]
  rfl
theorem shapedStrs {s : List Str} (h : ∀ z ∈ s, SOk z) : SeqAt.shaped (.tuple (s.map .str)) = true ∧ PySem.PyData.eqv (.tuple (s.map .str)) (.tuple (s.map .str)) = true := by
  obtain ⟨h1, h2⟩ := canStrs h
  have e1 : PySem.PyData.canLay0 (.tuple (s.map .str)) = true := h1
  refine ⟨?_, PySem.SeqAt.eqv_refl _ e1⟩
  unfold SeqAt.shaped
  have e2 : PySem.PyData.depth (.tuple (s.map .str)) = PySem.PyData.depthAll (s.map .str) + 1 := rfl
  rw [e1, e2, h2]
  rfl
theorem paired_get {α β : Type} {F : α → β → Prop} : ∀ {l₁ : List α} {l₂ : List β}, Paired F l₁ l₂ → ∀ {i : Nat} {a : α}, l₁[i]? = some a → ∃ b, l₂[i]? = some b ∧ F a b
  | _, _, .nil, _, _, h => nomatch h
  | _, _, .cons r t, 0, a, h => ⟨_, rfl, Option.some.inj h ▸ r⟩
  | _, _, .cons r t, i + 1, a, h => paired_get t (i := i) h
theorem nodup_leA {α : Type} [DecidableEq α] : ∀ {fs ns : List α}, fs.Nodup → (∀ z ∈ fs, z ∈ ns) → fs.length ≤ ns.length
  | [], _, _, _ => Nat.zero_le _
  | f :: r, ns, nd, h => by
    have ih := nodup_leA (fs := r) (ns := ns.erase f) (List.nodup_cons.mp nd).2 fun z hz => (List.mem_erase_of_ne (fun e => (List.nodup_cons.mp nd).1 (by rw [← e]; exact hz))).mpr (h z (List.mem_cons_of_mem _ hz))
    have hm := h f List.mem_cons_self
    rw [List.length_erase_of_mem hm] at ih
    have := List.length_pos_of_mem hm
    rw [List.length_cons]
    omega
theorem ascI_nodup {l : List Int} (h : AscI l) : l.Nodup := h.imp fun e => Int.ne_of_lt e
theorem tyT {K : PySem.W.Frag} {H : Hp} {a : Addr} {xs : List V} (h : SqT K H a xs) : TyX K H (.ref a) (.type "tuple") := by
  rcases h with (h | ⟨u, h⟩) | ⟨o, its, n, h, hc, _⟩
  · exact .base (.tup h)
  · exact .fTuple h
  · exact .kTuple h hc
end Sw
namespace Sw
open PySem PySem.Spec PyProof.Rows L2 NdefX
def topS (i : Nat) : Stmt := PySem.Challenge.pw_surelywhole_k01_table_attributes.main.body.getD i (.Pass ⟨0, 0, 0, 0⟩)
end Sw
namespace Sw
open PySem PySem.Spec PyProof.Rows L2
abbrev sDeal : Stmt := topS 8
abbrev sTake : Stmt := topS 9
abbrev sSpell : Stmt := topS 10
abbrev nDeal : List Str := ["_law_script", "_law_k", "_law_cell", "_law_hand", "_law_rest", "_law_n", "_law_mixed"]
theorem scDeal : FnScope nDeal ["_law_script", "_law_k"] (defScope sDeal) := ⟨rfl, rfl, rfl, by decide +kernel, rfl, by decide +kernel, by decide +kernel⟩
theorem scTake : FnScope ["_law_hand", "_law_many"] ["_law_hand", "_law_many"] (defScope sTake) := ⟨rfl, rfl, rfl, by decide +kernel, rfl, by decide +kernel, by decide +kernel⟩
section
variable {P : Program} {w : World} {K : PySem.W.Frag} {mg : Str → Option Value} {base : Heap}
theorem ok_take {f : Addr} {fd : FuncData} (F : Fun K "_law_take" "_law_take" sTake f fd) (B : Blt mg) : FnOk P w K mg base CX0 1 f fd ["_law_hand", "_law_many"] spTake := by
  refine F.ok scTake (fun vs H Q E h => ?_) (fun cdv A outer s H vs Q E hr h => ?_)
  · obtain ⟨a, m, rfl, _⟩ := h
    rfl
  · obtain ⟨a, m, rfl, ⟨ns, hH, hl⟩, hm, q⟩ := h
    refine ⟨_, pss_cons (ps_asg (pe_op op_add (pe_ix ix_list (pv 0) pe_int (fun _ _ => rfl)) pe_int) (pg_sub (pv 0) pe_int set_list))
      (pss_one (ps_ret (pe_op op_mod (pe_callTy call_int1 (by rfl) B.int bInt (pa_cons (pe_ix ix_list (pv 0)
        (pe_op op_add pe_int (pe_op op_mod (pe_callTy call_int1 (by rfl) B.int bInt (pa_cons (pe_ix ix_list (pv 0) pe_int (fun _ _ => rfl)) pa_nil)) pe_int)) (fun _ _ => rfl)) pa_nil)) (pv 1)))), ?_⟩
    have h0 : (ns.map V.int)[0]? = some (V.int (ns[0]'(by omega))) := intV_get (by omega)
    refine ⟨_, rfl, a, _, _, _, rfl, rfl, SqL.of hH, atI_nat (j := 0) h0, _, _, rfl, rfl, ?_⟩
    refine ⟨_, rfl, a, _, _, 0, rfl, rfl, hH, by rw [List.length_map, hl]; rfl, ?_⟩
    have e1 : (ns.map V.int).set 0 (V.int (ns[0]'(by omega) + 1)) = (ns.set 0 (ns[0]'(by omega) + 1)).map V.int := by rw [List.map_set]
    rw [e1]
    generalize hns : ns.set 0 (ns[0]'(by omega) + 1) = ms
    have hl2 : ms.length = 61 := by rw [← hns, List.length_set, hl]
    have h02 : (ms.map V.int)[0]? = some (V.int (ms[0]'(by omega))) := intV_get (by omega)
    refine ⟨_, rfl, _, rfl, a, _, _, _, rfl, rfl, SqL.of upd_same, atI_nat (j := 0) h02, .inl ⟨_, rfl, ?_⟩⟩
    have hz : 0 ≤ (1 : Int) + ms[0]'(by omega) % 60 ∧ (1 : Int) + ms[0]'(by omega) % 60 < ms.length := by
      have h1 := Int.emod_nonneg (ms[0]'(by omega)) (show (60 : Int) ≠ 0 by decide)
      have h2 := Int.emod_lt_of_pos (ms[0]'(by omega)) (show (0 : Int) < 60 by decide)
      omega
    obtain ⟨c, hc⟩ := atI_int hz.1 hz.2
    refine ⟨_, _, rfl, rfl, (by show (0 : Int) < 60; decide), _, _, rfl, rfl, a, _, _, _, rfl, rfl, SqL.of upd_same, hc, .inl ⟨_, rfl, ?_⟩⟩
    refine ⟨_, rfl, _, _, rfl, rfl, hm, ?_⟩
    exact q _ _ (Int.emod_nonneg _ (by omega)) (Int.emod_lt_of_pos _ hm) ⟨ms, upd_same, hl2⟩ (but_upd (but_refl a H))
theorem ok_deal {f : Addr} {fd : FuncData} (F : Fun K "_law_deal" "_law_deal" sDeal f fd) (B : Blt mg) : FnOk P w K mg base CX0 1 f fd ["_law_script", "_law_k"] (spDeal K) := by
  refine F.ok scDeal (fun vs H Q E h => ?_) (fun cdv A outer s H vs Q E hr h => ?_)
  · obtain ⟨a, ns, k, rfl, _⟩ := h
    rfl
  · obtain ⟨a, ns, k, rfl, hS, hlen, hk, q⟩ := h
    refine ⟨_, pss_cons (ps_set (i := 2) scDeal.nd rfl (.inl rfl) (pe_ix ix_list (pe_op op_joinL (pv 0) (pe_lst (pa_cons pe_int (pa_cons pe_int (pa_cons pe_int (pa_cons pe_int (pa_cons pe_int (pa_cons pe_int (pa_cons pe_int pa_nil))))))))) (pv 1) (fun _ _ => rfl)))
      (pss_cons (ps_set (i := 3) scDeal.nd rfl (.inl rfl) (pe_lst (pa_cons pe_int pa_nil)))
      (pss_cons (ps_set (i := 4) scDeal.nd rfl (.inl rfl) (pe_op op_mul (pv 2) (pe_callTy call_int1 (by rfl) B.int bInt (pa_cons (pe_cmpR op_ge (pv 2) (pe_op op_pow pe_int pe_int) (nomark _)) pa_nil))))
      (pss_cons (ps_for PassesOwn.never rfl (pi_range1 rfl B.range (pa_cons pe_int pa_nil)) (pg_name (i := 5) scDeal.nd rfl (.inl rfl))
        (pss_cons (ps_set (i := 6) scDeal.nd rfl (.inl rfl) (pe_op op_mod (pe_callTy call_int1 (by rfl) B.int bInt (pa_cons (pe_op op_add (pe_op op_mul (pe_op op_add (pe_op op_add (pv 2) (pv 1)) (pv 5)) (pe_op op_add pe_int (pe_op op_mul pe_int (pv 5)))) (pe_op op_mul (pv 1) pe_int)) pa_nil)) pe_int))
        (pss_cons (ps_set (i := 6) scDeal.nd rfl (.inl rfl) (pe_op op_mod (pe_callTy call_int1 (by rfl) B.int bInt (pa_cons (pe_op op_mul (pv 6) (pe_op op_add (pe_op op_add (pe_op op_fdiv (pv 6) pe_int) pe_int) (pv 5))) pa_nil)) pe_int))
        (pss_cons (ps_expr (pe_bm PySem.F.plainAttrs_list PySem.F.slot_list_append PySem.F.type_list_append mt_append (pv 3) (pa_cons (pe_op op_mod (pe_callTy call_int1 (by rfl) B.int bInt (pa_cons (pe_ix ix_list (pe_lst (pa_cons (pe_op op_fdiv (pv 6) pe_int) (pa_cons (pv 4) pa_nil))) (pe_callTy call_int1 (by rfl) B.int bInt (pa_cons (pe_cmpR op_gt (pv 4) pe_int (nomark _)) pa_nil)) (fun _ _ => rfl)) pa_nil)) pe_int) pa_nil)))
        (pss_one (ps_set (i := 4) scDeal.nd rfl (.inl rfl) (pe_op op_fdiv (pv 4) pe_int)))))))
      (pss_one (ps_ret (pv 3)))))), ?_⟩
    -- the cell
    obtain ⟨c, hc⟩ := cell_at (ns := ns) hk
    refine ⟨_, rfl, (by show 7 ≤ sizeLine; decide), fun p0 n0 => ?_⟩
    have s0 : Same H (upd H p0 (.lst [V.int 0, V.int 0, V.int 0, V.int 0, V.int 0, V.int 0, V.int 0])) := same_new n0
    refine ⟨a, p0, _, _, rfl, rfl, s0.seq hS, SqL.of upd_same, ?_, fun p1 n1 => ?_⟩
    · rw [List.length_map]
      exact Nat.le_trans (Nat.add_le_add_right hlen _) (by show 63 + 7 ≤ sizeLine; decide)
    have s1 := s0.trans (same_new (o := .lst (ns.map V.int ++ [V.int 0, V.int 0, V.int 0, V.int 0, V.int 0, V.int 0, V.int 0])) n1)
    refine ⟨_, rfl, p1, _, _, _, rfl, rfl, SqL.of upd_same, atI_nat hc, ?_⟩
    -- hand = [0]
    generalize hH1 : upd (upd H p0 (.lst [V.int 0, V.int 0, V.int 0, V.int 0, V.int 0, V.int 0, V.int 0])) p1 (.lst (ns.map V.int ++ [V.int 0, V.int 0, V.int 0, V.int 0, V.int 0, V.int 0, V.int 0])) = H1 at s1 ⊢
    refine ⟨(by show 1 ≤ sizeLine; decide), fun p np => ?_⟩
    have hp0 : H p = none := s1.free np
    have s2 := s1.trans (same_new (o := .lst [V.int 0]) np)
    -- rest
    refine ⟨_, rfl, _, rfl, _, _, rfl, rfl, ⟨by decide, by decide, by decide⟩, _, _, rfl, rfl, .inr ⟨_, rfl, _, _, rfl, rfl, .inr ?_, ?_⟩⟩
    · split <;> exact ⟨by decide, by decide⟩
    -- the loop
    refine ⟨_, rfl, by decide, by decide, for_range (n := 60) (fun i σ H2 => ∃ (ms : List Int) (r : Int) (o5 o6 : Option V), σ = [some (.ref a), some (.int (k : Int)), some (.int c), some (.ref p), some (.int r), o5, o6] ∧ H2 p = some (.lst (ms.map V.int)) ∧ ms.length = i + 1 ∧ Same H H2)
      ⟨[0], _, none, none, rfl, upd_same, rfl, s2⟩ ?_ ?_⟩
    · rintro i σ H2 hi ⟨ms, r, o5, o6, rfl, hp, hl, s3⟩
      have hb : (-(2 ^ 64) < (48271 : Int) + 1361 * (0 + (i : Int)) ∧ (48271 : Int) + 1361 * (0 + (i : Int)) < 2 ^ 64) := by
        constructor <;> omega
      refine ⟨_, rfl, _, rfl, _, _, rfl, rfl, _, rfl, _, _, rfl, rfl, _, rfl, _, _, rfl, rfl, .inl ⟨by decide, by decide⟩, _, _, rfl, rfl, _, _, rfl, rfl, .inr hb, _, rfl, _, _, rfl, rfl, .inr ⟨by decide, by decide⟩, _, _, rfl, rfl, .inl ⟨_, rfl, _, _, rfl, rfl, (by show (0 : Int) < 2147483647; decide), ?_⟩⟩
      refine ⟨_, rfl, _, rfl, _, _, rfl, rfl, ⟨by decide, by decide⟩, _, _, rfl, rfl, _, rfl, _, _, rfl, rfl, _, _, rfl, rfl, .inl (mod_small _), .inl ⟨_, rfl, _, _, rfl, rfl, (by show (0 : Int) < 2147483399; decide), ?_⟩⟩
      -- hand.append(..)
      refine ⟨.ref p, rfl, .inl ⟨rfl, _, SqL.of hp⟩, _, rfl, _, _, rfl, rfl, ⟨by decide, by decide⟩, _, rfl, (by show 2 ≤ sizeLine; decide), fun t nt => ?_⟩
      have s4 : ∀ o, Same H2 (upd H2 t o) := fun o => same_new nt
      refine ⟨_, rfl, _, _, rfl, rfl, .inr ⟨_, rfl, t, _, _, _, rfl, rfl, SqL.of upd_same, pick2 _ _, .inl ⟨_, rfl, _, _, rfl, rfl, (by show (0 : Int) < 1000; decide), ?_⟩⟩⟩
      refine ⟨p, _, _, rfl, rfl, s4 _ _ _ hp, ?_, ?_⟩
      · rw [List.length_map, hl]
        exact Nat.lt_of_lt_of_le (show i + 1 < 70 by omega) (by show 70 ≤ sizeLine; decide)
      refine ⟨_, rfl, _, _, rfl, rfl, ⟨by decide, by decide⟩, ?_⟩
      exact ⟨ms ++ [_], _, _, _, rfl, by rw [upd_same, List.map_append]; rfl, by rw [List.length_append, hl]; rfl, same_mut (s3.trans (s4 _)) hp0⟩
    · rintro σ H2 ⟨ms, r, o5, o6, rfl, hp, hl, s3⟩
      exact ⟨_, rfl, q _ _ s3 hp0 ⟨ms, hp, hl⟩⟩
abbrev nSpell : List Str := ["_law_hand", "_law_many", "_law_signs", "_law_size", "_law_base", "_law_place", "_law_shift", "_law_tails", "_law_words", "_law_k", "_law_sign", "_law_n"]
theorem scSpell : FnScope nSpell ["_law_hand", "_law_many", "_law_signs"] (defScope sSpell) := ⟨rfl, rfl, rfl, by decide +kernel, rfl, by decide +kernel, by decide +kernel⟩
theorem ok_spell {f fT : Addr} {fd fdT : FuncData} (F : Fun K "_law_spell" "_law_spell" sSpell f fd) (B : Blt mg) (FT : Fun K "_law_take" "_law_take" sTake fT fdT) (bT : Binds K fdT ["_law_hand", "_law_many"] []) (mT : mg "_law_take" = some (.ref fT)) :
    FnOk P w K mg base CX0 2 f fd ["_law_hand", "_law_many", "_law_signs"] spSpell := by
  have GT : FnOk P w K mg base CX0 1 fT fdT ["_law_hand", "_law_many"] spTake := ok_take FT B
  refine F.ok scSpell (fun vs H Q E h => ?_) (fun cdv A outer s H vs Q E hr h => ?_)
  · obtain ⟨a, m, sg, rfl, _⟩ := h
    rfl
  · obtain ⟨a, m, sg, rfl, hH, h5, hm, nd, q⟩ := h
    refine ⟨_, pss_cons (ps_set (i := 3) scSpell.nd rfl (.inl rfl) (pe_call GT hr rfl mT FT.kp bT .nil pass0 (pa_cons (pv 0) (pa_cons pe_int pa_nil))))
      (pss_cons (ps_set (i := 4) scSpell.nd rfl (.inl rfl) (pe_join pe_str (pe_lc (own := [("_law_n", 11)]) (g := gName 11) (tt := tYes) rfl scSpell.nd (pi_range1 rfl B.range (pa_cons (pv 3) pa_nil)) (blkOk_by (N := nSpell) (sc := defScope sSpell) (by decide +kernel))
        (fun _ _ _ _ _ => pg_name (i := 11) scSpell.nd rfl (Or.inl rfl)) (fun _ _ _ _ _ => pts_nil)
        (fun _ _ _ _ _ => pe_ix ix_str (pv 2) (pe_call GT hr rfl mT FT.kp bT .nil pass0 (pa_cons (pv 0) (pa_cons (pe_callB call_len_str (by rfl) B.len PySem.boot_len (pa_cons (pv 2) pa_nil)) pa_nil))) (fun _ _ => rfl)))))
      (pss_cons (ps_set (i := 5) scSpell.nd rfl (.inl rfl) (pe_call GT hr rfl mT FT.kp bT .nil pass0 (pa_cons (pv 0) (pa_cons (pe_op op_add (pv 3) pe_int) pa_nil))))
      (pss_cons (ps_set (i := 6) scSpell.nd rfl (.inl rfl) (pe_call GT hr rfl mT FT.kp bT .nil pass0 (pa_cons (pv 0) (pa_cons pe_int pa_nil))))
      (pss_cons (ps_set (i := 7) scSpell.nd rfl (.inl rfl) (pe_lst (pa_cons (pe_slice sl_str (pv 4) (po_some (pv 5)) po_none) (pa_cons (pe_op op_str01 (pe_slice sl_str (pv 4) (po_some (pv 5)) po_none) (pe_call GT hr rfl mT FT.kp bT .nil pass0 (pa_cons (pv 0) (pa_cons pe_int pa_nil)))) pa_nil))))
      (pss_cons (ps_set (i := 8) scSpell.nd rfl (.inl rfl) (pe_lst pa_nil))
      (pss_cons (ps_for PassesOwn.never rfl (pi_range1 rfl B.range (pa_cons (pv 1) pa_nil)) (pg_name (i := 9) scSpell.nd rfl (.inl rfl))
        (pss_cons (ps_set (i := 10) scSpell.nd rfl (.inl rfl) (pe_ix ix_str (pv 2) (pe_op op_mod (pe_callTy call_int1 (by rfl) B.int bInt (pa_cons (pe_op op_add (pv 6) (pe_op op_mul pe_int (pv 9))) pa_nil)) (pe_callB call_len_str (by rfl) B.len PySem.boot_len (pa_cons (pv 2) pa_nil))) (fun _ _ => rfl)))
        (pss_one (ps_expr (pe_bm PySem.F.plainAttrs_list PySem.F.slot_list_append PySem.F.type_list_append mt_append (pv 8) (pa_cons (pe_op op_add_str (pe_op op_add_str (pe_slice sl_str (pv 4) po_none (po_some (pv 5))) (pv 10)) (pe_ix ix_list (pv 7) (pe_op op_mod (pv 9) pe_int) (fun _ _ => rfl))) pa_nil))))))
      (pss_one (ps_ret (pv 8))))))))), ?_⟩
    have lsg : sg.length = (TL.tl sg).length := len_tl sg
    have lsz : sg.length ≤ sizeLine := by rw [lsg]; exact Nat.le_trans (by omega) (show 36 ≤ sizeLine by decide)
    -- size
    refine ⟨_, rfl, a, 8, rfl, hH, by decide, fun size H1 z0 z8 hH1 b1 => ?_⟩
    obtain ⟨sz, rfl⟩ := Int.eq_ofNat_of_zero_le z0
    have s1 : SBut a H H1 := b1.sbut
    -- base
    refine ⟨⟨_, rfl⟩, _, rfl, _, rfl, by omega, by omega, fun D nD => ?_⟩
    obtain ⟨nD0, nDa⟩ := s1.free hH1 nD
    have hsz : ((sz : Nat) : Int).toNat = sz := Int.toNat_natCast sz
    refine lc_range (lo := 0) (fun i H2 => ∃ cs : List Nat, H2 D = some (.lst (cs.map fun c => V.str ⟨#[c]⟩)) ∧ cs.length = i ∧ (∀ c ∈ cs, c ∈ TL.tl sg) ∧ HandAt H2 a ∧ SBut a H H2)
      ⟨[], upd_same, rfl, fun _ h => (by cases h), hH1.upd nDa, s1.mut nD0⟩ ?_ ?_
    · rintro i H2 hi ⟨cs, hD, hl, hc, hH2, s2⟩
      refine ⟨rfl, _, rfl, _, rfl, _, rfl, _, rfl, (by rw [lsg]; exact Nat.le_trans (by omega) (show 36 ≤ sizeLine by decide)), a, (sg.length : Int), rfl, hH2, by omega, fun v H3 v0 v1 hH3 b3 => ?_⟩
      obtain ⟨c, e, hcs⟩ := sign_at (sg := sg) v0 (by rw [← lsg]; exact v1)
      refine ⟨_, _, c, rfl, rfl, (by rw [lsg]; exact Nat.le_trans (by omega) (show 36 ≤ sizeLine by decide)), e, ?_⟩
      refine ⟨_, by rw [b3 D nDa]; exact hD, ?_, cs ++ [c], ?_, ?_, ?_, ?_, ?_⟩
      · rw [List.length_map, hl]
        exact Nat.lt_of_lt_of_le (show i < 9 by omega) (by show 9 ≤ sizeLine; decide)
      · rw [upd_same, List.map_append]
        rfl
      · rw [List.length_append, hl]
        rfl
      · intro x hx
        rcases List.mem_append.mp hx with h | h
        · exact hc x h
        · rw [List.mem_singleton.mp h]
          exact hcs
      · exact hH3.upd nDa
      · exact (s2.trans b3.sbut).mut nD0
    rintro H2 ⟨cs, hD, hl, hc, hH2, s2⟩
    rw [hsz] at hl
    have lcs : (cs.map fun c => (⟨#[c]⟩ : Str)).map (·.length) = cs.map fun _ => 1 := by rw [List.map_map]; rfl
    refine ⟨Str.empty, D, cs.map fun c => (⟨#[c]⟩ : Str), rfl, rfl, .inl (SqL.of (by rw [hD, List.map_map]; rfl)), ?_, ?_⟩
    · rw [lcs, List.length_map]
      rw [sum_ones]
      show cs.length + cs.length * 0 ≤ 16777216
      omega
    have tb : TL.tl (baseOf cs) = cs := tl_base cs
    unfold baseOf at tb
    generalize Txt.join Str.empty (cs.map fun c => (⟨#[c]⟩ : Str)) = bs at tb ⊢
    -- place, shift
    refine ⟨_, rfl, _, rfl, _, _, rfl, rfl, a, _, rfl, hH2, by omega, fun pl H3 p0 p1 hH3 b3 => ?_⟩
    obtain ⟨pl, rfl⟩ := Int.eq_ofNat_of_zero_le p0
    refine ⟨_, rfl, a, 99, rfl, hH3, by decide, fun sh H4 h0 h1 hH4 b4 => ?_⟩
    obtain ⟨sh, rfl⟩ := Int.eq_ofNat_of_zero_le h0
    have s4 : SBut a H H4 := (s2.trans b3.sbut).trans b4.sbut
    have hpl : pl ≤ (TL.tl bs).length := by rw [tb]; omega
    have lb : bs.length ≤ sizeLine := by
      rw [len_tl, tb]
      exact Nat.le_trans (show cs.length ≤ 8 by omega) (by decide)
    -- tails
    refine ⟨_, rfl, _, rfl, _, rfl, _, rfl, lb, _, rfl, _, rfl, _, rfl, _, rfl, lb, _, rfl, a, 2, rfl, hH4, by decide, fun z H5 z0 z1 hH5 b5 => ?_⟩
    refine ⟨_, z, rfl, rfl, z0, z1, (by show 2 ≤ sizeLine; decide), fun T nT => ?_⟩
    have s5 := s4.trans b5.sbut
    obtain ⟨nT0, nTa⟩ := s5.free hH5 nT
    generalize ht0 : cutS bs (some (pl : Int)) none = t0
    generalize ht1 : (if z = 0 then Str.empty else t0) = t1
    have et0 : TL.tl t0 = (TL.tl bs).drop pl := by rw [← ht0]; exact tl_cut_from _ _ hpl
    have et1 : TL.tl t1 = [] ∨ TL.tl t1 = (TL.tl bs).drop pl := by
      rw [← ht1]
      split
      · exact .inl rfl
      · exact .inr et0
    have s6 : SBut a H (upd H5 T (.lst [V.str t0, V.str t1])) := s5.mut nT0
    have h6 : HandAt (upd H5 T (.lst [V.str t0, V.str t1])) a := hH5.upd nTa
    -- words
    refine ⟨Nat.zero_le _, fun W nW => ?_⟩
    obtain ⟨nW0, nWa⟩ := s6.free h6 nW
    have nTW : T ≠ W := ne_of_none upd_same nW
    have lt0 : (TL.tl t0).length ≤ 8 := by rw [et0, List.length_drop, tb]; omega
    have lt1 : (TL.tl t1).length ≤ 8 := by
      rcases et1 with e | e
      · rw [e]
        decide
      · rw [e, List.length_drop, tb]
        omega
    refine ⟨_, rfl, _, rfl, by omega, by omega, for_range (lo := 0) (fun i σ H7 => ∃ (o9 o10 : Option V), σ = [some (.ref a), some (.int (m : Int)), some (.str sg), some (.int (sz : Int)), some (.str bs), some (.int (pl : Int)), some (.int (sh : Int)), some (.ref T), some (.ref W), o9, o10, none] ∧
      H7 W = some (.lst (((List.range i).map (wordAt bs sg pl sh t0 t1)).map V.str)) ∧ H7 T = some (.lst [V.str t0, V.str t1]) ∧ HandAt H7 a ∧ SBut a H H7) ⟨none, none, rfl, upd_same, (by rw [upd_ne nTW]; exact upd_same), h6.upd nWa, s6.mut nW0⟩ ?_ ?_⟩
    · rintro i σ H7 hi ⟨o9, o10, rfl, hW, hT, hH7, s7⟩
      refine ⟨_, rfl, _, rfl, _, rfl, _, _, rfl, rfl, .inl ⟨by decide, by decide⟩, _, _, rfl, rfl, .inl ⟨_, rfl, _, rfl, _, rfl, lsz, _, _, rfl, rfl, (by show (0 : Int) < ((sg.length : Nat) : Int); omega), _, _, _, rfl, rfl, lsz, sign_ix (by omega), ?_⟩⟩
      have lw0 : (cutS bs none (some (pl : Int))).length ≤ 8 := by
        rw [len_tl, tl_cut_to _ _ hpl, List.length_take, tb]
        omega
      have lw1 : (cutS bs none (some (pl : Int)) ++ (⟨#[(TL.tl sg).getD ((sh + 5 * i) % (TL.tl sg).length) 0]⟩ : Str)).length ≤ 9 := by
        rw [len_tl, TL.tl_append, List.length_append, ← len_tl]
        exact Nat.add_le_add_right lw0 1
      have lt2 : (if i % 2 = 0 then t0 else t1).length ≤ 8 := by
        rw [len_tl]
        split
        · exact lt0
        · exact lt1
      refine ⟨.ref W, rfl, .inl ⟨rfl, _, SqL.of hW⟩, _, rfl, _, rfl, _, rfl, _, rfl, lb, _, rfl, _, _, rfl, rfl, ?_, _, rfl, _, rfl, _, _, rfl, rfl, (by show (0 : Int) < 2; decide), T, _, _, _, rfl, rfl, SqL.of hT, tail_ix, _, _, rfl, rfl, ?_, W, _, _, rfl, rfl, hW, ?_, ?_⟩
      · exact Nat.le_trans (Nat.add_le_add lw0 (Nat.le_refl 1)) (by decide)
      · exact Nat.le_trans (Nat.add_le_add lw1 lt2) (by decide)
      · rw [List.length_map, List.length_map, List.length_range]
        exact Nat.lt_of_lt_of_le (show i < 6 by omega) (by show 6 ≤ sizeLine; decide)
      refine ⟨_, _, rfl, ?_, (by rw [upd_ne nTW]; exact hT), hH7.upd nWa, s7.mut nW0⟩
      rw [upd_same, List.range_succ, List.map_append, List.map_append]
      rfl
    · rintro σ H7 ⟨o9, o10, rfl, hW, hT, hH7, s7⟩
      have em : ((m : Nat) : Int).toNat = m := Int.toNat_natCast m
      rw [em] at hW
      refine ⟨_, rfl, q H7 W _ hH7 s7 nW0 nWa hW (by rw [List.length_map, List.length_range]) (words_nodup hpl hm nd h5) ?_⟩
      intro w hw
      obtain ⟨j, _, rfl⟩ := List.mem_map.mp hw
      exact word_wd hpl (by rw [tb]; omega) (by rw [tb]; exact hc) (by omega) et0 et1
end
end Sw
namespace Sw
open PySem PySem.Spec PyProof.Rows L2 NdefX
abbrev sOnce : Stmt := topS 2
abbrev nOnce : List Str := ["things", "thing"]
theorem scOnce : FnScope nOnce ["things"] (defScope sOnce) := ⟨rfl, rfl, rfl, by decide +kernel, rfl, by decide +kernel, by decide +kernel⟩
section
variable {P : Program} {w : World} {K : PySem.W.Frag} {mg : Str → Option Value} {base : Heap}
theorem ok_once {f : Addr} {fd : FuncData} (F : Fun K "once" "once" sOnce f fd) (bl : mg "list" = none) : FnOk P w K mg base CX0 1 f fd ["things"] (spOnce K) := by
  refine F.ok scOnce (fun vs H Q E h => ?_) (fun cdv A outer s H vs Q E hr h => ?_)
  · obtain ⟨a, ws, rfl, _⟩ := h
    rfl
  · obtain ⟨a, ws, rfl, hW, h64, q⟩ := h
    refine ⟨_, pss_one (ps_ret (pe_callTy (call_listD rfl) (by rfl) bl bList (pa_cons (PE.or
        (pe_dc (own := [("thing", 1)]) (g := gName 1) (tt := tYes) rfl scOnce.nd (PI.or (pi_list (pv 0)) (pi_tup (pv 0))) (blkOk_by (N := nOnce) (sc := defScope sOnce) (by decide +kernel)) (fun _ _ _ _ _ => pg_name (i := 1) scOnce.nd rfl (Or.inl rfl)) (fun _ _ _ _ _ => pts_nil) (fun _ _ _ _ _ => pv 1) (fun _ _ _ _ _ => pe_bl))
        (pe_lock (pe_dc (own := [("thing", 1)]) (g := gName 1) (tt := tYes) rfl scOnce.nd (pi_keys (pv 0)) (blkOk_by (N := nOnce) (sc := defScope sOnce) (by decide +kernel)) (fun _ _ _ _ _ => pg_name (i := 1) scOnce.nd rfl (Or.inl rfl)) (fun _ _ _ _ _ => pts_nil) (fun _ _ _ _ _ => pv 1) (fun _ _ _ _ _ => pe_bl)))) pa_nil))), ?_⟩
    have h1000 : ws.length ≤ 1000 := by omega
    have injS : ∀ x y : Str, (Sum.inr x : Key) = Sum.inr y → x = y := fun _ _ e => Sum.inr.inj e
    have fin : ∀ (D : Addr) (us : List Str), H D = none → Once us ws → ∀ L, upd H D (.dK (onceK Sum.inr us)) L = none →
        Q (.ref L) (upd (upd H D (.dK (onceK Sum.inr us))) L (.lst ((onceK (Sum.inr : Str → Key) us).map fun kv => kV kv.1))) := by
      intro D us nD o L nL
      have e : ((onceK (Sum.inr : Str → Key) us).map fun kv => kV kv.1) = us.map V.str := by
        unfold onceK
        rw [List.map_map]
        rfl
      rw [e]
      have s1 := (same_new (o := .dK (onceK Sum.inr us)) nD).trans (same_new (o := .lst (us.map V.str)) nL)
      exact q _ L us s1 ((same_new nD).free nL) upd_same o
    rcases hW with (hL | hT) | ⟨kvs, hd, hk⟩
    · refine .inl (.inl ⟨_, rfl, a, rfl, ⟨_, hL⟩, fun D nD => dc_once (f := (Sum.inr : Str → Key)) injS (wk_list (val := V.str)) (by show 1 < 2; decide) (fun o => (same_new nD).seq hL) h1000 fun us o => ?_⟩)
      exact ⟨D, _, rfl, .inl upd_same, fun L nL => fin D us nD o L nL⟩
    · refine .inl (.inr ⟨_, rfl, a, rfl, ⟨_, hT⟩, fun D nD => dc_once (f := (Sum.inr : Str → Key)) injS (wk_tup (val := V.str)) (by show 1 < 2; decide) (fun o => same_seqT (same_new nD) hT) h1000 fun us o => ?_⟩)
      exact ⟨D, _, rfl, .inl upd_same, fun L nL => fin D us nD o L nL⟩
    · refine .inr ⟨a, _, hd, True.intro, fun od => ⟨_, rfl, a, od, rfl, .inl ⟨kvs, upd_same, fun D nD => dc_once (f := (Sum.inr : Str → Key)) injS (wk_keys hk) (by show 1 < 2; decide) (fun o => by rw [upd_ne (ne_of_none upd_same nD)]; exact upd_same) h1000 fun us o => ?_⟩⟩⟩
      refine ⟨by rw [upd_ne (ne_of_none upd_same nD)]; exact upd_same, ?_⟩
      have nD0 : H D = none := free_lock hd nD
      rw [unlock_new hd nD]
      exact ⟨D, _, rfl, .inl upd_same, fun L nL => fin D us nD0 o L nL⟩
end
end Sw
namespace Sw
open PySem PySem.Spec PyProof.Rows L2 NdefX
abbrev sAsc : Stmt := topS 3
abbrev nAsc : List Str := ["words", "word"]
theorem scAsc : FnScope nAsc ["words"] (defScope sAsc) := ⟨rfl, rfl, rfl, by decide +kernel, rfl, by decide +kernel, by decide +kernel⟩
section
variable {P : Program} {w : World} {K : PySem.W.Frag} {mg : Str → Option Value} {base : Heap}
theorem ok_asc {f fO : Addr} {fd fdO : FuncData} (F : Fun K "ascending" "ascending" sAsc f fd) (B : Blt2 mg) (GO : FnOk P w K mg base CX0 1 fO fdO ["things"] (spOnce K)) (mO : mg "once" = some (.ref fO)) (kO : PySem.W.keepIn K (.ref fO) = true) (bO : Binds K fdO ["things"] []) :
    FnOk P w K mg base CX0 2 f fd ["words"] (spAsc K) := by
  refine F.ok scAsc (fun vs H Q E h => ?_) (fun cdv A outer s H vs Q E hr h => ?_)
  · obtain ⟨a, ws, rfl, _⟩ := h
    rfl
  · obtain ⟨a, ws, rfl, hW, h64, q⟩ := h
    refine ⟨_, pss_one (ps_ret (pe_callTy call_tuple_of (by rfl) B.tuple bTuple (pa_cons (pe_callB cr_sortedS (by rfl) B.sorted bSorted (pa_cons
        (pe_lc (own := [("word", 1)]) (g := gName 1) (tt := tYes) rfl scAsc.nd (pi_list (pe_call GO hr rfl mO kO bO .nil pass0 (pa_cons (pv 0) pa_nil))) (blkOk_by (N := nAsc) (sc := defScope sAsc) (by decide +kernel)) (fun _ _ _ _ _ => pg_name (i := 1) scAsc.nd rfl (Or.inl rfl)) (fun _ _ _ _ _ => pts_nil)
          (fun _ _ _ _ _ => pe_callTy SkE.call_str_str (by rfl) B.str bStr (pa_cons (pv 1) pa_nil))) pa_nil)) pa_nil))), ?_⟩
    refine ⟨_, rfl, a, ws, rfl, hW, h64, fun H1 L0 us s1 nL0 hL0 o => ?_⟩
    have hus : us.length ≤ 63 := Nat.le_trans o.len (by omega)
    refine ⟨L0, rfl, ⟨_, SqL.of hL0⟩, fun L nL => ?_⟩
    refine lc_pure (val := V.str) (out := V.str) (l := us) wk_list (fun o => (same_new nL).seq (SqL.of hL0)) (by omega) (fun i u acc Q _ q => ⟨_, wipe_var (by show 1 < 2; decide) _, u, rfl, q⟩) ?_
    refine ⟨L, us, rfl, SqL.of upd_same, by omega, fun ys p pm so np => ?_⟩
    refine ⟨p, _, rfl, .inl ⟨SqL.of upd_same, fun T nT => ?_⟩⟩
    have nd : ys.Nodup := pm.nodup_iff.mpr o.nd
    have s2 := (s1.trans (same_new (o := .lst (us.map V.str)) nL)).trans (same_new (o := .lst (ys.map V.str)) np)
    exact q _ T ys (s2.trans (same_new nT)) (s2.free nT) upd_same (asc_of_sorted so nd) fun x => by rw [pm.mem_iff, o.mem]
end
end Sw
namespace Sw
open PySem PySem.Spec PyProof.Rows L2 NdefX
abbrev sWA : Stmt := topS 4
abbrev nWA : List Str := ["values", "at"]
theorem scWA : FnScope nWA ["values"] (defScope sWA) := ⟨rfl, rfl, rfl, by decide +kernel, rfl, by decide +kernel, by decide +kernel⟩
section
variable {P : Program} {w : World} {K : PySem.W.Frag} {mg : Str → Option Value} {base : Heap}
theorem ok_wa {f fA : Addr} {fd fdA : FuncData} (F : Fun K "with_ascending" "with_ascending" sWA f fd) (GA : FnOk P w K mg base CX0 2 fA fdA ["words"] (spAsc K)) (kA : PySem.W.keepIn K (.ref fA) = true) (bA : Binds K fdA ["words"] []) (mA : mg "ascending" = some (.ref fA)) :
    FnOk P w K mg base CX0 3 f fd ["values"] (spWA K) := by
  refine F.ok scWA (fun vs H Q E h => ?_) (fun cdv A outer s H vs Q E hr h => ?_)
  · obtain ⟨v, es, rfl, _⟩ := h
    rfl
  · obtain ⟨v, es, rfl, hv, q⟩ := h
    have hu := hu_of hr
    refine ⟨_, pss_cons (ps_if (pt_cmpR op_isN (pv 0) pe_non (nomark _)) (pss_one (ps_ret pe_dnewK)) pss_nil)
      (pss_one (ps_ret (pe_lock (pe_dc (own := [("at", 1)]) (g := gName 1) (tt := tYes) rfl scWA.nd (pi_keys (pv 0)) (blkOk_by (N := nWA) (sc := defScope sWA) (by decide +kernel)) (fun _ _ _ _ _ => pg_name (i := 1) scWA.nd rfl (Or.inl rfl)) (fun _ _ _ _ _ => pts_nil) (fun _ _ _ _ _ => pv 1)
        (fun _ _ _ _ _ => pe_call GA hr rfl mA kA bA .nil pass0 (pa_cons (pe_dget hu (pv 0) (pv 1) (fun _ _ => rfl)) pa_nil)))))), ?_⟩
    rcases hv with ⟨rfl, rfl⟩ | ⟨a, rfl, hd⟩
    · refine ⟨_, rfl, rfl, _, rfl, ?_⟩
      refine iteT (fun d nd => ?_)
      exact q _ d [] (same_new nd) nd ⟨upd_same, fun r hr => (nomatch hr)⟩ .nil
    · refine ⟨_, rfl, rfl, _, rfl, ?_⟩
      refine iteF ?_
      have ek : (es.map fun e : Ent => (e.1, V.ref e.2.1)).map (·.1) = es.map (·.1) := by rw [List.map_map]; rfl
      refine ⟨a, _, hd.at_, True.intro, fun od => ⟨_, rfl, a, od, rfl, .inl ⟨_, upd_same, fun D nD => ?_⟩⟩⟩
      have nD0 := free_lock hd.at_ nD
      have neD : a ≠ D := ne_of_none upd_same nD
      refine dc_it (wk_keys (l := es) (f := fun e => e.1) ek) (fun i Hc => ∃ rs : List Ent, Same (upd H a (.frz od (.dK (es.map fun e : Ent => (e.1, V.ref e.2.1))))) Hc ∧ Hc D = some (.dK (rs.map fun e : Ent => (e.1, V.ref e.2.1))) ∧ Alike (es.take i) rs ∧ ∀ r ∈ rs, Hc r.2.1 = some (.tup (r.2.2.map V.str)) ∧ AscS r.2.2)
        ⟨[], same_new nD, upd_same, .nil, fun r hr => (nomatch hr)⟩ (fun i Hc _ ⟨rs, sm, _⟩ => sm _ _ upd_same) ?_ ?_
      · rintro i x Hc Hc' hi ⟨rs, sm, hD, al, hr⟩ ⟨rfl, e, he, rfl⟩
        have hem : e ∈ es := List.mem_of_getElem? he
        refine ⟨rfl, _, rfl, ?_⟩
        have hv : valV (es.map fun e : Ent => (e.1, V.ref e.2.1)) e.1 = some (V.ref e.2.1) := valV_of_nd (by rw [ek]; exact hd.nd) (List.mem_map.mpr ⟨e, hem, rfl⟩)
        refine ⟨_, rfl, _, rfl, a, V.ref e.2.1, rfl, .inl ⟨_, _, .inr ⟨od, sm _ _ upd_same⟩, rfl, hv.symm⟩, ?_⟩
        refine ⟨e.2.1, e.2.2, rfl, .inl ?_, (hd.all e hem).2, fun H5 p us s5 np hp5 ha5 hm5 => ?_⟩
        · rcases (hd.all e hem).1 with z | z
          · exact .inl (sm.seq (sqL_lock hd.at_ z))
          · exact .inr (same_seqT sm (sqT_lock hd.at_ z))
        have hD5 := s5 _ _ hD
        have hlen : rs.length = (es.take i).length := by
          have z := congrArg List.length al.keys
          rw [List.length_map, List.length_map] at z
          exact z
        have hnk : valV (rs.map fun e : Ent => (e.1, V.ref e.2.1)) e.1 = none := by
          cases z : valV (rs.map fun e : Ent => (e.1, V.ref e.2.1)) e.1 with
          | none => rfl
          | some v =>
            have m := valV_in z
            have e2 : (rs.map fun e : Ent => (e.1, V.ref e.2.1)).map (·.1) = (es.take i).map (·.1) := by
              rw [List.map_map, ← al.keys]
              rfl
            rw [e2] at m
            have nd2 : ((es.take (i + 1)).map (·.1)).Nodup := hd.nd.sublist ((List.take_sublist _ _).map _)
            rw [take_snoc he, List.map_append] at nd2
            exact absurd rfl ((List.nodup_append.mp nd2).2.2 e.1 m e.1 List.mem_cons_self)
        have neP : ∀ (q : Addr) (xs : List V), H5 q = some (.tup xs) → q ≠ D := fun q xs z => ne_of z hD5 (fun y => nomatch y)
        refine ⟨_, e.1, rfl, hD5, ?_, rs ++ [(e.1, p, us)], ?_, ?_, ?_, ?_⟩
        · rw [List.length_map, hlen, List.length_take]
          exact Nat.lt_of_le_of_lt (Nat.min_le_right _ _) (small1000 (Nat.le_trans hd.len (by decide)))
        · exact same_mut (sm.trans s5) nD
        · rw [upd_same, putK_new _ hnk, List.map_append]
          rfl
        · rw [take_snoc he]
          exact al.snoc rfl hm5
        · intro r hrm
          rcases List.mem_append.mp hrm with z | z
          · rw [upd_ne (neP _ _ (s5 _ _ (hr r z).1))]
            exact ⟨s5 _ _ (hr r z).1, (hr r z).2⟩
          · rw [List.mem_singleton.mp z, upd_ne (neP _ _ hp5)]
            exact ⟨hp5, ha5⟩
      · rintro Hc ⟨rs, sm, hD, al, hr⟩
        rw [List.take_length] at al
        have hfz := sm _ _ upd_same
        refine ⟨hfz, q _ D rs (unlock_same hd.at_ sm) nD0 ⟨?_, fun r hrm => ?_⟩ al⟩
        · rw [upd_ne neD.symm]
          exact hD
        · rw [upd_ne (ne_of (hr r hrm).1 hfz (fun y => nomatch y))]
          exact hr r hrm
end
end Sw
namespace Sw
open PySem PySem.Spec PyProof.Rows L2 NdefX
abbrev sTab : Stmt := inClass (topS 6) 0
abbrev pTab : List Str := ["self", "name", "width", "key", "lists", "refers"]
abbrev nTab : List Str := ["self", "name", "width", "key", "lists", "refers", "columns", "column"]
theorem scTab : FnScope nTab pTab (defScope sTab) := ⟨rfl, rfl, rfl, by decide +kernel, rfl, by decide +kernel, by decide +kernel⟩
section
variable {P : Program} {w : World} {K : PySem.W.Frag} {mg : Str → Option Value} {base : Heap}
abbrev FunTab (K : PySem.W.Frag) (T0 T1 f : Addr) (fd : FuncData) : Prop := FunD K "__init__" "Table.__init__" (defArgs sTab) (defBody sTab) (defScope sTab) [] [("key", .ref T0), ("lists", .non), ("refers", .ref T1)] f fd
theorem ok_tabN {f CT T0 T1 fW : Addr} {fd fdW : FuncData} (F : FunTab K T0 T1 f fd) (B : Blt2 mg) (C : TabC K CT) (GW : FnOk P w K mg base CX0 3 fW fdW ["values"] (spWA K)) (kW : PySem.W.keepIn K (.ref fW) = true) (bW : Binds K fdW ["values"] []) (mW : mg "with_ascending" = some (.ref fW)) :
    FnOk P w K mg base CX0 4 f fd pTab (spTabN K CT) := by
  refine F.ok scTab (fun vs H Q E h => ?_) (fun cdv A outer s H vs Q E hr h => ?_)
  · obtain ⟨x, dx, kA, rA, nm, wd, ks, lv, es, rs, rfl, _⟩ := h
    rfl
  · obtain ⟨x, dx, kA, rA, nm, wd, ks, lv, es, rs, rfl, hx, hk, hkl, hl, hrA, q⟩ := h
    refine ⟨_, PSs.nox (pss_cons (ps_setDc (i := 6) (own := [("column", 7)]) (g := gName 7) (tt := tYes) rfl scTab.nd rfl rfl (sw_dict rfl rfl rfl (by decide +kernel)) (pi_tup (pv 3)) (blkOk_by (N := nTab) (sc := defScope sTab) (by decide +kernel)) (fun _ _ _ _ _ => pg_name (i := 7) scTab.nd rfl (Or.inl rfl)) (fun _ _ _ _ _ => pts_nil) (fun _ _ _ _ _ => pv 7) (fun _ _ _ _ _ => pe_bl))
      (pss_cons (ps_fld (pv 0) (pv 1) rfl) (pss_cons (ps_fld (pv 0) (pv 2) rfl)
      (pss_cons (ps_fld (pv 0) (pe_callTy call_tuple_of (by rfl) B.tuple bTuple (pa_cons (pe_callB cr_sortedI (by rfl) B.sorted bSorted (pa_cons
        (pe_lock (pe_lc (own := [("column", 7)]) (g := gName 7) (tt := tYes) rfl scTab.nd (pi_keys (pv 6)) (blkOk_by (N := nTab) (sc := defScope sTab) (by decide +kernel)) (fun _ _ _ _ _ => pg_name (i := 7) scTab.nd rfl (Or.inl rfl)) (fun _ _ _ _ _ => pts_nil)
          (fun _ _ _ _ _ => pe_callTy call_int1 (by rfl) B.int bInt (pa_cons (pv 7) pa_nil)))) pa_nil)) pa_nil)) rfl)
      (pss_cons (ps_fld (pv 0) (pe_call GW hr rfl mW kW bW .nil pass0 (pa_cons (pv 4) pa_nil)) rfl)
      (pss_one (ps_fld (pv 0) (pe_callTy call_tupleT (by rfl) B.tuple bTuple (pa_cons (pv 5) pa_nil)) rfl))))))), ?_⟩
    have injI : ∀ a b : Int, (Sum.inl a : Key) = Sum.inl b → a = b := fun _ _ e => Sum.inl.inj e
    refine ⟨_, rfl, kA, rfl, ⟨_, hk⟩, fun D nD => dc_once (f := (Sum.inl : Int → Key)) injI (wk_tup (val := V.int)) (by show 7 < 8; decide) (fun o => same_seqT (same_new nD) hk) (by omega) fun us o => ?_⟩
    have neD : x ≠ D := ne_of_none hx nD
    have hus : us.length ≤ 1000 := Nat.le_trans o.len (by omega)
    have s1 : SBut x H (upd H D (.dK (onceK Sum.inl us))) := Same.sbut (same_new nD)
    -- name, width
    refine ⟨_, rfl, _, rfl, x, CT, dx, _, rfl, (by rw [upd_ne neD]; exact hx), C.cl, C.n1, (by show 0 < 1000; decide), ?_⟩
    refine ⟨_, rfl, _, rfl, x, CT, dx, _, rfl, upd_same, C.cl, C.n2, (by show 1 < 1000; decide), ?_⟩
    rw [upd_upd]
    have s3 := s1.step (o := .ins CT dx (putF "width" (.int wd) (putF "name" (.str nm) [])))
    generalize hH3 : upd (upd H D (.dK (onceK Sum.inl us))) x (.ins CT dx (putF "width" (.int wd) (putF "name" (.str nm) []))) = H3 at s3 ⊢
    have hx3 : H3 x = some (.ins CT dx (putF "width" (.int wd) (putF "name" (.str nm) []))) := by rw [← hH3]; exact upd_same
    have hD3 : H3 D = some (.dK (onceK Sum.inl us)) := by rw [← hH3, upd_ne neD.symm]; exact upd_same
    -- key
    have ek : (onceK (Sum.inl : Int → Key) us).map (·.1) = us.map Sum.inl := by
      unfold onceK
      rw [List.map_map]
      rfl
    refine ⟨D, _, hD3, True.intro, fun od => ⟨_, rfl, D, od, rfl, .inl ⟨_, upd_same, fun L nL => ?_⟩⟩⟩
    refine lc_pure (val := V.int) (out := V.int) (l := us) (wk_keys ek) (fun o => by rw [upd_ne (ne_of_none upd_same nL)]; exact upd_same) hus (fun i u acc Q _ q => ⟨_, wipe_var (by show 7 < 8; decide) _, .inl ⟨u, rfl, q⟩⟩) ?_
    refine ⟨by rw [upd_ne (ne_of_none upd_same nL)]; exact upd_same, ?_⟩
    have nL2 := free_lock hD3 nL
    rw [unlock_new hD3 nL]
    refine ⟨L, us, rfl, SqL.of upd_same, fun ys p pm so np => ⟨p, _, rfl, .inl ⟨SqL.of upd_same, fun T nT => ?_⟩⟩⟩
    have s6 := ((same_new (o := .lst (us.map V.int)) nL2).trans (same_new (o := .lst (ys.map V.int)) np)).trans (same_new (o := .tup (ys.map V.int)) nT)
    generalize hH6 : upd (upd (upd H3 L (.lst (us.map V.int))) p (.lst (ys.map V.int))) T (.tup (ys.map V.int)) = H6 at s6 ⊢
    have hT6 : H6 T = some (.tup (ys.map V.int)) := by rw [← hH6]; exact upd_same
    have neT : x ≠ T := ne_of (s6 _ _ hx3) hT6 (fun z => nomatch z)
    refine ⟨_, rfl, x, CT, dx, _, rfl, s6 _ _ hx3, C.cl, C.n3, (by show 2 < 1000; decide), ?_⟩
    have s7 := (s3.same s6).step (o := .ins CT dx (putF "key" (.ref T) (putF "width" (.int wd) (putF "name" (.str nm) []))))
    generalize hH7 : upd H6 x (.ins CT dx (putF "key" (.ref T) (putF "width" (.int wd) (putF "name" (.str nm) [])))) = H7 at s7 ⊢
    have hx7 : H7 x = some (.ins CT dx (putF "key" (.ref T) (putF "width" (.int wd) (putF "name" (.str nm) [])))) := by rw [← hH7]; exact upd_same
    have hT7 : H7 T = some (.tup (ys.map V.int)) := by rw [← hH7, upd_ne neT.symm]; exact hT6
    -- lists
    refine ⟨_, rfl, lv, es, rfl, ?_, fun H8 lA ts s8 nl hts hal => ?_⟩
    · rcases hl with z | ⟨a, z, hd⟩
      · exact .inl z
      · exact .inr ⟨a, z, hd.but s7 hx⟩
    have nex : x ≠ lA := ne_of_none hx7 nl
    refine ⟨_, rfl, x, CT, dx, _, rfl, s8 _ _ hx7, C.cl, C.n4, (by show 3 < 1000; decide), ?_⟩
    have s9 := (s7.same s8).step (o := .ins CT dx (putF "lists" (.ref lA) (putF "key" (.ref T) (putF "width" (.int wd) (putF "name" (.str nm) [])))))
    -- refers
    refine ⟨_, rfl, rA, rs, rfl, sqT_ins hrA s9 hx, _, rfl, x, CT, dx, _, rfl, upd_same, C.cl, C.n5, (by show 4 < 1000; decide), ?_⟩
    have nd : ys.Nodup := pm.nodup_iff.mpr o.nd
    have s10 := s9.step (o := .ins CT dx (putF "refers" (.ref rA) (putF "lists" (.ref lA) (putF "key" (.ref T) (putF "width" (.int wd) (putF "name" (.str nm) []))))))
    refine q _ ys ts s10 ⟨⟨dx, T, lA, rA, upd_same, ?_, ?_, sqT_ins hrA s10 hx⟩, ascI_of so nd⟩ (fun z => by rw [pm.mem_iff, o.mem]) hal (fun dy kB lB rB e => ?_)
    · rw [upd_ne neT.symm, upd_ne neT.symm]
      exact s8 _ _ hT7
    · refine ⟨?_, fun r hr => ?_⟩
      · rw [upd_ne nex.symm, upd_ne nex.symm]
        exact hts.at_
      · have ne : r.2.1 ≠ x := ne_of (hts.all r hr).1 (s8 _ _ hx7) (fun z => nomatch z)
        rw [upd_ne ne, upd_ne ne]
        exact hts.all r hr
    · have e2 := (HO.ins.inj (Option.some.inj (e.symm.trans upd_same))).2.2
      have e3 : lB = lA := by
        have := congrArg (fun fs : List (Str × V) => fs.lookup ("lists" : Str)) e2
        exact V.ref.inj (Option.some.inj this)
      rw [e3]
      cases z : H lA with
      | none => rfl
      | some o => exact absurd (s7 lA o nex.symm z) (by rw [nl]; intro y; cases y)
theorem ok_tab {f CT T0 T1 fW : Addr} {fd fdW : FuncData} (F : FunTab K T0 T1 f fd) (B : Blt2 mg) (C : TabC K CT) (GW : FnOk P w K mg base CX0 3 fW fdW ["values"] (spWA K)) (kW : PySem.W.keepIn K (.ref fW) = true) (bW : Binds K fdW ["values"] []) (mW : mg "with_ascending" = some (.ref fW)) :
    FnOk P w K mg base CX0 4 f fd pTab (spTab K CT) := (ok_tabN F B C GW kW bW mW).imp fun _ _ _ _ => spTabN_of
end
end Sw
namespace Sw
open PySem PySem.Spec PyProof.Rows L2 NdefX
abbrev sRise : Stmt := topS 11
abbrev nRise : List Str := ["_law_items", "_law_rows", "_law_item", "_law_row"]
theorem scRise : FnScope nRise ["_law_items"] (defScope sRise) := ⟨rfl, rfl, rfl, by decide +kernel, rfl, by decide +kernel, by decide +kernel⟩
section
variable {P : Program} {w : World} {K : PySem.W.Frag} {mg : Str → Option Value} {base : Heap}
theorem ok_riseS {f : Addr} {fd : FuncData} (F : Fun K "_law_rising" "_law_rising" sRise f fd) (hlen : mg "len" = none) : FnOk P w K mg base CX0 1 f fd ["_law_items"] (spRiseS K) := by
  refine F.ok scRise (fun vs H Q E h => ?_) (fun cdv A outer s H vs Q E hr h => ?_)
  · obtain ⟨a, l, rfl, _⟩ := h
    rfl
  · obtain ⟨a, l, rfl, ha, hl, q⟩ := h
    refine ⟨_, pss_cons (ps_set (i := 1) scRise.nd rfl (Or.inl rfl) (pe_lst pa_nil))
      (pss_cons (ps_for PassesOwn.never rfl (pi_list (pv 0)) (pg_name (i := 2) scRise.nd rfl (Or.inr rfl))
        (pss_one (ps_if (pt_cmpR op_notIn_seq (pv 2) (pv 1) (by rfl))
          (pss_one (ps_expr (pe_bm PySem.F.plainAttrs_list PySem.F.slot_list_insert PySem.F.type_list_insert mt_insert (pv 1) (pa_cons (pe_callB call_len_seq (by rfl) hlen PySem.boot_len (pa_cons
            (pe_lc (own := [("_law_row", 3)]) (g := gName 3) (tt := tTest (tOp (fun x y H Q => ∃ i j, x = .str i ∧ y = .str j ∧ Q (.bl (decide (i.cps.toList < j.cps.toList))) H) (tVar 3) (tVar 2))) rfl scRise.nd (pi_list (pv 1)) (blkOk_by (N := nRise) (sc := defScope sRise) (by decide +kernel)) (fun _ _ _ _ _ => pg_name (i := 3) scRise.nd rfl (Or.inl rfl))
              (fun _ _ _ _ _ => pts_one (pt_cmpR op_lt_str (pv 3) (pv 2) (nomark _))) (fun _ _ _ _ _ => pv 3)) pa_nil)) (pa_cons (pv 2) pa_nil))))) pss_nil)))
      (pss_one (ps_ret (pv 1)))), ?_⟩
    refine ⟨by decide, fun R nR => ?_⟩
    refine ⟨_, rfl, a, rfl, ⟨_, (same_new nR).seq ha⟩, ?_⟩
    refine for_it (wk_list (K := K) (a := a) (l := l) (val := V.str)) (fun i σ Hc => ∃ (x2 : Option V) (us : List Str), σ = [some (.ref a), some (.ref R), x2, none] ∧ Same H Hc ∧ Hc R = some (.lst (us.map V.str)) ∧ AscS us ∧ (∀ z, z ∈ us ↔ z ∈ l.take i) ∧ us.length ≤ i)
      ⟨none, [], rfl, same_new nR, upd_same, .nil, fun z => by simp, Nat.le_refl _⟩ (fun i σ Hc _ ⟨_, _, _, e, _⟩ => e.seq ha) ?_ ?_
    · rintro i x σ Hx Hc hi ⟨x2, us, rfl, sm, hR, as, hm, hul⟩ ⟨rfl, z, hz, rfl⟩
      refine ⟨_, rfl, _, rfl, R, _, rfl, .inl (SqL.of hR), rfl, flat_str us, _, rfl, ?_⟩
      rw [inV_str]
      by_cases hzu : z ∈ us
      · have e : (if true = true then !decide (z ∈ us) else decide (z ∈ us)) = false := by simp [hzu]
        rw [e]
        refine iteF ?_
        refine ⟨_, us, rfl, sm, hR, as, fun y => ?_, by omega⟩
        rw [take_snoc hz, List.mem_append, List.mem_singleton, hm]
        constructor
        · exact .inl
        · rintro (q | q)
          · exact q
          · rw [q]
            exact (hm z).mp hzu
      · have e : (if true = true then !decide (z ∈ us) else decide (z ∈ us)) = true := by simp [hzu]
        rw [e]
        refine iteT ?_
        obtain ⟨i1, i2⟩ := ins_asc (lt := SLt) SLt.irrefl (fun _ _ _ => SLt.trans) SLt.tri us z as hzu
        refine ⟨_, rfl, .inl ⟨rfl, _, SqL.of hR⟩, _, rfl, R, rfl, ⟨_, SqL.of hR⟩, fun D nD => ?_⟩
        have neD : R ≠ D := ne_of_none hR nD
        refine lc_filter (wk_list (K := K) (a := R) (l := us) (val := V.str)) (p := fun u => decide (SLt u z)) (out := V.str) (fun o => SqL.of (by rw [upd_ne neD]; exact hR)) (by omega) (fun _ => rfl) (fun j u acc Q hu hq => ⟨_, rfl, _, rfl, u, z, rfl, rfl, _, rfl, hq⟩) (fun j u acc Q hu _ hq => ⟨_, rfl, hq⟩) ?_
        refine ⟨D, _, rfl, .inl (SqL.of upd_same), _, rfl, ?_⟩
        have smD := sm.trans (same_new (o := .lst ((us.filter fun u => decide (SLt u z)).map V.str)) nD)
        refine ⟨R, _, _, _, rfl, rfl, by rw [upd_ne neD]; exact hR, by rw [List.length_map]; exact small1000 (by omega), Int.natCast_nonneg _, ?_, ?_⟩
        · rw [List.length_map]
          have := List.length_filter_le (fun u => decide (SLt u z)) us
          omega
        · rw [List.length_map, Int.toNat_natCast]
          refine ⟨_, us.take (us.filter fun u => decide (SLt u z)).length ++ [z] ++ us.drop (us.filter fun u => decide (SLt u z)).length, rfl, same_mut smD nR, ?_, i1, fun y => ?_, ?_⟩
          · rw [upd_same]
            simp only [List.map_append, List.map_take, List.map_drop, List.map_cons, List.map_nil]
          · rw [i2, take_snoc hz, List.mem_append, List.mem_singleton, hm]
          · simp only [List.length_append, List.length_take, List.length_drop, List.length_cons, List.length_nil]
            have := List.length_filter_le (fun u => decide (SLt u z)) us
            omega
    · rintro σ Hc ⟨x2, us, rfl, sm, hR, as, hm, hul⟩
      rw [List.take_length] at hm
      exact ⟨_, rfl, q _ R us sm nR hR as hm⟩
theorem ok_riseI {f : Addr} {fd : FuncData} (F : Fun K "_law_rising" "_law_rising" sRise f fd) (hlen : mg "len" = none) : FnOk P w K mg base CX0 1 f fd ["_law_items"] (spRiseI K) := by
  refine F.ok scRise (fun vs H Q E h => ?_) (fun cdv A outer s H vs Q E hr h => ?_)
  · obtain ⟨a, l, rfl, _⟩ := h
    rfl
  · obtain ⟨a, l, rfl, ha, hl, q⟩ := h
    refine ⟨_, pss_cons (ps_set (i := 1) scRise.nd rfl (Or.inl rfl) (pe_lst pa_nil))
      (pss_cons (ps_for PassesOwn.never rfl (pi_list (pv 0)) (pg_name (i := 2) scRise.nd rfl (Or.inr rfl))
        (pss_one (ps_if (pt_cmpR op_notIn_seq (pv 2) (pv 1) (by rfl))
          (pss_one (ps_expr (pe_bm PySem.F.plainAttrs_list PySem.F.slot_list_insert PySem.F.type_list_insert mt_insert (pv 1) (pa_cons (pe_callB call_len_seq (by rfl) hlen PySem.boot_len (pa_cons
            (pe_lc (own := [("_law_row", 3)]) (g := gName 3) (tt := tTest (tOp (rI0 fun i j => .bl (decide (i < j))) (tVar 3) (tVar 2))) rfl scRise.nd (pi_list (pv 1)) (blkOk_by (N := nRise) (sc := defScope sRise) (by decide +kernel)) (fun _ _ _ _ _ => pg_name (i := 3) scRise.nd rfl (Or.inl rfl))
              (fun _ _ _ _ _ => pts_one (pt_cmpR op_lt (pv 3) (pv 2) (nomark _))) (fun _ _ _ _ _ => pv 3)) pa_nil)) (pa_cons (pv 2) pa_nil))))) pss_nil)))
      (pss_one (ps_ret (pv 1)))), ?_⟩
    refine ⟨by decide, fun R nR => ?_⟩
    refine ⟨_, rfl, a, rfl, ⟨_, (same_new nR).seq ha⟩, ?_⟩
    refine for_it (wk_list (K := K) (a := a) (l := l) (val := V.int)) (fun i σ Hc => ∃ (x2 : Option V) (us : List Int), σ = [some (.ref a), some (.ref R), x2, none] ∧ Same H Hc ∧ Hc R = some (.lst (us.map V.int)) ∧ AscI us ∧ (∀ z, z ∈ us ↔ z ∈ l.take i) ∧ us.length ≤ i)
      ⟨none, [], rfl, same_new nR, upd_same, .nil, fun z => by simp, Nat.le_refl _⟩ (fun i σ Hc _ ⟨_, _, _, e, _⟩ => e.seq ha) ?_ ?_
    · rintro i x σ Hx Hc hi ⟨x2, us, rfl, sm, hR, as, hm, hul⟩ ⟨rfl, z, hz, rfl⟩
      refine ⟨_, rfl, _, rfl, R, _, rfl, .inl (SqL.of hR), rfl, flat_int us, _, rfl, ?_⟩
      rw [inV_int]
      by_cases hzu : z ∈ us
      · have e : (if true = true then !decide (z ∈ us) else decide (z ∈ us)) = false := by simp [hzu]
        rw [e]
        refine iteF ?_
        refine ⟨_, us, rfl, sm, hR, as, fun y => ?_, by omega⟩
        rw [take_snoc hz, List.mem_append, List.mem_singleton, hm]
        constructor
        · exact .inl
        · rintro (q | q)
          · exact q
          · rw [q]
            exact (hm z).mp hzu
      · have e : (if true = true then !decide (z ∈ us) else decide (z ∈ us)) = true := by simp [hzu]
        rw [e]
        refine iteT ?_
        obtain ⟨i1, i2⟩ := ins_asc (lt := ILt) (fun x => Int.lt_irrefl x) (fun _ _ _ => Int.lt_trans) (fun x y h n => by have h : ¬ y < x := h; show x < y; omega) us z as hzu
        refine ⟨_, rfl, .inl ⟨rfl, _, SqL.of hR⟩, _, rfl, R, rfl, ⟨_, SqL.of hR⟩, fun D nD => ?_⟩
        have neD : R ≠ D := ne_of_none hR nD
        refine lc_filter (wk_list (K := K) (a := R) (l := us) (val := V.int)) (p := fun u => decide (ILt u z)) (out := V.int) (fun o => SqL.of (by rw [upd_ne neD]; exact hR)) (by omega) (fun _ => rfl) (fun j u acc Q hu hq => ⟨_, rfl, _, rfl, u, z, rfl, rfl, _, rfl, hq⟩) (fun j u acc Q hu _ hq => ⟨_, rfl, hq⟩) ?_
        refine ⟨D, _, rfl, .inl (SqL.of upd_same), _, rfl, ?_⟩
        have smD := sm.trans (same_new (o := .lst ((us.filter fun u => decide (ILt u z)).map V.int)) nD)
        refine ⟨R, _, _, _, rfl, rfl, by rw [upd_ne neD]; exact hR, by rw [List.length_map]; exact small1000 (by omega), Int.natCast_nonneg _, ?_, ?_⟩
        · rw [List.length_map]
          have := List.length_filter_le (fun u => decide (ILt u z)) us
          omega
        · rw [List.length_map, Int.toNat_natCast]
          refine ⟨_, us.take (us.filter fun u => decide (ILt u z)).length ++ [z] ++ us.drop (us.filter fun u => decide (ILt u z)).length, rfl, same_mut smD nR, ?_, i1, fun y => ?_, ?_⟩
          · rw [upd_same]
            simp only [List.map_append, List.map_take, List.map_drop, List.map_cons, List.map_nil]
          · rw [i2, take_snoc hz, List.mem_append, List.mem_singleton, hm]
          · simp only [List.length_append, List.length_take, List.length_drop, List.length_cons, List.length_nil]
            have := List.length_filter_le (fun u => decide (ILt u z)) us
            omega
    · rintro σ Hc ⟨x2, us, rfl, sm, hR, as, hm, hul⟩
      rw [List.take_length] at hm
      exact ⟨_, rfl, q _ R us sm nR hR as hm⟩
end
end Sw
namespace Sw
open PySem PySem.Spec PyProof.Rows L2 NdefX
abbrev sIndex : Stmt := topS 12
theorem bBool : bootBuiltins "bool" = some (.type "bool") := by decide +kernel
theorem bDict : bootBuiltins "dict" = some (.type "dict") := by decide +kernel
theorem scIndex : FnScope ["_law_x", "_law_many"] ["_law_x", "_law_many"] (defScope sIndex) := ⟨rfl, rfl, rfl, by decide +kernel, rfl, by decide +kernel, by decide +kernel⟩
/-- _law_index(x, many), x a number below many -/
def spIndex : Sp := fun vs H Q _ => ∃ (i m : Int), vs = [.int i, .int m] ∧ 0 ≤ i ∧ i < m ∧ Q (.bl true) H
theorem pt_is {X : Cx} {e : Expr} {t : TE} (he : ∀ whole, isTrue e X.env whole = (do let v ← whole; standAt e.pos; holding [v] (truthy v))) (h : PE X e t) : PT X e (tB t) := pt_val h he
section
variable {P : Program} {w : World} {K : PySem.W.Frag} {mg : Str → Option Value} {base : Heap}
/-- what isinstance says of the types of the written values -/
structure Kinds (K : PySem.W.Frag) (mg : Str → Option Value) : Prop where
  isi : mg "isinstance" = none
  int : mg "int" = none
  bool : mg "bool" = none
  str : mg "str" = none
  tuple : mg "tuple" = none
  dict : mg "dict" = none
  ii : PySem.W.kitOne K (.type "int") (.type "int") = some true
  ib : PySem.W.kitOne K (.type "int") (.type "bool") = some false
  ss : PySem.W.kitOne K (.type "str") (.type "str") = some true
  tt : PySem.W.kitOne K (.type "tuple") (.type "tuple") = some true
  dd : PySem.W.kitOne K (.type "dict") (.type "dict") = some true
theorem ok_index {f : Addr} {fd : FuncData} (F : Fun K "_law_index" "_law_index" sIndex f fd) (T : Kinds K mg) : FnOk P w K mg base CX0 1 f fd ["_law_x", "_law_many"] spIndex := by
  refine F.ok scIndex (fun vs H Q E h => ?_) (fun cdv A outer s H vs Q E hr h => ?_)
  · obtain ⟨i, m, rfl, _⟩ := h
    rfl
  · obtain ⟨i, m, rfl, h0, h1, q⟩ := h
    refine ⟨_, pss_one (ps_ret (pe_andT (pe_callB call_isi (by rfl) T.isi boot_isinstance (pa_cons (pv 0) (pa_cons (pe_bltn (v := .ty "int") rfl T.int bInt rfl) pa_nil)))
      (pe_andT (pe_notT (pe_callB call_isi (by rfl) T.isi boot_isinstance (pa_cons (pv 0) (pa_cons (pe_bltn (v := .ty "bool") rfl T.bool bBool rfl) pa_nil))))
      (pe_andT (pe_cmpR op_le pe_int (pv 0) (nomark _)) (pe_one (pe_cmpR op_lt (pv 0) (pv 1) (nomark _))))))), ?_⟩
    refine ⟨_, rfl, _, _, _, _, _, rfl, .ty _, .base (.int i), T.ii, true, rfl, iteT ?_⟩
    refine ⟨_, rfl, _, _, _, _, _, rfl, .ty _, .base (.int i), T.ib, false, rfl, true, rfl, iteT ?_⟩
    refine ⟨_, rfl, _, _, rfl, rfl, true, ?_, iteT ?_⟩
    · exact (decide_eq_true h0).symm
    refine ⟨_, rfl, _, rfl, _, _, rfl, rfl, ?_⟩
    show Q (.bl (decide (i < m))) H
    rw [decide_eq_true h1]
    exact q
end
abbrev sLaw01 : Stmt := topS 13
abbrev nLaw01 : List Str := ["_law_script", "_law_signs", "_law_hand", "_law_names", "_law_values", "_law_width", "_law_k", "_law_unique", "_law_menus", "_law_menu", "_law_j", "_law_column", "_law_due", "_law_leads", "_law_table", "_law_plain", "_law_width_told", "_law_row"]
theorem scLaw01 : FnScope nLaw01 ["_law_script"] (defScope sLaw01) := ⟨rfl, rfl, rfl, by decide +kernel, rfl, by decide +kernel, by decide +kernel⟩
/-- what holds of the texts that the law calls -/
structure Have01 (P : Program) (w : World) (K : PySem.W.Frag) (mg : Str → Option Value) (base : Heap) (CT T0 T1 : Addr) : Prop where
  D : ∃ f fd, FnOk P w K mg base CX0 1 f fd ["_law_script", "_law_k"] (spDeal K) ∧ mg "_law_deal" = some (.ref f) ∧ PySem.W.keepIn K (.ref f) = true ∧ Binds K fd ["_law_script", "_law_k"] []
  S : ∃ f fd, FnOk P w K mg base CX0 2 f fd ["_law_hand", "_law_many", "_law_signs"] spSpell ∧ mg "_law_spell" = some (.ref f) ∧ PySem.W.keepIn K (.ref f) = true ∧ Binds K fd ["_law_hand", "_law_many", "_law_signs"] []
  T : ∃ f fd, FnOk P w K mg base CX0 1 f fd ["_law_hand", "_law_many"] spTake ∧ mg "_law_take" = some (.ref f) ∧ PySem.W.keepIn K (.ref f) = true ∧ Binds K fd ["_law_hand", "_law_many"] []
  R : ∃ f fd, FnOk P w K mg base CX0 1 f fd ["_law_items"] (spRiseS K) ∧ FnOk P w K mg base CX0 1 f fd ["_law_items"] (spRiseI K) ∧ mg "_law_rising" = some (.ref f) ∧ PySem.W.keepIn K (.ref f) = true ∧ Binds K fd ["_law_items"] []
  I : ∃ f fd, FnOk P w K mg base CX0 1 f fd ["_law_x", "_law_many"] spIndex ∧ mg "_law_index" = some (.ref f) ∧ PySem.W.keepIn K (.ref f) = true ∧ Binds K fd ["_law_x", "_law_many"] []
  Tab : ∃ f fd ds g, FnOk P w K mg base CX0 4 f fd pTab (spTabN K CT) ∧ Mk K CT f ∧ Vals [.ref T0, .non, .ref T1] ds ∧ Binds K fd pTab ds ∧ KBn K fd pTab 3 ["key", "lists", "refers"] g (fun vs zs => vs ++ zs)
  gT : mg "Table" = some (.ref CT)
  tC : TabC K CT
  t0 : ∀ H, SqT K H T0 []
  t1 : ∀ H, SqT K H T1 []
  kd : Kinds K mg
  list : mg "list" = none
def spLaw (K : PySem.W.Frag) : Sp := fun vs H Q _ => ∃ (s : Addr) (ns : List Int), vs = [.ref s] ∧ SqL K H s (ns.map V.int) ∧ ns.length ≤ 63 ∧ ∀ H', Q (.bl true) H'
section
variable {P : Program} {w : World} {K : PySem.W.Frag} {mg : Str → Option Value} {base : Heap}
theorem ok_law01 {f CT T0 T1 : Addr} {fd : FuncData} (F : Fun K "law" "law" sLaw01 f fd) (B : Blt mg) (Z : Have01 P w K mg base CT T0 T1) : FnOk P w K mg base CX0 6 f fd ["_law_script"] (spLaw K) := by
  obtain ⟨fD, fdD, GD, mD, kD, bD⟩ := Z.D
  obtain ⟨fS, fdS, GS, mS, kS, bS⟩ := Z.S
  obtain ⟨fT, fdT, GT, mT, kT, bT⟩ := Z.T
  obtain ⟨fR, fdR, GR, GRi, mR, kR, bR⟩ := Z.R
  obtain ⟨fI, fdI, GI, mI, kI, bI⟩ := Z.I
  obtain ⟨fB, fdB, ds, g, GB, MB, vB, bB, bK⟩ := Z.Tab
  have T := Z.kd
  refine F.ok scLaw01 (fun vs H Q E h => ?_) (fun cdv A outer s H vs Q E hr h => ?_)
  · obtain ⟨a, ns, rfl, _⟩ := h
    rfl
  · obtain ⟨a, ns, rfl, hs, hn, q⟩ := h
    have hu := hu_of hr
    have h1 : Room 1 _ := hr.mono (by decide)
    have h2 : Room 2 _ := hr.mono (by decide)
    refine ⟨_, pss_cons (ps_set (i := 1) scLaw01.nd rfl (Or.inl rfl) pe_str)
      (pss_cons (ps_set (i := 2) scLaw01.nd rfl (Or.inr rfl) (pe_call GD h1 rfl mD kD bD .nil pass0 (pa_cons (pv 0) (pa_cons pe_int pa_nil))))
      (pss_cons (ps_set (i := 3) scLaw01.nd rfl (Or.inr rfl) (pe_call GS h2 rfl mS kS bS .nil pass0 (pa_cons (pv 2) (pa_cons pe_int (pa_cons (pe_slice sl_str (pv 1) po_none (po_some pe_int)) pa_nil)))))
      (pss_cons (ps_set (i := 4) scLaw01.nd rfl (Or.inr rfl) (pe_call GS h2 rfl mS kS bS .nil pass0 (pa_cons (pv 2) (pa_cons pe_int (pa_cons (pv 1) pa_nil)))))
      (pss_cons (ps_set (i := 2) scLaw01.nd rfl (Or.inr rfl) (pe_call GD h1 rfl mD kD bD .nil pass0 (pa_cons (pv 0) (pa_cons pe_int pa_nil))))
      (pss_cons (ps_set (i := 5) scLaw01.nd rfl (Or.inr rfl) (pe_op op_add pe_int (pe_call GT h1 rfl mT kT bT .nil pass0 (pa_cons (pv 2) (pa_cons pe_int pa_nil)))))
      (pss_cons (ps_setLc (i := 7) (own := [("_law_k", 6)]) (g := gName 6) (tt := tYes) rfl scLaw01.nd rfl rfl (sw_true rfl rfl rfl (by decide +kernel)) (pi_range1 rfl B.range (pa_cons (pe_call GT h1 rfl mT kT bT .nil pass0 (pa_cons (pv 2) (pa_cons pe_int pa_nil))) pa_nil)) (blkOk_by (N := nLaw01) (sc := defScope sLaw01) (by decide +kernel)) (fun _ _ _ _ _ => pg_name (i := 6) scLaw01.nd rfl (Or.inl rfl)) (fun _ _ _ _ _ => pts_nil)
        (fun _ _ _ _ _ => pe_call GT h1 rfl mT kT bT .nil pass0 (pa_cons (pv 2) (pa_cons (pv 5) pa_nil))))
      (pss_cons (ps_set (i := 8) scLaw01.nd rfl (Or.inr rfl) pe_dnewK)
      (pss_cons (ps_for PassesOwn.never rfl (pi_range1 rfl B.range (pa_cons (pe_call GT h1 rfl mT kT bT .nil pass0 (pa_cons (pv 2) (pa_cons pe_int pa_nil))) pa_nil)) (pg_name (i := 6) scLaw01.nd rfl (Or.inl rfl))
        (pss_cons (ps_setLc (i := 9) (own := [("_law_j", 10)]) (g := gName 10) (tt := tYes) (te := tOp (rIxL K) (tVar 4) (tCall spTake [] E0 (tCons (tVar 2) (tCons (tC (.int 5)) tNil)))) rfl scLaw01.nd rfl rfl (sw_true rfl rfl rfl (by decide +kernel)) (pi_range1 rfl B.range (pa_cons (pe_op op_add pe_int (pe_call GT h1 rfl mT kT bT .nil pass0 (pa_cons (pv 2) (pa_cons pe_int pa_nil)))) pa_nil)) (blkOk_by (N := nLaw01) (sc := defScope sLaw01) (by decide +kernel)) (fun _ _ _ _ _ => pg_name (i := 10) scLaw01.nd rfl (Or.inl rfl)) (fun _ _ _ _ _ => pts_nil)
          (fun _ _ _ _ _ => pe_ix ix_list (pv 4) (pe_call GT h1 rfl mT kT bT .nil pass0 (pa_cons (pv 2) (pa_cons pe_int pa_nil))) (fun _ _ => rfl)))
        (pss_one (ps_dput hu (pv 8) (pe_call GT h1 rfl mT kT bT .nil pass0 (pa_cons (pv 2) (pa_cons (pv 5) pa_nil))) (pv 9) rfl))))
      (pss_cons (ps_lock (ps_setLc (i := 12) (own := [("_law_column", 11)]) (g := gName 11) (tt := tYes)
          (te := tTup (tCons (tVar 11) (tCons (tCB (fun xs H Q => ∃ p ys, xs = [.ref p] ∧ ((SqL K H p ys ∧ ∀ l, H l = none → Q (.ref l) (upd H l (.tup ys))) ∨ (SqT K H p ys ∧ Q (.ref p) H))) (tCons (tCall (spRiseS K) [] E0 (tCons (tDGet (tVar 8) (tVar 11)) tNil)) tNil)) tNil))) rfl scLaw01.nd rfl rfl (sw_true rfl rfl rfl (by decide +kernel)) (pi_keys (pv 8)) (blkOk_by (N := nLaw01) (sc := defScope sLaw01) (by decide +kernel)) (fun _ _ _ _ _ => pg_name (i := 11) scLaw01.nd rfl (Or.inl rfl)) (fun _ _ _ _ _ => pts_nil)
          (fun _ _ _ _ _ => pe_tup (pa_cons (pv 11) (pa_cons (pe_callTy call_tuple_of (by rfl) T.tuple bTuple (pa_cons (pe_call GR h1 rfl mR kR bR .nil pass0 (pa_cons (pe_dget hu (pv 8) (pv 11) (fun _ _ => rfl)) pa_nil)) pa_nil)) pa_nil)))))
      (pss_cons (ps_setLc (i := 13) (own := [("_law_k", 6)]) (g := gName 6) (tt := tYes) (te := tTup (tCons (tCall spTake [] E0 (tCons (tVar 2) (tCons (tVar 5) tNil))) (tCons (tOp (rIxL K) (tVar 3) (tC (.int 1))) (tCons (tCall spTake [] E0 (tCons (tVar 2) (tCons (tC (.int 3)) tNil))) tNil)))) rfl scLaw01.nd rfl rfl (sw_true rfl rfl rfl (by decide +kernel)) (pi_range1 rfl B.range (pa_cons (pe_call GT h1 rfl mT kT bT .nil pass0 (pa_cons (pv 2) (pa_cons pe_int pa_nil))) pa_nil)) (blkOk_by (N := nLaw01) (sc := defScope sLaw01) (by decide +kernel)) (fun _ _ _ _ _ => pg_name (i := 6) scLaw01.nd rfl (Or.inl rfl)) (fun _ _ _ _ _ => pts_nil)
        (fun _ _ _ _ _ => pe_tup (pa_cons (pe_call GT h1 rfl mT kT bT .nil pass0 (pa_cons (pv 2) (pa_cons (pv 5) pa_nil))) (pa_cons (pe_ix ix_list (pv 3) pe_int (fun _ _ => rfl)) (pa_cons (pe_call GT h1 rfl mT kT bT .nil pass0 (pa_cons (pv 2) (pa_cons pe_int pa_nil))) pa_nil)))))
      (pss_cons (ps_set (i := 14) scLaw01.nd rfl (Or.inl rfl) (pe_makeK (n := 2) MB GB hr rfl Z.gT bK pass0 (pa_cons (pe_ix ix_list (pv 3) pe_int (fun _ _ => rfl)) (pa_cons (pv 5) pa_nil))
          (pk_cons (pe_callTy call_tuple_of (by rfl) T.tuple bTuple (pa_cons (pv 7) pa_nil)) (pk_cons (pv 8) (pk_cons (pe_callTy call_tuple_of (by rfl) T.tuple bTuple (pa_cons (pv 13) pa_nil)) pk_nil)))))
      (pss_cons (ps_for PassesOwn.never rfl (pi_list (pe_callTy (call_listD rfl) (by rfl) Z.list bList (pa_cons (pv 8) pa_nil))) (pg_name (i := 11) scLaw01.nd rfl (Or.inl rfl))
        (pss_cons (ps_set (i := 9) scLaw01.nd rfl (Or.inl rfl) (pe_dget hu (pv 8) (pv 11) (fun _ _ => rfl)))
        (pss_one (ps_expr (pe_bm PySem.F.plainAttrs_list PySem.F.slot_list_append PySem.F.type_list_append mt_append (pv 9) (pa_cons pe_str pa_nil))))))
      (pss_cons (ps_dput hu (pv 8) pe_int (pe_lst (pa_cons pe_str pa_nil)) rfl)
      (pss_cons (ps_set (i := 15) scLaw01.nd rfl (Or.inl rfl) (pe_make MB GB hr rfl Z.gT bB vB pass0 (pa_cons (pe_ix ix_list (pv 3) pe_int (fun _ _ => rfl)) (pa_cons (pv 5) pa_nil))))
      (pss_cons (ps_if (PW.pt (pw_or (pt_not (pt_is (by intro _; rfl) (pe_callB call_isi (by rfl) T.isi boot_isinstance (pa_cons (pe_fld (pv 14) rfl) (pa_cons (pe_bltn (v := .ty "str") rfl T.str bStr rfl) pa_nil))))) (pw_or (pt_cmpR op_ne (pe_fld (pv 14) rfl) (pe_ix ix_list (pv 3) pe_int (fun _ _ => rfl)) (nomark _)) (pw_or1 (pt_cmpR op_ne (pe_fld (pv 15) rfl) (pe_ix ix_list (pv 3) pe_int (fun _ _ => rfl)) (nomark _)))))) (pss_one (ps_ret pe_bl)) pss_nil)
      (pss_cons (ps_for PassesOwn.never rfl (pi_list (pe_lst (pa_cons (pe_fld (pv 14) rfl) (pa_cons (pe_fld (pv 15) rfl) pa_nil)))) (pg_name (i := 16) scLaw01.nd rfl (Or.inl rfl))
        (pss_one (ps_if (PW.pt (pw_or (pt_not (pt_is (by intro _; rfl) (pe_callB call_isi (by rfl) T.isi boot_isinstance (pa_cons (pv 16) (pa_cons (pe_bltn (v := .ty "int") rfl T.int bInt rfl) pa_nil))))) (pw_or (pt_is (by intro _; rfl) (pe_callB call_isi (by rfl) T.isi boot_isinstance (pa_cons (pv 16) (pa_cons (pe_bltn (v := .ty "bool") rfl T.bool bBool rfl) pa_nil)))) (pw_or1 (pt_cmpR op_ne (pv 16) (pv 5) (nomark _)))))) (pss_one (ps_ret pe_bl)) pss_nil)))
      (pss_cons (ps_if (PW.pt (pw_or (pt_not (pt_is (by intro _; rfl) (pe_callB call_isi (by rfl) T.isi boot_isinstance (pa_cons (pe_fld (pv 14) rfl) (pa_cons (pe_bltn (v := .ty "tuple") rfl T.tuple bTuple rfl) pa_nil))))) (pw_or (pt_not (pt_is (by intro _; rfl) (pe_callB call_isi (by rfl) T.isi boot_isinstance (pa_cons (pe_fld (pv 14) rfl) (pa_cons (pe_bltn (v := .ty "dict") rfl T.dict bDict rfl) pa_nil)))))
          (pw_or1 (pt_not (pt_is (by intro _; rfl) (pe_callB call_isi (by rfl) T.isi boot_isinstance (pa_cons (pe_fld (pv 14) rfl) (pa_cons (pe_bltn (v := .ty "tuple") rfl T.tuple bTuple rfl) pa_nil))))))))) (pss_one (ps_ret pe_bl)) pss_nil)
      (pss_cons (ps_if (pt_cmpR (op_neD hr.units) (pe_lc (own := [("_law_column", 11)]) (g := gName 11) (tt := tNot (tB (tCall spIndex [] E0 (tCons (tVar 11) (tCons (tVar 5) tNil))))) rfl scLaw01.nd (pi_tup (pe_fld (pv 14) rfl)) (blkOk_by (N := nLaw01) (sc := defScope sLaw01) (by decide +kernel)) (fun _ _ _ _ _ => pg_name (i := 11) scLaw01.nd rfl (Or.inl rfl))
          (fun _ _ _ _ _ => pts_one (pt_not (pt_is (by intro _; rfl) (pe_call GI h1 rfl mI kI bI .nil pass0 (pa_cons (pv 11) (pa_cons (pv 5) pa_nil)))))) (fun _ _ _ _ _ => pv 11)) (pe_lst pa_nil) (nomark _)) (pss_one (ps_ret pe_bl)) pss_nil)
      (pss_cons (ps_if (PW.pt (pw_or (pt_cmpR (op_neD hr.units) (pe_fld (pv 14) rfl) (pe_callTy call_tuple_of (by rfl) T.tuple bTuple (pa_cons (pe_call GRi h1 rfl mR kR bR .nil pass0 (pa_cons (pv 7) pa_nil)) pa_nil)) (nomark _)) (pw_or (pt_cmpR (op_neD hr.units) (pe_fld (pv 14) rfl) (pe_callTy call_tuple_of (by rfl) T.tuple bTuple (pa_cons (pv 13) pa_nil)) (nomark _))
          (pw_or1 (pt_cmpR op_ne (pe_callB call_lenD (by rfl) B.len PySem.boot_len (pa_cons (pe_fld (pv 14) rfl) pa_nil)) (pe_callB call_len_seq (by rfl) B.len PySem.boot_len (pa_cons (pv 12) pa_nil)) (nomark _)))))) (pss_one (ps_ret pe_bl)) pss_nil)
      (pss_cons (ps_for PassesOwn.never rfl (pi_list (pv 12)) (pg_name (i := 17) scLaw01.nd rfl (Or.inl rfl))
        (pss_one (ps_if (PW.pt (pw_or (pt_not (pt_is (by intro _; rfl) (pe_callB call_isi (by rfl) T.isi boot_isinstance (pa_cons (pe_dget1 hu (pe_fld (pv 14) rfl) (pe_ix ix_tup (pv 17) pe_int (fun _ _ => rfl)) ⟨rfl, rfl, rfl, rfl⟩) (pa_cons (pe_bltn (v := .ty "tuple") rfl T.tuple bTuple rfl) pa_nil))))) (pw_or1 (pt_cmpR (op_neD hr.units) (pe_dget1 hu (pe_fld (pv 14) rfl) (pe_ix ix_tup (pv 17) pe_int (fun _ _ => rfl)) ⟨rfl, rfl, rfl, rfl⟩) (pe_ix ix_tup (pv 17) pe_int (fun _ _ => rfl)) (nomark _))))) (pss_one (ps_ret pe_bl)) pss_nil)))
      (pss_one (ps_ret (pe_andT (pe_cmpR (op_eqD hr.units) (pe_fld (pv 15) rfl) (pe_tup pa_nil) (nomark _)) (pe_andT (pe_cmpR (op_eqD hr.units) (pe_fld (pv 15) rfl) (pe_tup pa_nil) (nomark _)) (pe_one (pe_cmpR (op_eq_dictA hr.units0) (pe_fld (pv 15) rfl) pe_dnewK (nomark _))))))))))))))))))))))))))), ?_⟩
    have sg26 : ∃ sg : Str, cutS "abcdefghijklmnopqrstuvwxyz0123456789" none (some 26) = sg ∧ (TL.tl sg).length = 26 ∧ (TL.tl sg).Nodup ∧ ∀ c ∈ TL.tl sg, c < 0x110000 := ⟨_, rfl, by decide +kernel, by decide +kernel, by decide +kernel⟩
    obtain ⟨sg, esg, sg1, sg2, sg3⟩ := sg26
    refine ⟨_, rfl, a, ns, 0, rfl, hs, hn, by decide, fun H1 p1 s1 n1 hh1 => ?_⟩
    refine ⟨_, rfl, _, rfl, 26, rfl, "abcdefghijklmnopqrstuvwxyz0123456789", rfl, by decide +kernel, ?_⟩
    rw [esg]
    refine ⟨p1, 2, sg, rfl, hh1, by decide, .inl sg1, sg2, fun H2 N ws hh2 sb2 n2 ne2 hN2 hwl hnd hwd => ?_⟩
    refine ⟨_, rfl, _, rfl, p1, 5, "abcdefghijklmnopqrstuvwxyz0123456789", rfl, hh2, by decide, .inr (by decide +kernel), by decide +kernel, fun H3 V1 vals hh3 sb3 nV neV hV3 hvl hvn hvd => ?_⟩
    have hs3 : SqL K H3 a (ns.map V.int) := sqL_past hs s1 n1 (sb2.trans sb3)
    refine ⟨_, rfl, a, ns, 1, rfl, hs3, hn, by decide, fun H4 p s4 n4 hh4 => ?_⟩
    have hN4 := s4 _ _ (sb3 _ _ ne2 hN2)
    have hV4 := s4 _ _ hV3
    have okw : ∀ w ∈ ws, SOk w := fun w hw => wd_ok (hwd _ hw) sg3
    have okv : ∀ w ∈ vals, SOk w := fun w hw => wd_ok (hvd _ hw) (by decide +kernel)
    have neN : N ≠ p := short_ne hh4 hN4 (by rw [List.length_map]; omega)
    have neV1 : V1 ≠ p := short_ne hh4 hV4 (by rw [List.length_map]; omega)
    -- the width
    refine ⟨_, rfl, p, 3, rfl, hh4, by decide, fun v H5 v0 v3 hh5 b5 => ?_⟩
    obtain ⟨wd, hwd2, w1, w3⟩ : ∃ m : Nat, (1 : Int) + v = (m : Int) ∧ 1 ≤ m ∧ m ≤ 3 := ⟨(1 + v).toNat, by omega, by omega, by omega⟩
    refine ⟨_, _, rfl, rfl, ?_⟩
    dsimp only
    rw [hwd2]
    have hN5 := b5.sbut _ _ neN hN4
    have hV5 := b5.sbut _ _ neV1 hV4
    -- the key
    refine ⟨_, rfl, p, 4, rfl, hh5, by decide, fun cnt H6 c0 c4 hh6 b6 => ⟨cnt, rfl, by omega, by omega, fun U nU => ?_⟩⟩
    have hN6 := b6.sbut _ _ neN hN5
    have hV6 := b6.sbut _ _ neV1 hV5
    have neU : U ≠ p := hh6.ne nU
    refine lc_it (walk_range (lo := 0) (n := cnt.toNat)) (fun i Hc => ∃ ks : List Int, Hc U = some (.lst (ks.map V.int)) ∧ ks.length = i ∧ (∀ k ∈ ks, 0 ≤ k ∧ k < wd) ∧ HandAt Hc p ∧ SBut p H6 Hc) ⟨[], upd_same, rfl, fun k hk => (nomatch hk), hh6.upd neU, (SBut.refl p H6).mut nU⟩ (fun _ _ _ _ => trivial) ?_ ?_
    · rintro i x Hc Hy hi ⟨ks, hU, hkl, hks, hh, sb⟩ ⟨rfl, rfl⟩
      refine ⟨rfl, ?_⟩
      refine ⟨_, rfl, _, rfl, p, (wd : Int), rfl, hh, by omega, fun u Hd u0 u3 hhd bd => ?_⟩
      refine ⟨ks.map V.int, by rw [bd _ neU]; exact hU, by rw [List.length_map, hkl]; exact small1000 (by omega), ks ++ [u], ?_, ?_, fun z hz => ?_, hhd.upd neU, (sb.trans bd.sbut).mut nU⟩
      · rw [upd_same, List.map_append]
        rfl
      · rw [List.length_append, hkl]
        rfl
      · rcases List.mem_append.mp hz with h | h
        · exact hks z h
        · rw [List.mem_singleton.mp h]
          exact ⟨u0, u3⟩
    rintro H7 ⟨ks, hU7, hkl, hks, hh7, sb7⟩
    have hN7 := sb7 _ _ neN hN6
    have hV7 := sb7 _ _ neV1 hV6
    have ks60 : ks.length ≤ 4 := by omega
    -- the lists
    intro Me nMe
    have sMe := same_new (o := .dK []) nMe
    refine ⟨_, rfl, p, 3, rfl, hh7.same sMe, by decide, fun cnt2 H8 d0 d3 hh8 b8 => ⟨cnt2, rfl, by omega, by omega, ?_⟩⟩
    have sb8 : SBut p H7 H8 := (Same.sbut sMe).trans b8.sbut
    have neMe : Me ≠ p := hh7.ne nMe
    have hMe8 : H8 Me = some (.dK []) := by rw [b8 Me neMe]; exact upd_same
    refine for_it (walk_range (lo := 0) (n := cnt2.toNat)) (fun i σ Hc => ∃ x6 x9 es, σ = [some (.ref a), some (.str "abcdefghijklmnopqrstuvwxyz0123456789"), some (.ref p), some (.ref N), some (.ref V1), some (.int (wd : Int)), x6, some (.ref U), some (.ref Me), x9, none, none, none, none, none, none, none, none] ∧ HandAt Hc p ∧ SBut p H7 Hc ∧ MenusAt H7 Hc Me es ∧ es.length ≤ i)
      ⟨none, none, [], rfl, hh8, sb8, ⟨hMe8, .nil, nMe, fun e he => (nomatch he)⟩, Nat.le_refl _⟩ (fun _ _ _ _ _ => trivial) ?_ ?_
    · rintro i x σ Hc Hy hi ⟨x6, x9, es, rfl, hh, sb, hme, hel⟩ ⟨rfl, rfl⟩
      refine ⟨_, rfl, p, 3, rfl, hh, by decide, fun v2 Ha u0 u3 hha ba => ⟨_, _, rfl, rfl, ⟨1 + v2, rfl, by omega, by omega, fun Mn nMn => ?_⟩⟩⟩
      have sba := sb.trans ba.sbut
      have neMn : Mn ≠ p := hha.ne nMn
      refine lc_it (walk_range (lo := 0) (n := (1 + v2).toNat)) (fun j Hd => ∃ zs : List Str, Hd Mn = some (.lst (zs.map V.str)) ∧ zs.length = j ∧ (∀ z ∈ zs, SOk z) ∧ HandAt Hd p ∧ SBut p Ha Hd) ⟨[], upd_same, rfl, fun k hk => (nomatch hk), hha.upd neMn, (SBut.refl p Ha).mut nMn⟩ (fun _ _ _ _ => trivial) ?_ ?_
      · rintro j x Hd Hz hj ⟨zs, hZ, hzl, hzs, hhd, sbd⟩ ⟨rfl, rfl⟩
        refine ⟨rfl, ?_⟩
        refine ⟨_, rfl, _, rfl, p, 5, rfl, hhd, by decide, fun u He u0 u5 hhe be => ?_⟩
        obtain ⟨u, rfl⟩ := Int.eq_ofNat_of_zero_le u0
        obtain ⟨z, hz⟩ : ∃ z, vals[u]? = some z := ⟨_, List.getElem?_eq_getElem (show u < vals.length by omega)⟩
        refine ⟨V1, _, _, _, rfl, rfl, SqL.of (be.sbut _ _ neV1 (sbd _ _ neV1 (sba _ _ neV1 hV7))), atI_nat (j := u) (by rw [List.getElem?_map, hz]; rfl), ?_⟩
        refine ⟨zs.map V.str, by rw [be _ neMn]; exact hZ, by rw [List.length_map, hzl]; exact small1000 (by omega), zs ++ [z], ?_, ?_, fun y hy => ?_, hhe.upd neMn, (sbd.trans be.sbut).mut nMn⟩
        · rw [upd_same, List.map_append]
          rfl
        · rw [List.length_append, hzl]
          rfl
        · rcases List.mem_append.mp hy with h | h
          · exact hzs y h
          · rw [List.mem_singleton.mp h]
            exact okv _ (List.mem_of_getElem? hz)
      rintro Hd ⟨zs, hZd, hzl, hzs, hhd, sbd⟩
      refine ⟨_, rfl, _, rfl, _, rfl, _, rfl, p, (wd : Int), rfl, hhd, by omega, fun col He u0' u3' hhe be => ?_⟩
      have sbe := (sba.trans sbd).trans be.sbut
      have hme2 := (hme.hand hh ba.sbut).hand hha (sbd.trans be.sbut)
      have hZe : He Mn = some (.lst (zs.map V.str)) := by rw [be _ neMn]; exact hZd
      refine ⟨Me, _, rfl, DPut.k (k := Sum.inl col) hme2.at_ (by rw [List.length_map]; exact small1000 (by omega)), ?_⟩
      rw [putE_kv es _ Mn zs]
      have nM : ∀ {b : Addr} {xs : List V}, He b = some (.lst xs) → b ≠ Me := fun e => ne_of e hme2.at_ (fun z => nomatch z)
      refine ⟨_, _, putE es (Sum.inl col) Mn zs, rfl, hhe.upd neMe, sbe.mut nMe, ⟨upd_same, putE_nd hme2.nd _ _ _, nMe, fun e he => ?_⟩, Nat.le_trans (putE_len _ _ _ _) (by omega)⟩
      rcases putE_mem he with rfl | he
      · exact ⟨by rw [upd_ne (nM hZe)]; exact hZe, by show zs.length ≤ 3; omega, hzs, ⟨col, rfl⟩, (sba.free hha nMn).1⟩
      · obtain ⟨g1, g2⟩ := hme2.all e he
        exact ⟨by rw [upd_ne (nM g1)]; exact g1, g2⟩
    rintro σ H9 ⟨x6, x9, es, rfl, hh9, sb9, hme9, hel⟩
    have hel3 : es.length ≤ 3 := by omega
    have ek : (es.map fun e : Ent => (e.1, V.ref e.2.1)).map (·.1) = es.map fun e : Ent => e.1 := by rw [List.map_map]; rfl
    have getE : ∀ e ∈ es, valV (es.map fun e : Ent => (e.1, V.ref e.2.1)) e.1 = some (V.ref e.2.1) := fun e he => valV_of_nd (by rw [ek]; exact hme9.nd) (List.mem_map.mpr ⟨e, he, rfl⟩)
    -- what is due
    refine ⟨Me, _, hme9.at_, True.intro, fun od => ⟨_, rfl, Me, od, rfl, .inl ⟨_, upd_same, fun Du nDu => ?_⟩⟩⟩
    have nDu9 := free_lock hme9.at_ nDu
    have neDu : Me ≠ Du := ne_of_none upd_same nDu
    have lck : Same (upd H9 Me (.frz od (.dK (es.map fun e : Ent => (e.1, V.ref e.2.1))))) (upd (upd H9 Me (.frz od (.dK (es.map fun e : Ent => (e.1, V.ref e.2.1))))) Du (.lst [])) := same_new nDu
    refine lc_it (wk_keys (l := es) (f := fun e => e.1) ek) (fun i Hc => ∃ qs : List V, Hc Du = some (.lst qs) ∧ Same (upd H9 Me (.frz od (.dK (es.map fun e : Ent => (e.1, V.ref e.2.1))))) Hc ∧ DueAt Hc qs (es.take i)) ⟨[], upd_same, lck, .nil⟩ (fun i Hc _ ⟨_, _, e, _⟩ => e _ _ upd_same) ?_ ?_
    · rintro i x Hc Hy hi ⟨qs, hQ, sm, hdu⟩ ⟨rfl, e, he, rfl⟩
      have hem : e ∈ es := List.mem_of_getElem? he
      obtain ⟨g1, g2, g3, g4, g5⟩ := hme9.all e hem
      have neE : e.2.1 ≠ Me := ne_of g1 hme9.at_ (fun z => nomatch z)
      refine ⟨rfl, ?_⟩
      refine ⟨_, rfl, _, rfl, _, rfl, Me, V.ref e.2.1, rfl, .inl ⟨_, _, .inr ⟨od, sm _ _ upd_same⟩, rfl, (getE e hem).symm⟩, ?_⟩
      refine ⟨e.2.1, e.2.2, rfl, SqL.of (sm _ _ (by rw [upd_ne neE]; exact g1)), by omega, fun Ha R us sa nR hR as hm => ?_⟩
      refine ⟨R, _, rfl, .inl ⟨SqL.of hR, fun T nT => ?_⟩⟩
      refine ⟨by show 2 ≤ sizeLine; decide, fun q nq => ?_⟩
      have sT := same_new (o := .tup (us.map V.str)) nT
      have sq := same_new (o := .tup [kV e.1, .ref T]) nq
      have sAll := (sa.trans sT).trans sq
      have hQ2 := sAll _ _ hQ
      have neq : q ≠ Du := (ne_of_none ((sa.trans sT) _ _ hQ) nq).symm
      have neT : T ≠ Du := (ne_of_none (sa _ _ hQ) nT).symm
      have hT2 := sq _ _ (upd_same (H := Ha) (a := T) (o := .tup (us.map V.str)))
      refine ⟨qs, hQ2, by rw [hdu.len, List.length_take]; exact small1000 (by omega), qs ++ [.ref q], upd_same, same_mut (sm.trans sAll) nDu, ?_⟩
      rw [take_snoc he]
      have kp : KeepT (upd (upd Ha T (.tup (us.map V.str))) q (.tup [kV e.1, .ref T])) (upd (upd (upd Ha T (.tup (us.map V.str))) q (.tup [kV e.1, .ref T])) Du (.lst (qs ++ [.ref q]))) := (notL_upd hQ2).keepT
      exact (hdu.keep ((Same.keepT sAll).trans kp)).snoc (kp _ _ upd_same) (kp _ _ hT2) as hm
    rintro Hd ⟨qs, hQ, smd, hdu⟩
    rw [List.take_length] at hdu
    have hfz := smd _ _ upd_same
    refine ⟨hfz, ?_⟩
    have s10 : Same H9 (upd Hd Me (.dK (es.map fun e : Ent => (e.1, V.ref e.2.1)))) := unlock_same hme9.at_ smd
    have kp10 : KeepT Hd (upd Hd Me (.dK (es.map fun e : Ent => (e.1, V.ref e.2.1)))) := fun b xs h => by
      rw [upd_ne (ne_of h hfz (fun z => nomatch z))]
      exact h
    have hdu10 := hdu.keep kp10
    have hQ10 : upd Hd Me (.dK (es.map fun e : Ent => (e.1, V.ref e.2.1))) Du = some (.lst qs) := by rw [upd_ne neDu.symm]; exact hQ
    have oDu : Out Me es Du := hme9.new nDu9
    generalize upd Hd Me (.dK (es.map fun e : Ent => (e.1, V.ref e.2.1))) = H10 at s10 hdu10 hQ10 ⊢
    have hh10 := hh9.same s10
    have sb10 : SBut p H7 H10 := sb9.trans (Same.sbut s10)
    have hme10 := hme9.same s10
    -- the references
    refine ⟨_, rfl, p, 3, rfl, hh10, by decide, fun cnt3 H11 e0 e3 hh11 b11 => ⟨cnt3, rfl, by omega, by omega, fun L nL => ?_⟩⟩
    have neL : L ≠ p := hh11.ne nL
    have neDup : Du ≠ p := (hh9.ne nDu9)
    obtain ⟨z1, hz1⟩ : ∃ z, ws[1]? = some z := ⟨_, List.getElem?_eq_getElem (show 1 < ws.length by omega)⟩
    refine lc_it (walk_range (lo := 0) (n := cnt3.toNat)) (fun i Hc => ∃ (vs : List V) (ls : List (Int × Str × Int)), Hc L = some (.lst vs) ∧ ls.length = i ∧ TripV Hc vs ls ∧ (∀ e ∈ ls, e.2.1 = z1) ∧ HandAt Hc p ∧ SBut p H11 Hc) ⟨[], [], upd_same, rfl, .nil, fun e he => (nomatch he), hh11.upd neL, (SBut.refl p H11).mut nL⟩ (fun _ _ _ _ => trivial) ?_ ?_
    · rintro i x Hc Hy hi ⟨vs, ls, hL, hll, htr, hls, hh, sb⟩ ⟨rfl, rfl⟩
      refine ⟨rfl, ?_⟩
      refine ⟨_, rfl, _, rfl, p, (wd : Int), rfl, hh, by omega, fun u Ha u0 u3 hha ba => ?_⟩
      have hNa := ba.sbut _ _ neN (sb _ _ neN (b11.sbut _ _ neN (sb10 _ _ neN hN7)))
      refine ⟨_, rfl, N, _, _, _, rfl, rfl, SqL.of hNa, atI_nat (j := 1) (by rw [List.getElem?_map, hz1]; rfl), ?_⟩
      refine ⟨_, rfl, p, 3, rfl, hha, by decide, fun u2 Hb y0 y3 hhb bb => ⟨by show 3 ≤ sizeLine; decide, fun q nq => ?_⟩⟩
      have sq := same_new (o := .tup [V.int u, V.str z1, V.int u2]) nq
      have hLb : Hb L = some (.lst vs) := by rw [bb _ neL, ba _ neL]; exact hL
      have sbb := (sb.trans ba.sbut).trans bb.sbut
      refine ⟨vs, sq _ _ hLb, by rw [htr.len, hll]; exact small1000 (by omega), vs ++ [.ref q], ls ++ [(u, z1, u2)], upd_same, by rw [List.length_append, hll]; rfl, ?_, fun e he => ?_, (hhb.same sq).upd neL, (sbb.trans (Same.sbut sq)).mut nL⟩
      · have kp : KeepT (upd Hb q (.tup [V.int u, V.str z1, V.int u2])) (upd (upd Hb q (.tup [V.int u, V.str z1, V.int u2])) L (.lst (vs ++ [.ref q]))) := (notL_upd (sq _ _ hLb)).keepT
        exact ((((htr.keep (hand_keepT hh ba.sbut)).keep (hand_keepT hha bb.sbut)).keep (Same.keepT sq)).keep kp).snoc (e := (u, z1, u2)) (kp _ _ upd_same)
      · rcases List.mem_append.mp he with h | h
        · exact hls e h
        · rw [List.mem_singleton.mp h]
    rintro H12 ⟨vs, ls, hL12, hll, htr12, hls, hh12, sb12⟩
    have sb0 : SBut p H10 H12 := b11.sbut.trans sb12
    have hme12 := hme10.hand hh10 sb0
    have hQ12 := sb0 _ _ neDup hQ10
    have hdu12 := hdu10.keep (hand_keepT hh10 sb0)
    have sbA : SBut p H7 H12 := sb10.trans sb0
    have hN12 := sbA _ _ neN hN7
    have hU12 := sbA _ _ neU hU7
    have oL : Out Me es L := (hme10.hand hh10 b11.sbut).new nL
    have oN : Out Me es N := hme12.old hN7
    have oU : Out Me es U := hme12.old hU7
    obtain ⟨z0, hz0⟩ : ∃ z, ws[0]? = some z := ⟨_, List.getElem?_eq_getElem (show 0 < ws.length by omega)⟩
    -- the table
    refine ⟨_, rfl, N, _, _, _, rfl, rfl, SqL.of hN12, atI_nat (j := 0) (by rw [List.getElem?_map, hz0]; rfl), _, rfl, ?_⟩
    refine ⟨_, rfl, U, _, rfl, .inl ⟨SqL.of hU12, fun kT nkT => ?_⟩⟩
    have sk := same_new (o := .tup (ks.map V.int)) nkT
    refine ⟨_, rfl, _, rfl, L, _, rfl, .inl ⟨SqL.of (sk _ _ hL12), fun rT nrT => ?_⟩⟩
    have sr := same_new (o := .tup vs) nrT
    refine ⟨rfl, rfl, fun x dx nx ndx ne => ?_⟩
    have s3 : Same _ _ := (same_new (o := .own x) ndx).trans (same_new (o := .ins CT dx []) (by rw [upd_ne ne.symm]; exact nx))
    have hkT := s3 _ _ (sr _ _ (upd_same (H := H12) (a := kT) (o := .tup (ks.map V.int))))
    have hrT := s3 _ _ (upd_same (H := upd H12 kT (.tup (ks.map V.int))) (a := rT) (o := .tup vs))
    refine ⟨x, dx, kT, rT, z0, wd, ks, .ref Me, es, vs, rfl, upd_same, SqT.of hkT, by omega, .inr ⟨Me, rfl, ((hme12.same (sk.trans sr)).same s3).dict hel3⟩, SqT.of hrT, fun H13 ks' ts sbx tab hks' hal hfr => ⟨rfl, ?_⟩⟩
    have s13 : Same H12 H13 := (sk.trans sr).trans fun b o h => sbx b o (ne_of_none h nx) (s3 b o h)
    have hme13 := hme12.same s13
    -- the lists grow
    refine ⟨_, rfl, Me, _, rfl, .inl hme13.at_, fun Lk nLk => ⟨Lk, rfl, ⟨_, SqL.of upd_same⟩, ?_⟩⟩
    have sLk := same_new (o := .lst ((es.map fun e : Ent => (e.1, V.ref e.2.1)).map fun kv => kV kv.1)) nLk
    have oLk : Out Me es Lk := hme13.new nLk
    have eLk : ((es.map fun e : Ent => (e.1, V.ref e.2.1)).map fun kv => kV kv.1) = es.map fun e => kV e.1 := by rw [List.map_map]; rfl
    rw [eLk] at sLk ⊢
    refine for_it (wk_list (K := K) (a := Lk) (l := es) (val := fun e => kV e.1)) (fun i σ Hc => ∃ x9 x11, σ = [some (.ref a), some (.str "abcdefghijklmnopqrstuvwxyz0123456789"), some (.ref p), some (.ref N), some (.ref V1), some (.int (wd : Int)), x6, some (.ref U), some (.ref Me), x9, none, x11, some (.ref Du), some (.ref L), some (.ref x), none, none, none] ∧
        Hc Me = some (.dK (es.map fun e : Ent => (e.1, V.ref e.2.1))) ∧ (∀ e ∈ es, ∃ xs, Hc e.2.1 = some (.lst xs) ∧ xs.length ≤ 3 + i) ∧ Keeps Me es H13 Hc ∧ Hc Lk = some (.lst (es.map fun e => kV e.1)))
      ⟨x9, none, rfl, sLk _ _ hme13.at_, fun e he => ⟨_, sLk _ _ (hme13.all e he).1, by rw [List.length_map]; exact (hme13.all e he).2.1⟩, fun b o _ h => sLk _ _ h, upd_same⟩ (fun i σ Hc _ ⟨_, _, _, _, _, _, e⟩ => SqL.of e) ?_ ?_
    · rintro i y σ Hc Hy hi ⟨x9, x11, rfl, hM, hxs, hkp, hLk⟩ ⟨rfl, e, he, rfl⟩
      have hem : e ∈ es := List.mem_of_getElem? he
      obtain ⟨xs, hx, hxl⟩ := hxs e hem
      refine ⟨_, rfl, _, rfl, Me, V.ref e.2.1, rfl, .inl ⟨_, _, .inl hM, rfl, (getE e hem).symm⟩, ?_⟩
      refine ⟨_, rfl, .inl ⟨rfl, _, SqL.of hx⟩, e.2.1, _, _, rfl, rfl, hx, small1000 (by omega), ?_⟩
      refine ⟨_, _, rfl, ?_, fun e2 he2 => ?_, fun b o hb h => ?_, ?_⟩
      · rw [upd_ne (ne_of hx hM (fun z => nomatch z)).symm]
        exact hM
      · by_cases c : e2.2.1 = e.2.1
        · rw [c]
          exact ⟨_, upd_same, by rw [List.length_append]; show xs.length + 1 ≤ _; omega⟩
        · obtain ⟨ys, q1, q2⟩ := hxs e2 he2
          exact ⟨ys, by rw [upd_ne c]; exact q1, by omega⟩
      · rw [upd_ne (hb.2 e hem)]
        exact hkp b o hb h
      · rw [upd_ne (oLk.2 e hem)]
        exact hLk
    rintro σ H14 ⟨x9', x11, rfl, hM14, _, hkp14, _⟩
    refine ⟨by show 1 ≤ sizeLine; decide, fun Ll nLl => ?_⟩
    have sLl := same_new (o := .lst [V.str "later"]) nLl
    refine ⟨_, rfl, Me, _, rfl, DPut.k (k := Sum.inl 0) (sLl _ _ hM14) (by rw [List.length_map]; exact small1000 (by omega)), ?_⟩
    have kpL : Keeps Me es H13 (upd (upd H14 Ll (.lst [V.str "later"])) Me (.dK (putK (es.map fun e : Ent => (e.1, V.ref e.2.1)) (Sum.inl 0) (.ref Ll)))) := fun b o hb h => by
      rw [upd_ne hb.1]
      exact sLl _ _ (hkp14 b o hb h)
    generalize upd (upd H14 Ll (.lst [V.str "later"])) Me (.dK (putK (es.map fun e : Ent => (e.1, V.ref e.2.1)) (Sum.inl 0) (.ref Ll))) = HL at kpL ⊢
    -- the plain table
    have hNL := kpL _ _ oN (s13 _ _ hN12)
    refine ⟨_, rfl, N, _, _, _, rfl, rfl, SqL.of hNL, atI_nat (j := 1) (by rw [List.getElem?_map, hz1]; rfl), _, rfl, fun y dy ny ndy ne2 => ?_⟩
    have s4y : Same HL (upd (upd HL dy (.own y)) y (.ins CT dy [])) := (same_new (o := .own y) ndy).trans (same_new (o := .ins CT dy []) (by rw [upd_ne ne2.symm]; exact ny))
    refine ⟨y, dy, T0, T1, z1, wd, [], .non, [], [], rfl, upd_same, Z.t0 _, Nat.zero_le _, .inl ⟨rfl, rfl⟩, Z.t1 _, fun H15 ks2 ts2 sby tab2 hk2 hal2 _ => ⟨rfl, ?_⟩⟩
    have s15 : Same HL H15 := fun b o h => sby b o (ne_of_none h ny) (s4y b o h)
    have kp : Keeps Me es H13 H15 := fun b o hb h => s15 _ _ (kpL b o hb h)
    have kpT : KeepT H13 H15 := fun b xs h => kp _ _ (hme13.kind h (fun _ z => nomatch z) (fun _ z => nomatch z)) h
    obtain ⟨⟨dx', kA, lA, rA, g1, g2, g3, g4⟩, asK⟩ := tab
    have hx := kp _ _ (hme13.kind g1 (fun _ z => nomatch z) (fun _ z => nomatch z)) g1
    have hk := kpT _ _ g2
    have olA : Out Me es lA := by
      refine ⟨fun z => ?_, fun e he z => ?_⟩
      · have := hfr dx' kA lA rA g1
        rw [z, s3 _ _ ((sk.trans sr) _ _ hme12.at_)] at this
        cases this
      · have := g3.at_
        rw [z, (hme13.all e he).1] at this
        cases this
    have hlA := kp _ _ olA g3.at_
    have hrA : SqT K H15 rA vs := by
      rcases g4 with (h | ⟨u, h⟩) | h
      · exact .inl (.inl (kpT _ _ h))
      · exact .inl (.inr ⟨u, kp _ _ (hme13.kind h (fun _ z => nomatch z) (fun _ z => nomatch z)) h⟩)
      · exact .inr h
    have hDu := kp _ _ oDu (s13 _ _ hQ12)
    have hL := kp _ _ oL (s13 _ _ hL12)
    have hU := kp _ _ oU (s13 _ _ hU12)
    have hN := kp _ _ oN (s13 _ _ hN12)
    have hdu := (hdu12.keep (Same.keepT s13)).keep kpT
    have htr := (htr12.keep (Same.keepT s13)).keep kpT
    obtain ⟨⟨dy', kB, lB, rB, r1, r2, r3, r4⟩, _⟩ := tab2
    obtain rfl : ks2 = [] := List.eq_nil_iff_forall_not_mem.mpr fun z hz => nomatch (hk2 z).mp hz
    obtain rfl : ts2 = [] := List.eq_nil_of_length_eq_zero (by have := congrArg List.length hal2.keys; simpa using this)
    have C := Z.tC
    have atNx : ∀ {Hc : Hp}, Same H15 Hc → SqL K Hc N (ws.map V.str) := fun s => SqL.of (s _ _ hN)
    -- names
    refine ⟨_, rfl, x, CT, dx', _, _, rfl, hx, C.cl, C.n1, rfl, _, _, _, _, _, rfl, .ty _, .base (.str z0), T.ss, true, rfl, iteF ?_⟩
    refine ⟨_, rfl, x, CT, dx', _, _, rfl, hx, C.cl, C.n1, rfl, _, rfl, N, _, _, _, rfl, rfl, atNx (Same.refl _), atI_nat (j := 0) (by rw [List.getElem?_map, hz0]; rfl), rfl, _, rfl, iteNS rfl ?_⟩
    refine ⟨_, rfl, y, CT, dy', _, _, rfl, r1, C.cl, C.n1, rfl, _, rfl, N, _, _, _, rfl, rfl, atNx (Same.refl _), atI_nat (j := 1) (by rw [List.getElem?_map, hz1]; rfl), rfl, _, rfl, iteNS rfl ?_⟩
    -- widths
    refine ⟨_, rfl, x, CT, dx', _, _, rfl, hx, C.cl, C.n2, rfl, _, rfl, y, CT, dy', _, _, rfl, r1, C.cl, C.n2, rfl, by show 2 ≤ sizeLine; decide, fun W nW => ⟨W, rfl, ⟨_, SqL.of upd_same⟩, ?_⟩⟩
    have sW := same_new (o := .lst [V.int (wd : Int), V.int (wd : Int)]) nW
    refine for_it (walk_list (K := K) (a := W) (xs := [V.int (wd : Int), V.int (wd : Int)])) (fun i σ Hc => ∃ x16, σ = [some (.ref a), some (.str "abcdefghijklmnopqrstuvwxyz0123456789"), some (.ref p), some (.ref N), some (.ref V1), some (.int (wd : Int)), x6, some (.ref U), some (.ref Me), x9', none, x11, some (.ref Du), some (.ref L), some (.ref x), some (.ref y), x16, none] ∧ Hc = upd H15 W (.lst [V.int (wd : Int), V.int (wd : Int)]))
      ⟨none, rfl, rfl⟩ (fun i σ Hc _ ⟨_, _, e⟩ => by rw [e]; exact SqL.of upd_same) ?_ ?_
    · rintro i v σ Hc Hy hi ⟨x16, rfl, rfl⟩ ⟨rfl, hv⟩
      have ev : v = V.int (wd : Int) := by
        have := List.mem_of_getElem? hv
        simp at this
        exact this
      subst ev
      refine ⟨_, rfl, _, _, _, _, _, rfl, .ty _, .base (.int _), T.ii, true, rfl, iteF ?_⟩
      refine ⟨_, rfl, _, _, _, _, _, rfl, .ty _, .base (.int _), T.ib, false, rfl, iteF ?_⟩
      refine ⟨_, rfl, _, rfl, rfl, _, rfl, iteNS rfl ?_⟩
      exact ⟨_, rfl, rfl⟩
    rintro σ H16 ⟨x16, rfl, rfl⟩
    generalize upd H15 W (.lst [V.int (wd : Int), V.int (wd : Int)]) = H16 at sW ⊢
    have hx := sW _ _ hx
    have r1 := sW _ _ r1
    -- types
    refine ⟨_, rfl, x, CT, dx', _, _, rfl, hx, C.cl, C.n3, rfl, _, _, _, _, _, rfl, .ty _, .base (.tup (sW _ _ hk)), T.tt, true, rfl, iteF ?_⟩
    refine ⟨_, rfl, x, CT, dx', _, _, rfl, hx, C.cl, C.n4, rfl, _, _, _, _, _, rfl, .ty _, .base (.dK (sW _ _ hlA)), T.dd, true, rfl, iteF ?_⟩
    refine ⟨_, rfl, x, CT, dx', _, _, rfl, hx, C.cl, C.n5, rfl, _, _, _, _, _, rfl, .ty _, tyT (same_seqT sW hrA), T.tt, true, rfl, iteF ?_⟩
    -- the columns of the key
    refine ⟨_, rfl, x, CT, dx', _, _, rfl, hx, C.cl, C.n3, rfl, kA, rfl, ⟨_, SqT.of (sW _ _ hk)⟩, fun B1 nB1 => ?_⟩
    have ks1000 : ks'.length ≤ 4 := Nat.le_trans (nodup_leA (ascI_nodup asK) fun z hz => (hks' z).mp hz) ks60
    refine lc_filter (val := V.int) (out := V.int) (p := fun _ => false) (l := ks') (wk_tup (K := K) (a := kA)) (fun o => same_seqT (same_new nB1) (SqT.of (sW _ _ hk))) (by omega) (fun _ => rfl) (fun i u acc Q' hu q' => ?_) (fun i u acc Q' _ hp => nomatch hp) ?_
    · obtain ⟨u0, u3⟩ := hks u ((hks' u).mp (List.mem_of_getElem? hu))
      exact ⟨_, rfl, _, rfl, u, wd, rfl, u0, u3, true, rfl, q'⟩
    rw [show ks'.filter (fun _ => false) = [] from List.filter_eq_nil_iff.mpr fun _ _ h => nomatch h]
    have sB := same_new (o := .lst []) nB1
    refine ⟨by decide, fun B2 nB2 => ?_⟩
    have sB2 := same_new (o := .lst []) nB2
    refine ⟨.list [], .list [], .lst (SqL.of (sB2 _ _ upd_same)) .nil, .lst (SqL.of upd_same) .nil, by decide, by decide, _, rfl, iteF ?_⟩
    have sX := (sW.trans sB).trans sB2
    have hx := (sB.trans sB2) _ _ hx
    have r1 := (sB.trans sB2) _ _ r1
    generalize upd (upd H16 B1 (.lst (List.map V.int []))) B2 (.lst []) = H17 at sX hx r1 ⊢
    -- key, references, number of lists
    refine ⟨_, rfl, x, CT, dx', _, _, rfl, hx, C.cl, C.n3, rfl, _, rfl, U, ks, rfl, SqL.of (sX _ _ hU), by omega, fun H18 R us sR nR hR asR hmR => ?_⟩
    refine ⟨R, _, rfl, .inl ⟨SqL.of hR, fun T2 nT2 => ?_⟩⟩
    have sT2 := same_new (o := .tup (us.map V.int)) nT2
    have s18 := (sX.trans sR).trans sT2
    have ekey : ks' = us := ascI_unique asK asR fun z => by rw [hks' z, hmR z]
    subst ekey
    refine ⟨.tuple (ks'.map .int), .tuple (ks'.map .int), .tup (SqT.of (s18 _ _ hk)) (dpInts _), .tup (SqT.of upd_same) (dpInts _), (shapedInts _).1, (shapedInts _).1, _, rfl, ?_⟩
    rw [(shapedInts _).2]
    refine iteF ?_
    have hx := (sR.trans sT2) _ _ hx
    have r1 := (sR.trans sT2) _ _ r1
    generalize upd H18 T2 (.tup (ks'.map V.int)) = H19 at s18 hx r1 ⊢
    have okl : ∀ e ∈ ls, SOk e.2.1 := fun e he => by rw [hls e he]; exact okw _ (List.mem_of_getElem? hz1)
    refine ⟨_, rfl, x, CT, dx', _, _, rfl, hx, C.cl, C.n5, rfl, _, rfl, L, _, rfl, .inl ⟨SqL.of (s18 _ _ hL), fun T3 nT3 => ?_⟩⟩
    have sT3 := same_new (o := .tup vs) nT3
    have htrF := htr.keep (Same.keepT (s18.trans sT3))
    refine ⟨.tuple (trD ls), .tuple (trD ls), .tup (same_seqT (s18.trans sT3) hrA) htrF.dp, .tup (SqT.of upd_same) htrF.dp, (shapedTrips okl).1, (shapedTrips okl).1, _, rfl, ?_⟩
    rw [(shapedTrips okl).2]
    refine iteF ?_
    have s20 := s18.trans sT3
    have hx := sT3 _ _ hx
    have r1 := sT3 _ _ r1
    generalize upd H19 T3 (.tup vs) = H20 at s20 hx r1 ⊢
    have tslen : ts.length = es.length := by
      have := congrArg List.length hal.keys
      simpa using this
    refine ⟨_, rfl, x, CT, dx', _, _, rfl, hx, C.cl, C.n4, rfl, lA, _, rfl, s20 _ _ hlA, _, rfl, Du, _, rfl, .inl (SqL.of (s20 _ _ hDu)), rfl, _, rfl, ?_⟩
    rw [List.length_map, tslen, hdu.len]
    refine iteNS rfl ?_
    -- the lists
    refine ⟨_, rfl, Du, rfl, ⟨_, SqL.of (s20 _ _ hDu)⟩, ?_⟩
    refine for_it (walk_list (K := K) (a := Du) (xs := qs)) (fun i σ Hc => ∃ x17, σ = [some (.ref a), some (.str "abcdefghijklmnopqrstuvwxyz0123456789"), some (.ref p), some (.ref N), some (.ref V1), some (.int (wd : Int)), x6, some (.ref U), some (.ref Me), x9', none, x11, some (.ref Du), some (.ref L), some (.ref x), some (.ref y), x16, x17] ∧ Hc = H20)
      ⟨none, rfl, rfl⟩ (fun i σ Hc _ ⟨_, _, e⟩ => by rw [e]; exact SqL.of (s20 _ _ hDu)) ?_ ?_
    · rintro i v σ Hc Hy hi ⟨x17, rfl, rfl⟩ ⟨rfl, hv⟩
      obtain ⟨e, he, b, T4, us, rfl, hb, hT4, asT, hmT⟩ := hdu.all i v hv
      have hem := List.mem_of_getElem? he
      obtain ⟨r, hr1, hr2, hr3⟩ := paired_get hal he
      have hrm := List.mem_of_getElem? hr1
      obtain ⟨hrt, hra⟩ := g3.all r hrm
      have hbr := s20 _ _ hb
      have tnd : (ts.map (·.1)).Nodup := by rw [hal.keys]; exact hme9.nd
      have hget : valV (ts.map fun e : Ent => (e.1, V.ref e.2.1)) e.1 = some (V.ref r.2.1) := by
        rw [← hr2]
        exact valV_of_nd (by rw [List.map_map]; exact tnd) (List.mem_map.mpr ⟨r, hrm, rfl⟩)
      have hrt20 := s20 _ _ (kpT _ _ hrt)
      have eus : r.2.2 = us := ascS_unique hra asT fun z => by rw [hr3 z, hmT z]
      refine ⟨_, rfl, x, CT, dx', _, _, rfl, hx, C.cl, C.n4, rfl, lA, rfl, .inl ⟨_, .inl (s20 _ _ hlA)⟩, _, rfl, b, _, _, _, rfl, rfl, SqT.of hbr, atI_nat (j := 0) rfl, _, DGet.k (s20 _ _ hlA), ?_⟩
      rw [hget]
      refine ⟨_, _, _, _, _, rfl, .ty _, .base (.tup hrt20), T.tt, true, rfl, iteF ?_⟩
      refine ⟨_, rfl, x, CT, dx', _, _, rfl, hx, C.cl, C.n4, rfl, lA, rfl, .inl ⟨_, .inl (s20 _ _ hlA)⟩, _, rfl, b, _, _, _, rfl, rfl, SqT.of hbr, atI_nat (j := 0) rfl, _, DGet.k (s20 _ _ hlA), ?_⟩
      rw [hget]
      refine ⟨_, rfl, b, _, _, _, rfl, rfl, SqT.of hbr, atI_nat (j := 1) rfl, ?_⟩
      have okr : ∀ z ∈ r.2.2, SOk z := fun z hz => (hme9.all e hem).2.2.1 z ((hr3 z).mp hz)
      subst eus
      refine ⟨.tuple (r.2.2.map .str), .tuple (r.2.2.map .str), .tup (SqT.of hrt20) (dpStrs _), .tup (SqT.of (s20 _ _ hT4)) (dpStrs _), (shapedStrs okr).1, (shapedStrs okr).1, _, rfl, ?_⟩
      rw [(shapedStrs okr).2]
      refine iteF ?_
      exact ⟨_, rfl, rfl⟩
    · rintro σ Hc ⟨x17, rfl, rfl⟩
      refine ⟨_, rfl, y, CT, dy', _, _, rfl, r1, C.cl, C.n3, rfl, by decide, fun E1 nE1 => ?_⟩
      have sE1 := same_new (o := .tup []) nE1
      refine ⟨.tuple [], .tuple [], .tup (SqT.of (sE1 _ _ (s20 _ _ r2))) .nil, .tup (SqT.of upd_same) .nil, by decide, by decide, true, rfl, iteT ?_⟩
      refine ⟨_, rfl, y, CT, dy', _, _, rfl, sE1 _ _ r1, C.cl, C.n5, rfl, by decide, fun E2 nE2 => ?_⟩
      have sE2 := same_new (o := .tup []) nE2
      refine ⟨.tuple [], .tuple [], .tup (same_seqT (s20.trans (sE1.trans sE2)) r4) .nil, .tup (SqT.of upd_same) .nil, by decide, by decide, true, rfl, iteT ?_⟩
      refine ⟨_, rfl, y, CT, dy', _, _, rfl, (sE1.trans sE2) _ _ r1, C.cl, C.n4, rfl, fun E3 nE3 => ?_⟩
      have sE3 := same_new (o := .dK []) nE3
      exact ⟨lB, E3, [], [], rfl, rfl, (s20.trans ((sE1.trans sE2).trans sE3)) _ _ r3.at_, upd_same, rfl, fun p hp => (nomatch hp), q _⟩
end
end Sw
namespace Sw
open PySem PySem.Spec PyProof.Rows L2 NdefX
theorem all01 {P : Program} {w : World} {K : PySem.W.Frag} {h : Heap} {mg : Str → Option Value} {fa fDe fTa fSp fLa fOn fAs fWa fRi fIx CT fTb KD T0 T1 : Addr} (X : K.In h) (G : h.Ns mainGlobals mg) (hfa : mg "law" = some (.ref fa))
    {odDe anDe : Option Addr} {slDe : Array (Option Value)} {ocDe kVDe dcDe pmDe cdDe ctDe : Value}
    {odTa anTa : Option Addr} {slTa : Array (Option Value)} {ocTa kVTa dcTa pmTa cdTa ctTa : Value}
    {odSp anSp : Option Addr} {slSp : Array (Option Value)} {ocSp kVSp dcSp pmSp cdSp ctSp : Value}
    {odLa anLa : Option Addr} {slLa : Array (Option Value)} {ocLa kVLa dcLa pmLa cdLa ctLa : Value}
    {odOn anOn : Option Addr} {slOn : Array (Option Value)} {ocOn kVOn dcOn pmOn cdOn ctOn : Value}
    {odAs anAs : Option Addr} {slAs : Array (Option Value)} {ocAs kVAs dcAs pmAs cdAs ctAs : Value}
    {odWa anWa : Option Addr} {slWa : Array (Option Value)} {ocWa kVWa dcWa pmWa cdWa ctWa : Value}
    {odRi anRi : Option Addr} {slRi : Array (Option Value)} {ocRi kVRi dcRi pmRi cdRi ctRi : Value}
    {odIx anIx : Option Addr} {slIx : Array (Option Value)} {ocIx kVIx dcIx pmIx cdIx ctIx : Value}
    {odTb anTb : Option Addr} {slTb : Array (Option Value)} {ocTb dcTb pmTb cdTb ctTb : Value}
    {n0 n1 : Nat}
    {q0 : Option Addr} {r0 : Array (Option Value)}
    {q1 : Option Addr} {r1 : Array (Option Value)}
    (aDe : PySem.W.nsIn K mainGlobals "_law_deal" = some (some (.ref fDe)))
    (lDe : K.lookup fDe = some ⟨ocDe, odDe, .func (PySem.W.fnOf "_law_deal" "_law_deal" (defArgs sDeal) (defBody sDeal) (defScope sDeal) .none kVDe dcDe pmDe anDe cdDe ctDe), slDe⟩)
    (cDe : PySem.W.codeIn K cdDe "_law_deal" = true)
    (kDe : PySem.W.keepIn K (.ref fDe) = true)
    (aTa : PySem.W.nsIn K mainGlobals "_law_take" = some (some (.ref fTa)))
    (lTa : K.lookup fTa = some ⟨ocTa, odTa, .func (PySem.W.fnOf "_law_take" "_law_take" (defArgs sTake) (defBody sTake) (defScope sTake) .none kVTa dcTa pmTa anTa cdTa ctTa), slTa⟩)
    (cTa : PySem.W.codeIn K cdTa "_law_take" = true)
    (kTa : PySem.W.keepIn K (.ref fTa) = true)
    (aSp : PySem.W.nsIn K mainGlobals "_law_spell" = some (some (.ref fSp)))
    (lSp : K.lookup fSp = some ⟨ocSp, odSp, .func (PySem.W.fnOf "_law_spell" "_law_spell" (defArgs sSpell) (defBody sSpell) (defScope sSpell) .none kVSp dcSp pmSp anSp cdSp ctSp), slSp⟩)
    (cSp : PySem.W.codeIn K cdSp "_law_spell" = true)
    (kSp : PySem.W.keepIn K (.ref fSp) = true)
    (aLa : PySem.W.nsIn K mainGlobals "law" = some (some (.ref fLa)))
    (lLa : K.lookup fLa = some ⟨ocLa, odLa, .func (PySem.W.fnOf "law" "law" (defArgs sLaw01) (defBody sLaw01) (defScope sLaw01) .none kVLa dcLa pmLa anLa cdLa ctLa), slLa⟩)
    (cLa : PySem.W.codeIn K cdLa "law" = true)
    (kLa : PySem.W.keepIn K (.ref fLa) = true)
    (aOn : PySem.W.nsIn K mainGlobals "once" = some (some (.ref fOn)))
    (lOn : K.lookup fOn = some ⟨ocOn, odOn, .func (PySem.W.fnOf "once" "once" (defArgs sOnce) (defBody sOnce) (defScope sOnce) .none kVOn dcOn pmOn anOn cdOn ctOn), slOn⟩)
    (cOn : PySem.W.codeIn K cdOn "once" = true)
    (kOn : PySem.W.keepIn K (.ref fOn) = true)
    (aAs : PySem.W.nsIn K mainGlobals "ascending" = some (some (.ref fAs)))
    (lAs : K.lookup fAs = some ⟨ocAs, odAs, .func (PySem.W.fnOf "ascending" "ascending" (defArgs sAsc) (defBody sAsc) (defScope sAsc) .none kVAs dcAs pmAs anAs cdAs ctAs), slAs⟩)
    (cAs : PySem.W.codeIn K cdAs "ascending" = true)
    (kAs : PySem.W.keepIn K (.ref fAs) = true)
    (aWa : PySem.W.nsIn K mainGlobals "with_ascending" = some (some (.ref fWa)))
    (lWa : K.lookup fWa = some ⟨ocWa, odWa, .func (PySem.W.fnOf "with_ascending" "with_ascending" (defArgs sWA) (defBody sWA) (defScope sWA) .none kVWa dcWa pmWa anWa cdWa ctWa), slWa⟩)
    (cWa : PySem.W.codeIn K cdWa "with_ascending" = true)
    (kWa : PySem.W.keepIn K (.ref fWa) = true)
    (aRi : PySem.W.nsIn K mainGlobals "_law_rising" = some (some (.ref fRi)))
    (lRi : K.lookup fRi = some ⟨ocRi, odRi, .func (PySem.W.fnOf "_law_rising" "_law_rising" (defArgs sRise) (defBody sRise) (defScope sRise) .none kVRi dcRi pmRi anRi cdRi ctRi), slRi⟩)
    (cRi : PySem.W.codeIn K cdRi "_law_rising" = true)
    (kRi : PySem.W.keepIn K (.ref fRi) = true)
    (aIx : PySem.W.nsIn K mainGlobals "_law_index" = some (some (.ref fIx)))
    (lIx : K.lookup fIx = some ⟨ocIx, odIx, .func (PySem.W.fnOf "_law_index" "_law_index" (defArgs sIndex) (defBody sIndex) (defScope sIndex) .none kVIx dcIx pmIx anIx cdIx ctIx), slIx⟩)
    (cIx : PySem.W.codeIn K cdIx "_law_index" = true)
    (kIx : PySem.W.keepIn K (.ref fIx) = true)
    (gCT : PySem.W.nsIn K mainGlobals "Table" = some (some (.ref CT)))
    (pgCT : PySem.W.plainGet K CT Str.empty = true)
    (hdCT : PySem.W.hasDictIn K CT = true)
    (poCT : PySem.W.plainOver K CT = true)
    (saCT : PySem.W.findIn K (.ref CT) "__setattr__" = some (some (.builtin "object.__setattr__")))
    (mkCT : PySem.W.makesIn K CT = true)
    (kcCT : PySem.W.keepIn K (.ref CT) = true)
    (nCTname : PySem.W.findIn K (.ref CT) "name" = some none)
    (nCTwidth : PySem.W.findIn K (.ref CT) "width" = some none)
    (nCTkey : PySem.W.findIn K (.ref CT) "key" = some none)
    (nCTlists : PySem.W.findIn K (.ref CT) "lists" = some none)
    (nCTrefers : PySem.W.findIn K (.ref CT) "refers" = some none)
    (aTb : PySem.W.findIn K (.ref CT) "__init__" = some (some (.ref fTb)))
    (iTb : PySem.W.isFn K (.ref fTb) = true)
    (lTb : K.lookup fTb = some ⟨ocTb, odTb, .func (PySem.W.fnOf "__init__" "Table.__init__" (defArgs sTab) (defBody sTab) (defScope sTab) .none (.ref KD) dcTb pmTb anTb cdTb ctTb), slTb⟩)
    (cTb : PySem.W.codeIn K cdTb "Table.__init__" = true)
    (kTb : PySem.W.keepIn K (.ref fTb) = true)
    (d0 : PySem.W.nsIn K KD "key" = some (some (.ref T0)))
    (d1 : PySem.W.nsIn K KD "lists" = some (some .none))
    (d2 : PySem.W.nsIn K KD "refers" = some (some (.ref T1)))
    (t0 : K.lookup T0 = some ⟨.type "tuple", q0, .seq #[] n0, r0⟩)
    (t1 : K.lookup T1 = some ⟨.type "tuple", q1, .seq #[] n1, r1⟩)
    (kii : PySem.W.kitOne K (.type "int") (.type "int") = some true)
    (kib : PySem.W.kitOne K (.type "int") (.type "bool") = some false)
    (kss : PySem.W.kitOne K (.type "str") (.type "str") = some true)
    (ktt : PySem.W.kitOne K (.type "tuple") (.type "tuple") = some true)
    (kdd : PySem.W.kitOne K (.type "dict") (.type "dict") = some true)
    (zint : PySem.W.nsIn K mainGlobals "int" = some none)
    (zrange : PySem.W.nsIn K mainGlobals "range" = some none)
    (zlen : PySem.W.nsIn K mainGlobals "len" = some none)
    (zisinstance : PySem.W.nsIn K mainGlobals "isinstance" = some none)
    (ztuple : PySem.W.nsIn K mainGlobals "tuple" = some none)
    (zsorted : PySem.W.nsIn K mainGlobals "sorted" = some none)
    (zstr : PySem.W.nsIn K mainGlobals "str" = some none)
    (zlist : PySem.W.nsIn K mainGlobals "list" = some none)
    (zbool : PySem.W.nsIn K mainGlobals "bool" = some none)
    (zdict : PySem.W.nsIn K mainGlobals "dict" = some none) :
    ∃ fd : FuncData, (∀ (s : Shared) (v : Value), BindsTo s fd ⟨[v], []⟩ [("_law_script", v)]) ∧ ∀ base : Heap, K.In base → base.Ns mainGlobals mg → FnOk P w K mg base CX0 6 fa fd ["_law_script"] (spLaw K) := by
  have FDe := fun_mk (st := sDeal) lDe cDe kDe
  have bDe := FDe.binds (ps := ["_law_script", "_law_k"]) fun _ _ _ _ _ _ us hl => match us, hl with | [_, _], _ => rfl
  have mDe := PySem.W.mg_of X G aDe
  have FTa := fun_mk (st := sTake) lTa cTa kTa
  have bTa := FTa.binds (ps := ["_law_hand", "_law_many"]) fun _ _ _ _ _ _ us hl => match us, hl with | [_, _], _ => rfl
  have mTa := PySem.W.mg_of X G aTa
  have FSp := fun_mk (st := sSpell) lSp cSp kSp
  have bSp := FSp.binds (ps := ["_law_hand", "_law_many", "_law_signs"]) fun _ _ _ _ _ _ us hl => match us, hl with | [_, _, _], _ => rfl
  have mSp := PySem.W.mg_of X G aSp
  have FLa := fun_mk (st := sLaw01) lLa cLa kLa
  have mLa := PySem.W.mg_of X G aLa
  have FOn := fun_mk (st := sOnce) lOn cOn kOn
  have bOn := FOn.binds (ps := ["things"]) fun _ _ _ _ _ _ us hl => match us, hl with | [_], _ => rfl
  have mOn := PySem.W.mg_of X G aOn
  have FAs := fun_mk (st := sAsc) lAs cAs kAs
  have bAs := FAs.binds (ps := ["words"]) fun _ _ _ _ _ _ us hl => match us, hl with | [_], _ => rfl
  have mAs := PySem.W.mg_of X G aAs
  have FWa := fun_mk (st := sWA) lWa cWa kWa
  have bWa := FWa.binds (ps := ["values"]) fun _ _ _ _ _ _ us hl => match us, hl with | [_], _ => rfl
  have mWa := PySem.W.mg_of X G aWa
  have FRi := fun_mk (st := sRise) lRi cRi kRi
  have bRi := FRi.binds (ps := ["_law_items"]) fun _ _ _ _ _ _ us hl => match us, hl with | [_], _ => rfl
  have mRi := PySem.W.mg_of X G aRi
  have FIx := fun_mk (st := sIndex) lIx cIx kIx
  have bIx := FIx.binds (ps := ["_law_x", "_law_many"]) fun _ _ _ _ _ _ us hl => match us, hl with | [_, _], _ => rfl
  have mIx := PySem.W.mg_of X G aIx
  have cCT : Cls K CT := ⟨pgCT, hdCT, poCT, saCT⟩
  have mgCT := PySem.W.mg_of X G gCT
  have b_int := PySem.W.mg_none_of X G zint
  have b_range := PySem.W.mg_none_of X G zrange
  have b_len := PySem.W.mg_none_of X G zlen
  have b_isinstance := PySem.W.mg_none_of X G zisinstance
  have b_tuple := PySem.W.mg_none_of X G ztuple
  have b_sorted := PySem.W.mg_none_of X G zsorted
  have b_str := PySem.W.mg_none_of X G zstr
  have b_list := PySem.W.mg_none_of X G zlist
  have b_bool := PySem.W.mg_none_of X G zbool
  have b_dict := PySem.W.mg_none_of X G zdict
  have e := hfa.symm.trans mLa
  cases e
  have B : Blt mg := ⟨b_int, b_range, b_len⟩
  have B2 : Blt2 mg := ⟨b_tuple, b_sorted, b_str, b_int⟩
  have st0 : ∀ H : Hp, SqT K H T0 [] := fun H => .inr ⟨_, _, _, t0, rfl, rfl, Nat.zero_le _, .nil⟩
  have st1 : ∀ H : Hp, SqT K H T1 [] := fun H => .inr ⟨_, _, _, t1, rfl, rfl, Nat.zero_le _, .nil⟩
  have FTb : FunTab K T0 T1 fTb (PySem.W.fnOf "__init__" "Table.__init__" (defArgs sTab) (defBody sTab) (defScope sTab) .none (.ref KD) dcTb pmTb anTb cdTb ctTb) :=
    ⟨⟨_, _, _, _, _, _, _, _, _, _, rfl, lTb, cTb, .inl ⟨rfl, rfl⟩, .inr ⟨KD, rfl, fun q hq => by
      rcases List.mem_cons.mp hq with rfl | hq
      · exact ⟨_, d0, rfl⟩
      rcases List.mem_cons.mp hq with rfl | hq
      · exact ⟨_, d1, rfl⟩
      rcases List.mem_cons.mp hq with rfl | hq
      · exact ⟨_, d2, rfl⟩
      · cases hq⟩⟩, kTb⟩
  obtain ⟨mv, bTk⟩ := FTb.kbinds0 (ps := pTab) 3 ["key", "lists", "refers"] [] (fun us mz ws => us ++ mz ++ ws) (by simp) (fun q hq => nomatch hq)
    (fun r1 r2 r3 => (r1.append r2).append r3) fun D doc pm an cdv ct us mv ws hu hm hw => match us, mv, ws, hu, hm, hw with | [_, _, _], [], [_, _, _], _, _, _ => rfl
  obtain ⟨ds, vds, bTb⟩ := FTb.binds0 (ps := pTab) 3 (by simp) rfl fun D doc pm an cdv ct us ks hu hk => match us, ks, hu, hk with | [_, _, _], [_, _, _], _, _ => ⟨_, _, _, _, _, _, rfl, rfl, _, _, _, _, _, _, rfl, rfl, _, _, _, _, _, _, rfl, rfl, rfl⟩
  have TC : TabC K CT := ⟨cCT, nCTname, nCTwidth, nCTkey, nCTlists, nCTrefers⟩
  have KD1 : Kinds K mg := ⟨b_isinstance, b_int, b_bool, b_str, b_tuple, b_dict, kii, kib, kss, ktt, kdd⟩
  refine ⟨PySem.W.fnOf "law" "law" (defArgs sLaw01) (defBody sLaw01) (defScope sLaw01) .none kVLa dcLa pmLa anLa cdLa ctLa, fun s v => .of_eq rfl, fun base _ _ => ?_⟩
  refine ok_law01 (CT := CT) (T0 := T0) (T1 := T1) FLa B ?_
  exact { D := ⟨_, _, ok_deal FDe B, mDe, kDe, bDe⟩, S := ⟨_, _, ok_spell FSp B FTa bTa mTa, mSp, kSp, bSp⟩, T := ⟨_, _, ok_take FTa B, mTa, kTa, bTa⟩
          R := ⟨_, _, ok_riseS FRi b_len, ok_riseI FRi b_len, mRi, kRi, bRi⟩, I := ⟨_, _, ok_index FIx KD1, mIx, kIx, bIx⟩
          Tab := ⟨_, _, ds, _, ok_tabN FTb B2 TC (ok_wa FWa (ok_asc FAs B2 (ok_once FOn b_list) mOn kOn bOn) kAs bAs mAs) kWa bWa mWa, ⟨mkCT, aTb, iTb, kcCT⟩, vds, bTb, by simpa using bTk⟩, gT := mgCT
          tC := TC, t0 := st0, t1 := st1, kd := KD1, list := b_list }
end Sw
open PySem PySem.W PyProof.Rows
set_option maxRecDepth 100000 in
set_option maxHeartbeats 0 in
theorem PySem.Challenge.cw_surelywhole_k01_table_attributes_holds : PySem.Challenge.rw_surelywhole_k01_table_attributes.Holds := by
  w_on; o_law; k_head; (case hw => w_witness2)
  k_fill
  refine L2.walk_of (l := PySem.Challenge.rw_surelywhole_k01_table_attributes) (n := 63) (k := 6) (x := "_law_script") (CX := fun _ => L2.CX0) (sp := fun w => Sw.spLaw _) rfl (by decide) rfl ⟨rfl, by decide, by decide⟩ (fun w h Y => PySem.W.kIn_of Y) ?F (fun _ _ a ns hl _ hS => ⟨a, ns, rfl, hS, hl, fun _ => rfl⟩) (fun _ _ _ _ _ z => z)
  case F =>
    intro w mg fa h KX G hmg
    refine' Sw.all01 KX G hmg ?aDe ?lDe ?cDe ?kDe ?aTa ?lTa ?cTa ?kTa ?aSp ?lSp ?cSp ?kSp ?aLa ?lLa ?cLa ?kLa ?aOn ?lOn ?cOn ?kOn ?aAs ?lAs ?cAs ?kAs ?aWa ?lWa ?cWa ?kWa ?aRi ?lRi ?cRi ?kRi ?aIx ?lIx ?cIx ?kIx ?gCT ?pgCT ?hdCT ?poCT ?saCT ?mkCT ?kcCT ?nCTname ?nCTwidth ?nCTkey ?nCTlists ?nCTrefers ?aTb ?iTb ?lTb ?cTb ?kTb ?d0 ?d1 ?d2 ?t0 ?t1 ?kii ?kib ?kss ?ktt ?kdd ?zint ?zrange ?zlen ?zisinstance ?ztuple ?zsorted ?zstr ?zlist ?zbool ?zdict
    (case aDe => first | rfl | k_is)
    (case lDe => first | rfl | k_is)
    (case cDe => first | rfl | k_is)
    (case kDe => first | rfl | k_is)
    (case aTa => first | rfl | k_is)
    (case lTa => first | rfl | k_is)
    (case cTa => first | rfl | k_is)
    (case kTa => first | rfl | k_is)
    (case aSp => first | rfl | k_is)
    (case lSp => first | rfl | k_is)
    (case cSp => first | rfl | k_is)
    (case kSp => first | rfl | k_is)
    (case aLa => first | rfl | k_is)
    (case lLa => first | rfl | k_is)
    (case cLa => first | rfl | k_is)
    (case kLa => first | rfl | k_is)
    (case aOn => first | rfl | k_is)
    (case lOn => first | rfl | k_is)
    (case cOn => first | rfl | k_is)
    (case kOn => first | rfl | k_is)
    (case aAs => first | rfl | k_is)
    (case lAs => first | rfl | k_is)
    (case cAs => first | rfl | k_is)
    (case kAs => first | rfl | k_is)
    (case aWa => first | rfl | k_is)
    (case lWa => first | rfl | k_is)
    (case cWa => first | rfl | k_is)
    (case kWa => first | rfl | k_is)
    (case aRi => first | rfl | k_is)
    (case lRi => first | rfl | k_is)
    (case cRi => first | rfl | k_is)
    (case kRi => first | rfl | k_is)
    (case aIx => first | rfl | k_is)
    (case lIx => first | rfl | k_is)
    (case cIx => first | rfl | k_is)
    (case kIx => first | rfl | k_is)
    (case gCT => first | rfl | k_is)
    (case pgCT => first | rfl | k_is)
    (case hdCT => first | rfl | k_is)
    (case poCT => first | rfl | k_is)
    (case saCT => first | rfl | k_is)
    (case mkCT => first | rfl | k_is)
    (case kcCT => first | rfl | k_is)
    (case nCTname => first | rfl | k_is)
    (case nCTwidth => first | rfl | k_is)
    (case nCTkey => first | rfl | k_is)
    (case nCTlists => first | rfl | k_is)
    (case nCTrefers => first | rfl | k_is)
    (case aTb => first | rfl | k_is)
    (case iTb => first | rfl | k_is)
    (case lTb => first | rfl | k_is)
    (case cTb => first | rfl | k_is)
    (case kTb => first | rfl | k_is)
    (case d0 => first | rfl | k_is)
    (case d1 => first | rfl | k_is)
    (case d2 => first | rfl | k_is)
    (case t0 => first | rfl | k_is)
    (case t1 => first | rfl | k_is)
    (case kii => first | rfl | k_is)
    (case kib => first | rfl | k_is)
    (case kss => first | rfl | k_is)
    (case ktt => first | rfl | k_is)
    (case kdd => first | rfl | k_is)
    (case zint => first | rfl | k_is)
    (case zrange => first | rfl | k_is)
    (case zlen => first | rfl | k_is)
    (case zisinstance => first | rfl | k_is)
    (case ztuple => first | rfl | k_is)
    (case zsorted => first | rfl | k_is)
    (case zstr => first | rfl | k_is)
    (case zlist => first | rfl | k_is)
    (case zbool => first | rfl | k_is)
    (case zdict => first | rfl | k_is)
