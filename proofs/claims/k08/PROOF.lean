import PyProof.Rows.All
import Wide.All
import OpenK.AllK
import Wide.FinOn
import HandS.ForMost
import HandS.ForExc
import HandS.Nested
import HandS.ExcInit
import HandS.ExcSuper
import HandS.ExcField
import HandS.ExcIs
import HandS.IsInst
import HandS.StrMore
import HandS.Style
import HandS.FStr
import HandS.FStrTup
import HandS.Star
import HandS.MakeKwOnly
import HandS.DictComp
import HandS.RaiseMore
import HandS.Walk
import HandS.SortInts
import HandS.TryMany
import HandS.TupAny
import HandS.Flow
import KE.KExcSuper
import KE.KExcIs
import PySem.Challenge.RW_surelywhole_k08_promise_refuses
set_option Elab.async false
set_option linter.all false
set_option maxRecDepth 100000
set_option maxHeartbeats 4000000
/-! # What every law of the set begins with: the dealt hand, a draw from it, the spelt words -/
namespace Sw
open PySem PySem.Spec PyProof.Rows L2
/-! ## two operators -/
section
variable {X : Cx}
/-- list + list, where the left one may be the script -/
def rJoinL (K : PySem.W.Frag) : R2 := fun x y H Q => ∃ (l b : Addr) (xs zs : List V), x = .ref l ∧ y = .ref b ∧ SqL K H l xs ∧ SqL K H b zs ∧ xs.length + zs.length ≤ sizeLine ∧
  ∀ p, H p = none → Q (.ref p) (upd H p (.lst (xs ++ zs)))
theorem op_joinL : OpR X (binaryOp .Add) (rJoinL X.K) := by
  intro pins s σ H x y v u Q I rx ry h
  obtain ⟨l, b, xs, zs, rfl, rfl, hl, hb, hz, q⟩ := h
  cases rx
  cases ry
  obtain ⟨vs, r1, p1, _⟩ := I.list hl
  obtain ⟨ws, r2, p2, _⟩ := I.list hb
  obtain ⟨⟨c1, d1, a1, s1⟩, n1, g1, e1, f1, k1⟩ := p1
  obtain ⟨⟨c2, d2, a2, s2⟩, n2, g2, e2, f2, k2⟩ := p2
  simp only at e1 f1 k1 e2 f2 k2
  subst e1 f1 k1 e2 f2 k2
  have len1 := r1.length
  have len2 := r2.length
  refine concat_meets ⟨_, g1, rfl⟩ ⟨_, g2, rfl⟩ noFill_list_add seq_list_add PySem.F.slot_list_add PySem.F.entry_list_add (PySem.F.args_list_add_2 _ _)
    (list_addW l b vs.toArray ws.toArray n1 n2 none none s1 s2 (by rw [List.size_toArray, List.size_toArray]; omega)) ⟨g1, g2, ?_⟩
  have ea : vs.toArray ++ ws.toArray = (vs ++ ws).toArray := by simp
  rw [ea]
  exact ⟨.ref _, _, I.lnew (t' := s.toks) (r1.append r2) (by rw [List.length_append]; omega), rfl, q _ I.fresh⟩
/-- a text times nought or one -/
def rStr01 : R2 := fun x y H Q => ∃ (z : Str) (n : Int), x = .str z ∧ y = .int n ∧ 0 ≤ n ∧ n < 2 ∧ Q (.str (if n = 0 then Str.empty else z)) H
theorem op_str01 : OpR X (binaryOp .Mult) rStr01 := by
  intro pins s σ H x y v u Q I rx ry h
  obtain ⟨z, n, rfl, rfl, h0, h2, q⟩ := h
  obtain ⟨t, rfl⟩ := rx
  obtain ⟨t', rfl⟩ := ry
  have hn : n = 0 ∨ n = 1 := by omega
  rcases hn with rfl | rfl
  · rw [if_pos rfl] at q
    exact PySem.P.mul_str_none (by decide) (by decide) ⟨.str Str.empty, H, I.tok _, ⟨_, rfl⟩, q⟩
  · rw [if_neg (by decide)] at q
    refine PySem.P.mul_str (by decide) (fun _ e => absurd e (by simp)) (fun _ e => absurd e (by simp)) ?_
    rw [if_neg (by decide), if_pos (by simp)]
    exact ⟨.str z, H, I, ⟨_, rfl⟩, q⟩
end
end Sw
/-! ## the hand -/
namespace Sw
open PySem PySem.Spec PyProof.Rows L2
/-- at a: a hand, sixty-one ints -/
def HandAt (H : Hp) (a : Addr) : Prop := ∃ ns : List Int, H a = some (.lst (ns.map V.int)) ∧ ns.length = 61
/-- all but a is as it was -/
def But (a : Addr) (H H' : Hp) : Prop := ∀ b, b ≠ a → H' b = H b
/-- _law_deal(script, k): a new hand -/
def spDeal (K : PySem.W.Frag) : Sp := fun vs H Q _ => ∃ (s : Addr) (ns : List Int) (k : Nat), vs = [.ref s, .int (k : Int)] ∧ SqL K H s (ns.map V.int) ∧ ns.length ≤ 63 ∧ k < 7 ∧
  ∀ (H' : Hp) (p : Addr), Same H H' → H p = none → HandAt H' p → Q (.ref p) H'
/-- _law_take(hand, many): some number below many; the hand stays a hand -/
def spTake : Sp := fun vs H Q _ => ∃ (a : Addr) (m : Int), vs = [.ref a, .int m] ∧ HandAt H a ∧ 0 < m ∧ ∀ (v : Int) (H' : Hp), 0 ≤ v → v < m → HandAt H' a → But a H H' → Q (.int v) H'
/-- the names of built-ins that stay built-ins -/
structure Blt (mg : Str → Option Value) : Prop where
  int : mg "int" = none
  range : mg "range" = none
  len : mg "len" = none
theorem bInt : bootBuiltins "int" = some (.type "int") := by decide +kernel
/-- the script's cell, or nought -/
theorem cell_at {ns : List Int} {k : Nat} (hk : k < 7) : ∃ c : Int, ((ns.map V.int) ++ [V.int 0, V.int 0, V.int 0, V.int 0, V.int 0, V.int 0, V.int 0])[k]? = some (V.int c) := by
  by_cases h : k < ns.length
  · refine ⟨ns[k], ?_⟩
    rw [List.getElem?_append_left (by rw [List.length_map]; exact h), List.getElem?_map, List.getElem?_eq_getElem h]
    rfl
  · refine ⟨0, ?_⟩
    rw [List.getElem?_append_right (by rw [List.length_map]; omega), List.length_map]
    generalize hj : k - ns.length = j
    have hj7 : j < 7 := by omega
    match j, hj7 with
    | 0, _ => rfl
    | 1, _ => rfl
    | 2, _ => rfl
    | 3, _ => rfl
    | 4, _ => rfl
    | 5, _ => rfl
    | 6, _ => rfl
theorem intV_get {ns : List Int} {i : Nat} (h : i < ns.length) : (ns.map V.int)[i]? = some (V.int ns[i]) := by
  rw [List.getElem?_map, List.getElem?_eq_getElem h]
  rfl
theorem atI_int {ns : List Int} {z : Int} (h0 : 0 ≤ z) (h : z < ns.length) : ∃ c : Int, atI (ns.map V.int) z = some (V.int c) := by
  obtain ⟨k, rfl⟩ := Int.eq_ofNat_of_zero_le h0
  have hk : k < ns.length := by omega
  exact ⟨ns[k], atI_nat (intV_get hk)⟩
theorem pick2 (u r : Int) : atI [V.int u, V.int r] (if decide (0 < r) = true then 1 else 0) = some (V.int (if 0 < r then r else u)) := by
  by_cases h : 0 < r
  · rw [decide_eq_true h, if_pos rfl, if_pos h]
    exact atI_nat (j := 1) rfl
  · rw [decide_eq_false h, if_neg (by decide), if_neg h]
    exact atI_nat (j := 0) rfl
theorem mod_small (z : Int) : -(2 ^ 64) < z % 2147483647 ∧ z % 2147483647 < 2 ^ 64 := by
  have m0 := Int.emod_nonneg z (show (2147483647 : Int) ≠ 0 by decide)
  have m1 := Int.emod_lt_of_pos z (show (0 : Int) < 2147483647 by decide)
  constructor <;> omega
theorem same_new {H : Hp} {p : Addr} {o : HO} (h : H p = none) : Same H (upd H p o) := fun b x e => by
  rw [upd_ne (ne_of_none e h)]
  exact e
/-- an object that H doesn't know may change -/
theorem same_mut {H H' : Hp} {p : Addr} {o : HO} (e : Same H H') (h : H p = none) : Same H (upd H' p o) := fun b x hb => by
  rw [upd_ne (ne_of_none hb h)]
  exact e b x hb
theorem but_refl (a : Addr) (H : Hp) : But a H H := fun _ _ => rfl
theorem but_upd {a : Addr} {H H' : Hp} {o : HO} (h : But a H H') : But a H (upd H' a o) := fun b hb => by
  rw [upd_ne hb]
  exact h b hb
end Sw
/-! ## the spelt words -/
namespace Sw
open PySem PySem.Spec PyProof.Rows L2
open TL (tl)
/-- a word over the signs, one to eight of them -/
def Wd (sg w : Str) : Prop := 1 ≤ (tl w).length ∧ (tl w).length ≤ 8 ∧ ∀ c ∈ tl w, c ∈ tl sg
/-- all that H knows, but a, is as it was -/
def SBut (a : Addr) (H H' : Hp) : Prop := ∀ b o, b ≠ a → H b = some o → H' b = some o
theorem SBut.refl (a : Addr) (H : Hp) : SBut a H H := fun _ _ _ e => e
theorem SBut.trans {a : Addr} {H H1 H2 : Hp} (x : SBut a H H1) (y : SBut a H1 H2) : SBut a H H2 := fun b o hb e => y b o hb (x b o hb e)
theorem Same.sbut {a : Addr} {H H1 : Hp} (x : Same H H1) : SBut a H H1 := fun b o _ e => x b o e
theorem But.sbut {a : Addr} {H H1 : Hp} (x : But a H H1) : SBut a H H1 := fun b o hb e => by
  rw [x b hb]
  exact e
theorem HandAt.some {H : Hp} {a : Addr} (h : HandAt H a) : ∃ o, H a = some o := by
  obtain ⟨ns, e, _⟩ := h
  exact ⟨_, e⟩
theorem HandAt.same {H H' : Hp} {a : Addr} (h : HandAt H a) (s : Same H H') : HandAt H' a := by
  obtain ⟨ns, e, hl⟩ := h
  exact ⟨ns, s _ _ e, hl⟩
theorem HandAt.ne {H : Hp} {a p : Addr} (h : HandAt H a) (n : H p = none) : p ≠ a := by
  obtain ⟨ns, e, _⟩ := h
  exact (ne_of_none e n).symm
/-- an object that is none of H's may change, but for the hand -/
theorem SBut.mut {a : Addr} {H H' : Hp} {p : Addr} {o : HO} (e : SBut a H H') (h : H p = none) : SBut a H (upd H' p o) := fun b x hb hx => by
  rw [upd_ne (ne_of_none hx h)]
  exact e b x hb hx
theorem SBut.free {a : Addr} {H H' : Hp} {p : Addr} (e : SBut a H H') (h : HandAt H' a) (n : H' p = none) : H p = none ∧ p ≠ a := by
  have ne := h.ne n
  refine ⟨?_, ne⟩
  cases q : H p with
  | none => rfl
  | some o =>
    rw [e p o ne q] at n
    cases n
theorem HandAt.upd {H : Hp} {a p : Addr} {o : HO} (h : HandAt H a) (ne : p ≠ a) : HandAt (upd H p o) a := by
  obtain ⟨ns, e, hl⟩ := h
  exact ⟨ns, by rw [upd_ne ne.symm]; exact e, hl⟩
/-- a sign at a place that is drawn -/
theorem sign_at {sg : Str} {z : Int} (h0 : 0 ≤ z) (h : z < (tl sg).length) : ∃ c : Nat, atI sg.cps.toList z = some c ∧ c ∈ tl sg := by
  obtain ⟨k, rfl⟩ := Int.eq_ofNat_of_zero_le h0
  have hk : k < (tl sg).length := by omega
  exact ⟨(tl sg)[k], atI_nat (List.getElem?_eq_getElem hk), List.getElem_mem hk⟩
theorem len_tl (z : Str) : z.length = (tl z).length := by
  show z.cps.size = z.cps.toList.length
  rw [Array.length_toList]
theorem sign_ix {sg : Str} {sh i : Nat} (pos : 0 < (tl sg).length) : atI sg.cps.toList (((sh : Int) + 5 * (0 + (i : Int))) % ((sg.length : Nat) : Int)) = some ((tl sg).getD ((sh + 5 * i) % (tl sg).length) 0) := by
  have e : ((sh : Int) + 5 * (0 + (i : Int))) % ((sg.length : Nat) : Int) = (((sh + 5 * i) % (tl sg).length : Nat) : Int) := by
    rw [len_tl, Int.natCast_emod, Int.natCast_add, Int.natCast_mul, Int.zero_add]
    rfl
  have lj : (sh + 5 * i) % (tl sg).length < (tl sg).length := Nat.mod_lt _ pos
  rw [e, List.getD_eq_getElem?_getD, List.getElem?_eq_getElem lj]
  exact atI_nat (List.getElem?_eq_getElem lj)
theorem tail_ix {t0 t1 : Str} {i : Nat} : atI [V.str t0, V.str t1] ((0 + (i : Int)) % 2) = some (V.str (if i % 2 = 0 then t0 else t1)) := by
  have e : (0 + (i : Int)) % 2 = ((i % 2 : Nat) : Int) := by omega
  rw [e]
  by_cases h : i % 2 = 0
  · rw [h, if_pos rfl]
    exact atI_nat (j := 0) rfl
  · have h1 : i % 2 = 1 := by omega
    rw [h1, if_neg (by decide)]
    exact atI_nat (j := 1) rfl
theorem sum_ones : ∀ cs : List Nat, (cs.map fun _ => 1).sum = cs.length
  | [] => rfl
  | c :: r => by
    show 1 + (r.map fun _ => 1).sum = r.length + 1
    rw [sum_ones r, Nat.add_comm]
def spSpell : Sp := fun vs H Q _ => ∃ (a : Addr) (m : Nat) (sg : Str), vs = [.ref a, .int (m : Int), .str sg] ∧ HandAt H a ∧ m ≤ 5 ∧ ((tl sg).length = 26 ∨ (tl sg).length = 36) ∧ (tl sg).Nodup ∧
  ∀ (H' : Hp) (p : Addr) (ws : List Str), HandAt H' a → SBut a H H' → H p = none → p ≠ a → H' p = some (.lst (ws.map V.str)) → ws.length = m → ws.Nodup → (∀ w ∈ ws, Wd sg w) → Q (.ref p) H'
theorem joinL_nil : ∀ ps : List (List Nat), TL.joinL [] ps = ps.flatten
  | [] => rfl
  | [p] => by
    show p = p ++ []
    rw [List.append_nil]
  | p :: q :: r => by
    show p ++ ([] ++ TL.joinL [] (q :: r)) = p ++ (q :: r).flatten
    rw [joinL_nil (q :: r)]
    rfl
theorem flat_singles : ∀ cs : List Nat, (cs.map fun c => [c]).flatten = cs
  | [] => rfl
  | c :: r => by
    show [c] ++ (r.map fun c => [c]).flatten = c :: r
    rw [flat_singles r]
    rfl
/-- the signs drawn, as one text -/
def baseOf (cs : List Nat) : Str := Txt.join Str.empty (cs.map fun c => (⟨#[c]⟩ : Str))
theorem tl_base (cs : List Nat) : tl (baseOf cs) = cs := by
  unfold baseOf
  rw [TL.join_eq, TL.tl_join]
  show TL.joinL [] ((cs.map fun c => (⟨#[c]⟩ : Str)).map tl) = cs
  rw [joinL_nil, List.map_map]
  exact flat_singles cs
theorem tl_cut_from (z : Str) (k : Nat) (h : k ≤ (tl z).length) : tl (cutS z (some (k : Int)) none) = (tl z).drop k := by
  unfold cutS
  show (((tl z).drop (HT.sIx z.length 0 (some (k : Int)))).take (HT.sIx z.length z.length none - HT.sIx z.length 0 (some (k : Int)))).toArray.toList = _
  rw [HT.sIx_nat, HT.sIx_none, len_tl, Nat.min_eq_left h, List.toList_toArray, List.take_of_length_le (by rw [List.length_drop]; omega)]
theorem tl_cut_to (z : Str) (k : Nat) (h : k ≤ (tl z).length) : tl (cutS z none (some (k : Int))) = (tl z).take k := by
  unfold cutS
  show (((tl z).drop (HT.sIx z.length 0 none)).take (HT.sIx z.length z.length (some (k : Int)) - HT.sIx z.length 0 none)).toArray.toList = _
  rw [HT.sIx_nat, HT.sIx_none, len_tl, Nat.min_eq_left h, List.toList_toArray, List.drop_zero, Nat.sub_zero]
/-- the j-th word -/
def wordAt (b sg : Str) (pl sh : Nat) (t0 t1 : Str) (j : Nat) : Str := cutS b none (some (pl : Int)) ++ (⟨#[(tl sg).getD ((sh + 5 * j) % (tl sg).length) 0]⟩ : Str) ++ (if j % 2 = 0 then t0 else t1)
theorem tl_one (c : Nat) : tl (⟨#[c]⟩ : Str) = [c] := rfl
theorem tl_word {b sg t0 t1 : Str} {pl sh j : Nat} (hp : pl ≤ (tl b).length) : tl (wordAt b sg pl sh t0 t1 j) = (tl b).take pl ++ ([(tl sg).getD ((sh + 5 * j) % (tl sg).length) 0] ++ tl (if j % 2 = 0 then t0 else t1)) := by
  unfold wordAt
  rw [TL.tl_append, TL.tl_append, tl_cut_to _ _ hp, tl_one, List.append_assoc]
theorem word_inj {b sg t0 t1 : Str} {pl sh j k : Nat} (hp : pl ≤ (tl b).length) (hm : (tl sg).length = 26 ∨ (tl sg).length = 36) (nd : (tl sg).Nodup) (hj : j < 5) (hk : k < 5) (e : wordAt b sg pl sh t0 t1 j = wordAt b sg pl sh t0 t1 k) : j = k := by
  have e2 := congrArg tl e
  rw [tl_word hp, tl_word hp] at e2
  have e3 := List.append_cancel_left e2
  have e4 : (tl sg).getD ((sh + 5 * j) % (tl sg).length) 0 = (tl sg).getD ((sh + 5 * k) % (tl sg).length) 0 := (List.cons.inj e3).1
  have pos : 0 < (tl sg).length := by omega
  have lj : (sh + 5 * j) % (tl sg).length < (tl sg).length := Nat.mod_lt _ pos
  have lk : (sh + 5 * k) % (tl sg).length < (tl sg).length := Nat.mod_lt _ pos
  rw [List.getD_eq_getElem?_getD, List.getD_eq_getElem?_getD, List.getElem?_eq_getElem lj, List.getElem?_eq_getElem lk] at e4
  have e5 : (sh + 5 * j) % (tl sg).length = (sh + 5 * k) % (tl sg).length := (List.getElem_inj nd).mp e4
  rcases hm with hm | hm
  · rw [hm] at e5
    omega
  · rw [hm] at e5
    omega
theorem words_nodup {b sg t0 t1 : Str} {pl sh m : Nat} (hp : pl ≤ (tl b).length) (hm : (tl sg).length = 26 ∨ (tl sg).length = 36) (nd : (tl sg).Nodup) (h5 : m ≤ 5) : ((List.range m).map (wordAt b sg pl sh t0 t1)).Nodup := by
  rw [List.nodup_iff_pairwise_ne, List.pairwise_map]
  refine List.Pairwise.imp_of_mem ?_ (List.nodup_range (n := m))
  intro j k hj hk ne e
  exact ne (word_inj hp hm nd (Nat.lt_of_lt_of_le (List.mem_range.mp hj) h5) (Nat.lt_of_lt_of_le (List.mem_range.mp hk) h5) e)
theorem word_wd {b sg t0 t1 : Str} {pl sh j : Nat} (hp : pl ≤ (tl b).length) (hb : (tl b).length ≤ 7) (hs : ∀ c ∈ tl b, c ∈ tl sg) (pos : 0 < (tl sg).length) (h0 : tl t0 = (tl b).drop pl) (h1 : tl t1 = [] ∨ tl t1 = (tl b).drop pl) : Wd sg (wordAt b sg pl sh t0 t1 j) := by
  have ht : tl (if j % 2 = 0 then t0 else t1) = [] ∨ tl (if j % 2 = 0 then t0 else t1) = (tl b).drop pl := by
    split
    · exact .inr h0
    · exact h1
  have lj : (sh + 5 * j) % (tl sg).length < (tl sg).length := Nat.mod_lt _ pos
  have l2 : (tl (if j % 2 = 0 then t0 else t1)).length ≤ (tl b).length - pl := by
    rcases ht with e | e
    · rw [e]
      exact Nat.zero_le _
    · rw [e, List.length_drop]
      exact Nat.le_refl _
  unfold Wd
  rw [tl_word hp]
  refine ⟨?_, ?_, fun c hc => ?_⟩
  · simp only [List.length_append, List.length_cons, List.length_nil]
    omega
  · simp only [List.length_append, List.length_cons, List.length_nil, List.length_take]
    omega
  · rcases List.mem_append.mp hc with h | h
    · exact hs c (List.mem_of_mem_take h)
    · rcases List.mem_append.mp h with h | h
      · have e := List.mem_singleton.mp h
        rw [e, List.getD_eq_getElem?_getD, List.getElem?_eq_getElem lj]
        exact List.getElem_mem lj
      · rcases ht with e | e
        · rw [e] at h
          cases h
        · rw [e] at h
          exact hs c (List.mem_of_mem_drop h)
end Sw
/-! ## own errors whose __init__ says super().__init__(..) -/
namespace Sw
open PySem PySem.Spec PyProof.Rows L2 NdefX
section
variable {prog : Program} {w : World} {A : Around} {E : Value → Shared → Prop} {h : Heap} {g : Array GenState} {d : Drawn} {t : Nat} {os : OsState}
variable {nm q : Str} {C N : Addr} {bs bm : List Value} {hdct : Bool} {sn : List Str} {sub : List Value} {ab : Bool} {col : Option Bool} {dd : Option Addr} {k0 k1 k2 k3 k5 : Option Value}
/-- ValueError's own __init__, bound to the error e, is called -/
theorem call_mw {u e t0 : Addr} {rest : List Value} {Q : Value → Shared → Prop}
    (hC : h.get? C = some (excClassObj nm q C N bs bm hdct sn sub ab col dd k0 k1 k2 k3 k5 "ValueError.__new__")) (he : h.get? e = some (PySem.HandSPX.excO C t0)) (hu : h.get? u = some (PySem.W.kxs_mw "ValueError.__init__" e)) (hrest : rest.length ≤ sizeLine)
    (hq : ∀ (h' : Heap) (t1 : Addr), (∀ b o, b ≠ e → h.get? b = some o → h'.get? b = some o) → h'.get? e = some (PySem.HandSPX.excO C t1) → Q .none ⟨h', g, d, t, os⟩) :
    wpAny (model prog w) A (call (.ref u) rest) Q E ⟨h, g, d, t, os⟩ := by
  have F := PySem.F.excBase_ValueError
  refine wpAny_call (codeAny_of_tree ?_)
  simp only [callAny]
  refine wpAny_bind (wpAny_load hu ?_)
  have b1 : (Value.type "method-wrapper" == Value.type "method" || Value.type "method-wrapper" == Value.type "builtin_function_or_method" || Value.type "method-wrapper" == Value.type "method-wrapper") = true := by decide
  simp only [PySem.W.kxs_mw, b1, if_true]
  refine PySem.W.KFB.if_so (by decide) ?_
  refine wpAny_bind (PySem.ESX.check_bound F hC he rfl (wpAny_bind (wpAny_pure (wpAny_pure ?_))))
  refine ⟨Code.quiet_builtin _ (by decide +kernel), codeAny_builtin F.initEntry ?_⟩
  rw [Around.under_plainId F.init.plain _]
  wp_walk
  refine hq _ h.objs.size (fun b o hb ho => ?_) ?_
  · exact (Heap.get?_update_other _ _ (Ne.symm hb)).trans (Heap.get?_push_of_some _ ho)
  · exact Heap.get?_update_self _ (Heap.get?_push_of_some _ he) rfl
end
end Sw
namespace Sw
open PySem PySem.Spec PyProof.Rows L2 NdefX
theorem look1 {α : Type} (x y : Str) (c : α) : List.lookup y [(x, c)] = if y = x then some c else none := by
  by_cases h : y = x
  · subst h
    simp [List.lookup]
  · have e : (y == x) = false := by simpa using h
    rw [if_neg h]
    simp [List.lookup, e]
/-- what the written part says of an __init__ at f of a class at D that says super() -/
structure SupTxt (P : Program) (K : PySem.W.Frag) (mg : Str → Option Value) (qual : Str) (st : Stmt) (D f cc cda : Addr) (fd : FuncData) : Prop where
  fn : ∃ (oc : Value) (od : Option Addr) (doc pm : Value) (an : Option Addr) (ct : Value) (osl : Array (Option Value)),
    fd = PySem.W.fnX "__init__" qual (defArgs st) (defBody st) (defScope st) [("__class__", cc)] .none .none doc pm an (.ref cda) ct ∧ K.lookup f = some ⟨oc, od, .func fd, osl⟩
  code : PySem.W.codeIn K (.ref cda) qual = true
  file : ∃ (c1 : Value) (c2 : Option Addr) (vs : Array Value) (c3 : Array (Option Value)) (fl : Str) (tf : Tok), K.lookup cda = some ⟨c1, c2, .fields vs, c3⟩ ∧ vs[2]? = some (.str fl tf) ∧ ((P.main.file : Str) == fl) = true
  cell : ∃ (c1 : Value) (c2 : Option Addr) (c3 : Array (Option Value)), K.lookup cc = some ⟨c1, c2, .cell (some (.ref D)), c3⟩
  cls : (PySem.W.clsIn K D).isSome = true
  mro : PySem.W.mroIn K D (.ref D) = some true
  ini : (PySem.W.clsIn K D).bind (fun cd => PySem.W.alongIn K "__init__" ((cd.mro.dropWhile (· != .ref D)).drop 1)) = some (some (.builtin "ValueError.__init__"))
  ve : PySem.W.subIn K (.ref D) (.type "ValueError") = some true
  opq : PySem.W.nsIn K cStatics "thirdparty.any" = some none
  msup : mg "super" = none
  msc : (P.main.scope.names.lookup ("super" : Str)).isSome = false
/-- the context of such an __init__ -/
abbrev sF (qual : Str) (st : Stmt) (cc cda : Addr) : NF := ⟨"__init__", qual, defArgs st, defBody st, defScope st, [("__class__", cc)], cda⟩
section
variable {P : Program} {w : World} {K : PySem.W.Frag} {mg : Str → Option Value} {base : Heap} {qual : Str} {st : Stmt} {D f cc cda : Addr} {fd : FuncData}
theorem fn_super {N ps : List Str} {k : Nat} {sp : Sp} {p0 p1 p2 p3 p4 : Pos} {e : Expr} {rest : List Stmt} {ar : Arg} (T : SupTxt P K mg qual st D f cc cda fd) (O : OexC K D) (S : NScope N ps ["__class__"] (defScope st)) (len : ∀ vs H Q E, sp vs H Q E → vs.length = ps.length)
    (hst : defBody st = .Expr (.Call (.Attribute (.Call (.Name "super" p0) [] [] p1) "__init__" p2) [e] [] p3) p4 :: rest)
    (har : ((defArgs st).posonlyargs ++ (defArgs st).args).head? = some ar) (hp0 : ps[0]? = some ar.arg)
    (hks : (defScope st).names.lookup ("super" : Str) = some .globalImplicit) (hkc : (defScope st).names.lookup ("__class__" : Str) = some .free)
    (hsw : ∀ env : Env, swapsWith (.Call (.Attribute (.Call (.Name "super" p0) [] [] p1) "__init__" p2) [e] [] p3) none p4.line env = pure false)
    (hev : ∀ env : Env, ∃ pl : Sem Bool, eval (.Call (.Attribute (.Call (.Name "super" p0) [] [] p1) "__init__" p2) [e] [] p3) env = (do
      let ov ← attributeBase (.Call (.Name "super" p0) [] [] p1) "__init__" env (eval (.Call (.Name "super" p0) [] [] p1) env)
      standAt p2.atName
      let (f, first) ← holding [ov] (getMethod ov "__init__" pl)
      callWith p3 f first (backTo p3 (starEach [e] env)) []))
    (hse : ∀ env : Env, starEach [e] env = [(false, eval e env)])
    (hbody : ∀ (A : Around) (outer : List Env) (s : Shared) (H : Hp) (vs : List V) (Q : VK) (E : XK), Room k (A.deeper (envF (sF qual st cc cda) f s.heap.objs.size)) → sp vs H Q E →
      ∃ (te : TE) (t : TS) (a : Addr), vs[0]? = some (.ref a) ∧ H a = some (exo a D none) ∧ PE (ncx CX0 P w K mg base N (sF qual st cc cda) f A outer s H E).nox e te ∧ PSs (ncx CX0 P w K mg base N (sF qual st cc cda) f A outer s H E).nox rest t ∧
        te (startF N vs [some (.ref D)]) H (fun y H1 => [y].length = 1 ∧ H1 a = some (exo a D none) ∧ t { nx := fun _ H' => Q .non H', rt := Q } (startF N vs [some (.ref D)]) H1)) :
    FnOk P w K mg base CX0 (k + 1) f fd ps sp := by
  obtain ⟨oc, od, doc, pm, an, ct, osl, rfl, lk⟩ := T.fn
  obtain ⟨f1, f2, vsf, f3, fl, tf, hcda, hvs2, hfl⟩ := T.file
  obtain ⟨c1, c2, c3, hcc⟩ := T.cell
  obtain ⟨nm, q, Nn, bs, bm, sn, sub, ab, col, dd, k0, k1, k2, k3, k5, hD, hbm⟩ := O.cls
  have hcl : PySem.W.clsIn K D = some { name := nm, bases := bs, mro := .ref D :: bm, ns := Nn, qualname := q, hasDict := true, slotNames := sn, subclasses := sub, abstract := ab, collection := col, hasDel := false } := by unfold PySem.W.clsIn; rw [hD] <;> rfl
  refine ⟨len, fun A outer s H args us vs Q E hr e0 hb r hsp => ?_⟩
  have hl := len _ _ _ _ hsp
  have KX : K.In s.heap := e0.mod.kin.keeps fun b o e => (e0.bs b o e).1
  have lim : s.heap.NoLimit := e0.mod.nolimit.keeps fun b o e => (e0.bs b o e).1
  have kb : ∀ (b : Addr) (o : Obj), K.lookup b = some o → H b = none := fun b o e => (e0.bs b o (e0.mod.kin _ _ e)).2
  refine codeAny_call_function hr.depth (KX _ _ lk) rfl S.co S.gen rfl (PySem.W.codeRec_of KX T.code) (hb _ _ _ _ ?_)
  refine wpAny_newFunctionEnv S.nocell (fun ⟨n, _⟩ hy => S.par n (List.of_mem_zip hy).1) (fun h₁ hns hsb => ⟨lim.fresh _ hsb, ?_⟩) S.kind
  show codeAny _ _ (.func (defBody st) (envF (sF qual st cc cda) f s.heap.objs.size)) _ _
  refine PySem.ks_codeAny_funcAt ?_
  have kp : ∀ b o, s.heap.get? b = some o → h₁.get? b = some o := fun b o e => hsb.extBut b o (Nat.ne_of_lt (Heap.lt_size e)) (Heap.get?_push_of_some _ e)
  have clk : ∀ (y : Str) (c : Addr), (sF qual st cc cda).cl.lookup y = some c → y = "__class__" ∧ c = cc := fun y c e => by
    have e : List.lookup y [(("__class__" : Str), cc)] = some c := e
    rw [look1] at e
    split at e
    · rename_i hy
      exact ⟨hy, (Option.some.inj e).symm⟩
    · cases e
  have C : CellsAt (sF qual st cc cda).cl ["__class__"] [some (.ref D)] s.heap H := by
    refine ⟨rfl, fun y c e => ?_, fun x y c e1 e2 => ?_, fun i y hi => ?_⟩
    · obtain ⟨_, rfl⟩ := clk y c e
      exact ⟨kb _ _ hcc, _, ⟨_, KX _ _ hcc, rfl⟩⟩
    · exact (clk x c e1).1.trans (clk y c e2).1.symm
    · match i, hi with
      | 0, hi =>
        have ey : ("__class__" : Str) = y := Option.some.inj hi
        subst ey
        refine ⟨cc, by show List.lookup ("__class__" : Str) [(("__class__" : Str), cc)] = some cc; rw [look1, if_pos rfl], fun v hv => ?_⟩
        have ev : V.ref D = v := Option.some.inj (Option.some.inj hv)
        subst ev
        exact ⟨.ref D, rfl, ⟨_, KX _ _ hcc, rfl⟩⟩
      | i + 1, hi => simp at hi
  have I : Inv (ncx CX0 P w K mg base N (sF qual st cc cda) f A outer s H E) [] (startF N vs [some (.ref D)]) H { s with heap := h₁, toks := s.toks + (ps.zip us).length } := inv_startN S hr.hd e0 hl r C hns kp
  obtain ⟨te, tt, a, hva, hHa, pe, pss, hq⟩ := hbody A outer s H vs Q E (hr.deeper _) hsp
  rw [hst]
  obtain ⟨pl, hev⟩ := hev (envF (sF qual st cc cda) f s.heap.objs.size)
  refine PySem.ks_wpAt_execs_cons (PySem.ks_wpAt_Expr_any (PySem.ks_wpAt_MethodCall ?_ hev) I.quiet (hsw _))
  have KI : K.In h₁ := I.kIn
  refine PySem.ks_wpAt_super_base hks hkc (by decide) rfl (KI _ _ lk) rfl har rfl (KI _ _ hcda) rfl hvs2 hfl T.msc ?_
  obtain ⟨mb, hb1, hb2⟩ := I.mod.blt
  refine PySem.W.ks_loadName_global S.kind hks (Calls.loadGlobal_builtin (I.mod.glob.keeps I.bk) T.msup (hb1.keeps I.bk) ((hb2 _ (by decide)).trans (by decide +kernel)) ⟨rfl, ?_⟩)
  refine wpAny_loadName_free S.kind hkc rfl ⟨_, KI _ _ hcc, rfl⟩ ?_
  have hN0 : N[0]? = some ar.arg := by
    have z : (N.take (ps.length + 1))[0]? = some ar.arg := by
      have y : N.take (ps.length + 1) = ps ++ ([("__class__" : Str)] : List Str) := S.pre
      rw [y, List.getElem?_append_left (List.getElem?_eq_some_iff.mp hp0).1]
      exact hp0
    rw [List.getElem?_take_of_lt (Nat.succ_pos _)] at z
    exact z
  have hka : (defScope st).names.lookup ar.arg = some .local := S.par _ (List.mem_of_getElem? hp0)
  have hs0 : (startF N vs [some (V.ref D)])[0]? = some (some (V.ref a)) := by
    unfold startF
    have lv : 0 < vs.length := (List.getElem?_eq_some_iff.mp hva).1
    rw [List.getElem?_append_left (by rw [List.length_map]; exact lv), List.getElem?_map, hva]
    rfl
  obtain ⟨m, hnl, hm⟩ := I.loc
  obtain ⟨u, hu, hlook⟩ := hm 0 ar.arg (.ref a) hN0 hs0 (.inl hka)
  obtain rfl : u = Value.ref a := hu
  have hmx : m ar.arg = some (.ref a) := by
    rcases hlook with ⟨_, z⟩ | ⟨z, _⟩
    · exact z
    · have z : (defScope st).names.lookup ar.arg = some .cell ∨ (defScope st).names.lookup ar.arg = some .free := z
      rw [hka] at z
      rcases z with z | z <;> cases z
  refine wpAny_loadName_local S.kind hka hnl hmx ?_
  have hD1 := KI _ _ hD
  refine PySem.ks_wpAny_isType_cls hD1 rfl ⟨rfl, ?_⟩
  obtain ⟨t0, hexo⟩ := exo_at I.hok hHa
  refine PySem.ks_wpAny_call_super hD1 rfl hexo rfl (fun c e => by cases e) (PySem.W.looks_mroIn KI T.mro) (fun h2 hso k2 => ?_)
  have I2 : Inv (ncx CX0 P w K mg base N (sF qual st cc cda) f A outer s H E) [] (startF N vs [some (.ref D)]) H { s with heap := h2, toks := s.toks + (ps.zip us).length } := I.kept (t' := s.toks + (ps.zip us).length) k2
  have K2 : K.In h2 := I2.kIn
  have J2 : PySem.W.InstAt h2 a (PySem.HandSPX.excO D t0) D none := ⟨k2 _ _ hexo, rfl, rfl, trivial⟩
  have hini : PySem.W.alongIn K "__init__" (((Value.ref D :: bm).dropWhile (· != .ref D)).drop 1) = some (some (.builtin "ValueError.__init__")) := by
    have z := T.ini
    rw [hcl] at z
    exact z
  refine PySem.W.kxs_getMethod PySem.W.kxs_ValueError hso (PySem.W.looks_opaque K2 T.opq) (l₀ := .ref D :: bm) (fun A Q E s k q => wpAny_bind ((PySem.W.looks_clsIn K2 hcl) A _ E s k (wpAny_pure q))) rfl K2 hini (J2.type.andThen (PySem.W.looks_subIn K2 T.ve)) (PySem.W.ks_ne K2 J2 hcl) (by decide) ?_
  -- the bound __init__, pinned
  have kp3 : ∀ b o, h2.get? b = some o → (h2.push (PySem.W.kxs_mw "ValueError.__init__" a)).get? b = some o := fun b o e => Heap.get?_push_of_some _ e
  have hu3 : (h2.push (PySem.W.kxs_mw "ValueError.__init__" a)).get? h2.objs.size = some (PySem.W.kxs_mw "ValueError.__init__" a) := Heap.get?_push_size _ rfl
  have fp : FpOk (ncx CX0 P w K mg base N (sF qual st cc cda) f A outer s H E) [] H h2.objs.size := I2.fpOk (Nat.le_refl _) (I2.hok.fresh (Nat.le_refl _))
  have I3 := (I2.kept (t' := s.toks + (ps.zip us).length + 1) kp3).pinned (fp := [h2.objs.size]) (fun b hb => by rw [List.mem_singleton.mp hb]; exact fp) (fun b hb => by rw [List.mem_singleton.mp hb]; exact ⟨_, hu3, fun v e => by cases e⟩)
  rw [hse]
  refine PySem.W.kxs_callWith (i := "ValueError.__init__") (x := a) rfl (Calls.evalArgs_plain ?_)
  have pa : PA (ncx CX0 P w K mg base N (sF qual st cc cda) f A outer s H E).nox [e] (tCons te tNil) := pa_cons pe pa_nil (hse _)
  have run := pa.run p3 _ _ _ _ (fun vs1 H1 => vs1.length = 1 ∧ H1 a = some (exo a D none) ∧ tt { nx := fun _ H' => Q .non H', rt := Q } (startF N vs [some (.ref D)]) H1) (I3.wish fun _ _ => False) hq
  rw [hse] at run
  refine wpAny_mono run (fun us1 s1 hh => ?_) fun _ _ z => z.elim
  obtain ⟨vs1, H1, I4, r4, l4, hH1a, hq4⟩ := hh
  have hpin := I4.pin (h2.objs.size, PySem.W.kxs_mw "ValueError.__init__" a) (List.mem_append_right _ (List.mem_append_right _ (mem_pinsAt (List.mem_singleton.mpr rfl) hu3)))
  refine ⟨hpin.1, ?_⟩
  obtain ⟨t1, hexo1⟩ := exo_at I4.hok hH1a
  have lus : ([] ++ us1 : List Value).length ≤ sizeLine := by
    have z := r4.length
    rw [List.nil_append, ← z, l4]
    decide
  obtain ⟨hp4, g4, d4, tk4, os4⟩ := s1
  refine call_mw (I4.kIn _ _ hD) hexo1 hpin.1 lus fun h5 t5 k5 hx5 => ?_
  have J := I4.write (t' := tk4) (x := a) (e := a) (o := exo a D none) (by rw [hH1a]; exact True.intro) (.inl rfl) k5 ⟨_, hx5⟩ (exo_ok hx5)
  have eu : upd H1 a (exo a D none) = H1 := by
    funext b
    by_cases hb : b = a
    · rw [hb, upd_same, hH1a]
    · rw [upd_ne hb]
  rw [eu] at J
  show _root_.PySem.wpAt _ _ _ (execs rest _) _ _ _
  refine wpAt_of_wpAny (wpAny_mono (pss.run [] _ _ _ _ J.unpinned hq4) (fun fl s' hs => ?_) fun _ _ z => z.elim)
  have fin : ∀ {σ' : L2.St} {H' : Hp} {v : V} {u : Value}, Inv (ncx CX0 P w K mg base N (sF qual st cc cda) f A outer s H E).nox [] σ' H' s' → L2.RelV v u → Q v H' → CE outer P w H s Q u s' :=
    fun {σ' H' v u} J rv q => ⟨v, H', J.os, J.bare, J.base, J.hok, rv, q⟩
  cases fl with
  | ret u =>
    obtain ⟨v, σ', H', J, rv, q⟩ := hs
    exact fin J rv q
  | next =>
    obtain ⟨σ', H', J, q⟩ := hs
    exact fin (v := V.non) (u := Value.none) J rfl q
  | brk =>
    obtain ⟨_, _, _, q⟩ := hs
    exact False.elim q
  | cont =>
    obtain ⟨_, _, _, q⟩ := hs
    exact False.elim q
end
end Sw
namespace Sw
open PySem PySem.Spec PyProof.Rows L2 NdefX
/-- __init__ of an own error with one field: the field lies in the error's own dict, new -/
def spErr (D : Addr) (fld : Str) (Pv : V → Hp → Prop) : Sp := fun vs H Q _ => ∃ (a : Addr) (v : V), vs = [.ref a, v] ∧ H a = some (exo a D none) ∧ Pv v H ∧
  ∀ dx, H dx = none → dx ≠ a → Q .non (upd (upd H dx (exd dx [(fld, v)])) a (exo a D (some dx)))
/-- the value is a short text -/
def PStr (v : V) (_ : Hp) : Prop := ∃ z : Str, v = .str z ∧ z.length ≤ 1000
theorem room_len {a b : Nat} (h : a + b ≤ 2000) : a + b ≤ sizeLine := Nat.le_trans h (by decide)
theorem str_app_len (x y : Str) : (x ++ y).length = x.length + y.length := by
  rw [len_tl, len_tl, len_tl, TL.tl_append, List.length_append]
end Sw
namespace Sw
open PySem PySem.Spec PyProof.Rows L2 NdefX
/-- an own error with one field is made: what is left to show behind its argument -/
theorem mk_err {D : Addr} {fld : Str} {Pv : V → Hp → Prop} {v : V} {H1 : Hp} {Q : XK} (hp : ∀ a, H1 a = none → Pv v (upd H1 a (exo a D none))) (q : ∀ dd, H1 dd = none → Q (.ref D) (some dd) (upd H1 dd (.xd [(fld, v)]))) :
    [v].length ≤ 1000 ∧ ∀ a, H1 a = none → spErr D fld Pv (.ref a :: ([v] ++ [])) (upd H1 a (exo a D none)) (fun u H2 => u = .non ∧ ∃ (d : Addr) (fs : List (Str × V)), H2 a = some (exo a D (some d)) ∧ H2 d = some (exd d fs) ∧ H1 d = none ∧ Q (.ref D) (some d) (upd (del H2 a) d (.xd fs))) (fun _ _ _ => False) := by
  refine ⟨by show 1 ≤ 1000; decide, fun a ha => ⟨a, v, rfl, upd_same, hp a ha, fun dx h1 h2 => ⟨rfl, dx, [(fld, v)], upd_same, ?_, ?_, ?_⟩⟩⟩
  · rw [upd_ne h2, upd_same]
  · rw [upd_ne h2] at h1
    exact h1
  · have h3 : H1 dx = none := by
      rw [upd_ne h2] at h1
      exact h1
    have e : upd (del (upd (upd (upd H1 a (exo a D none)) dx (exd dx [(fld, v)])) a (exo a D (some dx))) a) dx (.xd [(fld, v)]) = upd H1 dx (.xd [(fld, v)]) := by
      funext b
      by_cases hb : b = dx
      · rw [hb, upd_same, upd_same]
      · rw [upd_ne hb, upd_ne hb]
        by_cases hba : b = a
        · rw [hba, del_same, ha]
        · rw [del_ne hba, upd_ne hba, upd_ne hb, upd_ne hba]
    rw [e]
    exact q dx h3
/-- what the text says of an own error class with one field -/
structure ErrTxt (P : Program) (K : PySem.W.Frag) (mg : Str → Option Value) (x qual : Str) (st : Stmt) (D f cc cda : Addr) (fd : FuncData) (fld : Str) : Prop where
  sup : SupTxt P K mg qual st D f cc cda fd
  oex : OexC K D
  nf : PySem.W.findIn K (.ref D) fld = some none
  gC : mg x = some (.ref D)
  iC : PySem.W.findIn K (.ref D) "__init__" = some (some (.ref f))
  tI : PySem.W.typeIn K (.ref f) = some (.type "function")
  bd : Binds K fd ["self", fld] []
end Sw
/-! ## dicts of what occurs, strictly ascending lists -/
namespace Sw
open PySem PySem.Spec PyProof.Rows L2
section
variable {X : Cx}
theorem PE.or {e : Expr} {t1 t2 : TE} (h1 : PE X e t1) (h2 : PE X e t2) : PE X e (fun σ H Q => t1 σ H Q ∨ t2 σ H Q) := ⟨fun pins s σ H Q I h => h.elim (h1.run pins s σ H Q I) (h2.run pins s σ H Q I)⟩
theorem PS.or {st : Stmt} {t1 t2 : TS} (h1 : PS X st t1) (h2 : PS X st t2) : PS X st (fun D σ H => t1 D σ H ∨ t2 D σ H) := ⟨fun pins s σ H D I h => h.elim (h1.run pins s σ H D I) (h2.run pins s σ H D I)⟩
theorem PI.or {tg e : Expr} {t1 t2 : TI} (h1 : PI X tg e t1) (h2 : PI X tg e t2) : PI X tg e (fun σ H R => t1 σ H R ∨ t2 σ H R) := ⟨fun pins s σ H R I h => h.elim (h1.run pins s σ H R I) (h2.run pins s σ H R I)⟩
end
/-- a dict whose keys are the us, each with True -/
def onceK {α : Type} (f : α → Key) (us : List α) : List (Key × V) := us.map fun u => (f u, V.bl true)
theorem onceK_val {α : Type} {f : α → Key} (inj : ∀ a b, f a = f b → a = b) : ∀ (us : List α) (u : α), (u ∈ us → valV (onceK f us) (f u) = some (V.bl true)) ∧ (u ∉ us → valV (onceK f us) (f u) = none)
  | [], u => ⟨fun h => (nomatch h), fun _ => rfl⟩
  | x :: r, u => by
    have ih := onceK_val inj r u
    by_cases e : f x = f u
    · refine ⟨fun _ => valV_pos (p := (f x, V.bl true)) e, fun h => absurd (List.mem_cons.mpr (.inl (inj _ _ e).symm)) h⟩
    · have e2 : valV (onceK f (x :: r)) (f u) = valV (onceK f r) (f u) := valV_neg (p := (f x, V.bl true)) e
      rw [e2]
      refine ⟨fun h => ih.1 ?_, fun h => ih.2 fun z => h (List.mem_cons_of_mem _ z)⟩
      rcases List.mem_cons.mp h with h | h
      · exact absurd (congrArg f h.symm) e
      · exact h
theorem onceK_put {α : Type} [DecidableEq α] {f : α → Key} (inj : ∀ a b, f a = f b → a = b) (us : List α) (u : α) : putK (onceK f us) (f u) (V.bl true) = onceK f (if u ∈ us then us else us ++ [u]) := by
  by_cases h : u ∈ us
  · rw [if_pos h]
    have hv := (onceK_val inj us u).1 h
    unfold putK
    rw [valV_any, hv]
    show (onceK f us).map _ = _
    have e : ∀ kv ∈ onceK f us, (if kv.1 = f u then (kv.1, V.bl true) else kv) = kv := by
      intro kv hk
      obtain ⟨x, _, rfl⟩ := List.mem_map.mp hk
      split <;> rfl
    exact (List.map_congr_left e).trans (List.map_id _)
  · rw [if_neg h, putK_new _ ((onceK_val inj us u).2 h)]
    unfold onceK
    rw [List.map_append]
    rfl
/-- the different ones of l, as far as they were met -/
structure Once {α : Type} (us l : List α) : Prop where
  nd : us.Nodup
  mem : ∀ x, x ∈ us ↔ x ∈ l
  len : us.length ≤ l.length
theorem Once.nil {α : Type} : Once ([] : List α) [] := ⟨List.nodup_nil, fun _ => Iff.rfl, Nat.le_refl _⟩
theorem Once.snoc {α : Type} [DecidableEq α] {us l : List α} (o : Once us l) (u : α) : Once (if u ∈ us then us else us ++ [u]) (l ++ [u]) := by
  by_cases h : u ∈ us
  · rw [if_pos h]
    refine ⟨o.nd, fun x => ?_, by rw [List.length_append]; exact Nat.le_trans o.len (Nat.le_add_right _ _)⟩
    rw [List.mem_append, o.mem, List.mem_singleton]
    refine ⟨.inl, fun z => z.elim id fun e => ?_⟩
    rw [e]
    exact (o.mem u).mp h
  · rw [if_neg h]
    refine ⟨nd_snoc o.nd h, fun x => ?_, by rw [List.length_append, List.length_append]; exact Nat.add_le_add_right o.len 1⟩
    rw [List.mem_append, List.mem_append, o.mem]
theorem take_snoc {α : Type} : ∀ {l : List α} {i : Nat} {x : α}, l[i]? = some x → l.take (i + 1) = l.take i ++ [x]
  | [], i, x, h => by simp at h
  | a :: l, 0, x, h => by
    have e : a = x := Option.some.inj h
    rw [← e]
    rfl
  | a :: l, i + 1, x, h => by
    show a :: l.take (i + 1) = a :: (l.take i ++ [x])
    rw [take_snoc (l := l) (i := i) (x := x) h]
/-- strictly ascending texts: by their signs -/
def SLt (x y : Str) : Prop := x.cps.toList < y.cps.toList
def AscS (ws : List Str) : Prop := ws.Pairwise SLt
def AscI (ns : List Int) : Prop := ns.Pairwise (· < ·)
theorem tl_inj {x y : Str} (h : x.cps.toList = y.cps.toList) : x = y := by
  obtain ⟨⟨a⟩⟩ := x
  obtain ⟨⟨b⟩⟩ := y
  have h : a = b := h
  rw [h]
theorem SLt.trans {x y z : Str} (h1 : SLt x y) (h2 : SLt y z) : SLt x z := List.lt_trans h1 h2
theorem SLt.irrefl (x : Str) : ¬ SLt x x := List.lt_irrefl _
theorem SLt.tri (x y : Str) (h1 : ¬ SLt y x) (ne : x ≠ y) : SLt x y := by
  have h2 : x.cps.toList ≤ y.cps.toList := h1
  rcases List.le_iff_lt_or_eq.mp h2 with h | h
  · exact h
  · exact absurd (tl_inj h) ne
theorem asc_of_rising : ∀ (l : List Str) (p : Str), PyProof.Rows.risingS p l = true → (p :: l).Nodup → AscS (p :: l)
  | [], p, _, _ => List.pairwise_singleton ..
  | x :: r, p, h, nd => by
    have h : (!PySem.Spec.ltCps x.cps.toList p.cps.toList && PyProof.Rows.risingS x r) = true := h
    obtain ⟨h1, h2⟩ := Bool.and_eq_true_iff.mp h
    obtain ⟨n1, n2⟩ := List.nodup_cons.mp nd
    have ih := asc_of_rising r x h2 n2
    have hpx : SLt p x := by
      refine SLt.tri p x (fun z => ?_) (fun e => n1 (by rw [e]; exact List.mem_cons_self))
      rw [ltCps_eq, decide_eq_true (show x.cps.toList < p.cps.toList from z)] at h1
      cases h1
    refine List.pairwise_cons.mpr ⟨fun y hy => ?_, ih⟩
    rcases List.mem_cons.mp hy with e | hy
    · rw [e]
      exact hpx
    · exact hpx.trans ((List.pairwise_cons.mp ih).1 y hy)
theorem asc_of_sorted {l : List Str} (h : sortedS l = true) (nd : l.Nodup) : AscS l := by
  cases l with
  | nil => exact List.Pairwise.nil
  | cons x r => exact asc_of_rising r x h nd
theorem ascI_of {l : List Int} (h : l.Pairwise (· ≤ ·)) (nd : l.Nodup) : AscI l := by
  have nd2 : l.Pairwise (· ≠ ·) := nd
  exact (List.pairwise_and_iff.mpr ⟨h, nd2⟩).imp fun ⟨a, b⟩ => by omega
/-- what is strictly ascending is told by its members -/
theorem asc_unique {α : Type} {R : α → α → Prop} (irr : ∀ x, ¬ R x x) (tr : ∀ x y z, R x y → R y z → R x z) : ∀ (a b : List α), a.Pairwise R → b.Pairwise R → (∀ x, x ∈ a ↔ x ∈ b) → a = b
  | [], [], _, _, _ => rfl
  | [], y :: b, _, _, h => absurd ((h y).mpr List.mem_cons_self) (by simp)
  | x :: a, [], _, _, h => absurd ((h x).mp List.mem_cons_self) (by simp)
  | x :: a, y :: b, pa, pb, h => by
    obtain ⟨ha, pa'⟩ := List.pairwise_cons.mp pa
    obtain ⟨hb, pb'⟩ := List.pairwise_cons.mp pb
    have exy : x = y := by
      rcases List.mem_cons.mp ((h x).mp List.mem_cons_self) with e | hx
      · exact e
      · rcases List.mem_cons.mp ((h y).mpr List.mem_cons_self) with e | hy
        · exact e.symm
        · exact absurd (tr _ _ _ (hb x hx) (ha y hy)) (irr y)
    subst exy
    have hm : ∀ z, z ∈ a ↔ z ∈ b := fun z => by
      constructor
      · intro hz
        rcases List.mem_cons.mp ((h z).mp (List.mem_cons_of_mem _ hz)) with e | q
        · rw [e] at hz
          exact absurd (ha x hz) (irr x)
        · exact q
      · intro hz
        rcases List.mem_cons.mp ((h z).mpr (List.mem_cons_of_mem _ hz)) with e | q
        · rw [e] at hz
          exact absurd (hb x hz) (irr x)
        · exact q
    rw [asc_unique irr tr a b pa' pb' hm]
theorem ascS_unique {a b : List Str} (ha : AscS a) (hb : AscS b) (h : ∀ x, x ∈ a ↔ x ∈ b) : a = b := asc_unique SLt.irrefl (fun _ _ _ => SLt.trans) a b ha hb h
theorem ascI_unique {a b : List Int} (ha : AscI a) (hb : AscI b) (h : ∀ x, x ∈ a ↔ x ∈ b) : a = b := asc_unique (fun x => Int.lt_irrefl x) (fun _ _ _ => Int.lt_trans) a b ha hb h
end Sw
namespace Sw
open PySem PySem.Spec PyProof.Rows L2
structure Blt2 (mg : Str → Option Value) : Prop where
  tuple : mg "tuple" = none
  sorted : mg "sorted" = none
  str : mg "str" = none
  int : mg "int" = none
theorem bTuple : bootBuiltins "tuple" = some (.type "tuple") := by decide +kernel
theorem bSorted : bootBuiltins "sorted" = some (.builtin "sorted") := by decide +kernel
theorem bStr : bootBuiltins "str" = some (.type "str") := by decide +kernel
/-- words to be had at a: a list, a tuple, a dict's keys -/
def Words (K : PySem.W.Frag) (H : Hp) (a : Addr) (ws : List Str) : Prop :=
  (SqL K H a (ws.map V.str) ∨ SqT K H a (ws.map V.str)) ∨ ∃ kvs : List (Key × V), H a = some (.dK kvs) ∧ kvs.map (·.1) = ws.map Sum.inr
/-- ascending(words) -/
def spAsc (K : PySem.W.Frag) : Sp := fun vs H Q _ => ∃ (a : Addr) (ws : List Str), vs = [.ref a] ∧ Words K H a ws ∧ ws.length < 64 ∧
  ∀ (H' : Hp) (p : Addr) (us : List Str), Same H H' → H p = none → H' p = some (.tup (us.map V.str)) → AscS us → (∀ x, x ∈ us ↔ x ∈ ws) → Q (.ref p) H'
theorem bList : bootBuiltins "list" = some (.type "list") := by decide +kernel
/-- once(things) over texts -/
def spOnce (K : PySem.W.Frag) : Sp := fun vs H Q _ => ∃ (a : Addr) (ws : List Str), vs = [.ref a] ∧ Words K H a ws ∧ ws.length < 64 ∧
  ∀ (H' : Hp) (p : Addr) (us : List Str), Same H H' → H p = none → H' p = some (.lst (us.map V.str)) → Once us ws → Q (.ref p) H'
/-- a value of a dict of values: its key, where it stands, its words -/
abbrev Ent := Key × Addr × List Str
/-- at a: a dict of lists or tuples of words -/
structure LDict (K : PySem.W.Frag) (H : Hp) (a : Addr) (es : List Ent) : Prop where
  at_ : H a = some (.dK (es.map fun e => (e.1, V.ref e.2.1)))
  nd : (es.map (·.1)).Nodup
  len : es.length ≤ 100
  all : ∀ e ∈ es, (SqL K H e.2.1 (e.2.2.map V.str) ∨ SqT K H e.2.1 (e.2.2.map V.str)) ∧ e.2.2.length < 64
/-- at a: a dict of ascending tuples of words -/
structure TDict (H : Hp) (a : Addr) (rs : List Ent) : Prop where
  at_ : H a = some (.dK (rs.map fun e => (e.1, V.ref e.2.1)))
  all : ∀ r ∈ rs, H r.2.1 = some (.tup (r.2.2.map V.str)) ∧ AscS r.2.2
/-- with the same keys, and the same words -/
def Alike (es rs : List Ent) : Prop := Paired (fun (e r : Ent) => r.1 = e.1 ∧ ∀ x, x ∈ r.2.2 ↔ x ∈ e.2.2) es rs
/-- with_ascending(values) -/
def spWA (K : PySem.W.Frag) : Sp := fun vs H Q _ => ∃ (v : V) (es : List Ent), vs = [v] ∧ ((v = .non ∧ es = []) ∨ ∃ a, v = .ref a ∧ LDict K H a es) ∧
  ∀ (H' : Hp) (d : Addr) (rs : List Ent), Same H H' → H d = none → TDict H' d rs → Alike es rs → Q (.ref d) H'
theorem TDict.same {H H' : Hp} {a : Addr} {rs : List Ent} (t : TDict H a rs) (s : Same H H') : TDict H' a rs := ⟨s _ _ t.at_, fun r hr => ⟨s _ _ (t.all r hr).1, (t.all r hr).2⟩⟩
theorem Alike.keys {es rs : List Ent} (h : Alike es rs) : rs.map (·.1) = es.map (·.1) := by
  unfold Alike at h
  induction h with
  | nil => rfl
  | cons h _ ih => rw [List.map_cons, List.map_cons, ih, h.1]
theorem Alike.snoc {es rs : List Ent} {e r : Ent} (h : Alike es rs) (h1 : r.1 = e.1) (h2 : ∀ x, x ∈ r.2.2 ↔ x ∈ e.2.2) : Alike (es ++ [e]) (rs ++ [r]) := by
  unfold Alike at h ⊢
  induction h with
  | nil => exact .cons ⟨h1, h2⟩ .nil
  | cons a _ ih => exact .cons a ih
theorem valV_of_nd {κ : Type} [DecidableEq κ] : ∀ {kvs : List (κ × V)} {k : κ} {v : V}, (kvs.map (·.1)).Nodup → (k, v) ∈ kvs → valV kvs k = some v
  | [], _, _, _, h => (nomatch h)
  | p :: r, k, v, nd, h => by
    have nd : (p.1 :: r.map (·.1)).Nodup := nd
    obtain ⟨n1, n2⟩ := List.nodup_cons.mp nd
    rcases List.mem_cons.mp h with e | h
    · rw [← e]
      exact valV_pos (p := (k, v)) rfl
    · rw [valV_neg fun e => n1 (by rw [e]; exact List.mem_map.mpr ⟨_, h, rfl⟩)]
      exact valV_of_nd n2 h
theorem sqL_lock {K : PySem.W.Frag} {H : Hp} {a la : Addr} {o : HO} {kvs : List (Key × V)} {xs : List V} (ha : H a = some (.dK kvs)) (h : SqL K H la xs) : SqL K (upd H a o) la xs := by
  rcases h with (h | ⟨u, h⟩) | h
  · exact .inl (.inl (by rw [upd_ne (ne_of h ha (fun z => nomatch z))]; exact h))
  · exact .inl (.inr ⟨u, by rw [upd_ne (ne_of h ha (fun z => nomatch z))]; exact h⟩)
  · exact .inr h
theorem sqT_lock {K : PySem.W.Frag} {H : Hp} {a la : Addr} {o : HO} {kvs : List (Key × V)} {xs : List V} (ha : H a = some (.dK kvs)) (h : SqT K H la xs) : SqT K (upd H a o) la xs := by
  rcases h with (h | ⟨u, h⟩) | h
  · exact .inl (.inl (by rw [upd_ne (ne_of h ha (fun z => nomatch z))]; exact h))
  · exact .inl (.inr ⟨u, by rw [upd_ne (ne_of h ha (fun z => nomatch z))]; exact h⟩)
  · exact .inr h
/-- behind the lock all is as it was, and what came new -/
theorem unlock_same {H H' : Hp} {a : Addr} {u w : HO} (ha : H a = some u) (s : Same (upd H a w) H') : Same H (upd H' a u) := fun b o e => by
  by_cases hb : b = a
  · rw [hb, upd_same]
    rw [hb, ha] at e
    exact e
  · rw [upd_ne hb]
    exact s b o (by rw [upd_ne hb]; exact e)
end Sw
namespace Sw
open PySem PySem.Spec PyProof.Rows L2
section
variable {X : Cx}
/-- y = {k: v for .. in ..} on one row, y a local name -/
theorem ps_setDc {i : Nat} {y : Str} {py : Pos} {kx vx tg iter : Expr} {ifs : List Expr} {scope : Scope} {own : List (Str × Nat)} {pos spos : Pos} {wi : TI} {g : TG} {tt : TT} {tk tv : TE} (hc : X.calm = true) (hN : X.N.Nodup) (hy : X.N[i]? = some y) (hyl : X.env.scope.names.lookup y = some .local)
    (hsw : swapsWith (.DictComp kx vx [⟨tg, iter, ifs, 0⟩] scope pos) (some (.Name y py)) spos.line X.env = pure true) (hi : PI X tg iter wi) (ok : BlkOk X.N X.env.scope scope own)
    (hg : ∀ (s : Shared) (H : Hp) (C : Addr) (cl : List (Str × Addr)) (fp : List Addr), PG (X.blk s H scope (compEnvC scope cl C X.env) fp) tg g) (ht : ∀ (s : Shared) (H : Hp) (C : Addr) (cl : List (Str × Addr)) (fp : List Addr), PTs (X.blk s H scope (compEnvC scope cl C X.env) fp) ifs tt) (hk : ∀ (s : Shared) (H : Hp) (C : Addr) (cl : List (Str × Addr)) (fp : List Addr), PE (X.blk s H scope (compEnvC scope cl C X.env) fp) kx tk)
    (he : ∀ (s : Shared) (H : Hp) (C : Addr) (cl : List (Str × Addr)) (fp : List Addr), PE (X.blk s H scope (compEnvC scope cl C X.env) fp) vx tv) (hs : ∀ x, foldedSetIterable iter X.env x = pure x := by intro _; rfl) :
    PS X (.Assign [.Name y py] (.DictComp kx vx [⟨tg, iter, ifs, 0⟩] scope pos) spos) (tAsg (tDc wi g tt tk tv (own.map (·.2))) (gName i)) := by
  refine ⟨fun pins s σ H D I h => ?_⟩
  have hw : tDc wi g tt tk tv (own.map (·.2)) σ H (fun x H1 => gName i x σ H1 D.nx) := h
  rw [exec_Assign_Name_used _ _ _ _ hsw]
  refine wpAny_bind (wpAny_standAt (wpAny_bind (?_ : wpAny _ X.A (do let _ ← comprehension (.DictComp kx vx [⟨tg, iter, ifs, 0⟩] scope pos) scope X.env (firstIterPos [⟨tg, iter, ifs, 0⟩] pos) newDict false (eval iter X.env) (some (assign (.Name y py) X.env))) _ _ s)))
  refine wpAny_bind (thn (dc_core (Qf := fun _ s' => SP X pins D .next s') hc hN I hi ok hg ht hk he hs hw fun L C s' m H' I' q hn f => ?_) fun _ s' hq => wpAny_pure (wpAny_pure hq))
  refine (wpAny_assign_Name (store_ok2 (v := V.ref L) I' hN hy (.inl hyl) rfl (fun s2 I2 ⟨a, sb, ha⟩ => ?_) (.inr hyl)) : wpAny _ _ (assign (.Name y py) X.env (.ref L)) _ _ _)
  obtain ⟨f0, f1, f2, f3, f4, f5⟩ := f
  have hCa : C ≠ a := ha.elim (fun z => by rw [z]; exact f1) fun z e => f4 y a z e.symm
  exact ⟨m, hn.sameBut sb hCa, fun h3 sb3 => ⟨_, H', I2.turned (t' := s2.toks) (fun b o hb e => (sb3.2 b hb).trans e) f0 f1 f3 f4 f5, q⟩⟩
theorem sw_dict {kx vx : Expr} {gs : List Comprehension} {scope : Scope} {pos py : Pos} {y : Str} {l : Nat} {env : Env} (hk : env.scope.kind = .function) (hy : env.scope.names.lookup y = some .local) (hl : (py.line == pos.line) = true)
    (ha : (scope.names.any fun (n, k) => n == y && (k == .local || k == .cell)) = false) : swapsWith (.DictComp kx vx gs scope pos) (some (.Name y py)) l env = pure true := by
  have hky : env.kindOf y = some .local := hy
  have hbk : env.blockKind = .function := by
    unfold Env.blockKind
    rw [hk] <;> rfl
  unfold swapsWith
  simp only [hbk, hky, ha, Expr.pos, hl] <;> rfl
end
end Sw
/-! ## comprehensions of one name -/
namespace Sw
open PySem PySem.Spec PyProof.Rows L2
theorem same_seqT {K : PySem.W.Frag} {H H' : Hp} {a : Addr} {xs : List V} (e : Same H H') (h : SqT K H a xs) : SqT K H' a xs := by
  rcases h with (h | ⟨o, h⟩) | h
  · exact .inl (.inl (e _ _ h))
  · exact .inl (.inr ⟨o, e _ _ h⟩)
  · exact .inr h
theorem wipe_set (σ : L2.St) (j : Nat) (x : Option V) : wipe ((wipe σ [j]).set j x) [j] = wipe σ [j] := by
  show (((σ.set j none).set j x).set j none) = σ.set j none
  rw [List.set_set, List.set_set]
theorem wipe_var {σ : L2.St} {j : Nat} (h : j < σ.length) (x : V) : ((wipe σ [j]).set j (some x))[j]? = some (some x) := by
  rw [List.getElem?_set_self]
  show j < (σ.set j none).length
  rw [List.length_set]
  exact h
/-- {x: True for x in ..} -/
theorem dc_once {J : It} {α : Type} [DecidableEq α] {f : α → Key} (inj : ∀ a b, f a = f b → a = b) {l : List α} {G : Hp → Prop} (w : Walk J l.length G (fun i H x H' => H' = H ∧ ∃ u, l[i]? = some u ∧ x = kV (f u))) {j : Nat} {σ : L2.St} (hj : j < σ.length)
    {H1 : Hp} {D : Addr} {Qd : Hp → Prop} (hG : ∀ o, G (upd H1 D o)) (hl : l.length ≤ 1000) (hd : ∀ us, Once us l → Qd (upd H1 D (.dK (onceK f us)))) :
    ∃ W : Nat → Nat → Hp → Prop, (∃ m, W 0 m (upd H1 D (.dK []))) ∧ ∀ i m H, W i m H →
      (J.stop i H ∧ Qd H) ∨ (J.go i H ∧ ∃ Nx : Hp → Prop, (∀ H', Nx H' → ∃ m', m' < m ∧ W (i + 1) m' H') ∧ ∀ x H', J.yld i H x H' → gName j x (wipe σ [j]) H' fun σ2 H2 => wipe σ2 [j] = wipe σ [j] ∧ tYes σ2 H2 fun b H3 =>
        if b = true then tVar j σ2 H3 fun y H4 => tC (.bl true) σ2 H4 fun z H5 => ∃ kvs k, y = kV k ∧ H5 D = some (.dK kvs) ∧ kvs.length < sizeLine ∧ Nx (upd H5 D (.dK (putK kvs k z))) else Nx H3) := by
  refine ⟨fun i m H => m = l.length - i ∧ i ≤ l.length ∧ ∃ us, Once us (l.take i) ∧ H = upd H1 D (.dK (onceK f us)), ⟨l.length, rfl, Nat.zero_le _, [], Once.nil, rfl⟩, ?_⟩
  rintro i m H ⟨rfl, hi, us, o, rfl⟩
  by_cases hlt : i < l.length
  · refine .inr ⟨w.goes i _ hlt (hG _), fun H' => ∃ us, Once us (l.take (i + 1)) ∧ H' = upd H1 D (.dK (onceK f us)), fun H' ⟨us', o', e⟩ => ⟨l.length - (i + 1), by omega, rfl, hlt, us', o', e⟩, fun x H' y => ?_⟩
    obtain ⟨rfl, u, hu, rfl⟩ := w.yields i _ _ _ hlt (hG _) y
    refine ⟨wipe_set σ j _, ?_⟩
    refine ⟨kV (f u), wipe_var hj _, onceK f us, f u, rfl, upd_same, ?_, if u ∈ us then us else us ++ [u], ?_, ?_⟩
    · unfold onceK
      rw [List.length_map]
      refine Nat.lt_of_le_of_lt o.len ?_
      rw [List.length_take]
      exact Nat.lt_of_le_of_lt (Nat.min_le_right _ _) (small1000 hl)
    · rw [take_snoc hu]
      exact o.snoc u
    · rw [onceK_put inj, upd_upd]
  · have e : i = l.length := by omega
    subst e
    rw [List.take_length] at o
    exact .inl ⟨w.stops _ (hG _), hd us o⟩
/-- {k: v for x in ..}: what holds by the turn and the heap, the new dict at D within -/
theorem dc_it {J : It} {n : Nat} {G : Hp → Prop} {Y : Nat → Hp → V → Hp → Prop} (w : Walk J n G Y) {g : TG} {tt : TT} {tk tv : TE} {vs : List Nat} {σ : L2.St} {H1 : Hp} {D : Addr} {Qd : Hp → Prop} (Pv : Nat → Hp → Prop) (h0 : Pv 0 (upd H1 D (.dK []))) (hG : ∀ i H, i ≤ n → Pv i H → G H)
    (hs : ∀ i x H H', i < n → Pv i H → Y i H x H' → g x (wipe σ vs) H' fun σ2 H2 => wipe σ2 vs = wipe σ vs ∧ tt σ2 H2 fun b H3 =>
      if b = true then tk σ2 H3 fun y H4 => tv σ2 H4 fun z H5 => ∃ kvs k, y = kV k ∧ H5 D = some (.dK kvs) ∧ kvs.length < sizeLine ∧ Pv (i + 1) (upd H5 D (.dK (putK kvs k z))) else Pv (i + 1) H3) (hd : ∀ H, Pv n H → Qd H) :
    ∃ W : Nat → Nat → Hp → Prop, (∃ m, W 0 m (upd H1 D (.dK []))) ∧ ∀ i m H, W i m H →
      (J.stop i H ∧ Qd H) ∨ (J.go i H ∧ ∃ Nx : Hp → Prop, (∀ H', Nx H' → ∃ m', m' < m ∧ W (i + 1) m' H') ∧ ∀ x H', J.yld i H x H' → g x (wipe σ vs) H' fun σ2 H2 => wipe σ2 vs = wipe σ vs ∧ tt σ2 H2 fun b H3 =>
        if b = true then tk σ2 H3 fun y H4 => tv σ2 H4 fun z H5 => ∃ kvs k, y = kV k ∧ H5 D = some (.dK kvs) ∧ kvs.length < sizeLine ∧ Nx (upd H5 D (.dK (putK kvs k z))) else Nx H3) := by
  refine ⟨fun i m H => m = n - i ∧ i ≤ n ∧ Pv i H, ⟨n, rfl, Nat.zero_le _, h0⟩, ?_⟩
  rintro i m H ⟨rfl, hi, p⟩
  by_cases hlt : i < n
  · exact .inr ⟨w.goes i H hlt (hG i H hi p), Pv (i + 1), fun H' p' => ⟨n - (i + 1), by omega, rfl, hlt, p'⟩, fun x H' y => hs i x H H' hlt p (w.yields i H x H' hlt (hG i H hi p) y)⟩
  · obtain rfl : i = n := by omega
    exact .inl ⟨w.stops H (hG i H hi p), hd H p⟩
/-- [out(x) for x in ..], where out reads alone -/
theorem lc_pure {J : It} {α : Type} {val out : α → V} {l : List α} {G : Hp → Prop} (w : Walk J l.length G (fun i H x H' => H' = H ∧ ∃ u, l[i]? = some u ∧ x = val u)) {te : TE} {j : Nat} {σ : L2.St}
    {H1 : Hp} {D : Addr} {Qd : Hp → Prop} (hG : ∀ o, G (upd H1 D o)) (hl : l.length ≤ 1000)
    (ht : ∀ (i : Nat) (u : α) (acc : List V) (Q : VK), l[i]? = some u → Q (out u) (upd H1 D (.lst acc)) → te ((wipe σ [j]).set j (some (val u))) (upd H1 D (.lst acc)) Q) (hd : Qd (upd H1 D (.lst (l.map out)))) :
    ∃ W : Nat → Nat → Hp → Prop, (∃ m, W 0 m (upd H1 D (.lst []))) ∧ ∀ i m H, W i m H →
      (J.stop i H ∧ Qd H) ∨ (J.go i H ∧ ∃ Nx : Hp → Prop, (∀ H', Nx H' → ∃ m', m' < m ∧ W (i + 1) m' H') ∧ ∀ x H', J.yld i H x H' → gName j x (wipe σ [j]) H' fun σ2 H2 => wipe σ2 [j] = wipe σ [j] ∧ tYes σ2 H2 fun b H3 =>
        if b = true then te σ2 H3 fun y H4 => ∃ acc, H4 D = some (.lst acc) ∧ acc.length < sizeLine ∧ Nx (upd H4 D (.lst (acc ++ [y]))) else Nx H3) := by
  refine ⟨fun i m H => m = l.length - i ∧ i ≤ l.length ∧ H = upd H1 D (.lst ((l.take i).map out)), ⟨l.length, rfl, Nat.zero_le _, rfl⟩, ?_⟩
  rintro i m H ⟨rfl, hi, rfl⟩
  by_cases hlt : i < l.length
  · refine .inr ⟨w.goes i _ hlt (hG _), fun H' => H' = upd H1 D (.lst ((l.take (i + 1)).map out)), fun H' e => ⟨l.length - (i + 1), by omega, rfl, hlt, e⟩, fun x H' y => ?_⟩
    obtain ⟨rfl, u, hu, rfl⟩ := w.yields i _ _ _ hlt (hG _) y
    refine ⟨wipe_set σ j _, ?_⟩
    refine ht i u _ _ hu ⟨_, upd_same, ?_, ?_⟩
    · rw [List.length_map, List.length_take]
      exact Nat.lt_of_le_of_lt (Nat.min_le_right _ _) (small1000 hl)
    · rw [take_snoc hu, List.map_append, upd_upd]
      rfl
  · have e : i = l.length := by omega
    subst e
    rw [List.take_length]
    exact .inl ⟨w.stops _ (hG _), hd⟩
/-- walks that give what a list of data stands for -/
theorem YAt.of {α : Type} {val : α → V} {l : List α} {xs : List V} (e : xs = l.map val) : ∀ (i : Nat) (H : Hp) (x : V) (H' : Hp), YAt xs i H x H' → H' = H ∧ ∃ u, l[i]? = some u ∧ x = val u := by
  rintro i H x H' ⟨h1, h2⟩
  rw [e, List.getElem?_map] at h2
  cases hu : l[i]? with
  | none => rw [hu] at h2; cases h2
  | some u =>
    rw [hu] at h2
    exact ⟨h1, u, rfl, (Option.some.inj h2).symm⟩
section
variable {K : PySem.W.Frag} {a d : Addr} {o : Obj} {α : Type} {l : List α}
theorem wk_list {val : α → V} : Walk (Itl K a) l.length (fun H => SqL K H a (l.map val)) (fun i H x H' => H' = H ∧ ∃ u, l[i]? = some u ∧ x = val u) := by
  have w := walk_list (K := K) (a := a) (xs := l.map val)
  rw [List.length_map] at w
  exact w.mono (fun _ h => h) fun i H x H' _ _ y => YAt.of rfl i H x H' y
theorem wk_tup {val : α → V} : Walk (Itt K a) l.length (fun H => SqT K H a (l.map val)) (fun i H x H' => H' = H ∧ ∃ u, l[i]? = some u ∧ x = val u) := by
  have w := walk_tup (K := K) (a := a) (xs := l.map val)
  rw [List.length_map] at w
  exact w.mono (fun _ h => h) fun i H x H' _ _ y => YAt.of rfl i H x H' y
theorem wk_keys {f : α → Key} {kvs : List (Key × V)} (e : kvs.map (·.1) = l.map f) : Walk (Itk d o kvs) l.length (fun H => H d = some (.frz o (.dK kvs))) (fun i H x H' => H' = H ∧ ∃ u, l[i]? = some u ∧ x = kV (f u)) := by
  have w := walk_keys (d := d) (o := o) (kvs := kvs)
  have hl : kvs.length = l.length := by
    have z := congrArg List.length e
    rw [List.length_map, List.length_map] at z
    exact z
  rw [hl] at w
  refine w.mono (fun _ h => h) fun i H x H' _ _ y => ?_
  obtain ⟨h1, k, v, h2, rfl⟩ := y
  have h3 : (kvs.map (·.1))[i]? = some k := by
    rw [List.getElem?_map, h2]
    rfl
  rw [e, List.getElem?_map] at h3
  cases hu : l[i]? with
  | none => rw [hu] at h3; cases h3
  | some u =>
    rw [hu] at h3
    exact ⟨h1, u, rfl, by rw [← Option.some.inj h3]⟩
end
end Sw
namespace Sw
open PySem PySem.Spec PyProof.Rows L2
/-- what is known between two statements is said once -/
def tMid (t u : TS) : TS := fun D σ H => ∃ Mid : L2.St → Hp → Prop, t { D with nx := Mid } σ H ∧ ∀ σ' H', Mid σ' H' → u D σ' H'
theorem pss_mid {X : Cx} {st : Stmt} {rest : List Stmt} {t u : TS} (h1 : PS X st t) (h2 : PSs X rest u) : PSs X (st :: rest) (tMid t u) := by
  refine ⟨fun pins s σ H D I hw => ?_⟩
  obtain ⟨Mid, ht, hu⟩ := hw
  refine wpAny_execs_cons (thn (h1.run pins s σ H { D with nx := Mid } I ht) fun f s1 q => ?_)
  cases f with
  | next => exact q.elim fun σ' q => q.elim fun H' q => h2.run pins s1 σ' H' D q.1 (hu σ' H' q.2)
  | ret _ => exact q
  | brk => exact q
  | cont => exact q
/-- a thing that was locked while something new was made -/
theorem unlock_new {H : Hp} {a D : Addr} {u w o : HO} (ha : H a = some u) (hD : upd H a w D = none) : upd (upd (upd H a w) D o) a u = upd H D o := by
  have ne : a ≠ D := ne_of_none upd_same hD
  funext b
  by_cases hb : b = a
  · rw [hb, upd_same, upd_ne ne, ha]
  · rw [upd_ne hb]
    by_cases hd : b = D
    · rw [hd, upd_same, upd_same]
    · rw [upd_ne hd, upd_ne hd, upd_ne hb]
theorem free_lock {H : Hp} {a D : Addr} {u w : HO} (ha : H a = some u) (hD : upd H a w D = none) : H D = none := by
  have ne : a ≠ D := ne_of_none upd_same hD
  rw [upd_ne ne.symm] at hD
  exact hD
end Sw
namespace Sw
open PySem PySem.Spec PyProof.Rows L2
/-- a table's fields -/
def tabF (nm : Str) (wd : Int) (k l r : Addr) : List (Str × V) := [("name", .str nm), ("width", .int wd), ("key", .ref k), ("lists", .ref l), ("refers", .ref r)]
/-- at x: a table; its key, its lists, its references -/
structure TabAt (K : PySem.W.Frag) (CT : Addr) (H : Hp) (x : Addr) (nm : Str) (wd : Int) (ks : List Int) (ts : List Ent) (rs : List V) : Prop where
  ex : ∃ dx kA lA rA, H x = some (.ins CT dx (tabF nm wd kA lA rA)) ∧ H kA = some (.tup (ks.map V.int)) ∧ TDict H lA ts ∧ SqT K H rA rs
  ks : AscI ks
/-- what the class Table is -/
structure TabC (K : PySem.W.Frag) (CT : Addr) : Prop where
  cl : Cls K CT
  n1 : NoAttr K CT "name"
  n2 : NoAttr K CT "width"
  n3 : NoAttr K CT "key"
  n4 : NoAttr K CT "lists"
  n5 : NoAttr K CT "refers"
/-- all that H knows, but x, is as it was; an empty instance turned into a table -/
def spTab (K : PySem.W.Frag) (CT : Addr) : Sp := fun vs H Q _ => ∃ (x dx kA rA : Addr) (nm : Str) (wd : Int) (ks : List Int) (lv : V) (es : List Ent) (rs : List V), vs = [.ref x, .str nm, .int wd, .ref kA, lv, .ref rA] ∧
  H x = some (.ins CT dx []) ∧ SqT K H kA (ks.map V.int) ∧ ks.length ≤ 100 ∧ ((lv = .non ∧ es = []) ∨ ∃ a, lv = .ref a ∧ LDict K H a es) ∧ SqT K H rA rs ∧
  ∀ (H' : Hp) (ks' : List Int) (ts : List Ent), SBut x H H' → TabAt K CT H' x nm wd ks' ts rs → (∀ z, z ∈ ks' ↔ z ∈ ks) → Alike es ts → Q .non H'
/-- the same, and its dict of lists is new -/
def spTabN (K : PySem.W.Frag) (CT : Addr) : Sp := fun vs H Q _ => ∃ (x dx kA rA : Addr) (nm : Str) (wd : Int) (ks : List Int) (lv : V) (es : List Ent) (rs : List V), vs = [.ref x, .str nm, .int wd, .ref kA, lv, .ref rA] ∧
  H x = some (.ins CT dx []) ∧ SqT K H kA (ks.map V.int) ∧ ks.length ≤ 100 ∧ ((lv = .non ∧ es = []) ∨ ∃ a, lv = .ref a ∧ LDict K H a es) ∧ SqT K H rA rs ∧
  ∀ (H' : Hp) (ks' : List Int) (ts : List Ent), SBut x H H' → TabAt K CT H' x nm wd ks' ts rs → (∀ z, z ∈ ks' ↔ z ∈ ks) → Alike es ts → (∀ dy kB lB rB, H' x = some (.ins CT dy (tabF nm wd kB lB rB)) → H lB = none) → Q .non H'
theorem spTabN_of {K : PySem.W.Frag} {CT : Addr} {vs : List V} {H : Hp} {Q : VK} {E : XK} (h : spTab K CT vs H Q E) : spTabN K CT vs H Q E :=
  let ⟨x, dx, kA, rA, nm, wd, ks, lv, es, rs, h1, h2, h3, h4, h5, h6, q⟩ := h
  ⟨x, dx, kA, rA, nm, wd, ks, lv, es, rs, h1, h2, h3, h4, h5, h6, fun H' ks' ts a b c d _ => q H' ks' ts a b c d⟩
theorem SqT.but {K : PySem.W.Frag} {H H' : Hp} {x a : Addr} {xs : List V} (e : SBut x H H') (h : SqT K H a xs) (hx : ∀ o : HO, H x = some o → (∀ ys, o ≠ .tup ys) ∧ ∀ u ys, o ≠ .frz u (.tup ys)) : SqT K H' a xs := by
  rcases h with (h | ⟨o, h⟩) | h
  · exact .inl (.inl (e _ _ (fun z => (hx _ (by rw [← z]; exact h)).1 _ rfl) h))
  · exact .inl (.inr ⟨o, e _ _ (fun z => (hx _ (by rw [← z]; exact h)).2 _ _ rfl) h⟩)
  · exact .inr h
theorem SqL.but {K : PySem.W.Frag} {H H' : Hp} {x a : Addr} {xs : List V} (e : SBut x H H') (h : SqL K H a xs) (hx : ∀ o : HO, H x = some o → (∀ ys, o ≠ .lst ys) ∧ ∀ u ys, o ≠ .frz u (.lst ys)) : SqL K H' a xs := by
  rcases h with (h | ⟨o, h⟩) | h
  · exact .inl (.inl (e _ _ (fun z => (hx _ (by rw [← z]; exact h)).1 _ rfl) h))
  · exact .inl (.inr ⟨o, e _ _ (fun z => (hx _ (by rw [← z]; exact h)).2 _ _ rfl) h⟩)
  · exact .inr h
theorem LDict.but {K : PySem.W.Frag} {H H' : Hp} {x a C dx : Addr} {fs : List (Str × V)} {es : List Ent} (h : LDict K H a es) (e : SBut x H H') (hx : H x = some (.ins C dx fs)) : LDict K H' a es := by
  refine ⟨e _ _ (ne_of h.at_ hx (fun z => nomatch z)) h.at_, h.nd, h.len, fun r hr => ⟨?_, (h.all r hr).2⟩⟩
  rcases (h.all r hr).1 with z | z
  · exact .inl (SqL.but e z fun o ho => by rw [hx] at ho; cases ho; exact ⟨fun _ y => (nomatch y), fun _ _ y => (nomatch y)⟩)
  · exact .inr (SqT.but e z fun o ho => by rw [hx] at ho; cases ho; exact ⟨fun _ y => (nomatch y), fun _ _ y => (nomatch y)⟩)
theorem sqT_ins {K : PySem.W.Frag} {H H' : Hp} {x a C dx : Addr} {fs : List (Str × V)} {xs : List V} (h : SqT K H a xs) (e : SBut x H H') (hx : H x = some (.ins C dx fs)) : SqT K H' a xs :=
  SqT.but e h fun o ho => by rw [hx] at ho; cases ho; exact ⟨fun _ y => (nomatch y), fun _ _ y => (nomatch y)⟩
theorem SBut.step {x : Addr} {H H1 : Hp} {o : HO} (h : SBut x H H1) : SBut x H (upd H1 x o) := fun b u hb e => by
  rw [upd_ne hb]
  exact h b u hb e
theorem SBut.same {x : Addr} {H H1 H2 : Hp} (h : SBut x H H1) (s : Same H1 H2) : SBut x H H2 := fun b u hb e => s _ _ (h b u hb e)
theorem putF_new {f : Str} {v : V} : ∀ {fs : List (Str × V)}, (∀ p ∈ fs, p.1 ≠ f) → putF f v fs = fs ++ [(f, v)]
  | [], _ => rfl
  | p :: r, h => by
    show (if p.1 = f then _ else p :: putF f v r) = _
    rw [if_neg (h p List.mem_cons_self), putF_new fun q hq => h q (List.mem_cons_of_mem _ hq)]
    rfl
end Sw
namespace Sw
open PySem PySem.Spec PyProof.Rows L2
/-- a table as a schema sees it: its place, its name, where its references lead -/
structure Tb where
  x : Addr
  nm : Str
  zs : List Str
def leads (l : List Tb) (y : Str) : List Str := ((l.find? fun t => decide (t.nm = y)).map Tb.zs).getD []
inductive Rch (l : List Tb) (a : Str) : Str → Prop
  | one {b : Str} : b ∈ leads l a → Rch l a b
  | snoc {b c : Str} : Rch l a b → c ∈ leads l b → Rch l a c
def RefTo (K : PySem.W.Frag) (H : Hp) (v : V) (z : Str) : Prop := ∃ a xs, v = .ref a ∧ SqT K H a xs ∧ xs[1]? = some (.str z)
/-- references that lead to zs -/
structure Lead (K : PySem.W.Frag) (H : Hp) (a : Addr) (rs : List V) (zs : List Str) : Prop where
  at_ : SqT K H a rs
  len : rs.length = zs.length
  sml : zs.length ≤ 100
  all : ∀ (i : Nat) (v : V), rs[i]? = some v → ∃ z, zs[i]? = some z ∧ RefTo K H v z
structure TbAt (K : PySem.W.Frag) (CT : Addr) (H : Hp) (t : Tb) : Prop where
  ex : ∃ dx wd kA lA rA rs, H t.x = some (.ins CT dx (tabF t.nm wd kA lA rA)) ∧ Lead K H rA rs t.zs
def kvT (l : List Tb) : List (Key × V) := l.map fun t => (Sum.inr t.nm, .ref t.x)
/-- at s: a schema whose dict holds kvs, by names -/
def SchemaAt (CS : Addr) (H : Hp) (s : Addr) (kvs : List (Key × V)) : Prop := ∃ dx d, H s = some (.ins CS dx [("named", .ref d)]) ∧ H d = some (.dK kvs)
structure SchAt (K : PySem.W.Frag) (CT CS : Addr) (H : Hp) (S : Addr) (l : List Tb) : Prop where
  ex : SchemaAt CS H S (kvT l)
  tbs : ∀ t ∈ l, TbAt K CT H t
  nd : (l.map Tb.nm).Nodup
  len : l.length ≤ 100
theorem Lead.same {K : PySem.W.Frag} {H H' : Hp} {a : Addr} {rs : List V} {zs : List Str} (h : Lead K H a rs zs) (e : Same H H') : Lead K H' a rs zs :=
  ⟨same_seqT e h.at_, h.len, h.sml, fun i v q => let ⟨z, e1, b, xs, e2, e3, e4⟩ := h.all i v q; ⟨z, e1, b, xs, e2, same_seqT e e3, e4⟩⟩
theorem Lead.but {K : PySem.W.Frag} {H H' : Hp} {a S C dx : Addr} {fs : List (Str × V)} {rs : List V} {zs : List Str} (h : Lead K H a rs zs) (e : SBut S H H') (hx : H S = some (.ins C dx fs)) : Lead K H' a rs zs :=
  ⟨sqT_ins h.at_ e hx, h.len, h.sml, fun i v q => let ⟨z, e1, b, xs, e2, e3, e4⟩ := h.all i v q; ⟨z, e1, b, xs, e2, sqT_ins e3 e hx, e4⟩⟩
theorem TbAt.same {K : PySem.W.Frag} {CT : Addr} {H H' : Hp} {t : Tb} (h : TbAt K CT H t) (e : Same H H') : TbAt K CT H' t := by
  obtain ⟨dx, wd, kA, lA, rA, rs, h1, h2⟩ := h.ex
  exact ⟨dx, wd, kA, lA, rA, rs, e _ _ h1, h2.same e⟩
/-- beside an instance that is no table of this name -/
theorem TbAt.but {K : PySem.W.Frag} {CT S C dS : Addr} {fs : List (Str × V)} {H H' : Hp} {t : Tb} (h : TbAt K CT H t) (e : SBut S H H') (hx : H S = some (.ins C dS fs)) (hl : fs.length ≤ 1) : TbAt K CT H' t := by
  obtain ⟨dx, wd, kA, lA, rA, rs, h1, h2⟩ := h.ex
  refine ⟨dx, wd, kA, lA, rA, rs, e _ _ (fun z => ?_) h1, h2.but e hx⟩
  rw [z, hx] at h1
  have q := congrArg (fun o : Option HO => match o with | some (.ins _ _ f) => f.length | _ => 0) h1
  have q : fs.length = 5 := q
  omega
theorem SchemaAt.same {CS S : Addr} {H H' : Hp} {kvs : List (Key × V)} (h : SchemaAt CS H S kvs) (e : Same H H') : SchemaAt CS H' S kvs := let ⟨a, b, x, y⟩ := h; ⟨a, b, e _ _ x, e _ _ y⟩
theorem SchAt.same {K : PySem.W.Frag} {CT CS S : Addr} {H H' : Hp} {l : List Tb} (h : SchAt K CT CS H S l) (e : Same H H') : SchAt K CT CS H' S l := ⟨h.ex.same e, fun t m => (h.tbs t m).same e, h.nd, h.len⟩
theorem find_nm : ∀ {l : List Tb} {t : Tb}, (l.map Tb.nm).Nodup → t ∈ l → l.find? (fun u => decide (u.nm = t.nm)) = some t
  | [], _, _, h => nomatch h
  | u :: r, t, nd, h => by
    rw [List.find?_cons]
    rcases List.mem_cons.mp h with e | e
    · subst e
      simp
    · have n : u.nm ≠ t.nm := fun z => (List.nodup_cons.mp nd).1 (by rw [z]; exact List.mem_map.mpr ⟨t, e, rfl⟩)
      simp only [n, decide_false]
      exact find_nm (List.nodup_cons.mp nd).2 e
theorem leads_of {l : List Tb} {t : Tb} (nd : (l.map Tb.nm).Nodup) (h : t ∈ l) : leads l t.nm = t.zs := by
  unfold leads
  rw [find_nm nd h]
  rfl
theorem kvT_keys (l : List Tb) : (kvT l).map (·.1) = (l.map Tb.nm).map Sum.inr := by
  unfold kvT
  rw [List.map_map, List.map_map]
  rfl
theorem valV_kvT : ∀ (l : List Tb) (z : Str), valV (kvT l) (Sum.inr z : Key) = (l.find? fun t => decide (t.nm = z)).map fun t => V.ref t.x
  | [], _ => rfl
  | u :: r, z => by
    show valV ((Sum.inr u.nm, V.ref u.x) :: kvT r) (Sum.inr z : Key) = _
    rw [List.find?_cons]
    by_cases e : u.nm = z
    · rw [valV_pos (by rw [e])]
      simp [e]
    · rw [valV_neg (fun q => e (Sum.inr.inj q))]
      simp only [e, decide_false]
      exact valV_kvT r z
theorem valV_tb {l : List Tb} {t : Tb} (nd : (l.map Tb.nm).Nodup) (h : t ∈ l) : valV (kvT l) (Sum.inr t.nm : Key) = some (.ref t.x) := by
  rw [valV_kvT, find_nm nd h]
  rfl
theorem valV_no {l : List Tb} {z : Str} (h : ¬ z ∈ l.map Tb.nm) : valV (kvT l) (Sum.inr z : Key) = none := by
  rw [valV_kvT]
  cases e : l.find? fun t => decide (t.nm = z) with
  | none => rfl
  | some t => exact absurd (List.mem_map.mpr ⟨t, List.mem_of_find?_eq_some e, by have q := List.find?_some e; simpa using q⟩) h
theorem inV_str (z : Str) : ∀ fs : List Str, inV (.str z) (fs.map V.str) = decide (z ∈ fs)
  | [] => by simp [inV]
  | f :: r => by
    have ih : (r.map V.str).any (fun y => eqV y (.str z)) = decide (z ∈ r) := inV_str z r
    show (eqV (.str f) (.str z) || (r.map V.str).any (fun y => eqV y (.str z))) = _
    rw [ih]
    have e : eqV (.str f) (.str z) = (f == z) := rfl
    rw [e]
    by_cases q : f = z
    · simp [q]
    · have q2 : ¬ z = f := fun y => q y.symm
      simp [q, q2]
theorem flat_str : ∀ fs : List Str, (fs.map V.str).all flatV = true
  | [] => rfl
  | _ :: r => by
    show (true && (r.map V.str).all flatV) = true
    rw [flat_str r]
    rfl
theorem nodup_le : ∀ {fs ns : List Str}, fs.Nodup → (∀ z ∈ fs, z ∈ ns) → fs.length ≤ ns.length
  | [], _, _, _ => Nat.zero_le _
  | f :: r, ns, nd, h => by
    have h1 : f ∈ ns := h f List.mem_cons_self
    have ih := nodup_le (fs := r) (ns := ns.erase f) (List.nodup_cons.mp nd).2 fun z hz => (List.mem_erase_of_ne (fun e => (List.nodup_cons.mp nd).1 (by rw [← e]; exact hz))).mpr (h z (List.mem_cons_of_mem _ hz))
    rw [List.length_erase_of_mem h1] at ih
    have : 0 < ns.length := List.length_pos_of_mem h1
    show r.length + 1 ≤ ns.length
    omega
/-- all references lead to tables -/
def Known (l : List Tb) : Prop := ∀ t ∈ l, ∀ z ∈ t.zs, z ∈ l.map Tb.nm
theorem leads_known {l : List Tb} (k : Known l) {y z : Str} (h : z ∈ leads l y) : z ∈ l.map Tb.nm := by
  unfold leads at h
  cases e : l.find? fun t => decide (t.nm = y) with
  | none => rw [e] at h; exact nomatch h
  | some t =>
    rw [e] at h
    exact k t (List.mem_of_find?_eq_some e) z h
theorem Rch.known {l : List Tb} {a b : Str} (h : Rch l a b) (k : Known l) : b ∈ l.map Tb.nm := by
  cases h with
  | one h => exact leads_known k h
  | snoc _ h => exact leads_known k h
theorem nil_or_snoc {α : Type} (l : List α) : l = [] ∨ ∃ a b, l = a ++ [b] := by
  cases h : l with
  | nil => exact .inl rfl
  | cons x r => exact .inr ⟨(x :: r).dropLast, (x :: r).getLast (by simp), (List.dropLast_concat_getLast _).symm⟩
def lenAt (H : Hp) (a : Addr) : Nat := match H a with | some (.lst xs) => xs.length | _ => 0
theorem lenAt_of {H : Hp} {a : Addr} {xs : List V} (h : H a = some (.lst xs)) : lenAt H a = xs.length := by
  unfold lenAt
  rw [h]
/-- schema.reached(name) -/
def spReach (K : PySem.W.Frag) (CT CS : Addr) : Sp := fun vs H Q _ => ∃ (S : Addr) (nm : Str) (l : List Tb), vs = [.ref S, .str nm] ∧ SchAt K CT CS H S l ∧ Known l ∧ nm ∈ l.map Tb.nm ∧
  ∀ (H' : Hp) (F : Addr) (R : List Str), Same H H' → H F = none → H' F = some (.lst (R.map V.str)) → (∀ z, z ∈ R ↔ Rch l nm z) → Q (.ref F) H'
end Sw
namespace Sw
open PySem PySem.Spec PyProof.Rows L2
theorem seq_way {t u : TS} {D : Ends} {σ : L2.St} {H : Hp} (h : t { D with nx := u D } σ H) : tSeq t u D σ H := h
theorem name_way {i : Nat} {v : V} {σ : L2.St} {H : Hp} {Q : L2.St → Hp → Prop} (h : Q (σ.set i (some v)) H) : gName i v σ H Q := h
end Sw
namespace Sw
open PySem PySem.Spec PyProof.Rows L2
/-- the first reference that leads to no table -/
def unkOf (l : List Tb) : Option Str := (l.flatMap Tb.zs).find? fun z => decide (¬ z ∈ l.map Tb.nm)
theorem known_of {l : List Tb} (h : ∀ z ∈ l.flatMap Tb.zs, z ∈ l.map Tb.nm) : Known l := fun t ht z hz => h z (List.mem_flatMap.mpr ⟨t, ht, hz⟩)
theorem find_first {α : Type} {p : α → Bool} : ∀ {l : List α} {i : Nat} {z : α}, (∀ x ∈ l.take i, p x = false) → l[i]? = some z → p z = true → l.find? p = some z
  | [], _, _, _, h, _ => nomatch h
  | x :: r, 0, z, _, h, q => by
    obtain rfl : x = z := Option.some.inj h
    rw [List.find?_cons, q]
  | x :: r, i + 1, z, ha, h, q => by
    rw [List.find?_cons, ha x List.mem_cons_self]
    exact find_first (fun y hy => ha y (List.mem_cons_of_mem _ hy)) h q
theorem kvT_snoc {l : List Tb} {i : Nat} {t : Tb} (nd : (l.map Tb.nm).Nodup) (h : l[i]? = some t) : putK (kvT (l.take i)) (Sum.inr t.nm) (.ref t.x) = kvT (l.take (i + 1)) := by
  have nd2 : ((l.take (i + 1)).map Tb.nm).Nodup := nd.sublist ((List.take_sublist _ _).map _)
  rw [take_snoc h, List.map_append] at nd2
  rw [putK_new, take_snoc h]
  · unfold kvT
    rw [List.map_append]
    rfl
  · exact valV_no fun m => (List.nodup_append.mp nd2).2.2 t.nm m t.nm List.mem_cons_self rfl
/-- [.. for u in .. for v in ..], where out u is what the inner walk gives -/
theorem lc2_pure {J : It} {α : Type} {val : α → V} {Pin : α → Nat → V → Prop} {out : α → List V} {l : List α} {G : Hp → Prop} (w : Walk J l.length G (fun i H x H' => H' = H ∧ ∃ u, l[i]? = some u ∧ x = val u)) {wi1 : TI} {te : TE} {j j1 : Nat} {vs vs1 : List Nat} {σ : L2.St}
    {H1 : Hp} {D : Addr} {Qd : Hp → Prop} (hG : ∀ o, G (upd H1 D o)) (hl : (l.flatMap out).length ≤ 1000)
    (e1 : ∀ v, wipe ((wipe σ vs).set j (some v)) vs = wipe σ vs) (e2 : ∀ v v', wipe ((wipe ((wipe σ vs).set j (some v)) vs1).set j1 (some v')) vs1 = wipe ((wipe σ vs).set j (some v)) vs1)
    (hw : ∀ (u : α) (acc : List V) (R : It → Hp → Prop), u ∈ l → (∀ (J1 : It) (G1 : Hp → Prop), Walk J1 (out u).length G1 (fun k H x H' => H' = H ∧ Pin u k x) → (∀ o, G1 (upd H1 D o)) → R J1 (upd H1 D (.lst acc))) → wi1 ((wipe σ vs).set j (some (val u))) (upd H1 D (.lst acc)) R)
    (ht : ∀ (u : α) (k : Nat) (v y : V) (acc : List V) (Q : VK), u ∈ l → Pin u k v → (out u)[k]? = some y → Q y (upd H1 D (.lst acc)) → te ((wipe ((wipe σ vs).set j (some (val u))) vs1).set j1 (some v)) (upd H1 D (.lst acc)) Q) (hd : Qd (upd H1 D (.lst (l.flatMap out)))) :
    ∃ W : Nat → Nat → Hp → Prop, (∃ m, W 0 m (upd H1 D (.lst []))) ∧ ∀ i m H, W i m H →
      (J.stop i H ∧ Qd H) ∨ (J.go i H ∧ ∃ Nx : Hp → Prop, (∀ H', Nx H' → ∃ m', m' < m ∧ W (i + 1) m' H') ∧ ∀ x H', J.yld i H x H' → gName j x (wipe σ vs) H' fun σ2 H2 => wipe σ2 vs = wipe σ vs ∧ tYes σ2 H2 fun b H3 =>
        if b = true then wi1 σ2 H3 fun J1 H4 => ∃ W1 : Nat → Nat → Hp → Prop, (∃ m, W1 0 m H4) ∧ ∀ j k H, W1 j k H →
          (J1.stop j H ∧ Nx H) ∨ (J1.go j H ∧ ∃ Nx1 : Hp → Prop, (∀ H', Nx1 H' → ∃ k', k' < k ∧ W1 (j + 1) k' H') ∧ ∀ x H', J1.yld j H x H' → gName j1 x (wipe σ2 vs1) H' fun σ3 H5 => wipe σ3 vs1 = wipe σ2 vs1 ∧ tYes σ3 H5 fun b H6 =>
            if b = true then te σ3 H6 fun y H7 => ∃ acc, H7 D = some (.lst acc) ∧ acc.length < sizeLine ∧ Nx1 (upd H7 D (.lst (acc ++ [y]))) else Nx1 H6)
        else Nx H3) := by
  refine ⟨fun i m H => m = l.length - i ∧ i ≤ l.length ∧ H = upd H1 D (.lst ((l.take i).flatMap out)), ⟨l.length, rfl, Nat.zero_le _, rfl⟩, ?_⟩
  rintro i m H ⟨rfl, hi, rfl⟩
  by_cases hlt : i < l.length
  · refine .inr ⟨w.goes i _ hlt (hG _), fun H' => H' = upd H1 D (.lst ((l.take (i + 1)).flatMap out)), fun H' e => ⟨l.length - (i + 1), by omega, rfl, hlt, e⟩, fun x H' y => ?_⟩
    obtain ⟨rfl, u, hu, rfl⟩ := w.yields i _ _ _ hlt (hG _) y
    have hm := List.mem_of_getElem? hu
    refine ⟨e1 _, ?_⟩
    refine hw u _ _ hm fun J1 G1 w1 hG1 => ⟨fun k m H => m = (out u).length - k ∧ k ≤ (out u).length ∧ H = upd H1 D (.lst ((l.take i).flatMap out ++ (out u).take k)), ⟨(out u).length, rfl, Nat.zero_le _, by rw [List.take_zero, List.append_nil]⟩, ?_⟩
    rintro k m H ⟨rfl, hk, rfl⟩
    by_cases hlk : k < (out u).length
    · refine .inr ⟨w1.goes k _ hlk (hG1 _), fun H' => H' = upd H1 D (.lst ((l.take i).flatMap out ++ (out u).take (k + 1))), fun H' e => ⟨(out u).length - (k + 1), by omega, rfl, hlk, e⟩, fun x H' y => ?_⟩
      obtain ⟨rfl, hx⟩ := w1.yields k _ _ _ hlk (hG1 _) y
      have ho : (out u)[k]? = some ((out u)[k]'hlk) := List.getElem?_eq_getElem _
      refine ⟨e2 _ _, ?_⟩
      refine ht u k x _ _ _ hm hx ho ⟨_, upd_same, ?_, ?_⟩
      · refine Nat.lt_of_le_of_lt ?_ (small1000 hl)
        have h2 : l.flatMap out = (l.take i).flatMap out ++ (l.drop i).flatMap out := by rw [← List.flatMap_append, List.take_append_drop]
        have h3 : (l.drop i).flatMap out = out u ++ (l.drop (i + 1)).flatMap out := by
          rw [List.drop_eq_getElem_cons hlt, List.flatMap_cons, (List.getElem?_eq_some_iff.mp hu).2]
        rw [h2, h3]
        simp only [List.length_append, List.length_take]
        omega
      · rw [take_snoc ho, upd_upd, List.append_assoc]
    · have e : k = (out u).length := by omega
      subst e
      refine .inl ⟨w1.stops _ (hG1 _), ?_⟩
      show _ = _
      rw [List.take_length, take_snoc hu, List.flatMap_append]
      simp
  · have e : i = l.length := by omega
    subst e
    rw [List.take_length]
    exact .inl ⟨w.stops _ (hG _), hd⟩
/-- Schema(*tables) -/
def spSchema (K : PySem.W.Frag) (CT CS DU DR : Addr) : Sp := fun vs H Q E => ∃ (S dS : Addr) (l : List Tb), vs = .ref S :: l.map (fun t => V.ref t.x) ∧ H S = some (.ins CS dS []) ∧ (∀ t ∈ l, TbAt K CT H t) ∧ (l.map Tb.nm).Nodup ∧ l.length ≤ 100 ∧ (l.flatMap Tb.zs).length ≤ 1000 ∧
  (∀ u, unkOf l = some u → u.length ≤ 1000 ∧ ∀ (H1 : Hp) (dd : Addr), SBut S H H1 → H1 dd = none → E (.ref DU) (some dd) (upd H1 dd (.xd [("name", .str u)]))) ∧
  (unkOf l = none → (∀ i t, l[i]? = some t → (∀ u ∈ l.take i, ¬ Rch l u.nm u.nm) → Rch l t.nm t.nm → t.nm.length ≤ 1000 ∧ ∀ (H1 : Hp) (dd : Addr), SBut S H H1 → H1 dd = none → E (.ref DR) (some dd) (upd H1 dd (.xd [("name", .str t.nm)]))) ∧
    ((∀ u ∈ l, ¬ Rch l u.nm u.nm) → ∀ H1 : Hp, SBut S H H1 → SchAt K CT CS H1 S l → Q .non H1))
end Sw
namespace Sw
open PySem PySem.Spec PyProof.Rows L2
/-- the j-th of the made tables without references: its name, its width -/
structure TbW (K : PySem.W.Frag) (CT : Addr) (ws : List Str) (wds : List Int) (H : Hp) (j : Nat) (t : Tb) : Prop where
  zs : t.zs = []
  nm : ws[j]? = some t.nm
  at_ : ∃ wd, wds[j]? = some wd ∧ ∃ dx kA lA rA, H t.x = some (.ins CT dx (tabF t.nm wd kA lA rA)) ∧ SqT K H rA []
theorem TbW.same {K : PySem.W.Frag} {CT : Addr} {ws : List Str} {wds : List Int} {H H' : Hp} {j : Nat} {t : Tb} (h : TbW K CT ws wds H j t) (e : Same H H') : TbW K CT ws wds H' j t :=
  ⟨h.zs, h.nm, let ⟨wd, h1, dx, kA, lA, rA, h2, h3⟩ := h.at_; ⟨wd, h1, dx, kA, lA, rA, e _ _ h2, same_seqT e h3⟩⟩
theorem TbW.tb {K : PySem.W.Frag} {CT : Addr} {ws : List Str} {wds : List Int} {H : Hp} {j : Nat} {t : Tb} (h : TbW K CT ws wds H j t) : TbAt K CT H t :=
  ⟨let ⟨wd, _, dx, kA, lA, rA, h2, h3⟩ := h.at_; ⟨dx, wd, kA, lA, rA, [], h2, ⟨h3, by rw [h.zs] <;> rfl, by rw [h.zs]; exact Nat.zero_le _, fun i v e => (nomatch e)⟩⟩⟩
theorem leads_none {l : List Tb} (h : ∀ t ∈ l, t.zs = []) (y : Str) : leads l y = [] := by
  unfold leads
  cases e : l.find? fun t => decide (t.nm = y) with
  | none => rfl
  | some t => exact h t (List.mem_of_find?_eq_some e)
theorem rch_none {l : List Tb} (h : ∀ t ∈ l, t.zs = []) {a b : Str} (r : Rch l a b) : False := by
  cases r with
  | one m => rw [leads_none h] at m; exact nomatch m
  | snoc _ m => rw [leads_none h] at m; exact nomatch m
/-- Schema of tables without references -/
theorem sch_plain {K : PySem.W.Frag} {CT CS DU DR : Addr} {H : Hp} {l : List Tb} {E : XK} {Q : VK} (hz : ∀ t ∈ l, t.zs = []) (htb : ∀ t ∈ l, TbAt K CT H t) (nd : (l.map Tb.nm).Nodup) (hl : l.length ≤ 100) {x dx : Addr} (nx : H x = none) (ndx : H dx = none) (ne : dx ≠ x)
    (q : ∀ H', Same H H' → SchAt K CT CS H' x l → Q .non H') : spSchema K CT CS DU DR (V.ref x :: l.map fun t => V.ref t.x) (upd (upd H dx (.own x)) x (.ins CS dx [])) Q E := by
  have s1 : Same H (upd (upd H dx (.own x)) x (.ins CS dx [])) := (same_new ndx).trans (same_new (by rw [upd_ne ne.symm]; exact nx))
  have hf : l.flatMap Tb.zs = [] := List.flatMap_eq_nil_iff.mpr hz
  have hu : unkOf l = none := by
    unfold unkOf
    rw [hf]
    rfl
  refine ⟨x, dx, l, rfl, upd_same, fun t ht => (htb t ht).same s1, nd, hl, by rw [hf]; exact Nat.zero_le _, fun u h => ?_, fun _ => ⟨fun i t _ _ r => (rch_none hz r).elim, fun _ H1 sb sc => q H1 (fun b o e => sb b o (ne_of_none e nx) (s1 b o e)) sc⟩⟩
  rw [hu] at h
  exact nomatch h
end Sw
namespace Sw
open PySem PySem.Spec PyProof.Rows L2
theorem spSchema_imp {K : PySem.W.Frag} {CT CS DU DR : Addr} {vs : List V} {H : Hp} {E : XK} {Q Q' : VK} (h : spSchema K CT CS DU DR vs H Q E) (hq : ∀ v H', Q v H' → Q' v H') : spSchema K CT CS DU DR vs H Q' E := by
  obtain ⟨S, dS, l, e1, e2, e3, e4, e5, e6, e7, e8⟩ := h
  exact ⟨S, dS, l, e1, e2, e3, e4, e5, e6, e7, fun hn => ⟨(e8 hn).1, fun h1 H1 sb sc => hq _ _ ((e8 hn).2 h1 H1 sb sc)⟩⟩
end Sw
namespace Sw
open PySem PySem.Spec PyProof.Rows L2
theorem not_take {α : Type} {l : List α} {i m : Nat} {x : α} (nd : l.Nodup) (h : l[i]? = some x) (hm : m ≤ i) : ¬ x ∈ l.take m := fun e => by
  have hd : x ∈ l.drop m := by
    refine List.mem_of_getElem? (i := i - m) ?_
    rw [List.getElem?_drop, show m + (i - m) = i by omega]
    exact h
  have nd2 : (l.take m ++ l.drop m).Nodup := by rw [List.take_append_drop]; exact nd
  exact (List.nodup_append.mp nd2).2.2 x e x hd rfl
end Sw
namespace Sw
open PySem PySem.Spec PyProof.Rows L2
/-- isinstance(e, c), e the exception that the suite holds, its class an own one, its fields in its dict -/
def rIsX (K : PySem.W.Frag) (cls : Value) (d : Option Addr) (D a : Addr) : List V → Hp → VK → Prop := fun xs H Q => cls = .ref D ∧ ∃ (dd : Addr) (fs : List (Str × V)) (c : V) (cv : Value) (b : Bool), d = some dd ∧ H dd = some (.xd fs) ∧ xs = [.ref a, c] ∧
  (∀ u, RelV c u → u = cv) ∧ PySem.W.kitOne K (.ref D) cv = some b ∧ Q (.bl b) H
theorem call_isX {X : Cx} {a D : Addr} {cls : Value} {d : Option Addr} {oe : Obj} {pn : List (Addr × Obj)} (C : ExcC X.K D) (hz : Zc cls d oe) (hf : ∃ vs, oe.data = .fields vs) : CallR (X.suite a ((a, oe) :: pn)) (.builtin "isinstance") (rIsX X.K cls d D a) := by
  intro pins s σ H xs us Q I r h
  obtain ⟨ec, dd, fs, c, cv, b, ed, hdd, rfl, hcv, e, q⟩ := h
  obtain ⟨u, w', rfl, ru, rw'⟩ := vals2 r
  cases ru
  have ew := hcv _ rw'
  subst ew
  obtain ⟨mA, hns, -⟩ : ObjOk X.prog X.w H s.heap dd (.xd fs) := I.hok dd _ hdd
  obtain ⟨od, ho, -⟩ := lookIn_ns hns
  have hget := (I.pin (a, oe) (List.mem_append.mpr (.inl List.mem_cons_self))).1
  have J : PySem.W.InstAt s.heap a oe D (some od) := by
    refine ⟨hget, by rw [hz.1, ec], ?_, by rw [hz.2, ed]; exact ho⟩
    obtain ⟨vs, hv⟩ := hf
    unfold PySem.W.notCls
    rw [hv] <;> rfl
  have hcl : (PySem.W.clsIn X.K D).isSome = true := by
    obtain ⟨cd, hc, _⟩ := PySem.W.any_some C.hd
    rw [hc] <;> rfl
  refine PySem.W.kia_one (PySem.W.kitx_exc (x := a) (ox := oe) (od := some od) hcl C.hg C.hk C.hs C.ha C.hn C.ht C.hm) I.kIn J e (fun z => nomatch z) fun tk => ?_
  exact ⟨.bl b, H, I.kept (t' := tk) fun _ _ z => z, rfl, q⟩
end Sw
namespace Sw
open PySem PySem.Spec PyProof.Rows L2
/-- o.m(e, ..) in a try: what it lets out is told by the slots -/
def tMethE (C : Addr) (m : Str) (sp : Sp) (Ex : L2.St → XK) (to : TE) (t : TA) : TE := fun σ H Q =>
  to σ H fun y Ha => ∃ q dq gs, y = .ref q ∧ Ha q = some (.ins C dq gs) ∧ gs.lookup m = none ∧ t σ Ha fun ws Hb => sp (y :: ws) Hb Q (Ex σ)
theorem pe_methE {X : Cx} {CX : CXT} {k : Nat} {f C : Addr} {fd : FuncData} {ps : List Str} {sp : Sp} {Ex : L2.St → XK} {m : Str} {pos apos : Pos} {o e : Expr} {es : List Expr} {to : TE} {t : TA} {look : Sem Bool}
    (ho : PE X o to) (c : Cls X.K C) (hm : Meth X.K C m f) (F : FnOk X.prog X.w X.K X.mg X.base CX k f fd ps sp) (hr : Room k X.A) (hb : Binds X.K fd ps []) (hx : ∀ σ, PassesAt CX X σ (Ex σ)) (ha : PA X (e :: es) t)
    (h1 : starEach (e :: es) X.env = (false, eval e X.env) :: starEach es X.env := by rfl) (h2 : (backTo pos (starEach es X.env)).any (·.1) = false := by rfl)
    (h3 : eval (.Call (.Attribute o m apos) (e :: es) [] pos) X.env = (do
        let whole ← eval o X.env
        standAt apos.atName
        let pair ← holding [whole] (getMethod whole m look)
        callWith pos pair.1 pair.2 (backTo pos (starEach (e :: es) X.env)) (backToKw pos (keywordEach [] X.env))) := by rfl) :
    PE X (.Call (.Attribute o m apos) (e :: es) [] pos) (tMethE C m sp Ex to t) := by
  refine ⟨fun pins s σ H Q I h => ?_⟩
  refine PySem.W.methodCall_KW (pl := look) (thn (ho.run pins s σ H _ I h) fun u sa hu => ?_) h3
  obtain ⟨y, Ha, Ia, ry, q, dq, gs, rfl, eq_, lq, hq⟩ := hu
  obtain rfl : u = Value.ref q := ry
  refine getmeth_ok Ia eq_ c hm lq (PySem.W.callWith_K (first := [.ref q]) (h₀ := X.base) I.ok.mod.kin hm.kp (thn (ha.run pos pins sa σ Ha _ Ia hq) fun us sb hv => ?_) h1 h2)
  obtain ⟨ws, Hb, Ib, rw_, hs⟩ := hv
  exact ⟨Ib.kIn, run_fnS (us := .ref q :: us) (vs := .ref q :: ws) F hr hb (hx σ) Ib (.cons rfl rw_) hs⟩
end Sw
namespace Sw
open PySem PySem.Spec PyProof.Rows L2
/-- a list that stood before the hand at p was dealt -/
theorem sqL_past {K : PySem.W.Frag} {H H1 H2 : Hp} {a p : Addr} {xs : List V} (h : SqL K H a xs) (s : Same H H1) (n : H p = none) (e : SBut p H1 H2) : SqL K H2 a xs := by
  rcases h with (h | ⟨o, h⟩) | h
  · exact .inl (.inl (e _ _ (ne_of_none h n) (s _ _ h)))
  · exact .inl (.inr ⟨o, e _ _ (ne_of_none h n) (s _ _ h)⟩)
  · exact .inr h
end Sw
namespace Sw
open PySem PySem.Spec PyProof.Rows L2
/-- a tuple beside a list that grew -/
theorem sqT_upd {K : PySem.W.Frag} {H : Hp} {a p : Addr} {xs : List V} {o o' : HO} (h : SqT K H a xs) (hp : H p = some o) (n : ∀ ys, o ≠ .tup ys ∧ ∀ u, o ≠ .frz u (.tup ys)) : SqT K (upd H p o') a xs := by
  have go : ∀ w, H a = some w → w ≠ o → upd H p o' a = some w := fun w e z => by
    rw [upd_ne (ne_of e hp z)]
    exact e
  rcases h with (h | ⟨u, h⟩) | h
  · exact .inl (.inl (go _ h fun z => (n xs).1 z.symm))
  · exact .inl (.inr ⟨u, go _ h fun z => (n xs).2 u z.symm⟩)
  · exact .inr h
end Sw
namespace Sw
open PySem PySem.Spec PyProof.Rows L2
/-- a new item put before the first that is not smaller -/
theorem ins_asc {α : Type} {lt : α → α → Prop} [DecidableRel lt] (irr : ∀ x, ¬ lt x x) (tr : ∀ x y z, lt x y → lt y z → lt x z) (tri : ∀ x y, ¬ lt y x → x ≠ y → lt x y) : ∀ (us : List α) (z : α), us.Pairwise lt → ¬ z ∈ us →
    (us.take (us.filter fun u => decide (lt u z)).length ++ [z] ++ us.drop (us.filter fun u => decide (lt u z)).length).Pairwise lt ∧ ∀ x, x ∈ us.take (us.filter fun u => decide (lt u z)).length ++ [z] ++ us.drop (us.filter fun u => decide (lt u z)).length ↔ x ∈ us ∨ x = z
  | [], z, _, _ => by simp
  | u :: r, z, h, n => by
    have n1 : z ≠ u := fun e => n (by rw [e]; exact List.mem_cons_self)
    have n2 : ¬ z ∈ r := fun e => n (List.mem_cons_of_mem _ e)
    obtain ⟨hu, hr⟩ := List.pairwise_cons.mp h
    by_cases c : lt u z
    · have ih := ins_asc irr tr tri r z hr n2
      have e : ((u :: r).filter fun u => decide (lt u z)).length = (r.filter fun u => decide (lt u z)).length + 1 := by
        rw [List.filter_cons_of_pos (by simp [c])]
        rfl
      rw [e]
      refine ⟨List.pairwise_cons.mpr ⟨fun x hx => ?_, ih.1⟩, fun x => ?_⟩
      · rcases (ih.2 x).mp hx with q | q
        · exact hu x q
        · rw [q]
          exact c
      · show x ∈ u :: (r.take _ ++ [z] ++ r.drop _) ↔ _
        rw [List.mem_cons, ih.2 x, List.mem_cons]
        constructor
        · rintro (q | q | q)
          · exact .inl (.inl q)
          · exact .inl (.inr q)
          · exact .inr q
        · rintro ((q | q) | q)
          · exact .inl q
          · exact .inr (.inl q)
          · exact .inr (.inr q)
    · have hz : lt z u := tri z u c n1
      have e : ((u :: r).filter fun u => decide (lt u z)).length = 0 := by
        rw [List.filter_cons_of_neg (by simp [c])]
        rw [List.length_eq_zero_iff, List.filter_eq_nil_iff]
        intro v hv q
        have q : lt v z := of_decide_eq_true q
        exact irr z (tr z u z hz (tr u v z (hu v hv) q))
      rw [e]
      show (z :: (u :: r)).Pairwise lt ∧ ∀ x, x ∈ z :: (u :: r) ↔ _
      refine ⟨List.pairwise_cons.mpr ⟨fun x hx => ?_, h⟩, fun x => ?_⟩
      · rcases List.mem_cons.mp hx with q | q
        · rw [q]
          exact hz
        · exact tr z u x hz (hu x q)
      · rw [List.mem_cons]
        exact ⟨fun q => q.symm, fun q => q.symm⟩
/-- [out(x) for x in .. if p(x)], where p and out read alone -/
theorem lc_filter {J : It} {α : Type} {val out : α → V} {p : α → Bool} {l : List α} {G : Hp → Prop} (w : Walk J l.length G (fun i H x H' => H' = H ∧ ∃ u, l[i]? = some u ∧ x = val u)) {tt : TT} {te : TE} {j : Nat} {vs : List Nat} {σ : L2.St}
    {H1 : Hp} {D : Addr} {Qd : Hp → Prop} (hG : ∀ o, G (upd H1 D o)) (hl : l.length ≤ 1000) (e1 : ∀ v, wipe ((wipe σ vs).set j (some v)) vs = wipe σ vs)
    (hp : ∀ (i : Nat) (u : α) (acc : List V) (Q : Bool → Hp → Prop), l[i]? = some u → Q (p u) (upd H1 D (.lst acc)) → tt ((wipe σ vs).set j (some (val u))) (upd H1 D (.lst acc)) Q)
    (ht : ∀ (i : Nat) (u : α) (acc : List V) (Q : VK), l[i]? = some u → p u = true → Q (out u) (upd H1 D (.lst acc)) → te ((wipe σ vs).set j (some (val u))) (upd H1 D (.lst acc)) Q) (hd : Qd (upd H1 D (.lst ((l.filter p).map out)))) :
    ∃ W : Nat → Nat → Hp → Prop, (∃ m, W 0 m (upd H1 D (.lst []))) ∧ ∀ i m H, W i m H →
      (J.stop i H ∧ Qd H) ∨ (J.go i H ∧ ∃ Nx : Hp → Prop, (∀ H', Nx H' → ∃ m', m' < m ∧ W (i + 1) m' H') ∧ ∀ x H', J.yld i H x H' → gName j x (wipe σ vs) H' fun σ2 H2 => wipe σ2 vs = wipe σ vs ∧ tt σ2 H2 fun b H3 =>
        if b = true then te σ2 H3 fun y H4 => ∃ acc, H4 D = some (.lst acc) ∧ acc.length < sizeLine ∧ Nx (upd H4 D (.lst (acc ++ [y]))) else Nx H3) := by
  refine ⟨fun i m H => m = l.length - i ∧ i ≤ l.length ∧ H = upd H1 D (.lst (((l.take i).filter p).map out)), ⟨l.length, rfl, Nat.zero_le _, rfl⟩, ?_⟩
  rintro i m H ⟨rfl, hi, rfl⟩
  by_cases hlt : i < l.length
  · refine .inr ⟨w.goes i _ hlt (hG _), fun H' => H' = upd H1 D (.lst (((l.take (i + 1)).filter p).map out)), fun H' e => ⟨l.length - (i + 1), by omega, rfl, hlt, e⟩, fun x H' y => ?_⟩
    obtain ⟨rfl, u, hu, rfl⟩ := w.yields i _ _ _ hlt (hG _) y
    refine ⟨e1 _, ?_⟩
    refine hp i u _ _ hu ?_
    cases q : p u with
    | true =>
      refine iteT ?_
      refine ht i u _ _ hu q ⟨_, upd_same, ?_, ?_⟩
      · rw [List.length_map]
        refine Nat.lt_of_le_of_lt (List.length_filter_le _ _) ?_
        rw [List.length_take]
        exact Nat.lt_of_le_of_lt (Nat.min_le_right _ _) (small1000 hl)
      · rw [take_snoc hu, List.filter_append, List.map_append, upd_upd]
        simp [q]
    | false =>
      refine iteF ?_
      rw [take_snoc hu, List.filter_append]
      simp [q]
  · have e : i = l.length := by omega
    subst e
    rw [List.take_length]
    exact .inl ⟨w.stops _ (hG _), hd⟩
instance : DecidableRel SLt := fun x y => inferInstanceAs (Decidable (x.cps.toList < y.cps.toList))
def ILt (x y : Int) : Prop := x < y
instance : DecidableRel ILt := fun x y => inferInstanceAs (Decidable (x < y))
/-- _law_rising(items), of texts, of whole numbers -/
def spRiseS (K : PySem.W.Frag) : Sp := fun vs H Q _ => ∃ (a : Addr) (l : List Str), vs = [.ref a] ∧ SqL K H a (l.map V.str) ∧ l.length ≤ 100 ∧
  ∀ (H' : Hp) (R : Addr) (us : List Str), Same H H' → H R = none → H' R = some (.lst (us.map V.str)) → AscS us → (∀ z, z ∈ us ↔ z ∈ l) → Q (.ref R) H'
def spRiseI (K : PySem.W.Frag) : Sp := fun vs H Q _ => ∃ (a : Addr) (l : List Int), vs = [.ref a] ∧ SqL K H a (l.map V.int) ∧ l.length ≤ 100 ∧
  ∀ (H' : Hp) (R : Addr) (us : List Int), Same H H' → H R = none → H' R = some (.lst (us.map V.int)) → AscI us → (∀ z, z ∈ us ↔ z ∈ l) → Q (.ref R) H'
theorem inV_int (z : Int) : ∀ fs : List Int, inV (.int z) (fs.map V.int) = decide (z ∈ fs)
  | [] => by simp [inV]
  | f :: r => by
    have ih : (r.map V.int).any (fun y => eqV y (.int z)) = decide (z ∈ r) := inV_int z r
    show (eqV (.int f) (.int z) || (r.map V.int).any (fun y => eqV y (.int z))) = _
    rw [ih]
    have e : eqV (.int f) (.int z) = (f == z) := rfl
    rw [e]
    by_cases q : f = z
    · simp [q]
    · have q2 : ¬ z = f := fun y => q y.symm
      simp [q, q2]
theorem flat_int : ∀ fs : List Int, (fs.map V.int).all flatV = true
  | [] => rfl
  | _ :: r => by
    show (true && (r.map V.int).all flatV) = true
    rw [flat_int r]
    rfl
end Sw
namespace Sw
open PySem PySem.Spec PyProof.Rows L2
theorem LDict.same {K : PySem.W.Frag} {H H' : Hp} {a : Addr} {es : List Ent} (h : LDict K H a es) (e : Same H H') : LDict K H' a es :=
  ⟨e _ _ h.at_, h.nd, h.len, fun r hr => ⟨(h.all r hr).1.imp (fun z => e.seq z) (fun z => same_seqT e z), (h.all r hr).2⟩⟩
theorem TabAt.same {K : PySem.W.Frag} {CT : Addr} {H H' : Hp} {x : Addr} {nm : Str} {wd : Int} {ks : List Int} {ts : List Ent} {rs : List V} (h : TabAt K CT H x nm wd ks ts rs) (e : Same H H') : TabAt K CT H' x nm wd ks ts rs :=
  ⟨let ⟨dx, kA, lA, rA, h1, h2, h3, h4⟩ := h.ex; ⟨dx, kA, lA, rA, e _ _ h1, e _ _ h2, h3.same e, same_seqT e h4⟩, h.ks⟩
/-- a dealt table: name, width, key, menus, references -/
structure Rw where
  nm : Str
  wd : Int
  ks : List Int
  es : List Ent
  ls : List (Int × Str × Int)
/-- tuples (column, name, column) -/
structure LeadsV (K : PySem.W.Frag) (H : Hp) (vs : List V) (ls : List (Int × Str × Int)) : Prop where
  len : vs.length = ls.length
  sml : ls.length ≤ 100
  all : ∀ (i : Nat) (v : V), vs[i]? = some v → ∃ e, ls[i]? = some e ∧ ∃ q, v = .ref q ∧ SqT K H q [.int e.1, .str e.2.1, .int e.2.2]
theorem LeadsV.same {K : PySem.W.Frag} {H H' : Hp} {vs : List V} {ls : List (Int × Str × Int)} (h : LeadsV K H vs ls) (e : Same H H') : LeadsV K H' vs ls :=
  ⟨h.len, h.sml, fun i v q => let ⟨z, e1, b, e2, e3⟩ := h.all i v q; ⟨z, e1, b, e2, same_seqT e e3⟩⟩
theorem LeadsV.lead {K : PySem.W.Frag} {H : Hp} {a : Addr} {vs : List V} {ls : List (Int × Str × Int)} (h : LeadsV K H vs ls) (ha : SqT K H a vs) : Lead K H a vs (ls.map fun e => e.2.1) :=
  ⟨ha, by rw [List.length_map]; exact h.len, by rw [List.length_map]; exact h.sml, fun i v q => by
    obtain ⟨z, e1, b, e2, e3⟩ := h.all i v q
    exact ⟨z.2.1, by rw [List.getElem?_map, e1]; rfl, b, _, e2, e3, rfl⟩⟩
structure RwAt (K : PySem.W.Frag) (H : Hp) (v : V) (r : Rw) : Prop where
  ex : ∃ a k m e vs, v = .ref a ∧ SqL K H a [.str r.nm, .int r.wd, .ref k, .ref m, .ref e] ∧ SqL K H k (r.ks.map V.int) ∧ LDict K H m r.es ∧ SqL K H e vs ∧ LeadsV K H vs r.ls
  kl : r.ks.length ≤ 100
  ml : ∀ e ∈ r.es, SqL K H e.2.1 (e.2.2.map V.str)
theorem RwAt.same {K : PySem.W.Frag} {H H' : Hp} {v : V} {r : Rw} (h : RwAt K H v r) (s : Same H H') : RwAt K H' v r :=
  ⟨let ⟨a, k, m, e, vs, h1, h2, h3, h4, h5, h6⟩ := h.ex; ⟨a, k, m, e, vs, h1, s.seq h2, s.seq h3, h4.same s, s.seq h5, h6.same s⟩, h.kl, fun e he => s.seq (h.ml e he)⟩
/-- the list of the dealt tables -/
structure RowsAt (K : PySem.W.Frag) (H : Hp) (a : Addr) (vs : List V) (rows : List Rw) : Prop where
  at_ : SqL K H a vs
  len : vs.length = rows.length
  all : ∀ (i : Nat) (v : V), vs[i]? = some v → ∃ r, rows[i]? = some r ∧ RwAt K H v r
theorem RowsAt.same {K : PySem.W.Frag} {H H' : Hp} {a : Addr} {vs : List V} {rows : List Rw} (h : RowsAt K H a vs rows) (s : Same H H') : RowsAt K H' a vs rows :=
  ⟨s.seq h.at_, h.len, fun i v q => let ⟨r, h1, h2⟩ := h.all i v q; ⟨r, h1, h2.same s⟩⟩
/-- the table that was made of a dealt one -/
structure TbOf (K : PySem.W.Frag) (CT : Addr) (H : Hp) (t : Tb) (r : Rw) : Prop where
  nm : t.nm = r.nm
  zs : t.zs = r.ls.map fun e => e.2.1
  tab : ∃ ks ts vs, TabAt K CT H t.x r.nm r.wd ks ts vs ∧ (∀ z, z ∈ ks ↔ z ∈ r.ks) ∧ Alike r.es ts ∧ LeadsV K H vs r.ls
theorem TbOf.same {K : PySem.W.Frag} {CT : Addr} {H H' : Hp} {t : Tb} {r : Rw} (h : TbOf K CT H t r) (s : Same H H') : TbOf K CT H' t r :=
  ⟨h.nm, h.zs, let ⟨ks, ts, vs, h1, h2, h3, h4⟩ := h.tab; ⟨ks, ts, vs, h1.same s, h2, h3, h4.same s⟩⟩
theorem TbOf.tb {K : PySem.W.Frag} {CT : Addr} {H : Hp} {t : Tb} {r : Rw} (h : TbOf K CT H t r) : TbAt K CT H t := by
  obtain ⟨ks, ts, vs, ⟨⟨dx, kA, lA, rA, h1, h2, h3, h4⟩, _⟩, _, _, h5⟩ := h.tab
  refine ⟨dx, r.wd, kA, lA, rA, vs, by rw [h.nm]; exact h1, ?_⟩
  rw [h.zs]
  exact h5.lead h4
/-- the tables keep the rules of a schema -/
structure Sane (rows : List Rw) : Prop where
  nd : (rows.map Rw.nm).Nodup
  ok : ∀ l : List Tb, l.length = rows.length → (∀ (i : Nat) (t : Tb), l[i]? = some t → ∃ r : Rw, rows[i]? = some r ∧ t.nm = r.nm ∧ t.zs = r.ls.map fun e => e.2.1) → Known l ∧ ∀ u ∈ l, ¬ Rch l u.nm u.nm
  n1 : 1 ≤ rows.length
  n3 : rows.length ≤ 3
  ls : ∀ r ∈ rows, r.ls.length ≤ 100
/-- the schema that was made of the dealt tables -/
structure SchOf (K : PySem.W.Frag) (CT CS : Addr) (H : Hp) (S : Addr) (rows : List Rw) (l : List Tb) : Prop where
  sch : SchAt K CT CS H S l
  len : l.length = rows.length
  all : ∀ (i : Nat) (t : Tb), l[i]? = some t → ∃ r, rows[i]? = some r ∧ TbOf K CT H t r
theorem SchOf.same {K : PySem.W.Frag} {CT CS S : Addr} {H H' : Hp} {rows : List Rw} {l : List Tb} (h : SchOf K CT CS H S rows l) (s : Same H H') : SchOf K CT CS H' S rows l :=
  ⟨h.sch.same s, h.len, fun i t q => let ⟨r, h1, h2⟩ := h.all i t q; ⟨r, h1, h2.same s⟩⟩
/-- _law_build(tables) -/
def spBuild (K : PySem.W.Frag) (CT CS : Addr) : Sp := fun vs H Q _ => ∃ (a : Addr) (xs : List V) (rows : List Rw), vs = [.ref a] ∧ RowsAt K H a xs rows ∧ Sane rows ∧
  ∀ (H' : Hp) (S : Addr) (l : List Tb), Same H H' → H S = none → SchOf K CT CS H' S rows l → Q (.ref S) H'
/-- Schema of tables that keep the rules -/
theorem sch_sane {K : PySem.W.Frag} {CT CS DU DR : Addr} {H : Hp} {l : List Tb} {E : XK} {Q : VK} (kn : Known l) (nr : ∀ u ∈ l, ¬ Rch l u.nm u.nm) (htb : ∀ t ∈ l, TbAt K CT H t) (nd : (l.map Tb.nm).Nodup) (hl : l.length ≤ 100) (hz : (l.flatMap Tb.zs).length ≤ 1000) {x dx : Addr} (nx : H x = none) (ndx : H dx = none) (ne : dx ≠ x)
    (q : ∀ H', Same H H' → SchAt K CT CS H' x l → Q .non H') : spSchema K CT CS DU DR (V.ref x :: l.map fun t => V.ref t.x) (upd (upd H dx (.own x)) x (.ins CS dx [])) Q E := by
  have s1 : Same H (upd (upd H dx (.own x)) x (.ins CS dx [])) := (same_new ndx).trans (same_new (by rw [upd_ne ne.symm]; exact nx))
  have hu : unkOf l = none := List.find?_eq_none.mpr fun z hz => by
    obtain ⟨t, ht, hzt⟩ := List.mem_flatMap.mp hz
    simp [kn t ht z hzt]
  refine ⟨x, dx, l, rfl, upd_same, fun t ht => (htb t ht).same s1, nd, hl, hz, fun u h => ?_, fun _ => ⟨fun i t hi _ r => absurd r (nr t (List.mem_of_getElem? hi)), fun _ H1 sb sc => q H1 (fun b o e => sb b o (ne_of_none e nx) (s1 b o e)) sc⟩⟩
  rw [hu] at h
  exact nomatch h
end Sw
namespace Sw
open PySem PySem.Spec PyProof.Rows L2
theorem flat_len : ∀ {l : List Tb}, (∀ t ∈ l, t.zs.length ≤ 100) → (l.flatMap Tb.zs).length ≤ l.length * 100
  | [], _ => Nat.zero_le _
  | t :: r, h => by
    rw [List.flatMap_cons, List.length_append, List.length_cons]
    have h1 := h t List.mem_cons_self
    have h2 := flat_len (l := r) fun u hu => h u (List.mem_cons_of_mem _ hu)
    omega
theorem len2 {α : Type} {l : List α} (h : l.length = 2) : ∃ a b, l = [a, b] := by
  match l, h with
  | [a, b], _ => exact ⟨a, b, rfl⟩
theorem len3 {α : Type} {l : List α} (h : l.length = 3) : ∃ a b c, l = [a, b, c] := by
  match l, h with
  | [a, b, c], _ => exact ⟨a, b, c, rfl⟩
/-- all but lists is as it was -/
def NotL (H H' : Hp) : Prop := ∀ b o, H b = some o → (∀ ys, o ≠ .lst ys) → H' b = some o
theorem notL_upd {H : Hp} {M : Addr} {ys : List V} {o : HO} (h : H M = some (.lst ys)) : NotL H (upd H M o) := fun b u e n => by
  rw [upd_ne fun z => ?_]
  · exact e
  · rw [z, h] at e
    exact n ys (Option.some.inj e).symm
theorem NotL.tup {K : PySem.W.Frag} {H H' : Hp} {a : Addr} {xs : List V} (e : NotL H H') (h : SqT K H a xs) : SqT K H' a xs := by
  rcases h with (h | ⟨o, h⟩) | h
  · exact .inl (.inl (e _ _ h fun ys z => nomatch z))
  · exact .inl (.inr ⟨o, e _ _ h fun ys z => nomatch z⟩)
  · exact .inr h
theorem LeadsV.notL {K : PySem.W.Frag} {H H' : Hp} {vs : List V} {ls : List (Int × Str × Int)} (h : LeadsV K H vs ls) (e : NotL H H') : LeadsV K H' vs ls :=
  ⟨h.len, h.sml, fun i v q => let ⟨z, e1, b, e2, e3⟩ := h.all i v q; ⟨z, e1, b, e2, e.tup e3⟩⟩
theorem TabAt.notL {K : PySem.W.Frag} {CT : Addr} {H H' : Hp} {x : Addr} {nm : Str} {wd : Int} {ks : List Int} {ts : List Ent} {rs : List V} (h : TabAt K CT H x nm wd ks ts rs) (e : NotL H H') : TabAt K CT H' x nm wd ks ts rs :=
  ⟨let ⟨dx, kA, lA, rA, h1, h2, h3, h4⟩ := h.ex; ⟨dx, kA, lA, rA, e _ _ h1 (fun ys z => nomatch z), e _ _ h2 (fun ys z => nomatch z), ⟨e _ _ h3.at_ (fun ys z => nomatch z), fun r hr => ⟨e _ _ (h3.all r hr).1 (fun ys z => nomatch z), (h3.all r hr).2⟩⟩, e.tup h4⟩, h.ks⟩
theorem TbOf.notL {K : PySem.W.Frag} {CT : Addr} {H H' : Hp} {t : Tb} {r : Rw} (h : TbOf K CT H t r) (s : NotL H H') : TbOf K CT H' t r :=
  ⟨h.nm, h.zs, let ⟨ks, ts, vs, h1, h2, h3, h4⟩ := h.tab; ⟨ks, ts, vs, h1.notL s, h2, h3, h4.notL s⟩⟩
end Sw
namespace Sw
open PySem PySem.Spec PyProof.Rows L2
theorem pick_one (its : List Value) : slicePick its.toArray none none (some 1) = its.toArray := by
  have e : slicePick its.toArray none none (some 1) = slicePick its.toArray none none none := rfl
  rw [e, slicePick_cut]
  have h0 : HT.sIx its.length 0 none = 0 := rfl
  have h1 : HT.sIx its.length its.length none = its.length := rfl
  simp [h0, h1]
/-- xs[::s], s one or minus one -/
def tStep (K : PySem.W.Frag) (te ts : TE) : TE := fun σ H Q => te σ H fun x H1 => ts σ H1 fun y H2 => ∃ s : Int, y = .int s ∧ ∃ (a : Addr) (xs : List V), x = .ref a ∧ SqL K H2 a xs ∧
  ((s = 1 ∧ ∀ p, H2 p = none → Q (.ref p) (upd H2 p (.lst xs))) ∨ (s = -1 ∧ ∀ p, H2 p = none → Q (.ref p) (upd H2 p (.lst xs.reverse))))
theorem pe_step {X : Cx} {e st : Expr} {te ts : TE} {p3 pos : Pos} (he : PE X e te) (hst : PE X st ts) : PE X (.Subscript e (.Slice none none (some st) p3) pos) (tStep X.K te ts) := by
  refine ⟨fun pins s σ H Q I h => ?_⟩
  refine Subscript_ (thn (he.run pins s σ H _ I h) fun v sa ⟨x, Ha, Ia, ra, qa⟩ => ?_)
  refine wpAny_Slice (thn (po_none.run pins sa σ Ha (fun o H2 => o = none ∧ H2 = Ha) Ia ⟨rfl, rfl⟩) fun vl sb ⟨l, Hb, Ib, pl, el, eb⟩ => ?_)
  subst el eb
  refine thn (po_none.run pins sb σ Hb (fun o H3 => o = none ∧ H3 = Hb) Ib ⟨rfl, rfl⟩) fun vu sc ⟨u, Hc, Ic, pu, eu, ec⟩ => ?_
  subst eu ec
  have part : PO X (some st) (tPart ts) := po_some hst
  refine thn (part.run pins sc σ Hc (fun o Hd => match o with | some k => (∃ (a : Addr) (xs : List V), x = .ref a ∧ SqL X.K Hd a xs ∧ ((k = 1 ∧ ∀ p, Hd p = none → Q (.ref p) (upd Hd p (.lst xs))) ∨ (k = -1 ∧ ∀ p, Hd p = none → Q (.ref p) (upd Hd p (.lst xs.reverse))))) | none => False) Ic qa) fun vs sd ⟨o, Hd, Id, ps, w⟩ => ?_
  cases o with
  | none => exact w.elim
  | some k =>
  obtain ⟨a, xs, ex, hx, hq⟩ := w
  subst ex
  cases ra
  have I5 : Inv X pins σ Hd { sd with heap := sd.heap.push { cls := .type "slice", data := .fields #[vl, vu, vs] } } := Id.kept (t' := sd.toks) fun b ob q => Heap.get?_push_of_some _ q
  obtain ⟨its, r, ht, hz⟩ := I5.list hx
  have hlen := r.length
  refine (tail_any (ops := [.ref a, .ref sd.heap.objs.size]) ht.isList.typeIs (PySem.slot_list_getitem.lookup) ?_ (by with_unfolding_all rfl) : wpAny (model X.prog X.w) X.A (subscriptTail e (.Slice none none (some st) p3) (.ref a) (.ref sd.heap.objs.size)) (EP X pins σ Q) X.xe { sd with heap := sd.heap.push { cls := .type "slice", data := .fields #[vl, vu, vs] } })
  refine wpAny_getItem_list_slice ht.isList (Heap.IsSliceOf.new _ vl vu vs) pl pu ps ?_ ?_ (by rw [List.size_toArray]; omega)
  · rcases hq with ⟨rfl, _⟩ | ⟨rfl, _⟩ <;> decide
  rcases hq with ⟨rfl, q⟩ | ⟨rfl, q⟩
  · rw [pick_one]
    exact ⟨.ref _, _, I5.laid (t' := sd.toks) (o := .lst xs) (fun b ob z => Heap.get?_push_of_some _ z) (Nat.le_refl _) ⟨hz, _, 0, r, Heap.get?_push_size _ rfl⟩, rfl, q _ (I5.hok.fresh (Nat.le_refl _))⟩
  · rw [PySem.W.krv_pick]
    exact ⟨.ref _, _, I5.laid (t' := sd.toks) (o := .lst xs.reverse) (fun b ob z => Heap.get?_push_of_some _ z) (Nat.le_refl _) ⟨by rw [List.length_reverse]; exact hz, _, 0, r.reverse, Heap.get?_push_size _ rfl⟩, rfl, q _ (I5.hok.fresh (Nat.le_refl _))⟩
end Sw
namespace Sw
open PySem PySem.Spec PyProof.Rows L2
/-- what holds of every dealt table: of its own -/
structure RwOwn (vals : List Str) (r : Rw) : Prop where
  wd : 1 ≤ r.wd ∧ r.wd ≤ 3
  ks : r.ks.length ≤ 3 ∧ ∀ k ∈ r.ks, 0 ≤ k ∧ k < r.wd
  es : ∀ e ∈ r.es, (∃ c : Int, e.1 = Sum.inl c ∧ 0 ≤ c ∧ c < r.wd) ∧ AscS e.2.2 ∧ e.2.2 ≠ [] ∧ e.2.2.length ≤ 3 ∧ ∀ z ∈ e.2.2, z ∈ vals
/-- a reference from the i-th to a later table -/
def LdOk (ws : List Str) (wds : List Int) (i : Nat) (e : Int × Str × Int) : Prop := ∃ (j : Nat) (v v' : Int), i < j ∧ wds[i]? = some v ∧ wds[j]? = some v' ∧ ws[j]? = some e.2.1 ∧ 0 ≤ e.1 ∧ e.1 < v ∧ 0 ≤ e.2.2 ∧ e.2.2 < v'
/-- the dealt tables, in the order of their names -/
structure Dealt (ws vals : List Str) (rows : List Rw) : Prop where
  nm : rows.map Rw.nm = ws
  own : ∀ r ∈ rows, RwOwn vals r
  ld : ∀ (i : Nat) (r : Rw), rows[i]? = some r → ∀ e ∈ r.ls, LdOk ws (rows.map Rw.wd) i e
  ne : (rows.map fun r => r.es.length).sum ≤ 2
  nl : (rows.map fun r => r.ls.length).sum ≤ 2
/-- _law_deal_tables(hand, names, values) -/
def spDealT (K : PySem.W.Frag) : Sp := fun vs H Q _ => ∃ (h N Va : Addr) (ws vals : List Str), vs = [.ref h, .ref N, .ref Va] ∧ HandAt H h ∧ H N = some (.lst (ws.map V.str)) ∧ H Va = some (.lst (vals.map V.str)) ∧ ws.Nodup ∧ 1 ≤ ws.length ∧ ws.length ≤ 3 ∧ vals.length = 5 ∧
  ∀ (H' : Hp) (T : Addr) (xs : List V) (rows : List Rw), HandAt H' h → SBut h H H' → H T = none → T ≠ h → H' T = some (.lst xs) → (RowsAt K H' T xs rows ∧ Dealt ws vals rows ∨ RowsAt K H' T xs rows.reverse ∧ Dealt ws vals rows) → Q (.ref T) H'
end Sw
namespace Sw
open PySem PySem.Spec PyProof.Rows L2
structure Cell where
  a : Addr
  k : Addr
  m : Addr
  e : Addr
/-- the places of a dealt table -/
structure CellAt (K : PySem.W.Frag) (H : Hp) (c : Cell) (r : Rw) : Prop where
  a : H c.a = some (.lst [.str r.nm, .int r.wd, .ref c.k, .ref c.m, .ref c.e])
  k : H c.k = some (.lst (r.ks.map V.int))
  m : H c.m = some (.dK (r.es.map fun e => (e.1, V.ref e.2.1)))
  mn : (r.es.map (·.1)).Nodup
  me : ∀ e ∈ r.es, H e.2.1 = some (.lst (e.2.2.map V.str)) ∧ e.2.2 ≠ [] ∧ e.2.2.length ≤ 3
  e : ∃ vs, H c.e = some (.lst vs) ∧ LeadsV K H vs r.ls
  kl : r.ks.length ≤ 3
  el : r.es.length ≤ 2
  ll : r.ls.length ≤ 2
def Mine (c : Cell) (r : Rw) (b : Addr) : Prop := b = c.a ∨ b = c.k ∨ b = c.m ∨ b = c.e ∨ ∃ e ∈ r.es, b = e.2.1
theorem SBut.seqT {K : PySem.W.Frag} {H H' : Hp} {x a : Addr} {xs : List V} (e : SBut x H H') (h : SqT K H a xs) (hx : ∃ o, H x = some o ∧ (∀ ys, o ≠ .tup ys) ∧ ∀ u ys, o ≠ .frz u (.tup ys)) : SqT K H' a xs := by
  obtain ⟨o, h1, h2⟩ := hx
  exact SqT.but e h fun o' h' => by rw [h1] at h'; cases h'; exact h2
theorem LeadsV.sbut {K : PySem.W.Frag} {H H' : Hp} {x : Addr} {vs : List V} {ls : List (Int × Str × Int)} (h : LeadsV K H vs ls) (e : SBut x H H') (hx : ∃ o, H x = some o ∧ (∀ ys, o ≠ .tup ys) ∧ ∀ u ys, o ≠ .frz u (.tup ys)) : LeadsV K H' vs ls :=
  ⟨h.len, h.sml, fun i v q => let ⟨z, e1, b, e2, e3⟩ := h.all i v q; ⟨z, e1, b, e2, e.seqT e3 hx⟩⟩
theorem CellAt.sbut {K : PySem.W.Frag} {H H' : Hp} {x : Addr} {c : Cell} {r : Rw} (h : CellAt K H c r) (e : SBut x H H') (n : ∀ b, Mine c r b → b ≠ x) (hx : ∃ o, H x = some o ∧ (∀ ys, o ≠ .tup ys) ∧ ∀ u ys, o ≠ .frz u (.tup ys)) : CellAt K H' c r :=
  ⟨e _ _ (n _ (.inl rfl)) h.a, e _ _ (n _ (.inr (.inl rfl))) h.k, e _ _ (n _ (.inr (.inr (.inl rfl)))) h.m, h.mn, fun u hu => ⟨e _ _ (n _ (.inr (.inr (.inr (.inr ⟨u, hu, rfl⟩))))) (h.me u hu).1, (h.me u hu).2⟩,
    let ⟨vs, h1, h2⟩ := h.e; ⟨vs, e _ _ (n _ (.inr (.inr (.inr (.inl rfl))))) h1, h2.sbut e hx⟩, h.kl, h.el, h.ll⟩
theorem CellAt.same {K : PySem.W.Frag} {H H' : Hp} {c : Cell} {r : Rw} (h : CellAt K H c r) (e : Same H H') : CellAt K H' c r :=
  ⟨e _ _ h.a, e _ _ h.k, e _ _ h.m, h.mn, fun u hu => ⟨e _ _ (h.me u hu).1, (h.me u hu).2⟩, let ⟨vs, h1, h2⟩ := h.e; ⟨vs, e _ _ h1, h2.same e⟩, h.kl, h.el, h.ll⟩
/-- what is mine is a short list or a dict -/
theorem CellAt.mine {K : PySem.W.Frag} {H : Hp} {c : Cell} {r : Rw} {b : Addr} (h : CellAt K H c r) (m : Mine c r b) : (∃ xs, H b = some (.lst xs) ∧ xs.length ≤ 5) ∨ ∃ kvs, H b = some (.dK kvs) := by
  rcases m with rfl | rfl | rfl | rfl | ⟨e, he, rfl⟩
  · exact .inl ⟨_, h.a, Nat.le_refl _⟩
  · exact .inl ⟨_, h.k, by rw [List.length_map]; exact Nat.le_trans h.kl (by decide)⟩
  · exact .inr ⟨_, h.m⟩
  · obtain ⟨vs, h1, h2⟩ := h.e
    exact .inl ⟨vs, h1, by rw [h2.len]; exact Nat.le_trans h.ll (by decide)⟩
  · exact .inl ⟨_, (h.me e he).1, by rw [List.length_map]; exact Nat.le_trans (h.me e he).2.2 (by decide)⟩
/-- short lists and dicts are not the hand -/
theorem hand_short {H : Hp} {h b : Addr} (hh : HandAt H h) (hb : (∃ xs, H b = some (.lst xs) ∧ xs.length ≤ 5) ∨ ∃ kvs, H b = some (.dK kvs)) : b ≠ h := by
  obtain ⟨ns, e, l⟩ := hh
  rintro rfl
  rcases hb with ⟨xs, h1, h2⟩ | ⟨kvs, h1⟩
  · rw [e] at h1
    have := HO.lst.inj (Option.some.inj h1)
    rw [← this, List.length_map] at h2
    omega
  · rw [e] at h1
    cases h1
theorem hand_noTup {H : Hp} {h : Addr} (hh : HandAt H h) : ∃ o, H h = some o ∧ (∀ ys, o ≠ .tup ys) ∧ ∀ u ys, o ≠ .frz u (.tup ys) := by
  obtain ⟨ns, e, l⟩ := hh
  exact ⟨_, e, fun ys z => (nomatch z), fun u ys z => (nomatch z)⟩
/-- the dealt tables at T -/
structure Grid (K : PySem.W.Frag) (H : Hp) (T : Addr) (cs : List Cell) (rows : List Rw) : Prop where
  tb : H T = some (.lst (cs.map fun c => V.ref c.a))
  len : cs.length = rows.length
  sml : cs.length ≤ 3
  all : ∀ (i : Nat) (c : Cell) (r : Rw), cs[i]? = some c → rows[i]? = some r → CellAt K H c r
  ke : ∀ c ∈ cs, ∀ c' ∈ cs, c.k ≠ c'.e
  nE : (cs.map Cell.e).Nodup
  nM : (cs.map Cell.m).Nodup
  nT : ∀ c ∈ cs, T ≠ c.e
theorem Grid.same {K : PySem.W.Frag} {H H' : Hp} {T : Addr} {cs : List Cell} {rows : List Rw} (g : Grid K H T cs rows) (e : Same H H') : Grid K H' T cs rows :=
  ⟨e _ _ g.tb, g.len, g.sml, fun i c r h1 h2 => (g.all i c r h1 h2).same e, g.ke, g.nE, g.nM, g.nT⟩
theorem Grid.hand {K : PySem.W.Frag} {H H' : Hp} {h T : Addr} {cs : List Cell} {rows : List Rw} (g : Grid K H T cs rows) (hh : HandAt H h) (e : SBut h H H') : Grid K H' T cs rows :=
  ⟨e _ _ (hand_short hh (.inl ⟨_, g.tb, by rw [List.length_map]; exact Nat.le_trans g.sml (by decide)⟩)) g.tb, g.len, g.sml, fun i c r h1 h2 => (g.all i c r h1 h2).sbut e (fun b m => hand_short hh ((g.all i c r h1 h2).mine m)) (hand_noTup hh), g.ke, g.nE, g.nM, g.nT⟩
/-- the list of the tables grew by a new one -/
theorem Grid.more {K : PySem.W.Frag} {H H' : Hp} {T : Addr} {cs : List Cell} {rows : List Rw} {c : Cell} {r : Rw} (g : Grid K H T cs rows) (hl : cs.length < 3) (e : Same H H') (hc : CellAt K H' c r) (ne : H c.e = none) (nm : H c.m = none) (nk : c.k ≠ c.e) (nke : ∀ c' ∈ cs, c.k ≠ c'.e)
    (na : c.a ≠ T) (nkT : c.k ≠ T) (nem : ∀ u ∈ r.es, u.2.1 ≠ T) (old : rows = [] ∨ ∀ (i : Nat) (c' : Cell) (r' : Rw), cs[i]? = some c' → rows[i]? = some r' → ∀ b, Mine c' r' b → b ≠ T) : Grid K (upd H' T (.lst (cs.map (fun c => V.ref c.a) ++ [.ref c.a]))) T (cs ++ [c]) (rows ++ [r]) := by
  have hT' := e _ _ g.tb
  have sb : SBut T H' (upd H' T (.lst (cs.map (fun c => V.ref c.a) ++ [.ref c.a]))) := fun b o hb h => by rw [upd_ne hb]; exact h
  have tx : ∃ o, H' T = some o ∧ (∀ ys, o ≠ .tup ys) ∧ ∀ u ys, o ≠ .frz u (.tup ys) := ⟨_, hT', fun ys z => (nomatch z), fun u ys z => (nomatch z)⟩
  have neT : c.e ≠ T := fun z => by rw [z, g.tb] at ne; cases ne
  have nmT : c.m ≠ T := fun z => by rw [z, g.tb] at nm; cases nm
  have inH : ∀ c' ∈ cs, (∃ o, H c'.e = some o) ∧ ∃ o, H c'.m = some o := fun c' h => by
    obtain ⟨i, hi⟩ := List.mem_iff_getElem?.mp h
    have hi2 := (List.getElem?_eq_some_iff.mp hi).1
    have hr := List.getElem?_eq_getElem (show i < rows.length by rw [← g.len]; exact hi2)
    have x := g.all i c' _ hi hr
    obtain ⟨vs, h1, _⟩ := x.e
    exact ⟨⟨_, h1⟩, ⟨_, x.m⟩⟩
  refine ⟨?_, ?_, ?_, ?_, ?_, ?_, ?_, ?_⟩
  · rw [upd_same, List.map_append]
    rfl
  · rw [List.length_append, List.length_append, g.len]
    rfl
  · rw [List.length_append]
    exact hl
  · intro i c' r' h1 h2
    by_cases hi : i < cs.length
    · rw [List.getElem?_append_left hi] at h1
      rw [List.getElem?_append_left (by rw [← g.len]; exact hi)] at h2
      refine ((g.all i c' r' h1 h2).same e).sbut sb ?_ tx
      rcases old with q | q
      · have hl2 := g.len
        rw [q] at hl2
        simp at hl2
        rw [hl2] at hi
        exact absurd hi (Nat.not_lt_zero _)
      · exact q i c' r' h1 h2
    · have ei : i = cs.length := by
        have := (List.getElem?_eq_some_iff.mp h1).1
        rw [List.length_append] at this
        simp at this
        omega
      subst ei
      rw [List.getElem?_append_right (Nat.le_refl _), Nat.sub_self] at h1
      rw [List.getElem?_append_right (by rw [g.len]; exact Nat.le_refl _), g.len, Nat.sub_self] at h2
      obtain rfl : c = c' := Option.some.inj h1
      obtain rfl : r = r' := Option.some.inj h2
      refine hc.sbut sb ?_ tx
      rintro b (rfl | rfl | rfl | rfl | ⟨u, hu, rfl⟩)
      · exact na
      · exact nkT
      · exact nmT
      · exact neT
      · exact nem u hu
  · intro x hx y hy
    rcases List.mem_append.mp hx with hx | hx <;> rcases List.mem_append.mp hy with hy | hy
    · exact g.ke x hx y hy
    · rw [List.mem_singleton.mp hy]
      intro z
      obtain ⟨i, hi⟩ := List.mem_iff_getElem?.mp hx
      have hr := List.getElem?_eq_getElem (show i < rows.length by rw [← g.len]; exact (List.getElem?_eq_some_iff.mp hi).1)
      have x1 := (g.all i x _ hi hr).k
      rw [z, ne] at x1
      cases x1
    · rw [List.mem_singleton.mp hx]
      exact nke y hy
    · rw [List.mem_singleton.mp hx, List.mem_singleton.mp hy]
      exact nk
  · rw [List.map_append, List.nodup_append]
    refine ⟨g.nE, by simp, fun x hx y hy z => ?_⟩
    obtain ⟨c', h1, h2⟩ := List.mem_map.mp hx
    obtain ⟨o, ho⟩ := (inH c' h1).1
    have hy : y = c.e := by simpa using hy
    rw [h2, z, hy, ne] at ho
    cases ho
  · rw [List.map_append, List.nodup_append]
    refine ⟨g.nM, by simp, fun x hx y hy z => ?_⟩
    obtain ⟨c', h1, h2⟩ := List.mem_map.mp hx
    obtain ⟨o, ho⟩ := (inH c' h1).2
    have hy : y = c.m := by simpa using hy
    rw [h2, z, hy, nm] at ho
    cases ho
  · intro x hx
    rcases List.mem_append.mp hx with hx | hx
    · exact g.nT x hx
    · rw [List.mem_singleton.mp hx]
      exact neT.symm
end Sw
namespace Sw
open PySem PySem.Spec PyProof.Rows L2
theorem mine_T {K : PySem.W.Frag} {H : Hp} {c : Cell} {r : Rw} {T x : Addr} {xs : List V} (h : CellAt K H c r) (hT : H T = some (.lst (V.ref x :: xs))) (he : T ≠ c.e) (hes : r.es = []) : ∀ b, Mine c r b → b ≠ T := by
  rintro b (rfl | rfl | rfl | rfl | ⟨u, hu, rfl⟩) z
  · have e := h.a
    rw [z, hT] at e
    have := HO.lst.inj (Option.some.inj e)
    cases this
  · have e := h.k
    rw [z, hT] at e
    have := HO.lst.inj (Option.some.inj e)
    cases hk : r.ks with
    | nil => rw [hk] at this; cases this
    | cons a b => rw [hk] at this; cases this
  · have e := h.m
    rw [z, hT] at e
    cases e
  · exact he z.symm
  · rw [hes] at hu
    cases hu
theorem width_of {v : Int} (h0 : 0 ≤ v) (h5 : v < 5) : ∃ wd : Int, atI [V.int 1, V.int 2, V.int 2, V.int 3, V.int 3] v = some (.int wd) ∧ 1 ≤ wd ∧ wd ≤ 3 := by
  obtain ⟨n, rfl⟩ := Int.eq_ofNat_of_zero_le h0
  have : n = 0 ∨ n = 1 ∨ n = 2 ∨ n = 3 ∨ n = 4 := by omega
  rcases this with rfl | rfl | rfl | rfl | rfl
  · exact ⟨1, atI_nat (j := 0) rfl, by decide, by decide⟩
  · exact ⟨2, atI_nat (j := 1) rfl, by decide, by decide⟩
  · exact ⟨2, atI_nat (j := 2) rfl, by decide, by decide⟩
  · exact ⟨3, atI_nat (j := 3) rfl, by decide, by decide⟩
  · exact ⟨3, atI_nat (j := 4) rfl, by decide, by decide⟩
theorem at4 {α : Type} {a b c d : α} {v : Int} (h0 : 0 ≤ v) (h4 : v < 4) : (v = 0 ∧ atI [a, b, c, d] v = some a) ∨ (v = 1 ∧ atI [a, b, c, d] v = some b) ∨ (v = 2 ∧ atI [a, b, c, d] v = some c) ∨ (v = 3 ∧ atI [a, b, c, d] v = some d) := by
  obtain ⟨n, rfl⟩ := Int.eq_ofNat_of_zero_le h0
  have : n = 0 ∨ n = 1 ∨ n = 2 ∨ n = 3 := by omega
  rcases this with rfl | rfl | rfl | rfl
  · exact .inl ⟨rfl, atI_nat (j := 0) rfl⟩
  · exact .inr (.inl ⟨rfl, atI_nat (j := 1) rfl⟩)
  · exact .inr (.inr (.inl ⟨rfl, atI_nat (j := 2) rfl⟩))
  · exact .inr (.inr (.inr ⟨rfl, atI_nat (j := 3) rfl⟩))
theorem cut01 {wd : Int} (h1 : 1 ≤ wd) (h3 : wd ≤ 3) : ∃ ns : List Int, cutV [V.int 0, V.int 1] none (some (wd - 1)) = ns.map V.int ∧ ns.length ≤ 3 ∧ ∀ k ∈ ns, 0 ≤ k ∧ k < wd := by
  have : wd = 1 ∨ wd = 2 ∨ wd = 3 := by omega
  rcases this with rfl | rfl | rfl
  · exact ⟨[], rfl, by decide, by decide⟩
  · exact ⟨[0], rfl, by decide, by decide⟩
  · exact ⟨[0, 1], rfl, by decide, by decide⟩
end Sw
namespace Sw
open PySem PySem.Spec PyProof.Rows L2
/-- one table changed, at x -/
theorem Grid.chg {K : PySem.W.Frag} {H H' : Hp} {T x : Addr} {cs : List Cell} {rows : List Rw} {i : Nat} {c : Cell} {r' : Rw} (g : Grid K H T cs rows) (hi : cs[i]? = some c) (e : SBut x H H') (hc : CellAt K H' c r') (nT : T ≠ x)
    (hx : ∃ o, H x = some o ∧ (∀ ys, o ≠ .tup ys) ∧ ∀ u ys, o ≠ .frz u (.tup ys)) (old : ∀ (j : Nat) (c1 : Cell) (r1 : Rw), j ≠ i → cs[j]? = some c1 → rows[j]? = some r1 → ∀ b, Mine c1 r1 b → b ≠ x) : Grid K H' T cs (rows.set i r') := by
  refine ⟨e _ _ nT g.tb, by rw [List.length_set]; exact g.len, g.sml, fun j c1 r1 h1 h2 => ?_, g.ke, g.nE, g.nM, g.nT⟩
  by_cases hj : j = i
  · subst hj
    rw [hi] at h1
    obtain rfl : c = c1 := Option.some.inj h1
    have hl : j < rows.length := by
      rw [← g.len]
      exact (List.getElem?_eq_some_iff.mp hi).1
    rw [List.getElem?_set_self hl] at h2
    obtain rfl : r' = r1 := Option.some.inj h2
    exact hc
  · rw [List.getElem?_set_ne (fun z => hj z.symm)] at h2
    exact (g.all j c1 r1 h1 h2).sbut e (old j c1 r1 hj h1 h2) hx
/-- an entry put into a menu's dict -/
def putE (es : List Ent) (k : Key) (R : Addr) (us : List Str) : List Ent := if (es.any fun e => decide (e.1 = k)) = true then es.map (fun e => if e.1 = k then (k, R, us) else e) else es ++ [(k, R, us)]
theorem putE_kv (es : List Ent) (k : Key) (R : Addr) (us : List Str) : putK (es.map fun e => (e.1, V.ref e.2.1)) k (.ref R) = (putE es k R us).map fun e => (e.1, V.ref e.2.1) := by
  have e : ((es.map fun e => (e.1, V.ref e.2.1)).any fun kv => decide (kv.1 = k)) = es.any fun e => decide (e.1 = k) := by
    rw [List.any_map]
    rfl
  unfold putE putK
  rw [e]
  cases es.any fun e => decide (e.1 = k) with
  | true =>
    rw [if_pos rfl, if_pos rfl, List.map_map, List.map_map]
    refine List.map_congr_left fun u _ => ?_
    by_cases q : u.1 = k
    · simp [q]
    · simp [q]
  | false =>
    rw [if_neg Bool.false_ne_true, if_neg Bool.false_ne_true, List.map_append]
    rfl
theorem putE_mem {es : List Ent} {k : Key} {R : Addr} {us : List Str} {u : Ent} (h : u ∈ putE es k R us) : u = (k, R, us) ∨ u ∈ es := by
  unfold putE at h
  split at h
  · obtain ⟨w, h1, h2⟩ := List.mem_map.mp h
    by_cases q : w.1 = k
    · rw [if_pos q] at h2
      exact .inl h2.symm
    · rw [if_neg q] at h2
      rw [← h2]
      exact .inr h1
  · rcases List.mem_append.mp h with q | q
    · exact .inr q
    · exact .inl (List.mem_singleton.mp q)
theorem putE_len (es : List Ent) (k : Key) (R : Addr) (us : List Str) : (putE es k R us).length ≤ es.length + 1 := by
  unfold putE
  split
  · rw [List.length_map]
    exact Nat.le_succ _
  · rw [List.length_append]
    exact Nat.le_refl _
theorem putE_nd {es : List Ent} (nd : (es.map (·.1)).Nodup) (k : Key) (R : Addr) (us : List Str) : ((putE es k R us).map (·.1)).Nodup := by
  unfold putE
  split
  · have e : (es.map fun e => if e.1 = k then (k, R, us) else e).map (·.1) = es.map (·.1) := by
      rw [List.map_map]
      refine List.map_congr_left fun u _ => ?_
      by_cases q : u.1 = k
      · simp [q]
      · simp [q]
    rw [e]
    exact nd
  · rename_i h
    rw [List.map_append, List.nodup_append]
    refine ⟨nd, by simp, fun x hx y hy z => h ?_⟩
    have hy : y = k := by simpa using hy
    obtain ⟨u, h1, h2⟩ := List.mem_map.mp hx
    exact List.any_eq_true.mpr ⟨u, h1, decide_eq_true (by rw [h2, z, hy])⟩
theorem sum_set {α : Type} (f : α → Nat) : ∀ {l : List α} {i : Nat} {a b : α}, l[i]? = some a → f b ≤ f a + 1 → ((l.set i b).map f).sum ≤ (l.map f).sum + 1
  | [], _, _, _, h, _ => nomatch h
  | x :: r, 0, a, b, h, q => by
    obtain rfl : x = a := Option.some.inj h
    show f b + (r.map f).sum ≤ f x + (r.map f).sum + 1
    omega
  | x :: r, i + 1, a, b, h, q => by
    have := sum_set f (l := r) (i := i) (a := a) (b := b) h q
    show f x + ((r.set i b).map f).sum ≤ f x + (r.map f).sum + 1
    omega
theorem le_sum {α : Type} (f : α → Nat) : ∀ {l : List α} {a : α}, a ∈ l → f a ≤ (l.map f).sum
  | x :: r, a, h => by
    rcases List.mem_cons.mp h with rfl | h
    · exact Nat.le_add_right _ _
    · exact Nat.le_trans (le_sum f h) (Nat.le_add_left _ _)
theorem map_set {α β : Type} (f : α → β) {l : List α} {i : Nat} {a b : α} (h : l[i]? = some a) (e : f b = f a) : (l.set i b).map f = l.map f := by
  refine List.ext_getElem? fun j => ?_
  rw [List.getElem?_map, List.getElem?_map]
  by_cases hj : i = j
  · subst hj
    rw [List.getElem?_set_self (List.getElem?_eq_some_iff.mp h).1, h]
    exact congrArg some e
  · rw [List.getElem?_set_ne hj]
theorem mem_set {α : Type} {l : List α} {i : Nat} {b x : α} (h : x ∈ l.set i b) : x = b ∨ x ∈ l := by
  rcases List.mem_or_eq_of_mem_set h with q | q
  · exact .inr q
  · exact .inl q
theorem cut_menu {vals : List Str} (h5 : vals.length = 5) {s u : Int} (s0 : 0 ≤ s) (s3 : s < 3) (u0 : 0 ≤ u) (u3 : u < 3) : ∃ ms : List Str, cutV (vals.map V.str) (some s) (some (s + 1 + u)) = ms.map V.str ∧ ms ≠ [] ∧ ms.length ≤ 3 ∧ ∀ z ∈ ms, z ∈ vals := by
  obtain ⟨n, rfl⟩ := Int.eq_ofNat_of_zero_le s0
  obtain ⟨m, rfl⟩ := Int.eq_ofNat_of_zero_le u0
  have e : (n : Int) + 1 + (m : Int) = ((n + 1 + m : Nat) : Int) := rfl
  have hn : n < 3 := by omega
  have hm : m < 3 := by omega
  refine ⟨(vals.drop n).take (n + 1 + m - n - (n + 1 + m - 5)), ?_, ?_, ?_, ?_⟩
  · unfold cutV
    rw [List.length_map, h5]
    have h1 : HT.sIx 5 0 (some (n : Int)) = n := by
      have := HT.sIx_nat 5 0 n
      have q : min n 5 = n := by omega
      rw [q] at this
      exact this
    have h2 : HT.sIx 5 5 (some ((n : Int) + 1 + (m : Int))) = min (n + 1 + m) 5 := HT.sIx_nat 5 5 (n + 1 + m)
    rw [h1, h2, List.map_take, List.map_drop]
    congr 1
    omega
  · intro z
    have := congrArg List.length z
    rw [List.length_take, List.length_drop, h5] at this
    simp at this
    omega
  · rw [List.length_take]
    omega
  · intro z hz
    exact List.mem_of_mem_drop (List.mem_of_mem_take hz)
end Sw
namespace Sw
open PySem PySem.Spec PyProof.Rows L2
theorem asc_nd : ∀ {us : List Str}, AscS us → us.Nodup
  | [], _ => .nil
  | u :: r, h => List.nodup_cons.mpr ⟨fun m => SLt.irrefl u ((List.pairwise_cons.mp h).1 u m), asc_nd (List.pairwise_cons.mp h).2⟩
theorem asc_sub {us ms : List Str} (as : AscS us) (hm : ∀ z, z ∈ us ↔ z ∈ ms) (h : ms.length ≤ 3) : us.length ≤ 3 := Nat.le_trans (nodup_le (asc_nd as) fun z hz => (hm z).mp hz) h
theorem asc_ne {us ms : List Str} (hm : ∀ z, z ∈ us ↔ z ∈ ms) (h : ms ≠ []) : us ≠ [] := fun e => by
  cases hms : ms with
  | nil => exact h hms
  | cons m r =>
    have : m ∈ us := (hm m).mpr (by rw [hms]; exact List.mem_cons_self)
    rw [e] at this
    cases this
end Sw
namespace Sw
open PySem PySem.Spec PyProof.Rows L2
theorem idx_inj {α β : Type} {f : α → β} : ∀ {l : List α} {i j : Nat} {a b : α}, (l.map f).Nodup → l[i]? = some a → l[j]? = some b → f a = f b → i = j
  | [], _, _, _, _, _, h, _, _ => nomatch h
  | x :: r, 0, 0, _, _, _, _, _, _ => rfl
  | x :: r, 0, j + 1, a, b, nd, h1, h2, e => by
    obtain rfl : x = a := Option.some.inj h1
    have h2 : r[j]? = some b := h2
    exact absurd (List.mem_map.mpr ⟨b, List.mem_of_getElem? h2, e.symm⟩) (List.nodup_cons.mp nd).1
  | x :: r, i + 1, 0, a, b, nd, h1, h2, e => by
    obtain rfl : x = b := Option.some.inj h2
    have h1 : r[i]? = some a := h1
    exact absurd (List.mem_map.mpr ⟨a, List.mem_of_getElem? h1, e⟩) (List.nodup_cons.mp nd).1
  | x :: r, i + 1, j + 1, a, b, nd, h1, h2, e => congrArg (· + 1) (idx_inj (l := r) (List.nodup_cons.mp nd).2 h1 h2 e)
end Sw
namespace Sw
open PySem PySem.Spec PyProof.Rows L2
/-- a list that begins with a text is no list of references -/
theorem lead_ne {K : PySem.W.Frag} {H : Hp} {vs : List V} {ls : List (Int × Str × Int)} {b e : Addr} {xs : List V} {z : Str} (h : LeadsV K H vs ls) (hb : H b = some (.lst xs)) (he : H e = some (.lst vs)) (hx : xs[0]? = some (.str z)) : b ≠ e := by
  rintro rfl
  rw [hb] at he
  have e1 := HO.lst.inj (Option.some.inj he)
  rw [e1] at hx
  obtain ⟨_, _, q, e2, _⟩ := h.all 0 _ hx
  cases e2
theorem LeadsV.snoc {K : PySem.W.Frag} {H : Hp} {vs : List V} {ls : List (Int × Str × Int)} {q : Addr} {e : Int × Str × Int} (h : LeadsV K H vs ls) (hq : SqT K H q [.int e.1, .str e.2.1, .int e.2.2]) (hl : ls.length + 1 ≤ 100) : LeadsV K H (vs ++ [.ref q]) (ls ++ [e]) := by
  refine ⟨by rw [List.length_append, List.length_append, h.len]; rfl, by rw [List.length_append]; exact hl, fun i v hv => ?_⟩
  by_cases hi : i < vs.length
  · rw [List.getElem?_append_left hi] at hv
    obtain ⟨e1, h1, h2⟩ := h.all i v hv
    exact ⟨e1, by rw [List.getElem?_append_left (by rw [← h.len]; exact hi)]; exact h1, h2⟩
  · have ei : i = vs.length := by
      have := (List.getElem?_eq_some_iff.mp hv).1
      rw [List.length_append] at this
      simp at this
      omega
    subst ei
    rw [List.getElem?_append_right (Nat.le_refl _), Nat.sub_self] at hv
    obtain rfl : V.ref q = v := Option.some.inj hv
    exact ⟨e, by rw [h.len, List.getElem?_append_right (Nat.le_refl _), Nat.sub_self]; rfl, q, rfl, hq⟩
theorem strs_head {ms : List Str} (h : ms ≠ []) : ∃ z, (ms.map V.str)[0]? = some (.str z) := by
  cases ms with
  | nil => exact absurd rfl h
  | cons z r => exact ⟨z, rfl⟩
end Sw
namespace Sw
open PySem PySem.Spec PyProof.Rows L2
theorem CellAt.rw {K : PySem.W.Frag} {H : Hp} {c : Cell} {r : Rw} (h : CellAt K H c r) : RwAt K H (.ref c.a) r := by
  obtain ⟨vs, e1, e2⟩ := h.e
  refine ⟨⟨c.a, c.k, c.m, c.e, vs, rfl, SqL.of h.a, SqL.of h.k, ⟨h.m, h.mn, Nat.le_trans h.el (by decide), fun e he => ⟨.inl (SqL.of (h.me e he).1), Nat.lt_of_le_of_lt (h.me e he).2.2 (by decide)⟩⟩, SqL.of e1, e2⟩, Nat.le_trans h.kl (by decide), fun e he => SqL.of (h.me e he).1⟩
theorem Grid.rows {K : PySem.W.Frag} {H : Hp} {T p : Addr} {cs : List Cell} {rows : List Rw} (g : Grid K H T cs rows) (hp : SqL K H p (cs.map fun c => V.ref c.a)) : RowsAt K H p (cs.map fun c => V.ref c.a) rows := by
  refine ⟨hp, by rw [List.length_map]; exact g.len, fun i v hv => ?_⟩
  rw [List.getElem?_map] at hv
  cases hc : cs[i]? with
  | none => rw [hc] at hv; cases hv
  | some c =>
    rw [hc] at hv
    obtain rfl : V.ref c.a = v := Option.some.inj hv
    have hr := List.getElem?_eq_getElem (show i < rows.length by rw [← g.len]; exact (List.getElem?_eq_some_iff.mp hc).1)
    exact ⟨_, hr, (g.all i c _ hc hr).rw⟩
theorem RowsAt.rev {K : PySem.W.Frag} {H : Hp} {T p : Addr} {xs : List V} {rows : List Rw} (h : RowsAt K H T xs rows) (hp : SqL K H p xs.reverse) : RowsAt K H p xs.reverse rows.reverse := by
  refine ⟨hp, by rw [List.length_reverse, List.length_reverse]; exact h.len, fun i v hv => ?_⟩
  have hi : i < xs.length := by
    have := (List.getElem?_eq_some_iff.mp hv).1
    rw [List.length_reverse] at this
    exact this
  rw [List.getElem?_reverse hi] at hv
  obtain ⟨r, h1, h2⟩ := h.all _ v hv
  exact ⟨r, by rw [List.getElem?_reverse (by rw [← h.len]; exact hi), ← h.len]; exact h1, h2⟩
end Sw
namespace Sw
open PySem PySem.Spec PyProof.Rows L2
theorem Dealt.nth {ws vals : List Str} {rows : List Rw} (D : Dealt ws vals rows) {i : Nat} {r : Rw} (h : rows[i]? = some r) : ws[i]? = some r.nm := by
  rw [← D.nm, List.getElem?_map, h]
  rfl
/-- references lead to later names alone -/
theorem Dealt.up {ws vals : List Str} {rows rows' : List Rw} (D : Dealt ws vals rows) (hm : ∀ r ∈ rows', r ∈ rows) {l : List Tb} (hl : ∀ (i : Nat) (t : Tb), l[i]? = some t → ∃ r : Rw, rows'[i]? = some r ∧ t.nm = r.nm ∧ t.zs = r.ls.map fun e => e.2.1) {t : Tb} (ht : t ∈ l) {z : Str} (hz : z ∈ t.zs) :
    ∃ i j : Nat, ws[i]? = some t.nm ∧ ws[j]? = some z ∧ i < j := by
  obtain ⟨k, hk⟩ := List.mem_iff_getElem?.mp ht
  obtain ⟨r, h1, h2, h3⟩ := hl k t hk
  obtain ⟨i, hi⟩ := List.mem_iff_getElem?.mp (hm r (List.mem_of_getElem? h1))
  rw [h3] at hz
  obtain ⟨e, he, rfl⟩ := List.mem_map.mp hz
  obtain ⟨j, v, v', hij, _, _, hj, _⟩ := D.ld i r hi e he
  exact ⟨i, j, by rw [h2]; exact D.nth hi, hj, hij⟩
theorem nd_idx {ws : List Str} (nd : ws.Nodup) {i j : Nat} {a : Str} (h1 : ws[i]? = some a) (h2 : ws[j]? = some a) : i = j := idx_inj (f := id) (by rw [List.map_id]; exact nd) h1 h2 rfl
theorem Dealt.sane {ws vals : List Str} {rows rows' : List Rw} (D : Dealt ws vals rows) (nd : ws.Nodup) (n1 : 1 ≤ ws.length) (n3 : ws.length ≤ 3) (hm : ∀ r, r ∈ rows' ↔ r ∈ rows) (hn : (rows'.map Rw.nm).Nodup) (hlen : rows'.length = rows.length) : Sane rows' := by
  have hwl : rows.length = ws.length := by rw [← D.nm, List.length_map]
  refine ⟨hn, fun l hl ha => ?_, by omega, by omega, fun r hr => ?_⟩
  · have up : ∀ {a b : Str}, b ∈ leads l a → ∃ i j : Nat, ws[i]? = some a ∧ ws[j]? = some b ∧ i < j := fun {a b} h => by
      unfold leads at h
      cases e : l.find? fun t => decide (t.nm = a) with
      | none => rw [e] at h; exact nomatch h
      | some t =>
        rw [e] at h
        have q := List.find?_some e
        have q : t.nm = a := of_decide_eq_true q
        have z := D.up (fun r hr => (hm r).mp hr) ha (List.mem_of_find?_eq_some e) (z := b) h
        rw [q] at z
        exact z
    have names : ∀ z, z ∈ ws → z ∈ l.map Tb.nm := fun z hz => by
      rw [← D.nm] at hz
      obtain ⟨r, hr, rfl⟩ := List.mem_map.mp hz
      obtain ⟨k, hk⟩ := List.mem_iff_getElem?.mp ((hm r).mpr hr)
      have hk2 := (List.getElem?_eq_some_iff.mp hk).1
      have ht := List.getElem?_eq_getElem (show k < l.length by omega)
      obtain ⟨r', h1, h2, _⟩ := ha k _ ht
      rw [hk] at h1
      obtain rfl := Option.some.inj h1
      exact List.mem_map.mpr ⟨_, List.mem_of_getElem? ht, h2⟩
    refine ⟨fun t ht z hz => ?_, fun u hu r => ?_⟩
    · obtain ⟨i, j, _, h2, _⟩ := D.up (fun r hr => (hm r).mp hr) ha ht hz
      exact names z (List.mem_of_getElem? h2)
    · have rk : ∀ {a b : Str}, Rch l a b → ∃ i j : Nat, ws[i]? = some a ∧ ws[j]? = some b ∧ i < j := by
        intro a b r
        induction r with
        | one h => exact up h
        | snoc _ h ih =>
          obtain ⟨i, j, h1, h2, h3⟩ := ih
          obtain ⟨i', k, h4, h5, h6⟩ := up h
          have := nd_idx nd h2 h4
          exact ⟨i, k, h1, h5, by omega⟩
      obtain ⟨i, j, h1, h2, h3⟩ := rk r
      have := nd_idx nd h1 h2
      omega
  · have h1 := le_sum (fun r : Rw => r.ls.length) ((hm r).mp hr)
    have h2 : r.ls.length ≤ (rows.map fun r => r.ls.length).sum := h1
    have := D.nl
    omega
theorem nd_rev {α : Type} {l : List α} (h : l.Nodup) : l.reverse.Nodup := List.pairwise_reverse.mpr (List.Pairwise.imp (fun n z => n z.symm) h)
theorem Dealt.sane0 {ws vals : List Str} {rows : List Rw} (D : Dealt ws vals rows) (nd : ws.Nodup) (n1 : 1 ≤ ws.length) (n3 : ws.length ≤ 3) : Sane rows := D.sane nd n1 n3 (fun _ => .rfl) (by rw [D.nm]; exact nd) rfl
theorem Dealt.saneR {ws vals : List Str} {rows : List Rw} (D : Dealt ws vals rows) (nd : ws.Nodup) (n1 : 1 ≤ ws.length) (n3 : ws.length ≤ 3) : Sane rows.reverse :=
  D.sane nd n1 n3 (fun _ => List.mem_reverse) (by rw [List.map_reverse, D.nm]; exact nd_rev nd) (by rw [List.length_reverse])
end Sw
namespace Sw
open PySem PySem.Spec PyProof.Rows L2
/-- _law_find(tables, name): the dealt table of this name -/
def spFind (K : PySem.W.Frag) : Sp := fun vs H Q _ => ∃ (a : Addr) (z : Str) (xs : List V) (rows : List Rw), vs = [.ref a, .str z] ∧ RowsAt K H a xs rows ∧ rows.length ≤ 100 ∧ z ∈ rows.map Rw.nm ∧
  ∀ (H' : Hp) (i : Nat) (v : V) (r : Rw), Same H H' → xs[i]? = some v → rows[i]? = some r → r.nm = z → Q v H'
/-- the name's references lead down no deeper than d -/
def Ht (rows : List Rw) : Nat → Str → Prop
  | 0, _ => False
  | d + 1, z => z ∈ rows.map Rw.nm ∧ ∀ r ∈ rows, r.nm = z → ∀ e ∈ r.ls, Ht rows d e.2.1
/-- _law_cost(tables, name): some number -/
def spCost (K : PySem.W.Frag) (d : Nat) : Sp := fun vs H Q _ => ∃ (a : Addr) (z : Str) (xs : List V) (rows : List Rw), vs = [.ref a, .str z] ∧ RowsAt K H a xs rows ∧ rows.length ≤ 100 ∧ Ht rows d z ∧ ∀ (H' : Hp) (c : Int), Same H H' → Q (.int c) H'
theorem zip_fst {α β : Type} : ∀ {xs : List α} {ys : List β}, xs.length = ys.length → (xs.zip ys).map Prod.fst = xs
  | [], [], _ => rfl
  | x :: r, y :: s, h => by
    show x :: (r.zip s).map Prod.fst = _
    rw [zip_fst (Nat.succ.inj h)]
theorem zip_at {α β : Type} {xs : List α} {ys : List β} {i : Nat} {u : α × β} (h : (xs.zip ys)[i]? = some u) : xs[i]? = some u.1 ∧ ys[i]? = some u.2 := by
  rw [List.getElem?_zip_eq_some] at h
  exact h
theorem Dealt.ht {ws vals : List Str} {rows rows' : List Rw} (D : Dealt ws vals rows) (nd : ws.Nodup) (hm : ∀ r, r ∈ rows' ↔ r ∈ rows) : ∀ (d i : Nat) (z : Str), ws[i]? = some z → ws.length ≤ i + d → Ht rows' d z
  | 0, i, z, h, hd => by
    have := (List.getElem?_eq_some_iff.mp h).1
    omega
  | d + 1, i, z, h, hd => by
    refine ⟨?_, fun r hr hn e he => ?_⟩
    · have : z ∈ rows.map Rw.nm := by rw [D.nm]; exact List.mem_of_getElem? h
      obtain ⟨r, h1, h2⟩ := List.mem_map.mp this
      exact List.mem_map.mpr ⟨r, (hm r).mpr h1, h2⟩
    · obtain ⟨k, hk⟩ := List.mem_iff_getElem?.mp ((hm r).mp hr)
      have hkn := D.nth hk
      rw [hn] at hkn
      obtain rfl := nd_idx nd hkn h
      obtain ⟨j, v, v', hij, _, _, hj, _⟩ := D.ld k r hk e he
      exact D.ht nd hm d j e.2.1 hj (by omega)
end Sw
namespace Sw
open PySem PySem.Spec PyProof.Rows L2
/-- a list that is not as long as the hand -/
theorem sqL_hand {K : PySem.W.Frag} {H H' : Hp} {h a : Addr} {xs : List V} (q : SqL K H a xs) (hh : HandAt H h) (e : SBut h H H') (l : xs.length ≤ 60) : SqL K H' a xs := by
  obtain ⟨ns, e1, l1⟩ := hh
  rcases q with (q | ⟨o, q⟩) | q
  · refine .inl (.inl (e _ _ (fun z => ?_) q))
    rw [z, e1] at q
    have := HO.lst.inj (Option.some.inj q)
    rw [← this, List.length_map] at l
    omega
  · refine .inl (.inr ⟨o, e _ _ (fun z => ?_) q⟩)
    rw [z, e1] at q
    cases q
  · exact .inr q
theorem sqT_hand {K : PySem.W.Frag} {H H' : Hp} {h a : Addr} {xs : List V} (q : SqT K H a xs) (hh : HandAt H h) (e : SBut h H H') : SqT K H' a xs := e.seqT q (hand_noTup hh)
/-- a short text of real signs -/
def SOk (z : Str) : Prop := z.length ≤ 1000 ∧ PySem.PyData.strOk z = true
/-- begins with the sign of a variable -/
def isV (z : Str) : Bool := decide (V.str (cutS z none (some 1)) = V.str "?")
/-- a list of tuples of short texts -/
structure ShapesAt (K : PySem.W.Frag) (H : Hp) (a : Addr) (xs : List V) (ss : List (List Str)) : Prop where
  at_ : SqL K H a xs
  len : xs.length = ss.length
  sml : ss.length ≤ 10
  all : ∀ (i : Nat) (v : V), xs[i]? = some v → ∃ s, ss[i]? = some s ∧ (∃ q, v = .ref q ∧ SqT K H q (s.map V.str)) ∧ 2 ≤ s.length ∧ s.length ≤ 10 ∧ ∀ z ∈ s, SOk z
theorem ShapesAt.same {K : PySem.W.Frag} {H H' : Hp} {a : Addr} {xs : List V} {ss : List (List Str)} (h : ShapesAt K H a xs ss) (e : Same H H') : ShapesAt K H' a xs ss :=
  ⟨e.seq h.at_, h.len, h.sml, fun i v q => let ⟨s, h1, ⟨b, h2, h3⟩, h4⟩ := h.all i v q; ⟨s, h1, ⟨b, h2, same_seqT e h3⟩, h4⟩⟩
theorem ShapesAt.hand {K : PySem.W.Frag} {H H' : Hp} {h a : Addr} {xs : List V} {ss : List (List Str)} (q : ShapesAt K H a xs ss) (hh : HandAt H h) (e : SBut h H H') : ShapesAt K H' a xs ss :=
  ⟨sqL_hand q.at_ hh e (by rw [q.len]; have := q.sml; omega), q.len, q.sml, fun i v hv => let ⟨s, h1, ⟨b, h2, h3⟩, h4⟩ := q.all i v hv; ⟨s, h1, ⟨b, h2, sqT_hand h3 hh e⟩, h4⟩⟩
def shD (ss : List (List Str)) : List PyData := ss.map fun s => .tuple (s.map .str)
theorem dpStrs {K : PySem.W.Frag} {H : Hp} : ∀ s : List Str, DpAll K H (s.map V.str) (s.map .str)
  | [] => .nil
  | z :: r => .cons (.str z) (dpStrs r)
theorem ShapesAt.dp {K : PySem.W.Frag} {H : Hp} : ∀ {xs : List V} {ss : List (List Str)}, xs.length = ss.length → (∀ (i : Nat) (v : V), xs[i]? = some v → ∃ s, ss[i]? = some s ∧ (∃ q, v = .ref q ∧ SqT K H q (s.map V.str)) ∧ 2 ≤ s.length ∧ s.length ≤ 10 ∧ ∀ z ∈ s, SOk z) → DpAll K H xs (shD ss)
  | [], [], _, _ => .nil
  | x :: xs, s :: ss, hl, h => by
    obtain ⟨s', h1, ⟨q, rfl, h2⟩, _⟩ := h 0 x rfl
    obtain rfl : s = s' := Option.some.inj h1
    exact .cons (.tup h2 (dpStrs s)) (ShapesAt.dp (Nat.succ.inj hl) fun i v hv => h (i + 1) v hv)
theorem canStrs : ∀ {s : List Str}, (∀ z ∈ s, SOk z) → PySem.PyData.canLayAll0 (s.map .str) = true ∧ PySem.PyData.depthAll (s.map .str) = 0
  | [], _ => ⟨rfl, rfl⟩
  | z :: r, h => by
    obtain ⟨h1, h2⟩ := canStrs (s := r) fun x hx => h x (List.mem_cons_of_mem _ hx)
    constructor
    · show (PySem.PyData.strOk z && PySem.PyData.canLayAll0 (r.map .str)) = true
      rw [h1, (h z List.mem_cons_self).2]
      rfl
    · show max 0 (PySem.PyData.depthAll (r.map .str)) = 0
      rw [h2]
      rfl
theorem canShapes : ∀ {ss : List (List Str)}, (∀ s ∈ ss, ∀ z ∈ s, SOk z) → PySem.PyData.canLayAll0 (shD ss) = true ∧ PySem.PyData.depthAll (shD ss) ≤ 1
  | [], _ => ⟨rfl, Nat.zero_le _⟩
  | s :: r, h => by
    obtain ⟨h1, h2⟩ := canShapes (ss := r) fun x hx => h x (List.mem_cons_of_mem _ hx)
    obtain ⟨h3, h4⟩ := canStrs (h s List.mem_cons_self)
    constructor
    · show (PySem.PyData.canLayAll0 (s.map .str) && PySem.PyData.canLayAll0 (shD r)) = true
      rw [h1, h3]
      rfl
    · show max (PySem.PyData.depthAll (s.map .str) + 1) (PySem.PyData.depthAll (shD r)) ≤ 1
      rw [h4]
      omega
theorem shapedShapes {ss : List (List Str)} (h : ∀ s ∈ ss, ∀ z ∈ s, SOk z) : SeqAt.shaped (.list (shD ss)) = true := by
  obtain ⟨h1, h2⟩ := canShapes h
  unfold SeqAt.shaped
  have e1 : PySem.PyData.canLay0 (.list (shD ss)) = true := h1
  have e2 : PySem.PyData.depth (.list (shD ss)) = PySem.PyData.depthAll (shD ss) + 1 := rfl
  rw [e1, e2, decide_eq_true (by omega)]
  rfl
theorem eqvNil (ss : List (List Str)) : PySem.PyData.eqv (.list (shD ss)) (.list []) = ss.isEmpty := by
  cases ss with
  | nil => rfl
  | cons s r => rfl
/-- all variables, in their order, as often as they stand -/
def allVars (ss : List (List Str)) : List Str := ss.flatMap fun s => s.tail.filter isV
/-- _law_vars(shapes): the different variables -/
def spVars (K : PySem.W.Frag) : Sp := fun vs H Q _ => ∃ (a : Addr) (xs : List V) (ss : List (List Str)), vs = [.ref a] ∧ ShapesAt K H a xs ss ∧
  ∀ (H' : Hp) (D : Addr) (us : List Str), Same H H' → H D = none → H' D = some (.lst (us.map V.str)) → us.Nodup → (∀ z, z ∈ us ↔ z ∈ allVars ss) → us.length ≤ 100 → Q (.ref D) H'
theorem cut_tail (s : List Str) (h : 1 ≤ s.length) : cutV (s.map V.str) (some 1) none = s.tail.map V.str := by
  unfold cutV
  have h1 : HT.sIx (s.map V.str).length 0 (some 1) = 1 := by
    have := HT.sIx_nat (s.map V.str).length 0 1
    rw [List.length_map] at this ⊢
    have q : min 1 s.length = 1 := by omega
    rw [q] at this
    exact this
  rw [h1, HT.sIx_none]
  cases s with
  | nil => rfl
  | cons z r =>
    show ((r.map V.str)).take _ = r.map V.str
    rw [List.take_of_length_le]
    simp
theorem cut_upto (xs : List V) (k : Nat) : cutV xs none (some (k : Int)) = xs.take k := by
  unfold cutV
  rw [HT.sIx_none, HT.sIx_nat, List.drop_zero, Nat.sub_zero]
  by_cases h : k ≤ xs.length
  · rw [Nat.min_eq_left h]
  · rw [Nat.min_eq_right (by omega), List.take_length, List.take_of_length_le (by omega)]
theorem allVars_len : ∀ {ss : List (List Str)}, (∀ s ∈ ss, s.length ≤ 10) → (allVars ss).length ≤ ss.length * 10
  | [], _ => Nat.zero_le _
  | s :: r, h => by
    unfold allVars
    rw [List.flatMap_cons, List.length_append, List.length_cons]
    have h1 := h s List.mem_cons_self
    have h2 := List.length_filter_le isV s.tail
    have h3 := allVars_len (ss := r) fun u hu => h u (List.mem_cons_of_mem _ hu)
    unfold allVars at h3
    rw [List.length_tail] at h2
    omega
end Sw
namespace Sw
open PySem PySem.Spec PyProof.Rows L2
/-- a part of a dealt table: its name, then a term for each column -/
def PartOk (rows : List Rw) (tms : List Str) (s : List Str) : Prop := ∃ r ∈ rows, s.head? = some r.nm ∧ (s.tail.length : Int) = r.wd ∧ ∀ z ∈ s.tail, z ∈ tms ∨ ∃ e ∈ r.es, z ∈ e.2.2
/-- what the laws know of dealt tables -/
structure RowsOk (vals : List Str) (rows : List Rw) : Prop where
  own : ∀ r ∈ rows, RwOwn vals r
  ls : ∀ r ∈ rows, r.ls.length ≤ 2
  ht : ∀ r ∈ rows, Ht rows 3 r.nm
  n1 : 1 ≤ rows.length
  n3 : rows.length ≤ 3
/-- _law_parts(hand, tables, terms, many, room) -/
def spParts (K : PySem.W.Frag) : Sp := fun vs H Q _ => ∃ (h T Tm : Addr) (many : Nat) (room : Int) (xs : List V) (rows : List Rw) (vals tms : List Str), vs = [.ref h, .ref T, .ref Tm, .int (many : Int), .int room] ∧ HandAt H h ∧ RowsAt K H T xs rows ∧ RowsOk vals rows ∧ (∀ r ∈ rows, SOk r.nm) ∧ (∀ z ∈ vals, SOk z) ∧
  SqL K H Tm (tms.map V.str) ∧ 1 ≤ tms.length ∧ tms.length ≤ 60 ∧ (∀ z ∈ tms, SOk z) ∧ 1 ≤ many ∧ many ≤ 10 ∧
  ∀ (H' : Hp) (a : Addr) (ys : List V) (ss : List (List Str)), HandAt H' h → SBut h H H' → H a = none → a ≠ h → H' a = some (.lst ys) → ShapesAt K H' a ys ss → 1 ≤ ss.length → ss.length ≤ many → (∀ s ∈ ss, PartOk rows tms s) → Q (.ref a) H'
theorem LeadsV.hand {K : PySem.W.Frag} {H H' : Hp} {h : Addr} {vs : List V} {ls : List (Int × Str × Int)} (q : LeadsV K H vs ls) (hh : HandAt H h) (e : SBut h H H') : LeadsV K H' vs ls := q.sbut e (hand_noTup hh)
theorem RwAt.hand {K : PySem.W.Frag} {H H' : Hp} {h : Addr} {v : V} {r : Rw} {vals : List Str} (q : RwAt K H v r) (hh : HandAt H h) (e : SBut h H H') (o : RwOwn vals r) (l : r.ls.length ≤ 2) : RwAt K H' v r := by
  obtain ⟨⟨a, k, m, el, vs, h1, h2, h3, h4, h5, h6⟩, h7, h8⟩ := q
  refine ⟨⟨a, k, m, el, vs, h1, sqL_hand h2 hh e (by show 5 ≤ 60; decide), sqL_hand h3 hh e (by rw [List.length_map]; have := o.ks.1; omega), ⟨e _ _ (hand_short hh (.inr ⟨_, h4.at_⟩)) h4.at_, h4.nd, h4.len, fun u hu => ⟨(h4.all u hu).1.imp (fun z => sqL_hand z hh e ?_) (fun z => sqT_hand z hh e), (h4.all u hu).2⟩⟩, sqL_hand h5 hh e ?_, h6.hand hh e⟩, h7, fun u hu => sqL_hand (h8 u hu) hh e (by rw [List.length_map]; have := (o.es u hu).2.2.2.1; omega)⟩
  · rw [List.length_map]
    have := (o.es u hu).2.2.2.1
    omega
  · rw [h6.len]
    omega
theorem RowsAt.hand {K : PySem.W.Frag} {H H' : Hp} {h a : Addr} {xs : List V} {rows : List Rw} {vals : List Str} (q : RowsAt K H a xs rows) (hh : HandAt H h) (e : SBut h H H') (o : RowsOk vals rows) : RowsAt K H' a xs rows :=
  ⟨sqL_hand q.at_ hh e (by rw [q.len]; have := o.n3; omega), q.len, fun i v hv => let ⟨r, h1, h2⟩ := q.all i v hv; ⟨r, h1, h2.hand hh e (o.own r (List.mem_of_getElem? h1)) (o.ls r (List.mem_of_getElem? h1))⟩⟩
end Sw
namespace Sw
open PySem PySem.Spec PyProof.Rows L2
theorem valV_ent {es : List Ent} {k : Key} {v : V} (h : valV (es.map fun e => (e.1, V.ref e.2.1)) k = some v) : ∃ e ∈ es, v = .ref e.2.1 := by
  unfold valV at h
  cases hf : (es.map fun e => (e.1, V.ref e.2.1)).find? fun kv => decide (kv.1 = k) with
  | none => rw [hf] at h; cases h
  | some kv =>
    rw [hf] at h
    obtain ⟨e, h1, h2⟩ := List.mem_map.mp (List.mem_of_find?_eq_some hf)
    refine ⟨e, h1, ?_⟩
    rw [← h2] at h
    exact (Option.some.inj h).symm
end Sw
namespace Sw
open PySem PySem.Spec PyProof.Rows L2
theorem same_past {H H' : Hp} {h S : Addr} {o : HO} (e : SBut h H H') (n : H S = none) : SBut h H (upd H' S o) := fun b u hb hu => by
  rw [upd_ne (ne_of_none hu n)]
  exact e b u hb hu
theorem ShapesAt.snoc {K : PySem.W.Frag} {H : Hp} {a q : Addr} {xs : List V} {ss : List (List Str)} {s : List Str} (h : ShapesAt K H a xs ss) (ha : H a = some (.lst xs)) (hq : H q = some (.tup (s.map V.str))) (hl : ss.length < 10) (l2 : 2 ≤ s.length) (l10 : s.length ≤ 10) (hz : ∀ z ∈ s, SOk z) : ShapesAt K (upd H a (.lst (xs ++ [.ref q]))) a (xs ++ [.ref q]) (ss ++ [s]) := by
  have up : ∀ {b : Addr} {ys : List V}, SqT K H b ys → SqT K (upd H a (.lst (xs ++ [.ref q]))) b ys := fun z => sqT_upd z ha (fun ys => ⟨fun z => (nomatch z), fun u z => (nomatch z)⟩)
  refine ⟨SqL.of upd_same, by rw [List.length_append, List.length_append, h.len]; rfl, by rw [List.length_append]; exact hl, fun i v hv => ?_⟩
  by_cases hi : i < xs.length
  · rw [List.getElem?_append_left hi] at hv
    obtain ⟨s', h1, ⟨b, h2, h3⟩, h4⟩ := h.all i v hv
    exact ⟨s', by rw [List.getElem?_append_left (by rw [← h.len]; exact hi)]; exact h1, ⟨b, h2, up h3⟩, h4⟩
  · have ei : i = xs.length := by
      have := (List.getElem?_eq_some_iff.mp hv).1
      rw [List.length_append] at this
      simp at this
      omega
    subst ei
    rw [List.getElem?_append_right (Nat.le_refl _), Nat.sub_self] at hv
    obtain rfl : V.ref q = v := Option.some.inj hv
    exact ⟨s, by rw [h.len, List.getElem?_append_right (Nat.le_refl _), Nat.sub_self]; rfl, ⟨q, rfl, up (SqT.of hq)⟩, l2, l10, hz⟩
end Sw
namespace Sw
open PySem PySem.Spec PyProof.Rows L2
/-- a drawn question -/
structure Ask where
  hd : List Str
  ss : List (List Str)
  es : List Ent
  dup : Bool
/-- the menus of a drawn question's conditions: lists of values, by variables -/
structure Lims (K : PySem.W.Frag) (H : Hp) (a : Addr) (vals vars : List Str) (es : List Ent) : Prop where
  at_ : H a = some (.dK (es.map fun e => (e.1, V.ref e.2.1)))
  nd : (es.map (·.1)).Nodup
  all : ∀ e ∈ es, H e.2.1 = some (.lst (e.2.2.map V.str)) ∧ AscS e.2.2 ∧ e.2.2.length ≤ 3 ∧ (∀ z ∈ e.2.2, z ∈ vals) ∧ ∃ v, e.1 = Sum.inr v ∧ v ∈ vars
theorem Lims.same {K : PySem.W.Frag} {H H' : Hp} {a : Addr} {vals vars : List Str} {es : List Ent} (h : Lims K H a vals vars es) (s : Same H H') : Lims K H' a vals vars es :=
  ⟨s _ _ h.at_, h.nd, fun e he => ⟨s _ _ (h.all e he).1, (h.all e he).2⟩⟩
theorem Lims.hand {K : PySem.W.Frag} {H H' : Hp} {h a : Addr} {vals vars : List Str} {es : List Ent} (q : Lims K H a vals vars es) (hh : HandAt H h) (s : SBut h H H') : Lims K H' a vals vars es :=
  ⟨s _ _ (hand_short hh (.inr ⟨_, q.at_⟩)) q.at_, q.nd, fun e he => ⟨s _ _ (hand_short hh (.inl ⟨_, (q.all e he).1, by rw [List.length_map]; have := (q.all e he).2.2.1; omega⟩)) (q.all e he).1, (q.all e he).2⟩⟩
structure AskAt (K : PySem.W.Frag) (H : Hp) (a : Addr) (vals : List Str) (k : Ask) : Prop where
  ex : ∃ t sh li ys, H a = some (.lst [.ref t, .ref sh, .ref li, .bl k.dup]) ∧ H t = some (.tup (k.hd.map V.str)) ∧ ShapesAt K H sh ys k.ss ∧ Lims K H li vals (allVars k.ss) k.es
theorem AskAt.same {K : PySem.W.Frag} {H H' : Hp} {a : Addr} {vals : List Str} {k : Ask} (h : AskAt K H a vals k) (s : Same H H') : AskAt K H' a vals k :=
  ⟨let ⟨t, sh, li, ys, h1, h2, h3, h4⟩ := h.ex; ⟨t, sh, li, ys, s _ _ h1, s _ _ h2, h3.same s, h4.same s⟩⟩
/-- what a drawn question keeps -/
structure AskOk (rows : List Rw) (vals tms : List Str) (many : Nat) (k : Ask) : Prop where
  n1 : 1 ≤ k.ss.length
  nm : k.ss.length ≤ many
  part : ∀ s ∈ k.ss, PartOk rows (tms ++ vals.take 1) s
  hl : k.hd.length ≤ 3
  hd : ∀ z ∈ k.hd, z ∈ allVars k.ss ∨ z ∈ vals
  el : k.es.length ≤ 100
/-- _law_deal_ask(hand, tables, values, terms, many) -/
def spAsk (K : PySem.W.Frag) : Sp := fun vs H Q _ => ∃ (h T Va Tm : Addr) (many : Nat) (xs : List V) (rows : List Rw) (vals tms : List Str), vs = [.ref h, .ref T, .ref Va, .ref Tm, .int (many : Int)] ∧ HandAt H h ∧ RowsAt K H T xs rows ∧ RowsOk vals rows ∧ (∀ r ∈ rows, SOk r.nm) ∧ (∀ z ∈ vals, SOk z) ∧
  SqL K H Va (vals.map V.str) ∧ vals.length = 5 ∧ SqL K H Tm (tms.map V.str) ∧ tms.length ≤ 50 ∧ (∀ z ∈ tms, SOk z) ∧ 1 ≤ many ∧ many ≤ 9 ∧
  ∀ (H' : Hp) (a : Addr) (k : Ask), HandAt H' h → SBut h H H' → H a = none → a ≠ h → AskAt K H' a vals k → AskOk rows vals tms many k → Q (.ref a) H'
end Sw
namespace Sw
open PySem PySem.Spec PyProof.Rows L2
/-- a value's signs -/
abbrev sgn : Str := "abcdefghijklmnopqrstuvwxyz0123456789"
def isVar (z : Str) : Bool := Txt.startswith z "?"
def inSg (c : Nat) : Bool := !(Builtin.Str.occurrences sgn ⟨#[c]⟩ 0 sgn.length 1).isEmpty
def isTermS (z : Str) : Bool := (decide (1 ≤ (Txt.removeprefix z "?").length) && decide ((Txt.removeprefix z "?").length ≤ 8)) && (TL.tl (Txt.removeprefix z "?")).all inSg
theorem sub_q (z : Str) : Builtin.Str.subAt z "?" 0 = true ↔ (TL.tl z).head? = some 63 := by
  have e : ("?" : Str).cps = #[63] := by decide +kernel
  have l : ("?" : Str).length = 1 := by decide +kernel
  unfold Builtin.Str.subAt
  rw [l, e, beq_iff_eq, ← Array.toList_inj]
  show (z.cps.extract 0 1).toList = [63] ↔ z.cps.toList.head? = some 63
  rw [Array.toList_extract]
  cases h : z.cps.toList with
  | nil => simp
  | cons a r => simp
theorem isVar_iff (z : Str) : isVar z = true ↔ (TL.tl z).head? = some 63 := by
  unfold isVar Txt.startswith
  have l : ("?" : Str).length = 1 := by decide +kernel
  rw [Bool.and_eq_true, sub_q, decide_eq_true_iff, l, len_tl]
  constructor
  · exact fun h => h.2
  · intro h
    refine ⟨?_, h⟩
    cases q : TL.tl z with
    | nil => rw [q] at h; cases h
    | cons a r => simp
theorem wd_var {z : Str} (h : Wd sgn z) : isVar z = false := by
  cases e : isVar z with
  | false => rfl
  | true =>
    have := (isVar_iff z).mp e
    have m : 63 ∈ TL.tl z := List.mem_of_head? this
    have := h.2.2 _ m
    revert this
    decide +kernel
theorem q_tl (z : Str) : TL.tl (("?" : Str) ++ z) = 63 :: TL.tl z := by
  rw [TL.tl_append]
  have : TL.tl ("?" : Str) = [63] := by decide +kernel
  rw [this]
  rfl
theorem q_var (z : Str) : isVar (("?" : Str) ++ z) = true := (isVar_iff _).mpr (by rw [q_tl]; rfl)
theorem inSg_all : ∀ c ∈ TL.tl sgn, inSg c = true := by decide +kernel
theorem cut_q {z : Str} (h : (TL.tl z).head? ≠ some 63) : Txt.removeprefix z "?" = z := by
  unfold Txt.removeprefix
  rw [if_neg (fun c => h ((sub_q z).mp c))]
  rfl
theorem cut_q2 (z : Str) : TL.tl (Txt.removeprefix (("?" : Str) ++ z) "?") = TL.tl z := by
  unfold Txt.removeprefix
  rw [if_pos ((sub_q _).mpr (by rw [q_tl]; rfl))]
  have l : ("?" : Str).length = 1 := by decide +kernel
  have lz := len_tl (("?" : Str) ++ z)
  rw [q_tl, List.length_cons] at lz
  rw [l]
  show TL.tl (if (((("?" : Str) ++ z).length - 1) == (("?" : Str) ++ z).length) = true then ("?" : Str) ++ z else Builtin.Str.strSub (("?" : Str) ++ z) 1 (("?" : Str) ++ z).length) = _
  rw [if_neg (by rw [beq_iff_eq]; omega)]
  show ((("?" : Str) ++ z).cps.extract 1 (("?" : Str) ++ z).length).toList = _
  rw [Array.toList_extract]
  have e : (("?" : Str) ++ z).cps.toList = 63 :: TL.tl z := q_tl z
  rw [e, lz]
  show List.take ((TL.tl z).length + 1 - 1) (TL.tl z) = TL.tl z
  rw [Nat.add_sub_cancel, List.take_length]
theorem cut_len (z : Str) : (Txt.removeprefix z "?").length ≤ z.length := by
  have h : ∀ (o : Option (Nat × Nat)), (Txt.affix z o).length ≤ z.length := by
    intro o
    cases o with
    | none => exact Nat.le_refl _
    | some p =>
      show (if (p.2 - p.1 == z.length) = true then z else Builtin.Str.strSub z p.1 p.2).length ≤ z.length
      by_cases c : (p.2 - p.1 == z.length) = true
      · rw [if_pos c]
        exact Nat.le_refl _
      · rw [if_neg c]
        show (z.cps.extract p.1 p.2).size ≤ z.cps.size
        rw [Array.size_extract]
        omega
  exact h _
theorem wd_term {z : Str} (h : Wd sgn z) : isTermS z = true := by
  have e : Txt.removeprefix z "?" = z := cut_q fun q => by
    have := h.2.2 _ (List.mem_of_head? q)
    revert this
    decide +kernel
  unfold isTermS
  rw [e, len_tl, decide_eq_true h.1, decide_eq_true h.2.1]
  show (TL.tl z).all inSg = true
  rw [List.all_eq_true]
  exact fun c hc => inSg_all c (h.2.2 c hc)
theorem q_term {z : Str} (h : Wd sgn z) : isTermS (("?" : Str) ++ z) = true := by
  unfold isTermS
  rw [len_tl, cut_q2, decide_eq_true h.1, decide_eq_true h.2.1]
  show (TL.tl z).all inSg = true
  rw [List.all_eq_true]
  exact fun c hc => inSg_all c (h.2.2 c hc)
/-- is_variable(term) -/
def spIsVar : Sp := fun vs H Q _ => ∃ z : Str, vs = [.str z] ∧ Q (.bl (isVar z)) H
/-- is_term(item) -/
def spIsTerm (K : PySem.W.Frag) : Sp := fun vs H Q _ => ∃ x : V, vs = [x] ∧ ((∃ z : Str, x = .str z ∧ z.length ≤ 1000 ∧ ∀ H' : Hp, Same H H' → Q (.bl (isTermS z)) H') ∨ (∃ t, TyX K H x t ∧ PySem.W.kitOne K t (.type "str") = some false ∧ Q (.bl false) H))
/-- a text walked sign by sign -/
theorem wk_text {x : Str} : Walk (Its x) (TL.tl x).length (fun _ => True) (fun i H v H' => H' = H ∧ ∃ c, (TL.tl x)[i]? = some c ∧ v = .str ⟨#[c]⟩) where
  goes := fun i H h _ => h
  stops := fun H _ => Nat.le_refl _
  yields := fun i H v H' h _ ⟨e, c, hc, ev⟩ => ⟨e, c, by rw [← hc]; exact Array.getElem?_toList, ev⟩
end Sw
namespace Sw
open PySem PySem.Spec PyProof.Rows L2
/-- what every law that deals tables begins with -/
structure BeginAt (K : PySem.W.Frag) (H : Hp) (R : Addr) (many : Nat) (xs : List V) (rows : List Rw) (vals tms : List Str) (k : Ask) : Prop where
  ex : ∃ T Va Tm A, H R = some (.lst [.ref T, .ref Va, .ref Tm, .ref A]) ∧ RowsAt K H T xs rows ∧ H Va = some (.lst (vals.map V.str)) ∧ H Tm = some (.lst (tms.map V.str)) ∧ AskAt K H A vals k
  ok : RowsOk vals rows
  sane : Sane rows
  ask : AskOk rows vals tms many k
  nms : ∀ r ∈ rows, SOk r.nm
  vls : ∀ z ∈ vals, SOk z
  tls : ∀ z ∈ tms, SOk z
  v5 : vals.length = 5
  t4 : tms.length = 4
  vnd : vals.Nodup
  vwd : ∀ z ∈ vals, Wd sgn z
  twd : ∀ z ∈ tms, ∃ y, z = ("?" : Str) ++ y ∧ Wd sgn y
theorem BeginAt.same {K : PySem.W.Frag} {H H' : Hp} {R : Addr} {many : Nat} {xs : List V} {rows : List Rw} {vals tms : List Str} {k : Ask} (b : BeginAt K H R many xs rows vals tms k) (s : Same H H') : BeginAt K H' R many xs rows vals tms k :=
  { b with ex := let ⟨T, Va, Tm, A, h1, h2, h3, h4, h5⟩ := b.ex; ⟨T, Va, Tm, A, s _ _ h1, h2.same s, s _ _ h3, s _ _ h4, h5.same s⟩ }
/-- _law_begin(script, many) -/
def spBegin (K : PySem.W.Frag) : Sp := fun vs H Q _ => ∃ (a : Addr) (ns : List Int) (many : Nat), vs = [.ref a, .int (many : Int)] ∧ SqL K H a (ns.map V.int) ∧ ns.length ≤ 63 ∧ 1 ≤ many ∧ many ≤ 9 ∧
  ∀ (H' : Hp) (R : Addr) (xs : List V) (rows : List Rw) (vals tms : List Str) (k : Ask), Same H H' → H R = none → BeginAt K H' R many xs rows vals tms k → Q (.ref R) H'
theorem wd_ok {sg z : Str} (h : Wd sg z) (hs : ∀ c ∈ TL.tl sg, c < 0x110000) : SOk z := by
  refine ⟨by rw [len_tl]; exact Nat.le_trans h.2.1 (by decide), ?_⟩
  unfold PySem.PyData.strOk
  rw [← Array.all_toList, List.all_eq_true]
  intro c hc
  exact decide_eq_true (hs c (h.2.2 c hc))
theorem sok_q {z : Str} (h : z.length ≤ 900 ∧ PySem.PyData.strOk z = true) : SOk (("?" : Str) ++ z) := by
  refine ⟨by rw [str_app_len]; have : ("?" : Str).length = 1 := by decide +kernel
             omega, ?_⟩
  obtain ⟨_, h2⟩ := h
  unfold PySem.PyData.strOk at h2 ⊢
  rw [← Array.all_toList, List.all_eq_true] at h2 ⊢
  intro c hc
  have hc : c ∈ TL.tl (("?" : Str) ++ z) := hc
  rw [TL.tl_append] at hc
  rcases List.mem_append.mp hc with q | q
  · have : ∀ c ∈ TL.tl ("?" : Str), (decide (c < 0x110000)) = true := by decide +kernel
    exact this c q
  · exact h2 c q
/-- a hand that came and went -/
theorem same_hand {H H1 H2 : Hp} {p : Addr} (s : Same H H1) (n : H p = none) (e : SBut p H1 H2) : Same H H2 := fun b o h => e b o (ne_of_none h n) (s b o h)
end Sw
namespace Sw
open PySem PySem.Spec PyProof.Rows L2
theorem Dealt.rowsOk {ws vals : List Str} {rows rows' : List Rw} (D : Dealt ws vals rows) (nd : ws.Nodup) (n1 : 1 ≤ ws.length) (n3 : ws.length ≤ 3) (hm : ∀ r, r ∈ rows' ↔ r ∈ rows) (hlen : rows'.length = rows.length) : RowsOk vals rows' := by
  have hwl : rows.length = ws.length := by rw [← D.nm, List.length_map]
  refine ⟨fun r hr => D.own r ((hm r).mp hr), fun r hr => ?_, fun r hr => ?_, by omega, by omega⟩
  · have h1 := le_sum (fun r : Rw => r.ls.length) ((hm r).mp hr)
    have h2 : r.ls.length ≤ (rows.map fun r => r.ls.length).sum := h1
    have := D.nl
    omega
  · obtain ⟨i, hi⟩ := List.mem_iff_getElem?.mp ((hm r).mp hr)
    exact D.ht nd hm 3 i r.nm (D.nth hi) (by omega)
/-- either way round -/
theorem dealt_way {K : PySem.W.Frag} {H : Hp} {T : Addr} {xs : List V} {ws vals : List Str} {rows : List Rw} (h : RowsAt K H T xs rows ∧ Dealt ws vals rows ∨ RowsAt K H T xs rows.reverse ∧ Dealt ws vals rows) (nd : ws.Nodup) (n1 : 1 ≤ ws.length) (n3 : ws.length ≤ 3) :
    ∃ rows', RowsAt K H T xs rows' ∧ RowsOk vals rows' ∧ Sane rows' ∧ ∀ r ∈ rows', r.nm ∈ ws := by
  have nm : ∀ D : Dealt ws vals rows, ∀ r ∈ rows, r.nm ∈ ws := fun D r hr => by
    rw [← D.nm]
    exact List.mem_map.mpr ⟨r, hr, rfl⟩
  rcases h with ⟨h1, D⟩ | ⟨h1, D⟩
  · exact ⟨rows, h1, D.rowsOk nd n1 n3 (fun _ => .rfl) rfl, D.sane0 nd n1 n3, nm D⟩
  · exact ⟨rows.reverse, h1, D.rowsOk nd n1 n3 (fun _ => List.mem_reverse) (by rw [List.length_reverse]), D.saneR nd n1 n3, fun r hr => nm D r (List.mem_reverse.mp hr)⟩
end Sw
namespace Sw
open PySem PySem.Spec PyProof.Rows L2
/-- tuples (from, to, number) -/
structure EdgesAt (K : PySem.W.Frag) (H : Hp) (a : Addr) (vs : List V) (es : List (Str × Str × Int)) : Prop where
  at_ : SqL K H a vs
  len : vs.length = es.length
  sml : es.length ≤ 2
  all : ∀ (i : Nat) (v : V), vs[i]? = some v → ∃ e, es[i]? = some e ∧ ∃ q, v = .ref q ∧ SqT K H q [.str e.1, .str e.2.1, .int e.2.2]
theorem EdgesAt.same {K : PySem.W.Frag} {H H' : Hp} {a : Addr} {vs : List V} {es : List (Str × Str × Int)} (h : EdgesAt K H a vs es) (s : Same H H') : EdgesAt K H' a vs es :=
  ⟨s.seq h.at_, h.len, h.sml, fun i v q => let ⟨e, h1, b, h2, h3⟩ := h.all i v q; ⟨e, h1, b, h2, same_seqT s h3⟩⟩
/-- the tables' references are these edges -/
def EdgesOf (l : List Tb) (es : List (Str × Str × Int)) : Prop := ∀ u v, v ∈ leads l u ↔ ∃ n, (u, v, n) ∈ es
/-- _law_reaches(leads, start, goal) -/
def spReaches (K : PySem.W.Frag) : Sp := fun vs H Q _ => ∃ (a : Addr) (s g : Str) (xs : List V) (es : List (Str × Str × Int)) (l : List Tb), vs = [.ref a, .str s, .str g] ∧ EdgesAt K H a xs es ∧ EdgesOf l es ∧
  ∀ (H' : Hp) (b : Bool), Same H H' → (b = true ↔ Rch l s g) → Q (.bl b) H'
def DoneS (es : List (Str × Str × Int)) (g : Str) (seen : List Str) : Prop := ∀ e ∈ es, e.1 ∈ seen → e.2.1 ∈ seen ∧ e.2.1 ≠ g
theorem seen_few {l : List Tb} {es : List (Str × Str × Int)} (E : EdgesOf l es) {s : Str} {seen : List Str} (nd : seen.Nodup) (h : ∀ z ∈ seen, z = s ∨ Rch l s z) : seen.length ≤ es.length + 1 := by
  have := nodup_le (ns := s :: es.map fun e => e.2.1) nd fun z hz => by
    rcases h z hz with e | e
    · rw [e]
      exact List.mem_cons_self
    · refine List.mem_cons_of_mem _ ?_
      have : ∃ u n, (u, z, n) ∈ es := by
        cases e with
        | one m => exact ⟨_, (E _ _).mp m⟩
        | snoc _ m => exact ⟨_, (E _ _).mp m⟩
      obtain ⟨u, n, hm⟩ := this
      exact List.mem_map.mpr ⟨_, hm, rfl⟩
  rw [List.length_cons, List.length_map] at this
  exact this
theorem done_no {l : List Tb} {es : List (Str × Str × Int)} (E : EdgesOf l es) {s g : Str} {seen : List Str} (hs : s ∈ seen) (d : DoneS es g seen) : ¬ Rch l s g := by
  have go : ∀ {b : Str}, Rch l s b → b ∈ seen ∧ b ≠ g := by
    intro b r
    induction r with
    | one m =>
      obtain ⟨n, hn⟩ := (E _ _).mp m
      exact d _ hn hs
    | snoc _ m ih =>
      obtain ⟨n, hn⟩ := (E _ _).mp m
      exact d _ hn ih.1
  exact fun r => (go r).2 rfl
end Sw
namespace Sw
open PySem PySem.Spec PyProof.Rows L2
/-- the references of a table, as the drawn edges say -/
def ZsOf (es : List (Str × Str × Int)) (nm : Str) : List Str := (es.filter fun e => decide (e.1 = nm)).map fun e => e.2.1
theorem unk_first {l : List Tb} {es : List (Str × Str × Int)} {i j : Nat} {t : Tb} {e : Str × Str × Int} (hi : l[i]? = some t) (hj : es[j]? = some e) (hz : t.zs = ZsOf es t.nm) (h1 : ∀ z ∈ (l.take i).flatMap Tb.zs, z ∈ l.map Tb.nm) (h2 : ∀ u ∈ es.take j, u.1 = t.nm → u.2.1 ∈ l.map Tb.nm) (he : e.1 = t.nm) (hn : ¬ e.2.1 ∈ l.map Tb.nm) : unkOf l = some e.2.1 := by
  unfold unkOf
  have hil := (List.getElem?_eq_some_iff.mp hi)
  obtain ⟨hil, hit⟩ := hil
  have e1 : l.flatMap Tb.zs = (l.take i).flatMap Tb.zs ++ (t.zs ++ (l.drop (i + 1)).flatMap Tb.zs) := by
    have : l = l.take i ++ l.drop i := (List.take_append_drop i l).symm
    have d : l.drop i = t :: l.drop (i + 1) := by rw [List.drop_eq_getElem_cons hil, hit]
    rw [← List.flatMap_cons, ← d, ← List.flatMap_append, List.take_append_drop]
  obtain ⟨hjl, hjt⟩ := List.getElem?_eq_some_iff.mp hj
  have e2 : t.zs = ((es.take j).filter fun e => decide (e.1 = t.nm)).map (fun e => e.2.1) ++ (e.2.1 :: ((es.drop (j + 1)).filter fun e => decide (e.1 = t.nm)).map fun e => e.2.1) := by
    rw [hz]
    unfold ZsOf
    have d : es.drop j = e :: es.drop (j + 1) := by rw [List.drop_eq_getElem_cons hjl, hjt]
    have f : (e :: es.drop (j + 1)).filter (fun e => decide (e.1 = t.nm)) = e :: (es.drop (j + 1)).filter (fun e => decide (e.1 = t.nm)) := List.filter_cons_of_pos (by simp [he])
    have sp : es = es.take j ++ e :: es.drop (j + 1) := by rw [← d, List.take_append_drop]
    have q : (es.filter fun e => decide (e.1 = t.nm)) = (es.take j).filter (fun e => decide (e.1 = t.nm)) ++ e :: (es.drop (j + 1)).filter (fun e => decide (e.1 = t.nm)) := by
      rw [← f, ← List.filter_append, ← sp]
    rw [q, List.map_append, List.map_cons]
  have n1 : ((l.take i).flatMap Tb.zs).find? (fun z => decide (¬ z ∈ l.map Tb.nm)) = none := List.find?_eq_none.mpr fun z hz => by simp [h1 z hz]
  have n2 : (((es.take j).filter fun e => decide (e.1 = t.nm)).map fun e => e.2.1).find? (fun z => decide (¬ z ∈ l.map Tb.nm)) = none := List.find?_eq_none.mpr fun z hz => by
    obtain ⟨u, hu, rfl⟩ := List.mem_map.mp hz
    obtain ⟨hu1, hu2⟩ := List.mem_filter.mp hu
    have := h2 u hu1 (of_decide_eq_true hu2)
    simp [this]
  rw [e1, List.find?_append, n1, e2, List.append_assoc, List.find?_append, n2, List.cons_append, List.find?_cons]
  simp [hn]
/-- _law_expected(names, many, leads) -/
def spExpected (K : PySem.W.Frag) : Sp := fun vs H Q _ => ∃ (N a : Addr) (m : Nat) (ws : List Str) (xs : List V) (es : List (Str × Str × Int)) (l : List Tb), vs = [.ref N, .int (m : Int), .ref a] ∧ SqL K H N (ws.map V.str) ∧ l.map Tb.nm = ws.take m ∧ l.length = m ∧ 1 ≤ m ∧ m ≤ 3 ∧ EdgesAt K H a xs es ∧ EdgesOf l es ∧ (∀ t ∈ l, t.zs = ZsOf es t.nm) ∧
  (∀ z, unkOf l = some z → ∀ (H' : Hp) (T : Addr), Same H H' → H' T = some (.tup [.str "unknown", .str z]) → Q (.ref T) H') ∧
  (unkOf l = none → (∀ (i : Nat) (t : Tb), l[i]? = some t → (∀ u ∈ l.take i, ¬ Rch l u.nm u.nm) → Rch l t.nm t.nm → ∀ (H' : Hp) (T : Addr), Same H H' → H' T = some (.tup [.str "ring", .str t.nm]) → Q (.ref T) H') ∧
    ((∀ u ∈ l, ¬ Rch l u.nm u.nm) → ∀ (H' : Hp) (T : Addr) (z : Str), ws[0]? = some z → Same H H' → H' T = some (.tup [.str "good", .str z]) → Q (.ref T) H'))
end Sw
namespace Sw
open PySem PySem.Spec PyProof.Rows L2
/-- C(e, ..) in a try: what __init__ lets out is told by the slots -/
def tMakeE (C : Addr) (sp : Sp) (Ex : L2.St → XK) (t : TA) : TE := fun σ H Q => t σ H fun ws Ha => ∀ y dy, Ha y = none → Ha dy = none → dy ≠ y →
  sp (V.ref y :: ws) (upd (upd Ha dy (.own y)) y (.ins C dy [])) (fun u Hb => u = .non ∧ Q (.ref y) Hb) (Ex σ)
theorem pe_makeE {X : Cx} {CX : CXT} {k : Nat} {f C : Addr} {sp : Sp} {Ex : L2.St → XK} {x : Str} {p pos : Pos} {e : Expr} {es : List Expr} {t : TA}
    (M : Mk X.K C f) (F : FnR X.prog X.w X.K X.mg X.base CX k f sp) (hr : Room (k + 1) X.A) (hg : Gl X x) (hm : X.mg x = some (.ref C)) (hx : ∀ σ, PassesAt CX X σ (Ex σ)) (ha : PA X (e :: es) t)
    (h0 : (x == ("__debug__" : Str)) = false := by decide) (h1 : starEach (e :: es) X.env = (false, eval e X.env) :: starEach es X.env := by rfl) (h2 : (backTo pos (starEach es X.env)).any (·.1) = false := by rfl) :
    PE X (.Call (.Name x p) (e :: es) [] pos) (tMakeE C sp Ex t) := by
  refine ⟨fun pins s σ H Q I w => ?_⟩
  refine wpAny_Call_Name_kw (ld_glob I hg hm (PySem.W.callWith_K (h₀ := X.base) I.ok.mod.kin M.kp (thn (ha.run pos pins s σ H _ I w) fun us sa hu => ?_) h1 h2) h0)
  obtain ⟨ws, Ha, Ia, r, q⟩ := hu
  refine ⟨Ia.kIn, ?_⟩
  have z := q (sa.heap.objs.size + 1) sa.heap.objs.size (Ia.hok.fresh (Nat.le_succ _)) (Ia.hok.fresh (Nat.le_refl _)) (Nat.ne_of_lt (Nat.lt_succ_self _))
  have Ib := Inv.made (C := C) Ia
  have rb : Vals (V.ref (sa.heap.objs.size + 1) :: ws) (Value.ref (sa.heap.objs.size + 1) :: us) := .cons rfl r
  refine wpAny_call (make_map (f := f) Ia.kIn M.makes M.init (beq_iff_eq.mp M.fn) ?_)
  refine codeAny_mono (F _ X.stack _ _ _ _ _ _ (hr.make C us []) (Ib.env0.make C us []) rb z) fun res st hq => ?_
  cases res with
  | error er => exact hx σ pins _ _ er st Ib hq
  | ok fl =>
    cases fl with
    | ret u =>
      obtain ⟨v, Hb, Ic, rv, ev, q3⟩ := Ib.after hq
      subst ev
      exact ⟨rv, ⟨V.ref (sa.heap.objs.size + 1), Hb, Ic, rfl, q3⟩⟩
    | next => exact hq.elim
    | brk => exact hq.elim
    | cont => exact hq.elim
end Sw
namespace Sw
open PySem PySem.Spec PyProof.Rows L2
/-- an except clause with a name: the class, the name's slot, its suite's reading -/
structure Cl where
  c : Value
  i : Nat
  ts : Addr → Value → Option Addr → TS
/-- behind a clause's suite its name is gone -/
def gone (i : Nat) (D : Ends) : Ends := { nx := fun σ H => D.nx (σ.set i none) H, rt := D.rt, bk := fun σ H => D.bk (σ.set i none) H, ct := fun σ H => D.ct (σ.set i none) H }
/-- what clauses with names wish of an exception of the body -/
def wAll (K : PySem.W.Frag) (Wo : WX) (D : Ends) : List Cl → WX
  | [] => Wo
  | k :: r => fun cls d σ H => ∃ b, PySem.W.exmOne K cls k.c = some b ∧ (b = true → ∀ a, H a = none → k.ts a cls d (gone k.i D) (σ.set k.i (some (.ref a))) H) ∧ (b = false → wAll K Wo D r cls d σ H)
inductive ClsOk (X : Cx) : List ExceptHandler → List Cl → Prop
  | nil : ClsOk X [] []
  | cons {x n : Str} {k : Cl} {b₀ : Stmt} {more : List Stmt} {p1 p2 : Pos} {hds : List ExceptHandler} {l : List Cl} (hi : X.N[k.i]? = some n) (hl : X.env.kindOf n = some .local) (hc : Names X x k.c)
      (hsu : ∀ (a : Addr) (o : Obj) (cls : Value) (d : Option Addr) (pn : List (Addr × Obj)), Zc cls d o → (∃ vs, o.data = .fields vs) → PSs (X.suite a ((a, o) :: pn)) (b₀ :: more) (k.ts a cls d)) (r : ClsOk X hds l) :
      ClsOk X (.ExceptHandler (some (.Name x p1)) (some n) (b₀ :: more) p2 :: hds) (k :: l)
section
variable {X : Cx} {body : List Stmt} {hd₀ : ExceptHandler} {hds : List ExceptHandler} {l : List Cl} {pos : Pos} {tb : WX → TS} {Wo : WX}
theorem ps_try_all (hst : X.stack = X.env :: X.outer) (hfr : X.env.frame = some X.env.locals) (hN : X.N.Nodup) (tk : Takes X Wo)
    (hb : ∀ (W : WX) (pn : List (Addr × Obj)) (xe : Value → Shared → Prop), Takes (X.tr pn xe) W → PassesOwn (model X.prog X.w) X.A X.env xe → PSs (X.tr pn xe) body (tb W)) (hh : ClsOk X (hd₀ :: hds) l) :
    PS X (.Try body (hd₀ :: hds) [] [] pos) (fun D σ H => tb (wAll X.K Wo D l) D σ H) := by
  refine ⟨fun ps s σ H D I h => ?_⟩
  have ok0 := I.ok
  have frA : X.A.frames = some (X.env :: X.outer) := by rw [ok0.frames, hst]
  refine wpAny_Try_except (wpAny_mono ((hb (wAll X.K Wo D l) (X.pn ++ ps) (fun e s1 => wpAny (model X.prog X.w) X.A (noteFrame e X.env) (fun _ s2 => wpAny (model X.prog X.w) X.A (setFlight e none) (fun _ s3 => wpAny (model X.prog X.w) X.A (handleBy e X.env (hd₀ :: hds)) (SP X ps D) X.xe s3) X.xe s2) X.xe s1)
    (fun u s' xx => ?_) PassesOwn.looking).run [] s σ H D (I.toTry _) h) (fun f s1 sp => ?_) (fun e s1 he => he))
  · obtain ⟨a, B, sI, ps9, σ1, H1, cls, d, rfl, J0, nb, up, sky, na, os, ag, wish⟩ := xx
    have J1 : Inv X ps σ1 H1 sI := J0.ofTry ok0
    have sk : Sky B (X.env :: X.outer) a (Zc cls d) X.env.locals s'.heap := by rw [← hst]; exact sky
    show wpAny (model X.prog X.w) X.A (noteFrame (.ref a) X.env) _ _ _
    refine Sky.land Zc.steady frA hfr sk fun h3 fl3 up3 => ?_
    have K3 : Inv X ps σ1 H1 { s' with heap := h3 } := J1.landed nb fl3.1 (up.trans up3) os ag
    obtain ⟨o3, f3, at3, z3, da3⟩ := fl3.there
    have off : ∀ {g : Heap} {o : Obj} {vs : Array Value}, g.FunFrames B (X.env :: X.outer) → g.get? a = some o → o.data = .fields vs → a ∉ frs (X.env :: X.outer) := fun {g o vs} ff e1 dd hm => by
      obtain ⟨_, o2, e2, nd2⟩ := ff.mem hm
      cases e1.symm.trans e2
      exact nd2 _ dd
    have offA := off fl3.2.2.1 at3 da3
    have nL : a ≠ X.env.locals := fun z => offA (List.mem_filterMap.mpr ⟨X.env, List.mem_cons_self, by rw [hfr, z]⟩)
    have nF : a ∉ X.fs := fun hm => (List.mem_filterMap.mp hm).elim fun e q => offA (List.mem_filterMap.mpr ⟨e, List.mem_cons_of_mem _ q.1, q.2⟩)
    have T3 := K3.suite at3 da3 na nL nF
    have walk : ∀ {hs2 : List ExceptHandler} {l2 : List Cl}, ClsOk X hs2 l2 → wAll X.K Wo D l2 cls d σ1 H1 → wpAny (model X.prog X.w) X.A (handleBy (.ref a) X.env hs2) (SP X ps D) X.xe { s' with heap := h3 } := by
      intro hs2 l2 hk
      induction hk with
      | nil =>
        intro wo
        refine wpAny_handleBy_nil ?_
        obtain ⟨_, _, _, o4, f4, T4, _, _, at4, _, da4, tr4, _⟩ := id fl3
        unfold PySem.passOn
        refine wpAny_bind (wpAny_field at4 da4 tr4 ?_)
        rw [if_neg (show ¬ ((Value.ref T4 == Value.none) = true) from by simp)]
        have last : wpAny (model X.prog X.w) X.A (setFlight (.ref a) X.env.frame) (fun _ s4 => wpAny (model X.prog X.w) X.A (throw (.ref a) : Sem Flow) (SP X ps D) X.xe s4) X.xe { s' with heap := h3 } := by
          rw [hfr]
          refine HandSPX.setFlight_upZ fl3 fun h4 sk4 up4 => wpAny_throw (tk _ _ ⟨a, B, sI, ps, σ1, H1, cls, d, rfl, J1, nb, (up.trans up3).trans up4, .inr (.inr (by rw [hst]; exact sk4)), na, os, ag, wo⟩)
        first
          | exact wpAny_bind (wpAny_pure (wpAny_bind last))
          | exact wpAny_bind last
      | @cons x n k b₀ more p1 p2 hs3 l3 hi hl hc hsu r ih =>
        intro wo
        obtain ⟨b, eb, yes, no⟩ := wo
        refine wpAny_handleBy_cons (codeAny_handlers_test ?_) (by intro q; cases q)
        have looks : PySem.W.Looks (model X.prog X.w) h3 (typeOf (.ref a)) cls := fun A Q E s k q => wpAny_typeOf_ref (k _ _ at3) (by rw [z3.1]; exact q)
        have isx := PySem.W.exm_one (M := model X.prog X.w) (K3.kIn) looks eb
        have named : ∀ {Q E : Value → Shared → Prop}, Q k.c { s' with heap := h3 } → wpAny (model X.prog X.w) (X.A.mark (some (.ref a))) (eval (.Name x p1) X.env) Q E { s' with heap := h3 } := fun {Q E} q => by
          obtain ⟨g1, g2, g3 | ⟨g3, g4, g5⟩⟩ := hc
          · exact ld_glob (X := X.suite a ((a, o3) :: (X.pn ++ ps))) T3 g1 g3 q g2
          · exact ld_blt (X := X.suite a ((a, o3) :: (X.pn ++ ps))) T3 g1 g3 g4 q g5 g2
        refine named (isx.here ?_)
        cases b with
        | false =>
          show wpAny _ X.A (handleBy (.ref a) X.env hs3) _ _ _
          exact ih (no rfl)
        | true =>
          refine codeAny_handlers_suite_as (HandSPX.lands_againZ fl3 fun h4 fl4 up4 => ?_)
          have K4 : Inv X ps σ1 H1 { s' with heap := h4 } := J1.landed nb fl4.1 ((up.trans up3).trans up4) os ag
          obtain ⟨o4, f4, at4, z4, da4⟩ := fl4.there
          have T4 := K4.suite at4 da4 na nL nF
          refine store_ok (X := X.suite a ((a, o4) :: (X.pn ++ ps))) (v := .ref a) T4 hN hi (.inl hl) rfl (fun s5 T5 => ?_) (.inr hl)
          refine wpAny_mono ((hsu a o4 cls d (X.pn ++ ps) z4 ⟨_, da4⟩).run [] s5 _ H1 _ T5 (yes rfl a na)) (fun f s6 sp => ?_) (fun _ _ z => False.elim z)
          have leave : ∀ {σ6 : L2.St} {H6 : Hp} {Q : Shared → Prop}, Inv (X.suite a ((a, o4) :: (X.pn ++ ps))) [] σ6 H6 s6 → (∀ s7, Inv X ps (σ6.set k.i none) H6 s7 → Q s7) → wpAny (model X.prog X.w) X.A (do bindName X.env n .none; unbindBehindTheSuite X.env n p2) (fun _ s7 => Q s7) X.xe s6 :=
            fun {σ6 H6 Q} T6 hq => gone_ok (T6.unsuite ok0) hN hi hl hq
          cases f with
          | next => exact sp.elim fun σ6 z => z.elim fun H6 z => leave z.1 fun s7 J7 => ⟨_, _, J7, z.2⟩
          | brk => exact sp.elim fun σ6 z => z.elim fun H6 z => leave z.1 fun s7 J7 => ⟨_, _, J7, z.2⟩
          | cont => exact sp.elim fun σ6 z => z.elim fun H6 z => leave z.1 fun s7 J7 => ⟨_, _, J7, z.2⟩
          | ret u => exact sp.elim fun v6 z => z.elim fun σ6 z => z.elim fun H6 z => leave z.1 fun s7 J7 => ⟨_, _, _, J7, z.2.1, z.2.2⟩
    exact walk hh wish
  · cases f with
    | next => exact sp.elim fun σ1 z => z.elim fun H1 z => wpAny_execs_nil ⟨σ1, H1, z.1.ofTry ok0, z.2⟩
    | brk => exact sp.elim fun σ1 z => z.elim fun H1 z => ⟨σ1, H1, z.1.ofTry ok0, z.2⟩
    | cont => exact sp.elim fun σ1 z => z.elim fun H1 z => ⟨σ1, H1, z.1.ofTry ok0, z.2⟩
    | ret u => exact sp.elim fun v z => z.elim fun σ1 z => z.elim fun H1 z => ⟨v, σ1, H1, z.1.ofTry ok0, z.2.1, z.2.2⟩
end
end Sw
namespace Sw
open PySem PySem.Spec PyProof.Rows L2
/-- what the schema of the drawn tables comes to -/
inductive Ans (l : List Tb) (ws : List Str) : Str → Str → Prop
  | unk {z : Str} : unkOf l = some z → Ans l ws "unknown" z
  | ring {i : Nat} {t : Tb} : unkOf l = none → l[i]? = some t → (∀ u ∈ l.take i, ¬ Rch l u.nm u.nm) → Rch l t.nm t.nm → Ans l ws "ring" t.nm
  | good {z : Str} : unkOf l = none → (∀ u ∈ l, ¬ Rch l u.nm u.nm) → ws[0]? = some z → Ans l ws "good" z
/-- edges between known names -/
structure EdgesIn (ws : List Str) (m : Nat) (es : List (Str × Str × Int)) : Prop where
  src : ∀ e ∈ es, e.1 ∈ ws.take m
  dst : ∀ e ∈ es, e.2.1 ∈ ws
/-- edges and the tables that have them -/
theorem edges_of {l : List Tb} {ws : List Str} {m : Nat} {es : List (Str × Str × Int)} (hnm : l.map Tb.nm = ws.take m) (nd : (l.map Tb.nm).Nodup) (hz : ∀ t ∈ l, t.zs = ZsOf es t.nm) (hi : EdgesIn ws m es) : EdgesOf l es := by
  intro u v
  by_cases hu : u ∈ l.map Tb.nm
  · obtain ⟨t, ht, rfl⟩ := List.mem_map.mp hu
    rw [leads_of nd ht, hz t ht]
    unfold ZsOf
    constructor
    · intro h
      obtain ⟨e, he, rfl⟩ := List.mem_map.mp h
      obtain ⟨h1, h2⟩ := List.mem_filter.mp he
      exact ⟨e.2.2, by rw [← of_decide_eq_true h2]; exact h1⟩
    · rintro ⟨n, hn⟩
      exact List.mem_map.mpr ⟨_, List.mem_filter.mpr ⟨hn, decide_eq_true rfl⟩, rfl⟩
  · constructor
    · intro h
      unfold leads at h
      cases e : l.find? fun t => decide (t.nm = u) with
      | none => rw [e] at h; exact nomatch h
      | some t =>
        have h1 := List.mem_of_find?_eq_some e
        have h2 := List.find?_some e
        exact absurd (List.mem_map.mpr ⟨t, h1, of_decide_eq_true h2⟩) hu
    · rintro ⟨n, hn⟩
      exact absurd (by rw [hnm]; exact hi.src _ hn) hu
theorem Ans.one {l : List Tb} {ws : List Str} {k k' z z' : Str} (h : Ans l ws k z) (h' : Ans l ws k' z') : k = k' ∧ z = z' := by
  have first : ∀ {i j : Nat} {t u : Tb}, l[i]? = some t → l[j]? = some u → (∀ u ∈ l.take i, ¬ Rch l u.nm u.nm) → (∀ u ∈ l.take j, ¬ Rch l u.nm u.nm) → Rch l t.nm t.nm → Rch l u.nm u.nm → t = u := by
    intro i j t u hi hj bi bj ri rj
    rcases Nat.lt_trichotomy i j with h | h | h
    · exact absurd ri (bj t (List.mem_of_getElem? (by rw [List.getElem?_take_of_lt h]; exact hi)))
    · subst h
      exact Option.some.inj (hi.symm.trans hj)
    · exact absurd rj (bi u (List.mem_of_getElem? (by rw [List.getElem?_take_of_lt h]; exact hj)))
  cases h with
  | unk e => cases h' with
    | unk e' => exact ⟨rfl, Option.some.inj (e.symm.trans e')⟩
    | ring e' => cases e.symm.trans e'
    | good e' => cases e.symm.trans e'
  | ring e hi b r => cases h' with
    | unk e' => cases e.symm.trans e'
    | ring e' hi' b' r' =>
      obtain rfl := first hi hi' b b' r r'
      exact ⟨rfl, rfl⟩
    | good e' n => exact absurd r (n _ (List.mem_of_getElem? hi))
  | good e n hz => cases h' with
    | unk e' => cases e.symm.trans e'
    | ring e' hi' b' r' => exact absurd r' (n _ (List.mem_of_getElem? hi'))
    | good e' n' hz' => exact ⟨rfl, Option.some.inj (hz.symm.trans hz')⟩
/-- values that are tuples (from, to, number) -/
structure EdgesV (H : Hp) (vs : List V) (es : List (Str × Str × Int)) : Prop where
  len : vs.length = es.length
  all : ∀ (i : Nat) (v : V), vs[i]? = some v → ∃ e, es[i]? = some e ∧ ∃ q, v = .ref q ∧ H q = some (.tup [.str e.1, .str e.2.1, .int e.2.2])
theorem EdgesV.hand {H H' : Hp} {p : Addr} {vs : List V} {es : List (Str × Str × Int)} (h : EdgesV H vs es) (hh : HandAt H p) (s : SBut p H H') : EdgesV H' vs es :=
  ⟨h.len, fun i v e => let ⟨e1, h1, q, h2, h3⟩ := h.all i v e; ⟨e1, h1, q, h2, s _ _ (by obtain ⟨_, z, _⟩ := hh; exact ne_of h3 z (fun y => nomatch y)) h3⟩⟩
theorem EdgesV.same {H H' : Hp} {vs : List V} {es : List (Str × Str × Int)} (h : EdgesV H vs es) (s : Same H H') : EdgesV H' vs es :=
  ⟨h.len, fun i v e => let ⟨e1, h1, q, h2, h3⟩ := h.all i v e; ⟨e1, h1, q, h2, s _ _ h3⟩⟩
theorem EdgesV.notL {H H' : Hp} {vs : List V} {es : List (Str × Str × Int)} (h : EdgesV H vs es) (s : NotL H H') : EdgesV H' vs es :=
  ⟨h.len, fun i v e => let ⟨e1, h1, q, h2, h3⟩ := h.all i v e; ⟨e1, h1, q, h2, s _ _ h3 (fun _ z => nomatch z)⟩⟩
/-- values that are tuples whose second item is a name -/
structure LeadV (H : Hp) (rs : List V) (zs : List Str) : Prop where
  len : rs.length = zs.length
  all : ∀ (i : Nat) (v : V), rs[i]? = some v → ∃ z, zs[i]? = some z ∧ ∃ q x y, v = .ref q ∧ H q = some (.tup [x, .str z, y])
theorem LeadV.nil {H : Hp} : LeadV H [] [] := ⟨rfl, fun i v e => (by cases e)⟩
theorem LeadV.same {H H' : Hp} {vs : List V} {es : List Str} (h : LeadV H vs es) (s : Same H H') : LeadV H' vs es :=
  ⟨h.len, fun i v e => let ⟨e1, h1, q, x, y, h2, h3⟩ := h.all i v e; ⟨e1, h1, q, x, y, h2, s _ _ h3⟩⟩
theorem LeadV.notL {H H' : Hp} {vs : List V} {es : List Str} (h : LeadV H vs es) (s : NotL H H') : LeadV H' vs es :=
  ⟨h.len, fun i v e => let ⟨e1, h1, q, x, y, h2, h3⟩ := h.all i v e; ⟨e1, h1, q, x, y, h2, s _ _ h3 (fun _ z => nomatch z)⟩⟩
theorem LeadV.snoc {H : Hp} {vs : List V} {es : List Str} {q : Addr} {x y : V} {z : Str} (h : LeadV H vs es) (hq : H q = some (.tup [x, .str z, y])) : LeadV H (vs ++ [.ref q]) (es ++ [z]) := by
  refine ⟨by rw [List.length_append, List.length_append, h.len]; rfl, fun i v e => ?_⟩
  by_cases hi : i < vs.length
  · rw [List.getElem?_append_left hi] at e
    obtain ⟨e1, h1, h2⟩ := h.all i v e
    exact ⟨e1, by rw [List.getElem?_append_left (by rw [← h.len]; exact hi)]; exact h1, h2⟩
  · have ei : i = vs.length := by
      have := (List.getElem?_eq_some_iff.mp e).1
      rw [List.length_append] at this
      simp at this
      omega
    subst ei
    rw [List.getElem?_append_right (Nat.le_refl _), Nat.sub_self] at e
    obtain rfl : V.ref q = v := Option.some.inj e
    exact ⟨z, by rw [h.len, List.getElem?_append_right (Nat.le_refl _), Nat.sub_self]; rfl, q, x, y, rfl, hq⟩
theorem LeadV.lead {K : PySem.W.Frag} {H : Hp} {a : Addr} {vs : List V} {zs : List Str} (h : LeadV H vs zs) (ha : SqT K H a vs) (hl : zs.length ≤ 100) : Lead K H a vs zs :=
  ⟨ha, h.len, hl, fun i v e => let ⟨z, h1, q, x, y, h2, h3⟩ := h.all i v e; ⟨z, h1, q, [x, .str z, y], h2, SqT.of h3, rfl⟩⟩
theorem zsOf_snoc {es : List (Str × Str × Int)} {i : Nat} {e : Str × Str × Int} {nm : Str} (h : es[i]? = some e) : ZsOf (es.take (i + 1)) nm = ZsOf (es.take i) nm ++ (if e.1 = nm then [e.2.1] else []) := by
  unfold ZsOf
  rw [take_snoc h, List.filter_append, List.map_append]
  by_cases c : e.1 = nm
  · rw [if_pos c, List.filter_cons_of_pos (by simp [c])]
    rfl
  · rw [if_neg c, List.filter_cons_of_neg (by simp [c])]
    rfl
theorem zsOf_len (es : List (Str × Str × Int)) (nm : Str) : (ZsOf es nm).length ≤ es.length := by
  unfold ZsOf
  rw [List.length_map]
  exact List.length_filter_le _ _
/-- the j-th of the made tables -/
structure TbZ (K : PySem.W.Frag) (CT : Addr) (ws : List Str) (es : List (Str × Str × Int)) (H : Hp) (j : Nat) (t : Tb) : Prop where
  nm : ws[j]? = some t.nm
  zs : t.zs = ZsOf es t.nm
  at_ : ∃ dx wd kA lA rA rs, H t.x = some (.ins CT dx (tabF t.nm wd kA lA rA)) ∧ SqT K H rA rs ∧ LeadV H rs t.zs
theorem TbZ.same {K : PySem.W.Frag} {CT : Addr} {ws : List Str} {es : List (Str × Str × Int)} {H H' : Hp} {j : Nat} {t : Tb} (h : TbZ K CT ws es H j t) (s : Same H H') : TbZ K CT ws es H' j t :=
  ⟨h.nm, h.zs, let ⟨dx, wd, kA, lA, rA, rs, h1, h2, h3⟩ := h.at_; ⟨dx, wd, kA, lA, rA, rs, s _ _ h1, same_seqT s h2, h3.same s⟩⟩
theorem TbZ.notL {K : PySem.W.Frag} {CT : Addr} {ws : List Str} {es : List (Str × Str × Int)} {H H' : Hp} {j : Nat} {t : Tb} (h : TbZ K CT ws es H j t) (s : NotL H H') : TbZ K CT ws es H' j t :=
  ⟨h.nm, h.zs, let ⟨dx, wd, kA, lA, rA, rs, h1, h2, h3⟩ := h.at_; ⟨dx, wd, kA, lA, rA, rs, s _ _ h1 (fun _ z => nomatch z), s.tup h2, h3.notL s⟩⟩
theorem TbZ.tb {K : PySem.W.Frag} {CT : Addr} {ws : List Str} {es : List (Str × Str × Int)} {H : Hp} {j : Nat} {t : Tb} (h : TbZ K CT ws es H j t) (hl : es.length ≤ 100) : TbAt K CT H t :=
  ⟨let ⟨dx, wd, kA, lA, rA, rs, h1, h2, h3⟩ := h.at_; ⟨dx, wd, kA, lA, rA, rs, h1, h3.lead h2 (by rw [h.zs]; exact Nat.le_trans (zsOf_len _ _) hl)⟩⟩
theorem Ans.mem {l : List Tb} {ws : List Str} {m : Nat} {es : List (Str × Str × Int)} {k z : Str} (h : Ans l ws k z) (hz : ∀ t ∈ l, t.zs = ZsOf es t.nm) (hi : EdgesIn ws m es) (hn : l.map Tb.nm = ws.take m) : z ∈ ws := by
  cases h with
  | unk e =>
    obtain ⟨t, ht, hm⟩ := List.mem_flatMap.mp (List.mem_of_find?_eq_some e)
    rw [hz t ht] at hm
    obtain ⟨e1, h1, rfl⟩ := List.mem_map.mp hm
    exact hi.dst _ (List.mem_filter.mp h1).1
  | ring _ ht _ _ =>
    have := List.mem_map_of_mem (f := Tb.nm) (List.mem_of_getElem? ht)
    rw [hn] at this
    exact List.mem_of_mem_take this
  | good _ _ h0 => exact List.mem_of_getElem? h0
theorem Ans.ok {l : List Tb} {ws : List Str} {k z : Str} (h : Ans l ws k z) : SOk k := by
  cases h with
  | unk _ => exact ⟨by decide +kernel, by decide +kernel⟩
  | ring _ _ _ _ => exact ⟨by decide +kernel, by decide +kernel⟩
  | good _ _ _ => exact ⟨by decide +kernel, by decide +kernel⟩
/-- two tuples of the same two texts -/
theorem eqv_two {a b : Str} (ha : SOk a) (hb : SOk b) : SeqAt.shaped (.tuple [.str a, .str b]) = true ∧ PySem.PyData.eqv (.tuple [.str a, .str b]) (.tuple [.str a, .str b]) = true := by
  have c : PySem.PyData.canLay0 (.tuple [.str a, .str b]) = true := by
    show (PySem.PyData.strOk a && (PySem.PyData.strOk b && true)) = true
    rw [ha.2, hb.2]
    rfl
  refine ⟨?_, PySem.SeqAt.eqv_refl _ c⟩
  unfold SeqAt.shaped
  rw [c]
  rfl
end Sw
namespace Sw
open PySem PySem.Spec PyProof.Rows L2
/-- a dict of lists of words that is new, all its lists new -/
structure MenusAt (H0 H : Hp) (M : Addr) (es : List Ent) : Prop where
  at_ : H M = some (.dK (es.map fun e => (e.1, V.ref e.2.1)))
  nd : (es.map (·.1)).Nodup
  fr : H0 M = none
  all : ∀ e ∈ es, H e.2.1 = some (.lst (e.2.2.map V.str)) ∧ e.2.2.length ≤ 3 ∧ (∀ z ∈ e.2.2, SOk z) ∧ (∃ k : Key, e.1 = k) ∧ H0 e.2.1 = none
theorem MenusAt.same {H0 H H' : Hp} {M : Addr} {es : List Ent} (h : MenusAt H0 H M es) (s : Same H H') : MenusAt H0 H' M es :=
  ⟨s _ _ h.at_, h.nd, h.fr, fun e he => ⟨s _ _ (h.all e he).1, (h.all e he).2⟩⟩
theorem short_ne {H : Hp} {p b : Addr} {xs : List V} (hh : HandAt H p) (h : H b = some (.lst xs)) (l : xs.length ≤ 60) : b ≠ p := by
  rintro rfl
  obtain ⟨ns, e, hl⟩ := hh
  have := HO.lst.inj (Option.some.inj (h.symm.trans e))
  rw [this, List.length_map] at l
  omega
theorem MenusAt.hand {H0 H H' : Hp} {M p : Addr} {es : List Ent} (h : MenusAt H0 H M es) (hh : HandAt H p) (s : SBut p H H') : MenusAt H0 H' M es :=
  ⟨s _ _ (by obtain ⟨_, z, _⟩ := hh; exact ne_of h.at_ z (fun y => nomatch y)) h.at_, h.nd, h.fr, fun e he => ⟨s _ _ (short_ne hh (h.all e he).1 (by rw [List.length_map]; exact Nat.le_trans (h.all e he).2.1 (by decide))) (h.all e he).1, (h.all e he).2⟩⟩
theorem MenusAt.dict {K : PySem.W.Frag} {H0 H : Hp} {M : Addr} {es : List Ent} (h : MenusAt H0 H M es) (hl : es.length ≤ 3) : LDict K H M es :=
  ⟨h.at_, h.nd, Nat.le_trans hl (by decide), fun e he => ⟨.inl (SqL.of (h.all e he).1), Nat.lt_of_le_of_lt (h.all e he).2.1 (by decide)⟩⟩
/-- neither the dict nor one of its lists -/
def Out (M : Addr) (es : List Ent) (b : Addr) : Prop := b ≠ M ∧ ∀ e ∈ es, b ≠ e.2.1
def Keeps (M : Addr) (es : List Ent) (H H' : Hp) : Prop := ∀ b o, Out M es b → H b = some o → H' b = some o
theorem MenusAt.old {H0 H : Hp} {M b : Addr} {o : HO} {es : List Ent} (h : MenusAt H0 H M es) (hb : H0 b = some o) : Out M es b :=
  ⟨ne_of_none hb h.fr, fun e he => ne_of_none hb (h.all e he).2.2.2.2⟩
theorem MenusAt.new {H0 H : Hp} {M b : Addr} {es : List Ent} (h : MenusAt H0 H M es) (hb : H b = none) : Out M es b :=
  ⟨fun z => (by rw [z, h.at_] at hb; cases hb), fun e he z => (by rw [z, (h.all e he).1] at hb; cases hb)⟩
theorem MenusAt.kind {H0 H : Hp} {M b : Addr} {o : HO} {es : List Ent} (h : MenusAt H0 H M es) (hb : H b = some o) (h1 : ∀ kvs, o ≠ .dK kvs) (h2 : ∀ xs, o ≠ .lst xs) : Out M es b :=
  ⟨ne_of hb h.at_ (h1 _), fun e he => ne_of hb (h.all e he).1 (h2 _)⟩
/-- an entry for each of the dict's: its key, the words ascending -/
structure DueAt (H : Hp) (vs : List V) (es : List Ent) : Prop where
  len : vs.length = es.length
  all : ∀ (i : Nat) (v : V), vs[i]? = some v → ∃ e, es[i]? = some e ∧ ∃ q T us, v = .ref q ∧ H q = some (.tup [kV e.1, .ref T]) ∧ H T = some (.tup (us.map V.str)) ∧ AscS us ∧ (∀ z, z ∈ us ↔ z ∈ e.2.2)
theorem DueAt.nil {H : Hp} : DueAt H [] [] := ⟨rfl, fun i v e => (by cases e)⟩
/-- beside what is no tuple -/
def KeepT (H H' : Hp) : Prop := ∀ b xs, H b = some (.tup xs) → H' b = some (.tup xs)
theorem Same.keepT {H H' : Hp} (s : Same H H') : KeepT H H' := fun _ _ h => s _ _ h
theorem KeepT.trans {H H1 H' : Hp} (s : KeepT H H1) (t : KeepT H1 H') : KeepT H H' := fun _ _ h => t _ _ (s _ _ h)
theorem NotL.keepT {H H' : Hp} (s : NotL H H') : KeepT H H' := fun _ _ h => s _ _ h (fun _ z => nomatch z)
theorem hand_keepT {H H' : Hp} {p : Addr} (hh : HandAt H p) (s : SBut p H H') : KeepT H H' := fun b xs h => s _ _ (by obtain ⟨_, z, _⟩ := hh; exact ne_of h z (fun y => nomatch y)) h
theorem DueAt.keep {H H' : Hp} {vs : List V} {es : List Ent} (h : DueAt H vs es) (s : KeepT H H') : DueAt H' vs es :=
  ⟨h.len, fun i v e => let ⟨e1, h1, q, T, us, h2, h3, h4, h5⟩ := h.all i v e; ⟨e1, h1, q, T, us, h2, s _ _ h3, s _ _ h4, h5⟩⟩
theorem DueAt.snoc {H : Hp} {vs : List V} {es : List Ent} {e : Ent} {q T : Addr} {us : List Str} (h : DueAt H vs es) (hq : H q = some (.tup [kV e.1, .ref T])) (hT : H T = some (.tup (us.map V.str))) (ha : AscS us) (hm : ∀ z, z ∈ us ↔ z ∈ e.2.2) : DueAt H (vs ++ [.ref q]) (es ++ [e]) := by
  refine ⟨by rw [List.length_append, List.length_append, h.len]; rfl, fun i v hv => ?_⟩
  by_cases hi : i < vs.length
  · rw [List.getElem?_append_left hi] at hv
    obtain ⟨e1, h1, h2⟩ := h.all i v hv
    exact ⟨e1, by rw [List.getElem?_append_left (by rw [← h.len]; exact hi)]; exact h1, h2⟩
  · have ei : i = vs.length := by
      have := (List.getElem?_eq_some_iff.mp hv).1
      rw [List.length_append] at this
      simp at this
      omega
    subst ei
    rw [List.getElem?_append_right (Nat.le_refl _), Nat.sub_self] at hv
    obtain rfl : V.ref q = v := Option.some.inj hv
    exact ⟨e, by rw [h.len, List.getElem?_append_right (Nat.le_refl _), Nat.sub_self]; rfl, q, T, us, rfl, hq, hT, ha, hm⟩
/-- values that are tuples (number, name, number) -/
structure TripV (H : Hp) (vs : List V) (ls : List (Int × Str × Int)) : Prop where
  len : vs.length = ls.length
  all : ∀ (i : Nat) (v : V), vs[i]? = some v → ∃ e, ls[i]? = some e ∧ ∃ q, v = .ref q ∧ H q = some (.tup [.int e.1, .str e.2.1, .int e.2.2])
theorem TripV.nil {H : Hp} : TripV H [] [] := ⟨rfl, fun i v e => (by cases e)⟩
theorem TripV.keep {H H' : Hp} {vs : List V} {ls : List (Int × Str × Int)} (h : TripV H vs ls) (s : KeepT H H') : TripV H' vs ls :=
  ⟨h.len, fun i v e => let ⟨e1, h1, q, h2, h3⟩ := h.all i v e; ⟨e1, h1, q, h2, s _ _ h3⟩⟩
theorem TripV.snoc {H : Hp} {vs : List V} {ls : List (Int × Str × Int)} {e : Int × Str × Int} {q : Addr} (h : TripV H vs ls) (hq : H q = some (.tup [.int e.1, .str e.2.1, .int e.2.2])) : TripV H (vs ++ [.ref q]) (ls ++ [e]) := by
  refine ⟨by rw [List.length_append, List.length_append, h.len]; rfl, fun i v hv => ?_⟩
  by_cases hi : i < vs.length
  · rw [List.getElem?_append_left hi] at hv
    obtain ⟨e1, h1, h2⟩ := h.all i v hv
    exact ⟨e1, by rw [List.getElem?_append_left (by rw [← h.len]; exact hi)]; exact h1, h2⟩
  · have ei : i = vs.length := by
      have := (List.getElem?_eq_some_iff.mp hv).1
      rw [List.length_append] at this
      simp at this
      omega
    subst ei
    rw [List.getElem?_append_right (Nat.le_refl _), Nat.sub_self] at hv
    obtain rfl : V.ref q = v := Option.some.inj hv
    exact ⟨e, by rw [h.len, List.getElem?_append_right (Nat.le_refl _), Nat.sub_self]; rfl, q, rfl, hq⟩
def trD (ls : List (Int × Str × Int)) : List PyData := ls.map fun e => .tuple [.int e.1, .str e.2.1, .int e.2.2]
theorem TripV.dp {K : PySem.W.Frag} {H : Hp} : ∀ {vs : List V} {ls : List (Int × Str × Int)}, TripV H vs ls → DpAll K H vs (trD ls)
  | [], [], _ => .nil
  | [], _ :: _, h => nomatch h.len
  | _ :: _, [], h => nomatch h.len
  | v :: vs, l :: ls, h => by
    obtain ⟨e, h1, q, rfl, h2⟩ := h.all 0 _ rfl
    obtain rfl : l = e := Option.some.inj h1
    exact .cons (.tup (SqT.of h2) (.cons (.int _) (.cons (.str _) (.cons (.int _) .nil)))) (TripV.dp ⟨Nat.succ.inj h.len, fun i v hv => h.all (i + 1) v hv⟩)
theorem canTrips : ∀ {ls : List (Int × Str × Int)}, (∀ e ∈ ls, SOk e.2.1) → PySem.PyData.canLayAll0 (trD ls) = true ∧ PySem.PyData.depthAll (trD ls) ≤ 1
  | [], _ => ⟨rfl, Nat.zero_le _⟩
  | e :: r, h => by
    obtain ⟨h1, h2⟩ := canTrips (ls := r) fun x hx => h x (List.mem_cons_of_mem _ hx)
    constructor
    · show ((true && (PySem.PyData.strOk e.2.1 && (true && true))) && PySem.PyData.canLayAll0 (trD r)) = true
      rw [h1, (h e List.mem_cons_self).2]
      rfl
    · show max (max 0 (max 0 (max 0 0)) + 1) (PySem.PyData.depthAll (trD r)) ≤ 1
      omega
theorem shapedTrips {ls : List (Int × Str × Int)} (h : ∀ e ∈ ls, SOk e.2.1) : SeqAt.shaped (.tuple (trD ls)) = true ∧ PySem.PyData.eqv (.tuple (trD ls)) (.tuple (trD ls)) = true := by
  obtain ⟨h1, h2⟩ := canTrips h
  have e1 : PySem.PyData.canLay0 (.tuple (trD ls)) = true := h1
  refine ⟨?_, PySem.SeqAt.eqv_refl _ e1⟩
  unfold SeqAt.shaped
  have e2 : PySem.PyData.depth (.tuple (trD ls)) = PySem.PyData.depthAll (trD ls) + 1 := rfl
  rw [e1, e2, decide_eq_true (by omega)]
  rfl
theorem dpInts {K : PySem.W.Frag} {H : Hp} : ∀ s : List Int, DpAll K H (s.map V.int) (s.map .int)
  | [] => .nil
  | z :: r => .cons (.int z) (dpInts r)
theorem canInts : ∀ s : List Int, PySem.PyData.canLayAll0 (s.map .int) = true ∧ PySem.PyData.depthAll (s.map .int) = 0
  | [] => ⟨rfl, rfl⟩
  | z :: r => by
    obtain ⟨h1, h2⟩ := canInts r
    constructor
    · show (true && PySem.PyData.canLayAll0 (r.map .int)) = true
      rw [h1]
      rfl
    · show max 0 (PySem.PyData.depthAll (r.map .int)) = 0
      rw [h2]
      rfl
theorem shapedInts (s : List Int) : SeqAt.shaped (.tuple (s.map .int)) = true ∧ PySem.PyData.eqv (.tuple (s.map .int)) (.tuple (s.map .int)) = true := by
  obtain ⟨h1, h2⟩ := canInts s
  have e1 : PySem.PyData.canLay0 (.tuple (s.map .int)) = true := h1
  refine ⟨?_, PySem.SeqAt.eqv_refl _ e1⟩
  unfold SeqAt.shaped
  have e2 : PySem.PyData.depth (.tuple (s.map .int)) = PySem.PyData.depthAll (s.map .int) + 1 := rfl
  rw [e1, e2, h2]
  rfl
theorem shapedStrs {s : List Str} (h : ∀ z ∈ s, SOk z) : SeqAt.shaped (.tuple (s.map .str)) = true ∧ PySem.PyData.eqv (.tuple (s.map .str)) (.tuple (s.map .str)) = true := by
  obtain ⟨h1, h2⟩ := canStrs h
  have e1 : PySem.PyData.canLay0 (.tuple (s.map .str)) = true := h1
  refine ⟨?_, PySem.SeqAt.eqv_refl _ e1⟩
  unfold SeqAt.shaped
  have e2 : PySem.PyData.depth (.tuple (s.map .str)) = PySem.PyData.depthAll (s.map .str) + 1 := rfl
  rw [e1, e2, h2]
  rfl
theorem paired_get {α β : Type} {F : α → β → Prop} : ∀ {l₁ : List α} {l₂ : List β}, Paired F l₁ l₂ → ∀ {i : Nat} {a : α}, l₁[i]? = some a → ∃ b, l₂[i]? = some b ∧ F a b
  | _, _, .nil, _, _, h => nomatch h
  | _, _, .cons r t, 0, a, h => ⟨_, rfl, Option.some.inj h ▸ r⟩
  | _, _, .cons r t, i + 1, a, h => paired_get t (i := i) h
theorem nodup_leA {α : Type} [DecidableEq α] : ∀ {fs ns : List α}, fs.Nodup → (∀ z ∈ fs, z ∈ ns) → fs.length ≤ ns.length
  | [], _, _, _ => Nat.zero_le _
  | f :: r, ns, nd, h => by
    have ih := nodup_leA (fs := r) (ns := ns.erase f) (List.nodup_cons.mp nd).2 fun z hz => (List.mem_erase_of_ne (fun e => (List.nodup_cons.mp nd).1 (by rw [← e]; exact hz))).mpr (h z (List.mem_cons_of_mem _ hz))
    have hm := h f List.mem_cons_self
    rw [List.length_erase_of_mem hm] at ih
    have := List.length_pos_of_mem hm
    rw [List.length_cons]
    omega
theorem ascI_nodup {l : List Int} (h : AscI l) : l.Nodup := h.imp fun e => Int.ne_of_lt e
theorem tyT {K : PySem.W.Frag} {H : Hp} {a : Addr} {xs : List V} (h : SqT K H a xs) : TyX K H (.ref a) (.type "tuple") := by
  rcases h with (h | ⟨u, h⟩) | ⟨o, its, n, h, hc, _⟩
  · exact .base (.tup h)
  · exact .fTuple h
  · exact .kTuple h hc
end Sw
namespace Sw
open PySem PySem.Spec PyProof.Rows L2
/-- t looks the names up in the dict at D, one behind another, and goes on as r -/
def ChainTo {α : Type} (D : Addr) : List (Str × Value) → Sem α → Sem α → Prop
  | [], t, r => t = r
  | q :: l, t, r => ∃ (β γ : Type) (k1 : Option Value → Sem β) (k2 : β → Sem γ) (k3 : γ → Sem α) (a : β), t = ((nsGet D q.1 >>= k1) >>= k2) >>= k3 ∧ k1 (some q.2) = pure a ∧ ChainTo D l (k2 a >>= k3) r
theorem chain_wp {α : Type} {K : PySem.W.Frag} {M : Model} {A : Around} {D : Addr} {Q : α → Shared → Prop} {E : Value → Shared → Prop} {s : Shared} (X : K.In s.heap) : ∀ {l : List (Str × Value)} {t r : Sem α}, (∀ q ∈ l, PySem.W.nsIn K D q.1 = some (some q.2)) → ChainTo D l t r →
    wpAny M A r Q E s → wpAny M A t Q E s
  | [], t, r, _, e, h => by rw [e]; exact h
  | q :: l, t, r, hl, e, h => by
    obtain ⟨β, γ, k1, k2, k3, a, e1, e2, e3⟩ := e
    have l1 : PySem.W.Looks M s.heap (nsGet D q.1 >>= k1) a := (PySem.W.looks_nsIn X (hl q List.mem_cons_self)).andThen (PySem.W.Looks.of_pure e2)
    rw [e1, bind_assoc]
    exact wpAny_bind (l1 A _ E s (fun _ _ z => z) (chain_wp X (fun p hp => hl p (List.mem_cons_of_mem _ hp)) e3 h))
/-- what a def with a star parameter and keyword-only ones promises, called with the keywords ks -/
def FnRK (P : Program) (w : World) (K : PySem.W.Frag) (mg : Str → Option Value) (base : Heap) (CX : CXT) (k : Nat) (f : Addr) (ks : List Str) (sp : List V → List V → Hp → VK → XK → Prop) : Prop :=
  ∀ (A : Around) (outer : List Env) (s : Shared) (H : Hp) (us ws : List Value) (vs zs : List V) (Q : VK) (E : XK), Room k A → Env0 P w K mg base A outer s H → Vals vs us → Vals zs ws → zs.length = ks.length → sp vs zs H Q E →
    codeAny (model P w) A (.call (.ref f) ⟨us, ks.zip ws⟩) (CR CX outer P w H s Q E) s
section
variable {CX : CXT} {P : Program} {w : World} {K : PySem.W.Frag} {mg : Str → Option Value} {base : Heap} {k : Nat} {f D : Addr} {name qual : Str} {params : Arguments} {body : List Stmt} {scope : Scope} {dV kV doc pm cdv ct oc : Value} {an od : Option Addr} {osl : Array (Option Value)} {N ps kn ks : List Str}
/-- def f(a, .., *v, k = .., ..) -/
theorem fn_starK {pv : Str} {ms : List (Str × Value)} {ord : List Value → List Value} {ordV : List V → List V} {sp : Sp} (lk : K.lookup f = some ⟨oc, od, .func (PySem.W.fnOf name qual params body scope dV kV doc pm an cdv ct), osl⟩) (hcd : PySem.W.codeIn K cdv qual = true) (S : FnScope N ((ps ++ kn) ++ [pv]) scope) (up : StX.CXUp CX)
    (hms : ∀ q ∈ ms, PySem.W.nsIn K D q.1 = some (some q.2)) (hord : ∀ {zs : List V} {ws : List Value}, Vals zs ws → zs.length = ks.length → Vals (ordV zs) (ord ws) ∧ (ordV zs).length = kn.length)
    (hb : ∀ us rest ws : List Value, us.length = ps.length → ws.length = ks.length → ChainTo D ms (bindArgs (PySem.W.fnOf name qual params body scope dV kV doc pm an cdv ct) ⟨us ++ rest, ks.zip ws⟩) (newTuple rest >>= fun t => pure ((ps ++ kn).zip (us ++ ord ws) ++ [(pv, t)])))
    (hbody : ∀ (A : Around) (outer : List Env) (s : Shared) (H : Hp) (vs : List V) (Q : VK) (E : XK), Room k (A.deeper (envOfC qual scope s.heap.objs.size f cdv)) → sp vs H Q E →
      ∃ t, PSs (cxOf CX P w K mg base N qual scope f cdv A outer s H E) body t ∧ t { nx := fun _ H' => Q .non H', rt := Q } (L2.start N vs) H) :
    FnRK P w K mg base CX (k + 1) f ks (fun vs zs H Q E => ∃ as rest, vs = as ++ rest ∧ as.length = ps.length ∧ rest.length ≤ sizeLine ∧ ∀ p, H p = Option.none → sp ((as ++ ordV zs) ++ [V.ref p]) (upd H p (.tup rest)) Q E) := by
  rintro A outer s H us ws vs zs Q E hr e0 r rz lz ⟨as, rest, rfl, la, lr, hq⟩
  obtain ⟨u1, u2, rfl, r1, r2⟩ := StX.vals_split r
  have free : H s.heap.objs.size = Option.none := e0.hok.fresh (Nat.le_refl _)
  have lu1 : u1.length = ps.length := by rw [← r1.length]; exact la
  have lu2 : u2.length ≤ sizeLine := by rw [← r2.length]; exact lr
  have lws : ws.length = ks.length := by rw [← rz.length]; exact lz
  obtain ⟨ro, lo⟩ := hord rz lz
  have KX : K.In s.heap := e0.mod.kin.keeps fun b o e => (e0.bs b o e).1
  refine StX.run_bnd lk hcd S hr e0 (G := fun xs H2 => ∃ p, H p = Option.none ∧ xs = (as ++ ordV zs) ++ [V.ref p] ∧ H2 = upd H p (.tup rest)) (fun A' Ex Q' h => ?_) fun s2 H2 xs ⟨p, hp, ex, eH⟩ hr' => ?_
  · refine chain_wp KX hms (hb u1 u2 ws lu1 lws) (wpAny_bind (wpAny_newTuple (wpAny_pure ?_) lu2))
    have made : ObjOk P w (upd H s.heap.objs.size (.tup rest)) (s.heap.push ({ cls := .type "tuple", data := .seq u2.toArray } : Obj)) s.heap.objs.size (.tup rest) := ⟨lr, u2, r2, ⟨_, Heap.get?_push_size _ rfl, rfl, _, rfl⟩⟩
    have un := StX.un_laid (fs := frs outer) (s := s) (o := ({ cls := .type "tuple", data := .seq u2.toArray } : Obj)) (u := .tup rest) free
    have z := h _ _ ((as ++ ordV zs) ++ [V.ref s.heap.objs.size]) ((u1 ++ ord ws) ++ [Value.ref s.heap.objs.size]) (StX.env0_laid e0 made) un rfl (fun e s' => up outer s H _ _ E e s' un (fun b o q => Heap.get?_push_of_some _ q) rfl) ((r1.append ro).append (.cons rfl .nil))
      (by rw [List.length_append, List.length_append, List.length_append, List.length_append, la, lo]; rfl) ⟨_, free, rfl, rfl⟩
    rw [List.zip_append (by rw [List.length_append, List.length_append, lu1, ← lo, ro.length])] at z
    exact z
  · subst ex eH
    exact hbody A outer s2 _ _ Q E hr' (hq p hp)
end
/-- C(e, .., k = v, ..) by such a promise of its __init__ -/
def tMakeRK (C : Addr) (m : Nat) (sp : List V → List V → Hp → VK → XK → Prop) (E : XK) (t tk : TA) : TE := fun σ H Q => t σ H fun vs H1 => tk σ H1 fun zs H2 => zs.length = m ∧ ∀ x dx, H2 x = Option.none → H2 dx = Option.none → dx ≠ x →
  sp (V.ref x :: vs) zs (upd (upd H2 dx (.own x)) x (.ins C dx [])) (fun v H3 => v = .non ∧ Q (.ref x) H3) E
section
variable {X : Cx} {CX : CXT} {k : Nat} {f C : Addr} {ks : List Str} {sp : List V → List V → Hp → VK → XK → Prop} {E : XK} {x : Str} {p pos : Pos} {e : Expr} {es : List Expr} {kws : List Keyword} {t tk : TA}
theorem run_makeRK {pins : List (Addr × Obj)} {σ : L2.St} {H : Hp} {s : Shared} {Q : VK} {us ws : List Value} {vs zs : List V} (M : Mk X.K C f) (F : FnRK X.prog X.w X.K X.mg X.base CX k f ks sp) (hr : Room (k + 1) X.A) (hx : Passes CX X E) (I : Inv X pins σ H s) (r : Vals vs us) (rz : Vals zs ws) (lz : zs.length = ks.length)
    (h : ∀ x dx, H x = Option.none → H dx = Option.none → dx ≠ x → sp (V.ref x :: vs) zs (upd (upd H dx (.own x)) x (.ins C dx [])) (fun v H2 => v = .non ∧ Q (.ref x) H2) E) :
    wpAny (model X.prog X.w) X.A (call (.ref C) us (ks.zip ws)) (EP X pins σ Q) X.xe s := by
  have w := h (s.heap.objs.size + 1) s.heap.objs.size (I.hok.fresh (Nat.le_succ _)) (I.hok.fresh (Nat.le_refl _)) (Nat.ne_of_lt (Nat.lt_succ_self _))
  have J := Inv.made (C := C) I
  have rc : Vals (V.ref (s.heap.objs.size + 1) :: vs) (Value.ref (s.heap.objs.size + 1) :: us) := .cons rfl r
  refine wpAny_call (make_map (f := f) I.kIn M.makes M.init (beq_iff_eq.mp M.fn) (codeAny_mono (F _ X.stack _ _ (Value.ref (s.heap.objs.size + 1) :: us) ws _ _ _ E (hr.make C us (ks.zip ws)) (J.env0.make C us (ks.zip ws)) rc rz lz w) fun res s' w' => ?_))
  cases res with
  | error er => exact hx pins σ _ _ er s' J w'
  | ok fl =>
    cases fl with
    | ret u =>
      obtain ⟨v, H', J3, rv, ev, q3⟩ := J.after w'
      subst ev
      exact ⟨rv, ⟨V.ref (s.heap.objs.size + 1), H', J3, rfl, q3⟩⟩
    | next => exact w'.elim
    | brk => exact w'.elim
    | cont => exact w'.elim
theorem pe_makeRK (M : Mk X.K C f) (F : FnRK X.prog X.w X.K X.mg X.base CX k f ks sp) (hr : Room (k + 1) X.A) (hg : Gl X x) (hm : X.mg x = some (.ref C)) (hx : Passes CX X E) (ha : PA X (e :: es) t) (hkw : PK X kws tk)
    (h1 : (backToKw pos (keywordEach kws X.env)).all (·.1.isSome) = true := by rfl) (h2 : (backToKw pos (keywordEach kws X.env)).filterMap (·.1) = ks := by rfl) (h3 : (x == ("__debug__" : Str)) = false := by decide)
    (h4 : starEach (e :: es) X.env = (false, eval e X.env) :: starEach es X.env := by rfl) (h5 : ((backTo pos (starEach (e :: es) X.env)).any (·.1) || (backToKw pos (keywordEach kws X.env)).any (·.1.isNone)) = false := by rfl) :
    PE X (.Call (.Name x p) (e :: es) kws pos) (tMakeRK C ks.length sp E t tk) := by
  refine ⟨fun pins s σ H Q I h => wpAny_Call_Name_kw (ld_glob I hg hm ?_ h3)⟩
  refine PySem.W.callWith_KW (h₀ := X.base) I.ok.mod.kin M.kp h1 (thn (ha.run pos pins s σ H _ I h) fun us s1 ⟨vs, H1, I1, r, q⟩ => ?_) h5 h4
  refine thn (hkw.run pos pins s1 σ H1 _ I1 q) fun ws s2 ⟨zs, H2, I2, rz, l2, q2⟩ => ⟨I2.kIn, ?_⟩
  rw [h2]
  exact run_makeRK M F hr hx I2 r rz l2 q2
/-- without keywords -/
theorem FnRK.none {P : Program} {w : World} {K : PySem.W.Frag} {mg : Str → Option Value} {base : Heap} (F : FnRK P w K mg base CX k f [] sp) : FnR P w K mg base CX k f (fun vs H Q E => sp vs [] H Q E) :=
  fun A outer s H us vs Q E hr e0 r h => F A outer s H us [] vs [] Q E hr e0 r .nil rfl h
end
end Sw
namespace Sw
open PySem PySem.Spec PyProof.Rows L2
/-- a part of a table: its name, then as many terms as the table has columns -/
structure PartGood (rows : List Rw) (s : List Str) : Prop where
  row : ∃ r ∈ rows, s.head? = some r.nm ∧ (s.tail.length : Int) = r.wd
  short : ∀ z ∈ s, z.length ≤ 1000
  terms : ∀ z ∈ s.tail, isTermS z = true
  two : 2 ≤ s.length
  len : s.length ≤ 10
/-- the table of a row -/
theorem SchOf.get {K : PySem.W.Frag} {CT CS S : Addr} {H : Hp} {rows : List Rw} {l : List Tb} (h : SchOf K CT CS H S rows l) {r : Rw} (hr : r ∈ rows) : ∃ t ∈ l, t.nm = r.nm ∧ TbOf K CT H t r := by
  obtain ⟨i, hi⟩ := List.mem_iff_getElem?.mp hr
  have hil := (List.getElem?_eq_some_iff.mp hi).1
  have ht := List.getElem?_eq_getElem (show i < l.length by rw [h.len]; exact hil)
  obtain ⟨r', h1, h2⟩ := h.all i _ ht
  rw [hi] at h1
  obtain rfl := Option.some.inj h1
  exact ⟨_, List.mem_of_getElem? ht, h2.nm, h2⟩
/-- check_part(schema, part), a good part -/
def spPartOk (K : PySem.W.Frag) (CT CS : Addr) : Sp := fun vs H Q _ => ∃ (S a : Addr) (s : List Str) (rows : List Rw) (l : List Tb), vs = [.ref S, .ref a] ∧ SchOf K CT CS H S rows l ∧ SqT K H a (s.map V.str) ∧ PartGood rows s ∧ ∀ H' : Hp, Same H H' → Q .non H'
end Sw
namespace Sw
open PySem PySem.Spec PyProof.Rows L2
section
variable {J J1 : It} {n n1 : Nat} {G G1 : Hp → Prop} {Y Y1 : Nat → Hp → V → Hp → Prop} {g g1 : TG} {tt tt1 : TT} {te : TE} {wi1 : TI} {vs vs1 : List Nat} {σ σ2 : L2.St} {H1 H4 : Hp} {D : Addr} {Qd Nx : Hp → Prop}
/-- [.. for .. in .. for .. in ..]: the outer walk, what stands after each of its turns given -/
theorem lc2_it (w : Walk J n G Y) (Pv : Nat → Hp → Prop) (h0 : Pv 0 (upd H1 D (.lst []))) (hG : ∀ i H, i ≤ n → Pv i H → G H)
    (hs : ∀ i x H H', i < n → Pv i H → Y i H x H' → g x (wipe σ vs) H' fun σ2 H2 => wipe σ2 vs = wipe σ vs ∧ tt σ2 H2 fun b H3 =>
      if b = true then wi1 σ2 H3 fun J1 H4 => ∃ W1 : Nat → Nat → Hp → Prop, (∃ m, W1 0 m H4) ∧ ∀ j k H, W1 j k H →
          (J1.stop j H ∧ Pv (i + 1) H) ∨ (J1.go j H ∧ ∃ Nx1 : Hp → Prop, (∀ H', Nx1 H' → ∃ k', k' < k ∧ W1 (j + 1) k' H') ∧ ∀ x H', J1.yld j H x H' → g1 x (wipe σ2 vs1) H' fun σ3 H5 => wipe σ3 vs1 = wipe σ2 vs1 ∧ tt1 σ3 H5 fun b H6 =>
            if b = true then te σ3 H6 fun y H7 => ∃ acc, H7 D = some (.lst acc) ∧ acc.length < sizeLine ∧ Nx1 (upd H7 D (.lst (acc ++ [y]))) else Nx1 H6)
      else Pv (i + 1) H3) (hd : ∀ H, Pv n H → Qd H) :
    ∃ W : Nat → Nat → Hp → Prop, (∃ m, W 0 m (upd H1 D (.lst []))) ∧ ∀ i m H, W i m H →
      (J.stop i H ∧ Qd H) ∨ (J.go i H ∧ ∃ Nx : Hp → Prop, (∀ H', Nx H' → ∃ m', m' < m ∧ W (i + 1) m' H') ∧ ∀ x H', J.yld i H x H' → g x (wipe σ vs) H' fun σ2 H2 => wipe σ2 vs = wipe σ vs ∧ tt σ2 H2 fun b H3 =>
        if b = true then wi1 σ2 H3 fun J1 H4 => ∃ W1 : Nat → Nat → Hp → Prop, (∃ m, W1 0 m H4) ∧ ∀ j k H, W1 j k H →
          (J1.stop j H ∧ Nx H) ∨ (J1.go j H ∧ ∃ Nx1 : Hp → Prop, (∀ H', Nx1 H' → ∃ k', k' < k ∧ W1 (j + 1) k' H') ∧ ∀ x H', J1.yld j H x H' → g1 x (wipe σ2 vs1) H' fun σ3 H5 => wipe σ3 vs1 = wipe σ2 vs1 ∧ tt1 σ3 H5 fun b H6 =>
            if b = true then te σ3 H6 fun y H7 => ∃ acc, H7 D = some (.lst acc) ∧ acc.length < sizeLine ∧ Nx1 (upd H7 D (.lst (acc ++ [y]))) else Nx1 H6)
        else Nx H3) := by
  refine ⟨fun i m H => m = n - i ∧ i ≤ n ∧ Pv i H, ⟨n, rfl, Nat.zero_le _, h0⟩, ?_⟩
  rintro i m H ⟨rfl, hi, p⟩
  by_cases c : i < n
  · exact .inr ⟨w.goes i H c (hG i H hi p), Pv (i + 1), fun H' p' => ⟨n - (i + 1), by omega, rfl, c, p'⟩, fun x H' y => hs i x H H' c p (w.yields i H x H' c (hG i H hi p) y)⟩
  · obtain rfl : i = n := by omega
    exact .inl ⟨w.stops H (hG i H hi p), hd H p⟩
/-- the inner walk -/
theorem in_it (w : Walk J1 n1 G1 Y1) (Pv : Nat → Hp → Prop) (h0 : Pv 0 H4) (hG : ∀ i H, i ≤ n1 → Pv i H → G1 H)
    (hs : ∀ i x H H', i < n1 → Pv i H → Y1 i H x H' → g1 x (wipe σ2 vs1) H' fun σ3 H5 => wipe σ3 vs1 = wipe σ2 vs1 ∧ tt1 σ3 H5 fun b H6 =>
      if b = true then te σ3 H6 fun y H7 => ∃ acc, H7 D = some (.lst acc) ∧ acc.length < sizeLine ∧ Pv (i + 1) (upd H7 D (.lst (acc ++ [y]))) else Pv (i + 1) H6) (hd : ∀ H, Pv n1 H → Nx H) :
    ∃ W1 : Nat → Nat → Hp → Prop, (∃ m, W1 0 m H4) ∧ ∀ j k H, W1 j k H →
      (J1.stop j H ∧ Nx H) ∨ (J1.go j H ∧ ∃ Nx1 : Hp → Prop, (∀ H', Nx1 H' → ∃ k', k' < k ∧ W1 (j + 1) k' H') ∧ ∀ x H', J1.yld j H x H' → g1 x (wipe σ2 vs1) H' fun σ3 H5 => wipe σ3 vs1 = wipe σ2 vs1 ∧ tt1 σ3 H5 fun b H6 =>
        if b = true then te σ3 H6 fun y H7 => ∃ acc, H7 D = some (.lst acc) ∧ acc.length < sizeLine ∧ Nx1 (upd H7 D (.lst (acc ++ [y]))) else Nx1 H6) := by
  refine ⟨fun i m H => m = n1 - i ∧ i ≤ n1 ∧ Pv i H, ⟨n1, rfl, Nat.zero_le _, h0⟩, ?_⟩
  rintro i m H ⟨rfl, hi, p⟩
  by_cases c : i < n1
  · exact .inr ⟨w.goes i H c (hG i H hi p), Pv (i + 1), fun H' p' => ⟨n1 - (i + 1), by omega, rfl, c, p'⟩, fun x H' y => hs i x H H' c p (w.yields i H x H' c (hG i H hi p) y)⟩
  · obtain rfl : i = n1 := by omega
    exact .inl ⟨w.stops H (hG i H hi p), hd H p⟩
end
/-- values that are tuples of texts -/
structure PartsV (K : PySem.W.Frag) (H : Hp) (xs : List V) (ss : List (List Str)) : Prop where
  len : xs.length = ss.length
  all : ∀ (i : Nat) (v : V), xs[i]? = some v → ∃ s, ss[i]? = some s ∧ ∃ q, v = .ref q ∧ SqT K H q (s.map V.str)
theorem PartsV.same {K : PySem.W.Frag} {H H' : Hp} {xs : List V} {ss : List (List Str)} (h : PartsV K H xs ss) (s : Same H H') : PartsV K H' xs ss :=
  ⟨h.len, fun i v e => let ⟨s1, h1, q, h2, h3⟩ := h.all i v e; ⟨s1, h1, q, h2, same_seqT s h3⟩⟩
def termsOf (ss : List (List Str)) : List Str := ss.flatMap List.tail
theorem terms_snoc {ss : List (List Str)} {i : Nat} {s : List Str} (h : ss[i]? = some s) : termsOf (ss.take (i + 1)) = termsOf (ss.take i) ++ s.tail := by
  unfold termsOf
  rw [take_snoc h, List.flatMap_append]
  simp
theorem terms_len : ∀ {ss : List (List Str)}, (∀ s ∈ ss, s.length ≤ 10) → (termsOf ss).length ≤ ss.length * 10
  | [], _ => Nat.zero_le _
  | s :: r, h => by
    unfold termsOf
    rw [List.flatMap_cons, List.length_append, List.length_cons]
    have h1 := h s List.mem_cons_self
    have h3 := terms_len (ss := r) fun u hu => h u (List.mem_cons_of_mem _ hu)
    unfold termsOf at h3
    rw [List.length_tail]
    omega
/-- check(schema, head, parts, among), all of it good -/
structure AskGood (rows : List Rw) (hd : List Str) (ss : List (List Str)) (ks : List Str) : Prop where
  n1 : 1 ≤ ss.length
  n10 : ss.length ≤ 10
  parts : ∀ s ∈ ss, PartGood rows s
  hl : hd.length ≤ 100
  kl : ks.length < 64
  hd : ∀ z ∈ hd, isVar z = true → z ∈ termsOf ss
  ks : ∀ z ∈ ks, isVar z = true → z ∈ termsOf ss
def spCheckOk (K : PySem.W.Frag) (CT CS : Addr) : Sp := fun vs H Q _ => ∃ (S hA pA mA : Addr) (hd : List Str) (xs : List V) (ss : List (List Str)) (ks : List Str) (kvs : List (Key × V)) (rows : List Rw) (l : List Tb), vs = [.ref S, .ref hA, .ref pA, .ref mA] ∧ SchOf K CT CS H S rows l ∧ SqT K H hA (hd.map V.str) ∧ SqT K H pA xs ∧ PartsV K H xs ss ∧
  H mA = some (.dK kvs) ∧ kvs.map (·.1) = ks.map Sum.inr ∧ AskGood rows hd ss ks ∧ ∀ H' : Hp, Same H H' → Q .non H'
end Sw
namespace Sw
open PySem PySem.Spec PyProof.Rows L2
def quesF (S h p l : Addr) (d : Bool) : List (Str × V) := [("schema", .ref S), ("head", .ref h), ("parts", .ref p), ("among", .ref l), ("duplicates", .bl d)]
/-- at x: a question of the schema at S -/
structure QuesAt (K : PySem.W.Frag) (CQ : Addr) (H : Hp) (x S : Addr) (hd : List Str) (ss : List (List Str)) (ts : List Ent) (dup : Bool) (hA pA lA : Addr) (xs : List V) : Prop where
  ex : ∃ dx, H x = some (.ins CQ dx (quesF S hA pA lA dup))
  hd : SqT K H hA (hd.map V.str)
  ps : SqT K H pA xs
  pv : PartsV K H xs ss
  ts : TDict H lA ts
theorem QuesAt.same {K : PySem.W.Frag} {CQ x S hA pA lA : Addr} {H H' : Hp} {hd : List Str} {ss : List (List Str)} {ts : List Ent} {dup : Bool} {xs : List V} (h : QuesAt K CQ H x S hd ss ts dup hA pA lA xs) (s : Same H H') : QuesAt K CQ H' x S hd ss ts dup hA pA lA xs :=
  ⟨let ⟨dx, e⟩ := h.ex; ⟨dx, s _ _ e⟩, same_seqT s h.hd, same_seqT s h.ps, h.pv.same s, h.ts.same s⟩
/-- what the class Question is -/
structure QuesC (K : PySem.W.Frag) (CQ : Addr) : Prop where
  cl : Cls K CQ
  n1 : NoAttr K CQ "schema"
  n2 : NoAttr K CQ "head"
  n3 : NoAttr K CQ "parts"
  n4 : NoAttr K CQ "among"
  n5 : NoAttr K CQ "duplicates"
/-- a question's __init__, its values in the order self, schema, head, among, duplicates, parts -/
def spQuesB (K : PySem.W.Frag) (CT CS CQ : Addr) : Sp := fun vs H Q _ => ∃ (x dx S hA pA : Addr) (hd : List Str) (lv : V) (dup : Bool) (xs : List V) (ss : List (List Str)) (ks : List Str) (es : List Ent) (rows : List Rw) (l : List Tb), vs = [.ref x, .ref S, .ref hA, lv, .bl dup, .ref pA] ∧
  H x = some (.ins CQ dx []) ∧ SchOf K CT CS H S rows l ∧ SqT K H hA (hd.map V.str) ∧ SqT K H pA xs ∧ PartsV K H xs ss ∧ ((lv = .non ∧ es = []) ∨ ∃ a, lv = .ref a ∧ LDict K H a es) ∧ es.map (·.1) = ks.map Sum.inr ∧ AskGood rows hd ss ks ∧
  ∀ (H' : Hp) (lA : Addr) (ts : List Ent), SBut x H H' → H lA = none → QuesAt K CQ H' x S hd ss ts dup hA pA lA xs → Alike es ts → Q .non H'
theorem TDict.but {H H' : Hp} {x C dx lA : Addr} {fs : List (Str × V)} {ts : List Ent} (h : TDict H lA ts) (e : SBut x H H') (hx : H x = some (.ins C dx fs)) : TDict H' lA ts :=
  ⟨e _ _ (ne_of h.at_ hx (fun z => nomatch z)) h.at_, fun r hr => ⟨e _ _ (ne_of (h.all r hr).1 hx (fun z => nomatch z)) (h.all r hr).1, (h.all r hr).2⟩⟩
theorem PartsV.but {K : PySem.W.Frag} {H H' : Hp} {x C dx : Addr} {fs : List (Str × V)} {xs : List V} {ss : List (List Str)} (h : PartsV K H xs ss) (e : SBut x H H') (hx : H x = some (.ins C dx fs)) : PartsV K H' xs ss :=
  ⟨h.len, fun i v q => let ⟨s1, h1, b, h2, h3⟩ := h.all i v q; ⟨s1, h1, b, h2, sqT_ins h3 e hx⟩⟩
end Sw
namespace Sw
open PySem PySem.Spec PyProof.Rows L2
theorem vars_terms {ss : List (List Str)} {z : Str} (h : z ∈ allVars ss) : z ∈ termsOf ss := by
  obtain ⟨s, hs, hz⟩ := List.mem_flatMap.mp h
  exact List.mem_flatMap.mpr ⟨s, hs, (List.mem_filter.mp hz).1⟩
/-- the variables that a drawn question limits -/
def keysOf (es : List Ent) : List Str := es.filterMap fun e => match e.1 with | .inr v => some v | .inl _ => none
theorem keysOf_eq : ∀ {es : List Ent}, (∀ e ∈ es, ∃ v, e.1 = Sum.inr v) → es.map (·.1) = (keysOf es).map Sum.inr
  | [], _ => rfl
  | e :: r, h => by
    obtain ⟨v, hv⟩ := h e List.mem_cons_self
    have ih := keysOf_eq (es := r) fun x hx => h x (List.mem_cons_of_mem _ hx)
    have e1 : keysOf (e :: r) = v :: keysOf r := by
      unfold keysOf
      rw [List.filterMap_cons]
      simp only [hv]
    rw [e1, List.map_cons, List.map_cons, ih, hv]
/-- a drawn question is good -/
theorem BeginAt.good {K : PySem.W.Frag} {H : Hp} {R : Addr} {many : Nat} {xs : List V} {rows : List Rw} {vals tms : List Str} {k : Ask} (b : BeginAt K H R many xs rows vals tms k) (hm : many ≤ 6) : AskGood rows k.hd k.ss (keysOf k.es) ∧ k.es.map (·.1) = (keysOf k.es).map Sum.inr := by
  obtain ⟨T, Va, Tm, A, h1, h2, h3, h4, t, sh, li, ys, a1, a2, a3, a4⟩ := b.ex
  have eq := keysOf_eq (es := k.es) fun e he => let ⟨v, hv, _⟩ := (a4.all e he).2.2.2.2; ⟨v, hv⟩
  have vwd := b.vwd
  have pg : ∀ s ∈ k.ss, PartGood rows s := fun s hs => by
    obtain ⟨r, hr, g1, g2, g3⟩ := b.ask.part s hs
    have own := b.ok.own r hr
    have w := own.wd
    have es2 : ∀ z ∈ s.tail, (∃ y, z = ("?" : Str) ++ y ∧ Wd sgn y) ∨ Wd sgn z := fun z hz => by
      rcases g3 z hz with h | ⟨e, he, h⟩
      · rcases List.mem_append.mp h with h | h
        · exact .inl (b.twd z h)
        · exact .inr (vwd z (List.mem_of_mem_take h))
      · exact .inr (vwd z ((own.es e he).2.2.2.2 z h))
    obtain ⟨c, d, rfl⟩ : ∃ c d, s = c :: d := by
      cases s with
      | nil => cases g1
      | cons c d => exact ⟨c, d, rfl⟩
    obtain rfl : c = r.nm := Option.some.inj g1
    have g2' : (d.length : Int) = r.wd := g2
    refine ⟨⟨r, hr, g1, g2⟩, fun z hz => ?_, fun z hz => ?_, by rw [List.length_cons]; omega, by rw [List.length_cons]; omega⟩
    · rcases List.mem_cons.mp hz with h | h
      · rw [h]
        exact (b.nms r hr).1
      · rcases es2 z h with ⟨y, rfl, hy⟩ | hy
        · rw [len_tl, q_tl, List.length_cons]
          have := hy.2.1
          omega
        · rw [len_tl]
          have := hy.2.1
          omega
    · rcases es2 z hz with ⟨y, rfl, hy⟩ | hy
      · exact q_term hy
      · exact wd_term hy
  have kt : ∀ z ∈ keysOf k.es, z ∈ termsOf k.ss := fun z hz => by
    have hm : (Sum.inr z : Key) ∈ k.es.map (·.1) := by rw [eq]; exact List.mem_map.mpr ⟨z, hz, rfl⟩
    obtain ⟨e, he, e1⟩ := List.mem_map.mp hm
    obtain ⟨v, hv1, hv2⟩ := (a4.all e he).2.2.2.2
    rw [hv1] at e1
    obtain rfl := Sum.inr.inj e1
    exact vars_terms hv2
  have knd : (keysOf k.es).Nodup := by
    have := a4.nd
    rw [eq] at this
    exact List.Pairwise.of_map _ (fun _ _ h e => h (congrArg _ e)) this
  have kl : (keysOf k.es).length < 64 := by
    have h1 := nodup_le knd kt
    have h2 := terms_len (ss := k.ss) fun s hs => (pg s hs).len
    have := b.ask.nm
    omega
  refine ⟨⟨b.ask.n1, Nat.le_trans b.ask.nm (by omega), pg, Nat.le_trans b.ask.hl (by decide), kl, fun z hz hv => ?_, fun z hz _ => kt z hz⟩, eq⟩
  rcases b.ask.hd z hz with h | h
  · exact vars_terms h
  · rw [wd_var (vwd z h)] at hv
    cases hv
theorem AskGood.bare {rows : List Rw} {hd : List Str} {ss : List (List Str)} {ks : List Str} (h : AskGood rows hd ss ks) : AskGood rows hd ss [] := ⟨h.n1, h.n10, h.parts, h.hl, by show 0 < 64; decide, h.hd, fun z hz => (nomatch hz)⟩
/-- what a call makes a question of -/
structure AskIn (K : PySem.W.Frag) (CT CS : Addr) (H : Hp) (S hA : Addr) (hd : List Str) (xs : List V) (ss : List (List Str)) (ks : List Str) (rows : List Rw) (l : List Tb) : Prop where
  sch : SchOf K CT CS H S rows l
  hh : SqT K H hA (hd.map V.str)
  pv : PartsV K H xs ss
  good : AskGood rows hd ss ks
theorem AskIn.same {K : PySem.W.Frag} {CT CS S hA : Addr} {H H' : Hp} {hd : List Str} {xs : List V} {ss : List (List Str)} {ks : List Str} {rows : List Rw} {l : List Tb} (h : AskIn K CT CS H S hA hd xs ss ks rows l) (s : Same H H') : AskIn K CT CS H' S hA hd xs ss ks rows l :=
  ⟨h.sch.same s, same_seqT s h.hh, h.pv.same s, h.good⟩
/-- _law_query(schema, ask) -/
def spQuery (K : PySem.W.Frag) (CT CS CQ : Addr) : Sp := fun vs H Q _ => ∃ (S a hA sh li : Addr) (dup : Bool) (hd : List Str) (xs : List V) (ss : List (List Str)) (ks : List Str) (es : List Ent) (rows : List Rw) (l : List Tb), vs = [.ref S, .ref a] ∧ SqL K H a [.ref hA, .ref sh, .ref li, .bl dup] ∧ SqL K H sh xs ∧ xs.length ≤ 3 ∧ AskIn K CT CS H S hA hd xs ss ks rows l ∧
  LDict K H li es ∧ es.map (·.1) = ks.map Sum.inr ∧ ∀ (H' : Hp) (x lA pA : Addr) (ts : List Ent), Same H H' → H x = none → H lA = none → QuesAt K CQ H' x S hd ss ts dup hA pA lA xs → Alike es ts → Q (.ref x) H'
/-- _law_bare(schema, ask) -/
def spBare (K : PySem.W.Frag) (CT CS CQ : Addr) : Sp := fun vs H Q _ => ∃ (S a hA sh li : Addr) (dup : Bool) (hd : List Str) (xs : List V) (ss : List (List Str)) (ks : List Str) (rows : List Rw) (l : List Tb), vs = [.ref S, .ref a] ∧ SqL K H a [.ref hA, .ref sh, .ref li, .bl dup] ∧ SqL K H sh xs ∧ xs.length ≤ 3 ∧ AskIn K CT CS H S hA hd xs ss ks rows l ∧
  ∀ (H' : Hp) (x lA pA : Addr) (ts : List Ent), Same H H' → H x = none → H lA = none → QuesAt K CQ H' x S hd ss ts false hA pA lA xs → Alike [] ts → Q (.ref x) H'
end Sw
namespace Sw
open PySem PySem.Spec PyProof.Rows L2
/-- a tuple of tuples of short texts -/
theorem shapedParts {ss : List (List Str)} (h : ∀ s ∈ ss, ∀ z ∈ s, SOk z) : SeqAt.shaped (.tuple (shD ss)) = true ∧ PySem.PyData.eqv (.tuple (shD ss)) (.tuple (shD ss)) = true := by
  obtain ⟨h1, h2⟩ := canShapes h
  have e1 : PySem.PyData.canLay0 (.tuple (shD ss)) = true := h1
  refine ⟨?_, PySem.SeqAt.eqv_refl _ e1⟩
  unfold SeqAt.shaped
  have e2 : PySem.PyData.depth (.tuple (shD ss)) = PySem.PyData.depthAll (shD ss) + 1 := rfl
  rw [e1, e2, decide_eq_true (by omega)]
  rfl
theorem ShapesAt.pv {K : PySem.W.Frag} {H : Hp} {a : Addr} {xs : List V} {ss : List (List Str)} (h : ShapesAt K H a xs ss) : PartsV K H xs ss :=
  ⟨h.len, fun i v e => let ⟨s, h1, h2, _⟩ := h.all i v e; ⟨s, h1, h2⟩⟩
theorem PartsV.dp {K : PySem.W.Frag} {H : Hp} : ∀ {xs : List V} {ss : List (List Str)}, PartsV K H xs ss → DpAll K H xs (shD ss)
  | [], [], _ => .nil
  | [], _ :: _, h => nomatch h.len
  | _ :: _, [], h => nomatch h.len
  | x :: xs, s :: ss, h => by
    obtain ⟨s', h1, q, rfl, h2⟩ := h.all 0 x rfl
    obtain rfl : s = s' := Option.some.inj h1
    exact .cons (.tup h2 (dpStrs s)) (PartsV.dp ⟨Nat.succ.inj h.len, fun i v hv => h.all (i + 1) v hv⟩)
theorem ShapesAt.ok {K : PySem.W.Frag} {H : Hp} {a : Addr} {xs : List V} {ss : List (List Str)} (h : ShapesAt K H a xs ss) : ∀ s ∈ ss, ∀ z ∈ s, SOk z := fun s hs => by
  obtain ⟨i, hi⟩ := List.mem_iff_getElem?.mp hs
  have hx := List.getElem?_eq_getElem (show i < xs.length by rw [h.len]; exact (List.getElem?_eq_some_iff.mp hi).1)
  obtain ⟨s', h1, _, _, _, h2⟩ := h.all i _ hx
  rw [hi] at h1
  obtain rfl := Option.some.inj h1
  exact h2
/-- the given values: the drawn ones in reverse order, with the first once more if there is room for it -/
def again (ws : List Str) : List Str := ws.reverse ++ ws.take (if ws.length = 1 ∨ ws.length = 2 then 1 else 0)
theorem again_mem (ws : List Str) (z : Str) : z ∈ again ws ↔ z ∈ ws := by
  unfold again
  rw [List.mem_append, List.mem_reverse]
  exact ⟨fun h => h.elim id List.mem_of_mem_take, .inl⟩
theorem again_len {ws : List Str} (h : ws.length ≤ 3) : (again ws).length ≤ 3 := by
  unfold again
  rw [List.length_append, List.length_reverse, List.length_take]
  split
  · omega
  · omega
theorem in12 (n : Nat) : inV (.int (n : Int)) [V.int 1, V.int 2] = decide (n = 1 ∨ n = 2) := by
  have h := inV_int (n : Int) [1, 2]
  have e : ([1, 2] : List Int).map V.int = [V.int 1, V.int 2] := rfl
  rw [e] at h
  rw [h]
  by_cases c : n = 1 ∨ n = 2
  · rw [decide_eq_true c]
    refine decide_eq_true ?_
    rcases c with rfl | rfl
    · exact List.mem_cons_self
    · exact List.mem_cons_of_mem _ List.mem_cons_self
  · rw [decide_eq_false c]
    refine decide_eq_false fun m => c ?_
    rcases List.mem_cons.mp m with m | m
    · exact .inl (by omega)
    · exact .inr (by have := List.mem_singleton.mp m; omega)
theorem again_val (ws : List Str) : (ws.map V.str).reverse ++ cutV (ws.map V.str) none (some (if (if false = true then !inV (.int ((ws.map V.str).length : Int)) [V.int 1, V.int 2] else inV (.int ((ws.map V.str).length : Int)) [V.int 1, V.int 2]) = true then 1 else 0)) = (again ws).map V.str := by
  rw [List.length_map]
  have e : (if false = true then !inV (.int (ws.length : Int)) [V.int 1, V.int 2] else inV (.int (ws.length : Int)) [V.int 1, V.int 2]) = decide (ws.length = 1 ∨ ws.length = 2) := by
    rw [← in12]
    rfl
  rw [e]
  unfold again
  rw [List.map_append, List.map_reverse]
  by_cases c : ws.length = 1 ∨ ws.length = 2
  · rw [decide_eq_true c, if_pos rfl, if_pos c, List.map_take]
    exact congrArg _ (cut_upto _ 1)
  · rw [decide_eq_false c, if_neg (by decide), if_neg c, List.map_take]
    exact congrArg _ (cut_upto _ 0)
theorem cutV_take (xs : List V) (k : Int) (n : Nat) (h : k = (n : Int)) : cutV xs none (some k) = xs.take n := by rw [h, cut_upto]
end Sw
namespace Sw
open PySem PySem.Spec PyProof.Rows L2
def promF (p q l : Addr) : List (Str × V) := [("part", .ref p), ("partners", .ref q), ("among", .ref l)]
/-- at x: a promise -/
structure PromAt (K : PySem.W.Frag) (CP : Addr) (H : Hp) (x p qA lA : Addr) (s : List Str) (xs : List V) (ss : List (List Str)) (ts : List Ent) : Prop where
  ex : ∃ dx, H x = some (.ins CP dx (promF p qA lA))
  hp : SqT K H p (s.map V.str)
  hq : SqT K H qA xs
  pv : PartsV K H xs ss
  ts : TDict H lA ts
theorem PromAt.same {K : PySem.W.Frag} {CP x p qA lA : Addr} {H H' : Hp} {s : List Str} {xs : List V} {ss : List (List Str)} {ts : List Ent} (h : PromAt K CP H x p qA lA s xs ss ts) (e : Same H H') : PromAt K CP H' x p qA lA s xs ss ts :=
  ⟨let ⟨dx, g⟩ := h.ex; ⟨dx, e _ _ g⟩, same_seqT e h.hp, same_seqT e h.hq, h.pv.same e, h.ts.same e⟩
/-- what the class Promise is -/
structure PromC (K : PySem.W.Frag) (CP : Addr) : Prop where
  cl : Cls K CP
  n1 : NoAttr K CP "part"
  n2 : NoAttr K CP "partners"
  n3 : NoAttr K CP "among"
theorem PartsV.cons {K : PySem.W.Frag} {H : Hp} {p : Addr} {s : List Str} {xs : List V} {ss : List (List Str)} (hp : SqT K H p (s.map V.str)) (h : PartsV K H xs ss) : PartsV K H (.ref p :: xs) (s :: ss) :=
  ⟨by rw [List.length_cons, List.length_cons, h.len], fun i v e => match i, e with
    | 0, e => ⟨s, rfl, p, (Option.some.inj e).symm, hp⟩
    | i + 1, e => h.all i v e⟩
/-- a promise's __init__, its values in the order self, schema, part, among, partners -/
def spPromB (K : PySem.W.Frag) (CT CS CP : Addr) : Sp := fun vs H Q _ => ∃ (x dx S p qA : Addr) (s : List Str) (lv : V) (xs : List V) (ss : List (List Str)) (ks : List Str) (es : List Ent) (rows : List Rw) (l : List Tb), vs = [.ref x, .ref S, .ref p, lv, .ref qA] ∧
  H x = some (.ins CP dx []) ∧ SchOf K CT CS H S rows l ∧ SqT K H p (s.map V.str) ∧ SqT K H qA xs ∧ PartsV K H xs ss ∧ ((lv = .non ∧ es = []) ∨ ∃ a, lv = .ref a ∧ LDict K H a es) ∧ es.map (·.1) = ks.map Sum.inr ∧ AskGood rows [] (s :: ss) ks ∧
  ∀ (H' : Hp) (lA : Addr) (ts : List Ent), SBut x H H' → H lA = none → PromAt K CP H' x p qA lA s xs ss ts → Alike es ts → Q .non H'
/-- what a call makes a promise of -/
structure VowIn (K : PySem.W.Frag) (CT CS : Addr) (H : Hp) (S p : Addr) (s : List Str) (xs : List V) (ss : List (List Str)) (ks : List Str) (rows : List Rw) (l : List Tb) : Prop where
  sch : SchOf K CT CS H S rows l
  hp : SqT K H p (s.map V.str)
  pv : PartsV K H xs ss
  good : AskGood rows [] (s :: ss) ks
theorem VowIn.same {K : PySem.W.Frag} {CT CS S p : Addr} {H H' : Hp} {s : List Str} {xs : List V} {ss : List (List Str)} {ks : List Str} {rows : List Rw} {l : List Tb} (h : VowIn K CT CS H S p s xs ss ks rows l) (e : Same H H') : VowIn K CT CS H' S p s xs ss ks rows l :=
  ⟨h.sch.same e, same_seqT e h.hp, h.pv.same e, h.good⟩
/-- _law_vow(schema, pledge) -/
def spVow (K : PySem.W.Frag) (CT CS CP : Addr) : Sp := fun vs H Q _ => ∃ (S a p sh li : Addr) (s : List Str) (xs : List V) (ss : List (List Str)) (ks : List Str) (es : List Ent) (rows : List Rw) (l : List Tb), vs = [.ref S, .ref a] ∧ SqL K H a [.ref p, .ref sh, .ref li] ∧ SqL K H sh xs ∧ xs.length ≤ 2 ∧ VowIn K CT CS H S p s xs ss ks rows l ∧
  LDict K H li es ∧ es.map (·.1) = ks.map Sum.inr ∧ ∀ (H' : Hp) (x lA qA : Addr) (ts : List Ent), Same H H' → H x = none → H lA = none → PromAt K CP H' x p qA lA s xs ss ts → Alike es ts → Q (.ref x) H'
theorem cutV_one (v : V) (r : List V) : cutV (v :: r) (some 1) none = r := by
  unfold cutV
  have h1 : HT.sIx (v :: r).length 0 (some 1) = 1 := by
    have := HT.sIx_nat (v :: r).length 0 1
    have q : min 1 (v :: r).length = 1 := by rw [List.length_cons]; omega
    rw [q] at this
    exact this
  rw [h1, HT.sIx_none]
  show r.take _ = r
  rw [List.take_of_length_le]
  rw [List.length_cons]
  omega
theorem PartsV.tail {K : PySem.W.Frag} {H : Hp} {x : V} {s : List Str} {xs : List V} {ss : List (List Str)} (h : PartsV K H (x :: xs) (s :: ss)) : PartsV K H xs ss :=
  ⟨Nat.succ.inj h.len, fun i v e => h.all (i + 1) v e⟩
theorem AskGood.vow {rows : List Rw} {hd : List Str} {ss : List (List Str)} {ks : List Str} (h : AskGood rows hd ss ks) : AskGood rows [] ss ks := ⟨h.n1, h.n10, h.parts, by show 0 ≤ 100; decide, h.kl, fun z hz => (nomatch hz), h.ks⟩
end Sw
namespace Sw
open PySem PySem.Spec PyProof.Rows L2 NdefX
/-- the value is a tuple of short texts -/
def PTup (K : PySem.W.Frag) (v : V) (H : Hp) : Prop := ∃ (q : Addr) (l : List Str), v = .ref q ∧ SqT K H q (l.map V.str) ∧ (∀ z ∈ l, z.length ≤ 1000 ∧ PySem.PyData.strOk z = true) ∧ l.length ≤ 50
theorem fmt_le : ∀ {l : List Str}, (∀ z ∈ l, z.length ≤ 1000) → PySem.fmtCost l ≤ l.length * 10004
  | [], _ => Nat.le_refl _
  | y :: r, h => by
    rw [PySem.fmtCost_cons, List.length_cons, Nat.succ_mul]
    have h1 := h y List.mem_cons_self
    have h2 := fmt_le (l := r) fun z hz => h z (List.mem_cons_of_mem _ hz)
    omega
end Sw
namespace Sw
open PySem PySem.Spec PyProof.Rows L2
/-- what is due to a question -/
inductive Due where
  | table (nm : Str)
  | part (s : List Str)
  | unb (v : Str)
/-- the error that a part is due -/
def partFault (rows : List Rw) : List Str → Option Due
  | [] => some (.part [])
  | nm :: r => match rows.find? fun x => decide (x.nm = nm) with
    | none => some (.table nm)
    | some x => if (r.length : Int) = x.wd ∧ r.all isTermS = true then none else some (.part (nm :: r))
theorem fault_none {rows : List Rw} {nm : Str} {r : List Str} (h : rows.find? (fun x => decide (x.nm = nm)) = none) : partFault rows (nm :: r) = some (.table nm) := by
  show (match rows.find? (fun x => decide (x.nm = nm)) with | none => some (Due.table nm) | some x => if (r.length : Int) = x.wd ∧ r.all isTermS = true then none else some (.part (nm :: r))) = _
  rw [h]
theorem fault_some {rows : List Rw} {nm : Str} {r : List Str} {x : Rw} (h : rows.find? (fun x => decide (x.nm = nm)) = some x) : partFault rows (nm :: r) = if (r.length : Int) = x.wd ∧ r.all isTermS = true then none else some (.part (nm :: r)) := by
  show (match rows.find? (fun x => decide (x.nm = nm)) with | none => some (Due.table nm) | some x => if (r.length : Int) = x.wd ∧ r.all isTermS = true then none else some (.part (nm :: r))) = _
  rw [h]
/-- an error is let out -/
def EOut (K : PySem.W.Frag) (DU DB DN : Addr) (E : XK) (H : Hp) : Due → Prop
  | .table nm => ∀ (H1 : Hp) (dd : Addr), Same H H1 → H1 dd = none → E (.ref DU) (some dd) (upd H1 dd (.xd [("name", .str nm)]))
  | .part s => ∀ (H1 : Hp) (dd q : Addr), Same H H1 → H1 dd = none → SqT K H1 q (s.map V.str) → E (.ref DB) (some dd) (upd H1 dd (.xd [("part", .ref q)]))
  | .unb v => ∀ (H1 : Hp) (dd : Addr), Same H H1 → H1 dd = none → E (.ref DN) (some dd) (upd H1 dd (.xd [("variable", .str v)]))
theorem EOut.same {K : PySem.W.Frag} {DU DB DN : Addr} {E : XK} {H H' : Hp} {o : Due} (h : EOut K DU DB DN E H o) (s : Same H H') : EOut K DU DB DN E H' o := by
  cases o with
  | table nm => exact fun H1 dd s' n => h H1 dd (s.trans s') n
  | part l => exact fun H1 dd q s' n hq => h H1 dd q (s.trans s') n hq
  | unb v => exact fun H1 dd s' n => h H1 dd (s.trans s') n
/-- a part of texts -/
structure PartRaw (s : List Str) : Prop where
  ne : 1 ≤ s.length
  len : s.length ≤ 20
  ok : ∀ z ∈ s, SOk z
/-- check_part(schema, part) -/
def spPartX (K : PySem.W.Frag) (CT CS DU DB DN : Addr) : Sp := fun vs H Q E => ∃ (S a : Addr) (s : List Str) (rows : List Rw) (l : List Tb), vs = [.ref S, .ref a] ∧ SchOf K CT CS H S rows l ∧ SqT K H a (s.map V.str) ∧ PartRaw s ∧ (∀ r ∈ rows, 1 ≤ r.wd) ∧
  (partFault rows s = none → ∀ H' : Hp, Same H H' → Q .non H') ∧ ∀ o, partFault rows s = some o → EOut K DU DB DN E H o
/-- the row of a name -/
theorem SchOf.find {K : PySem.W.Frag} {CT CS S : Addr} {H : Hp} {rows : List Rw} {l : List Tb} (h : SchOf K CT CS H S rows l) (nm : Str) : (∀ r, rows.find? (fun x => decide (x.nm = nm)) = some r → ∃ t, t ∈ l ∧ t.nm = nm ∧ TbOf K CT H t r ∧ valV (kvT l) (Sum.inr nm : Key) = some (.ref t.x)) ∧
    (rows.find? (fun x => decide (x.nm = nm)) = none → valV (kvT l) (Sum.inr nm : Key) = none) := by
  refine ⟨fun r e => ?_, fun e => valV_no fun hm => ?_⟩
  · have hr := List.mem_of_find?_eq_some e
    have hn0 := List.find?_some e
    have hn : r.nm = nm := of_decide_eq_true hn0
    obtain ⟨t, ht, h1, h2⟩ := h.get hr
    refine ⟨t, ht, h1.trans hn, h2, ?_⟩
    rw [← h1.trans hn]
    exact valV_tb h.sch.nd ht
  · obtain ⟨t, ht, rfl⟩ := List.mem_map.mp hm
    obtain ⟨i, hi⟩ := List.mem_iff_getElem?.mp ht
    obtain ⟨r, h1, h2⟩ := h.all i t hi
    have := List.find?_eq_none.mp e r (List.mem_of_getElem? h1)
    rw [h2.nm] at this
    exact this (decide_eq_true rfl)
theorem cut_one (s : List Str) (h : 1 ≤ s.length) : cutV (s.map V.str) (some 1) none = s.tail.map V.str := cut_tail s h
end Sw
namespace Sw
open PySem PySem.Spec PyProof.Rows L2
/-- the first variable that is in no part -/
def freeOf (ss : List (List Str)) (zs : List Str) : Option Str := zs.find? fun z => isVar z && !decide (z ∈ termsOf ss)
/-- what is due to a question or a promise -/
def dueOf (rows : List Rw) (hd : List Str) (ss : List (List Str)) (us : List Str) : Option Due :=
  if ss.isEmpty then some (.part []) else match ss.findSome? (partFault rows) with | some o => some o | none => (freeOf ss (hd ++ us)).map .unb
theorem findSome_first {α β : Type} {f : α → Option β} : ∀ {l : List α} {i : Nat} {x : α} {o : β}, (∀ y ∈ l.take i, f y = none) → l[i]? = some x → f x = some o → l.findSome? f = some o
  | [], _, _, _, _, h, _ => by cases h
  | y :: r, 0, x, o, _, h, e => by
    obtain rfl : y = x := Option.some.inj h
    rw [List.findSome?_cons, e]
  | y :: r, i + 1, x, o, hb, h, e => by
    rw [List.findSome?_cons, hb y List.mem_cons_self]
    exact findSome_first (l := r) (i := i) (fun z hz => hb z (List.mem_cons_of_mem _ hz)) h e
theorem due_part {rows : List Rw} {hd : List Str} {ss : List (List Str)} {us : List Str} {i : Nat} {s : List Str} {o : Due} (hb : ∀ y ∈ ss.take i, partFault rows y = none) (h : ss[i]? = some s) (e : partFault rows s = some o) : dueOf rows hd ss us = some o := by
  unfold dueOf
  cases ss with
  | nil => cases h
  | cons a b =>
    rw [findSome_first hb h e]
    rfl
theorem due_free {rows : List Rw} {hd : List Str} {ss : List (List Str)} {us : List Str} (n : 1 ≤ ss.length) (hb : ∀ y ∈ ss, partFault rows y = none) : dueOf rows hd ss us = (freeOf ss (hd ++ us)).map .unb := by
  unfold dueOf
  cases ss with
  | nil => exact absurd n (by decide)
  | cons a b =>
    rw [List.findSome?_eq_none_iff.mpr hb]
    rfl
/-- what a question or a promise is made of, good or not -/
structure AskRaw (rows : List Rw) (hd : List Str) (ss : List (List Str)) (ks : List Str) : Prop where
  n10 : ss.length ≤ 10
  parts : ∀ s ∈ ss, PartRaw s
  hl : hd.length ≤ 100
  kl : ks.length < 64
  ho : ∀ z ∈ hd, SOk z
  ko : ∀ z ∈ ks, SOk z
  wd : ∀ r ∈ rows, 1 ≤ r.wd
/-- check(schema, head, parts, among) -/
def spCheckX (K : PySem.W.Frag) (CT CS DU DB DN : Addr) : Sp := fun vs H Q E => ∃ (S hA pA mA : Addr) (hd : List Str) (xs : List V) (ss : List (List Str)) (ks : List Str) (kvs : List (Key × V)) (rows : List Rw) (l : List Tb), vs = [.ref S, .ref hA, .ref pA, .ref mA] ∧ SchOf K CT CS H S rows l ∧ SqT K H hA (hd.map V.str) ∧ SqT K H pA xs ∧ PartsV K H xs ss ∧
  H mA = some (.dK kvs) ∧ kvs.map (·.1) = ks.map Sum.inr ∧ AskRaw rows hd ss ks ∧ ∀ us : List Str, AscS us → (∀ z, z ∈ us ↔ z ∈ ks) → (dueOf rows hd ss us = none → ∀ H' : Hp, Same H H' → Q .non H') ∧ ∀ o, dueOf rows hd ss us = some o → EOut K DU DB DN E H o
/-- texts in ascending order, each once -/
theorem asc_exists (ks : List Str) : ∃ us : List Str, AscS us ∧ ∀ z, z ∈ us ↔ z ∈ ks := by
  induction ks with
  | nil => exact ⟨[], .nil, fun z => Iff.rfl⟩
  | cons k r ih =>
    obtain ⟨us, h1, h2⟩ := ih
    by_cases hk : k ∈ us
    · refine ⟨us, h1, fun z => ?_⟩
      rw [List.mem_cons, h2]
      constructor
      · exact .inr
      · rintro (rfl | h)
        · exact (h2 _).mp hk
        · exact h
    · have q := ins_asc (lt := SLt) SLt.irrefl (fun _ _ _ => SLt.trans) SLt.tri us k h1 hk
      refine ⟨_, q.1, fun z => ?_⟩
      rw [q.2, List.mem_cons, h2]
      exact Or.comm
end Sw
namespace Sw
open PySem PySem.Spec PyProof.Rows L2 NdefX
def topS (i : Nat) : Stmt := PySem.Challenge.pw_surelywhole_k08_promise_refuses.main.body.getD i (.Pass ⟨0, 0, 0, 0⟩)
end Sw
namespace Sw
open PySem PySem.Spec PyProof.Rows L2
abbrev sDeal : Stmt := topS 23
abbrev sTake : Stmt := topS 24
abbrev sSpell : Stmt := topS 25
abbrev nDeal : List Str := ["_law_script", "_law_k", "_law_cell", "_law_hand", "_law_rest", "_law_n", "_law_mixed"]
theorem scDeal : FnScope nDeal ["_law_script", "_law_k"] (defScope sDeal) := ⟨rfl, rfl, rfl, by decide +kernel, rfl, by decide +kernel, by decide +kernel⟩
theorem scTake : FnScope ["_law_hand", "_law_many"] ["_law_hand", "_law_many"] (defScope sTake) := ⟨rfl, rfl, rfl, by decide +kernel, rfl, by decide +kernel, by decide +kernel⟩
section
variable {P : Program} {w : World} {K : PySem.W.Frag} {mg : Str → Option Value} {base : Heap}
theorem ok_take {f : Addr} {fd : FuncData} (F : Fun K "_law_take" "_law_take" sTake f fd) (B : Blt mg) : FnOk P w K mg base CX0 1 f fd ["_law_hand", "_law_many"] spTake := by
  refine F.ok scTake (fun vs H Q E h => ?_) (fun cdv A outer s H vs Q E hr h => ?_)
  · obtain ⟨a, m, rfl, _⟩ := h
    rfl
  · obtain ⟨a, m, rfl, ⟨ns, hH, hl⟩, hm, q⟩ := h
    refine ⟨_, pss_cons (ps_asg (pe_op op_add (pe_ix ix_list (pv 0) pe_int (fun _ _ => rfl)) pe_int) (pg_sub (pv 0) pe_int set_list))
      (pss_one (ps_ret (pe_op op_mod (pe_callTy call_int1 (by rfl) B.int bInt (pa_cons (pe_ix ix_list (pv 0)
        (pe_op op_add pe_int (pe_op op_mod (pe_callTy call_int1 (by rfl) B.int bInt (pa_cons (pe_ix ix_list (pv 0) pe_int (fun _ _ => rfl)) pa_nil)) pe_int)) (fun _ _ => rfl)) pa_nil)) (pv 1)))), ?_⟩
    have h0 : (ns.map V.int)[0]? = some (V.int (ns[0]'(by omega))) := intV_get (by omega)
    refine ⟨_, rfl, a, _, _, _, rfl, rfl, SqL.of hH, atI_nat (j := 0) h0, _, _, rfl, rfl, ?_⟩
    refine ⟨_, rfl, a, _, _, 0, rfl, rfl, hH, by rw [List.length_map, hl]; rfl, ?_⟩
    have e1 : (ns.map V.int).set 0 (V.int (ns[0]'(by omega) + 1)) = (ns.set 0 (ns[0]'(by omega) + 1)).map V.int := by rw [List.map_set]
    rw [e1]
    generalize hns : ns.set 0 (ns[0]'(by omega) + 1) = ms
    have hl2 : ms.length = 61 := by rw [← hns, List.length_set, hl]
    have h02 : (ms.map V.int)[0]? = some (V.int (ms[0]'(by omega))) := intV_get (by omega)
    refine ⟨_, rfl, _, rfl, a, _, _, _, rfl, rfl, SqL.of upd_same, atI_nat (j := 0) h02, .inl ⟨_, rfl, ?_⟩⟩
    have hz : 0 ≤ (1 : Int) + ms[0]'(by omega) % 60 ∧ (1 : Int) + ms[0]'(by omega) % 60 < ms.length := by
      have h1 := Int.emod_nonneg (ms[0]'(by omega)) (show (60 : Int) ≠ 0 by decide)
      have h2 := Int.emod_lt_of_pos (ms[0]'(by omega)) (show (0 : Int) < 60 by decide)
      omega
    obtain ⟨c, hc⟩ := atI_int hz.1 hz.2
    refine ⟨_, _, rfl, rfl, (by show (0 : Int) < 60; decide), _, _, rfl, rfl, a, _, _, _, rfl, rfl, SqL.of upd_same, hc, .inl ⟨_, rfl, ?_⟩⟩
    refine ⟨_, rfl, _, _, rfl, rfl, hm, ?_⟩
    exact q _ _ (Int.emod_nonneg _ (by omega)) (Int.emod_lt_of_pos _ hm) ⟨ms, upd_same, hl2⟩ (but_upd (but_refl a H))
theorem ok_deal {f : Addr} {fd : FuncData} (F : Fun K "_law_deal" "_law_deal" sDeal f fd) (B : Blt mg) : FnOk P w K mg base CX0 1 f fd ["_law_script", "_law_k"] (spDeal K) := by
  refine F.ok scDeal (fun vs H Q E h => ?_) (fun cdv A outer s H vs Q E hr h => ?_)
  · obtain ⟨a, ns, k, rfl, _⟩ := h
    rfl
  · obtain ⟨a, ns, k, rfl, hS, hlen, hk, q⟩ := h
    refine ⟨_, pss_cons (ps_set (i := 2) scDeal.nd rfl (.inl rfl) (pe_ix ix_list (pe_op op_joinL (pv 0) (pe_lst (pa_cons pe_int (pa_cons pe_int (pa_cons pe_int (pa_cons pe_int (pa_cons pe_int (pa_cons pe_int (pa_cons pe_int pa_nil))))))))) (pv 1) (fun _ _ => rfl)))
      (pss_cons (ps_set (i := 3) scDeal.nd rfl (.inl rfl) (pe_lst (pa_cons pe_int pa_nil)))
      (pss_cons (ps_set (i := 4) scDeal.nd rfl (.inl rfl) (pe_op op_mul (pv 2) (pe_callTy call_int1 (by rfl) B.int bInt (pa_cons (pe_cmpR op_ge (pv 2) (pe_op op_pow pe_int pe_int) (nomark _)) pa_nil))))
      (pss_cons (ps_for PassesOwn.never rfl (pi_range1 rfl B.range (pa_cons pe_int pa_nil)) (pg_name (i := 5) scDeal.nd rfl (.inl rfl))
        (pss_cons (ps_set (i := 6) scDeal.nd rfl (.inl rfl) (pe_op op_mod (pe_callTy call_int1 (by rfl) B.int bInt (pa_cons (pe_op op_add (pe_op op_mul (pe_op op_add (pe_op op_add (pv 2) (pv 1)) (pv 5)) (pe_op op_add pe_int (pe_op op_mul pe_int (pv 5)))) (pe_op op_mul (pv 1) pe_int)) pa_nil)) pe_int))
        (pss_cons (ps_set (i := 6) scDeal.nd rfl (.inl rfl) (pe_op op_mod (pe_callTy call_int1 (by rfl) B.int bInt (pa_cons (pe_op op_mul (pv 6) (pe_op op_add (pe_op op_add (pe_op op_fdiv (pv 6) pe_int) pe_int) (pv 5))) pa_nil)) pe_int))
        (pss_cons (ps_expr (pe_bm PySem.F.plainAttrs_list PySem.F.slot_list_append PySem.F.type_list_append mt_append (pv 3) (pa_cons (pe_op op_mod (pe_callTy call_int1 (by rfl) B.int bInt (pa_cons (pe_ix ix_list (pe_lst (pa_cons (pe_op op_fdiv (pv 6) pe_int) (pa_cons (pv 4) pa_nil))) (pe_callTy call_int1 (by rfl) B.int bInt (pa_cons (pe_cmpR op_gt (pv 4) pe_int (nomark _)) pa_nil)) (fun _ _ => rfl)) pa_nil)) pe_int) pa_nil)))
        (pss_one (ps_set (i := 4) scDeal.nd rfl (.inl rfl) (pe_op op_fdiv (pv 4) pe_int)))))))
      (pss_one (ps_ret (pv 3)))))), ?_⟩
    -- the cell
    obtain ⟨c, hc⟩ := cell_at (ns := ns) hk
    refine ⟨_, rfl, (by show 7 ≤ sizeLine; decide), fun p0 n0 => ?_⟩
    have s0 : Same H (upd H p0 (.lst [V.int 0, V.int 0, V.int 0, V.int 0, V.int 0, V.int 0, V.int 0])) := same_new n0
    refine ⟨a, p0, _, _, rfl, rfl, s0.seq hS, SqL.of upd_same, ?_, fun p1 n1 => ?_⟩
    · rw [List.length_map]
      exact Nat.le_trans (Nat.add_le_add_right hlen _) (by show 63 + 7 ≤ sizeLine; decide)
    have s1 := s0.trans (same_new (o := .lst (ns.map V.int ++ [V.int 0, V.int 0, V.int 0, V.int 0, V.int 0, V.int 0, V.int 0])) n1)
    refine ⟨_, rfl, p1, _, _, _, rfl, rfl, SqL.of upd_same, atI_nat hc, ?_⟩
    -- hand = [0]
    generalize hH1 : upd (upd H p0 (.lst [V.int 0, V.int 0, V.int 0, V.int 0, V.int 0, V.int 0, V.int 0])) p1 (.lst (ns.map V.int ++ [V.int 0, V.int 0, V.int 0, V.int 0, V.int 0, V.int 0, V.int 0])) = H1 at s1 ⊢
    refine ⟨(by show 1 ≤ sizeLine; decide), fun p np => ?_⟩
    have hp0 : H p = none := s1.free np
    have s2 := s1.trans (same_new (o := .lst [V.int 0]) np)
    -- rest
    refine ⟨_, rfl, _, rfl, _, _, rfl, rfl, ⟨by decide, by decide, by decide⟩, _, _, rfl, rfl, .inr ⟨_, rfl, _, _, rfl, rfl, .inr ?_, ?_⟩⟩
    · split <;> exact ⟨by decide, by decide⟩
    -- the loop
    refine ⟨_, rfl, by decide, by decide, for_range (n := 60) (fun i σ H2 => ∃ (ms : List Int) (r : Int) (o5 o6 : Option V), σ = [some (.ref a), some (.int (k : Int)), some (.int c), some (.ref p), some (.int r), o5, o6] ∧ H2 p = some (.lst (ms.map V.int)) ∧ ms.length = i + 1 ∧ Same H H2)
      ⟨[0], _, none, none, rfl, upd_same, rfl, s2⟩ ?_ ?_⟩
    · rintro i σ H2 hi ⟨ms, r, o5, o6, rfl, hp, hl, s3⟩
      have hb : (-(2 ^ 64) < (48271 : Int) + 1361 * (0 + (i : Int)) ∧ (48271 : Int) + 1361 * (0 + (i : Int)) < 2 ^ 64) := by
        constructor <;> omega
      refine ⟨_, rfl, _, rfl, _, _, rfl, rfl, _, rfl, _, _, rfl, rfl, _, rfl, _, _, rfl, rfl, .inl ⟨by decide, by decide⟩, _, _, rfl, rfl, _, _, rfl, rfl, .inr hb, _, rfl, _, _, rfl, rfl, .inr ⟨by decide, by decide⟩, _, _, rfl, rfl, .inl ⟨_, rfl, _, _, rfl, rfl, (by show (0 : Int) < 2147483647; decide), ?_⟩⟩
      refine ⟨_, rfl, _, rfl, _, _, rfl, rfl, ⟨by decide, by decide⟩, _, _, rfl, rfl, _, rfl, _, _, rfl, rfl, _, _, rfl, rfl, .inl (mod_small _), .inl ⟨_, rfl, _, _, rfl, rfl, (by show (0 : Int) < 2147483399; decide), ?_⟩⟩
      -- hand.append(..)
      refine ⟨.ref p, rfl, .inl ⟨rfl, _, SqL.of hp⟩, _, rfl, _, _, rfl, rfl, ⟨by decide, by decide⟩, _, rfl, (by show 2 ≤ sizeLine; decide), fun t nt => ?_⟩
      have s4 : ∀ o, Same H2 (upd H2 t o) := fun o => same_new nt
      refine ⟨_, rfl, _, _, rfl, rfl, .inr ⟨_, rfl, t, _, _, _, rfl, rfl, SqL.of upd_same, pick2 _ _, .inl ⟨_, rfl, _, _, rfl, rfl, (by show (0 : Int) < 1000; decide), ?_⟩⟩⟩
      refine ⟨p, _, _, rfl, rfl, s4 _ _ _ hp, ?_, ?_⟩
      · rw [List.length_map, hl]
        exact Nat.lt_of_lt_of_le (show i + 1 < 70 by omega) (by show 70 ≤ sizeLine; decide)
      refine ⟨_, rfl, _, _, rfl, rfl, ⟨by decide, by decide⟩, ?_⟩
      exact ⟨ms ++ [_], _, _, _, rfl, by rw [upd_same, List.map_append]; rfl, by rw [List.length_append, hl]; rfl, same_mut (s3.trans (s4 _)) hp0⟩
    · rintro σ H2 ⟨ms, r, o5, o6, rfl, hp, hl, s3⟩
      exact ⟨_, rfl, q _ _ s3 hp0 ⟨ms, hp, hl⟩⟩
abbrev nSpell : List Str := ["_law_hand", "_law_many", "_law_signs", "_law_size", "_law_base", "_law_place", "_law_shift", "_law_tails", "_law_words", "_law_k", "_law_sign", "_law_n"]
theorem scSpell : FnScope nSpell ["_law_hand", "_law_many", "_law_signs"] (defScope sSpell) := ⟨rfl, rfl, rfl, by decide +kernel, rfl, by decide +kernel, by decide +kernel⟩
theorem ok_spell {f fT : Addr} {fd fdT : FuncData} (F : Fun K "_law_spell" "_law_spell" sSpell f fd) (B : Blt mg) (FT : Fun K "_law_take" "_law_take" sTake fT fdT) (bT : Binds K fdT ["_law_hand", "_law_many"] []) (mT : mg "_law_take" = some (.ref fT)) :
    FnOk P w K mg base CX0 2 f fd ["_law_hand", "_law_many", "_law_signs"] spSpell := by
  have GT : FnOk P w K mg base CX0 1 fT fdT ["_law_hand", "_law_many"] spTake := ok_take FT B
  refine F.ok scSpell (fun vs H Q E h => ?_) (fun cdv A outer s H vs Q E hr h => ?_)
  · obtain ⟨a, m, sg, rfl, _⟩ := h
    rfl
  · obtain ⟨a, m, sg, rfl, hH, h5, hm, nd, q⟩ := h
    refine ⟨_, pss_cons (ps_set (i := 3) scSpell.nd rfl (.inl rfl) (pe_call GT hr rfl mT FT.kp bT .nil pass0 (pa_cons (pv 0) (pa_cons pe_int pa_nil))))
      (pss_cons (ps_set (i := 4) scSpell.nd rfl (.inl rfl) (pe_join pe_str (pe_lc (own := [("_law_n", 11)]) (g := gName 11) (tt := tYes) rfl scSpell.nd (pi_range1 rfl B.range (pa_cons (pv 3) pa_nil)) (blkOk_by (N := nSpell) (sc := defScope sSpell) (by decide +kernel))
        (fun _ _ _ _ _ => pg_name (i := 11) scSpell.nd rfl (Or.inl rfl)) (fun _ _ _ _ _ => pts_nil)
        (fun _ _ _ _ _ => pe_ix ix_str (pv 2) (pe_call GT hr rfl mT FT.kp bT .nil pass0 (pa_cons (pv 0) (pa_cons (pe_callB call_len_str (by rfl) B.len PySem.boot_len (pa_cons (pv 2) pa_nil)) pa_nil))) (fun _ _ => rfl)))))
      (pss_cons (ps_set (i := 5) scSpell.nd rfl (.inl rfl) (pe_call GT hr rfl mT FT.kp bT .nil pass0 (pa_cons (pv 0) (pa_cons (pe_op op_add (pv 3) pe_int) pa_nil))))
      (pss_cons (ps_set (i := 6) scSpell.nd rfl (.inl rfl) (pe_call GT hr rfl mT FT.kp bT .nil pass0 (pa_cons (pv 0) (pa_cons pe_int pa_nil))))
      (pss_cons (ps_set (i := 7) scSpell.nd rfl (.inl rfl) (pe_lst (pa_cons (pe_slice sl_str (pv 4) (po_some (pv 5)) po_none) (pa_cons (pe_op op_str01 (pe_slice sl_str (pv 4) (po_some (pv 5)) po_none) (pe_call GT hr rfl mT FT.kp bT .nil pass0 (pa_cons (pv 0) (pa_cons pe_int pa_nil)))) pa_nil))))
      (pss_cons (ps_set (i := 8) scSpell.nd rfl (.inl rfl) (pe_lst pa_nil))
      (pss_cons (ps_for PassesOwn.never rfl (pi_range1 rfl B.range (pa_cons (pv 1) pa_nil)) (pg_name (i := 9) scSpell.nd rfl (.inl rfl))
        (pss_cons (ps_set (i := 10) scSpell.nd rfl (.inl rfl) (pe_ix ix_str (pv 2) (pe_op op_mod (pe_callTy call_int1 (by rfl) B.int bInt (pa_cons (pe_op op_add (pv 6) (pe_op op_mul pe_int (pv 9))) pa_nil)) (pe_callB call_len_str (by rfl) B.len PySem.boot_len (pa_cons (pv 2) pa_nil))) (fun _ _ => rfl)))
        (pss_one (ps_expr (pe_bm PySem.F.plainAttrs_list PySem.F.slot_list_append PySem.F.type_list_append mt_append (pv 8) (pa_cons (pe_op op_add_str (pe_op op_add_str (pe_slice sl_str (pv 4) po_none (po_some (pv 5))) (pv 10)) (pe_ix ix_list (pv 7) (pe_op op_mod (pv 9) pe_int) (fun _ _ => rfl))) pa_nil))))))
      (pss_one (ps_ret (pv 8))))))))), ?_⟩
    have lsg : sg.length = (TL.tl sg).length := len_tl sg
    have lsz : sg.length ≤ sizeLine := by rw [lsg]; exact Nat.le_trans (by omega) (show 36 ≤ sizeLine by decide)
    -- size
    refine ⟨_, rfl, a, 8, rfl, hH, by decide, fun size H1 z0 z8 hH1 b1 => ?_⟩
    obtain ⟨sz, rfl⟩ := Int.eq_ofNat_of_zero_le z0
    have s1 : SBut a H H1 := b1.sbut
    -- base
    refine ⟨⟨_, rfl⟩, _, rfl, _, rfl, by omega, by omega, fun D nD => ?_⟩
    obtain ⟨nD0, nDa⟩ := s1.free hH1 nD
    have hsz : ((sz : Nat) : Int).toNat = sz := Int.toNat_natCast sz
    refine lc_range (lo := 0) (fun i H2 => ∃ cs : List Nat, H2 D = some (.lst (cs.map fun c => V.str ⟨#[c]⟩)) ∧ cs.length = i ∧ (∀ c ∈ cs, c ∈ TL.tl sg) ∧ HandAt H2 a ∧ SBut a H H2)
      ⟨[], upd_same, rfl, fun _ h => (by cases h), hH1.upd nDa, s1.mut nD0⟩ ?_ ?_
    · rintro i H2 hi ⟨cs, hD, hl, hc, hH2, s2⟩
      refine ⟨rfl, _, rfl, _, rfl, _, rfl, _, rfl, (by rw [lsg]; exact Nat.le_trans (by omega) (show 36 ≤ sizeLine by decide)), a, (sg.length : Int), rfl, hH2, by omega, fun v H3 v0 v1 hH3 b3 => ?_⟩
      obtain ⟨c, e, hcs⟩ := sign_at (sg := sg) v0 (by rw [← lsg]; exact v1)
      refine ⟨_, _, c, rfl, rfl, (by rw [lsg]; exact Nat.le_trans (by omega) (show 36 ≤ sizeLine by decide)), e, ?_⟩
      refine ⟨_, by rw [b3 D nDa]; exact hD, ?_, cs ++ [c], ?_, ?_, ?_, ?_, ?_⟩
      · rw [List.length_map, hl]
        exact Nat.lt_of_lt_of_le (show i < 9 by omega) (by show 9 ≤ sizeLine; decide)
      · rw [upd_same, List.map_append]
        rfl
      · rw [List.length_append, hl]
        rfl
      · intro x hx
        rcases List.mem_append.mp hx with h | h
        · exact hc x h
        · rw [List.mem_singleton.mp h]
          exact hcs
      · exact hH3.upd nDa
      · exact (s2.trans b3.sbut).mut nD0
    rintro H2 ⟨cs, hD, hl, hc, hH2, s2⟩
    rw [hsz] at hl
    have lcs : (cs.map fun c => (⟨#[c]⟩ : Str)).map (·.length) = cs.map fun _ => 1 := by rw [List.map_map]; rfl
    refine ⟨Str.empty, D, cs.map fun c => (⟨#[c]⟩ : Str), rfl, rfl, .inl (SqL.of (by rw [hD, List.map_map]; rfl)), ?_, ?_⟩
    · rw [lcs, List.length_map]
      rw [sum_ones]
      show cs.length + cs.length * 0 ≤ 16777216
      omega
    have tb : TL.tl (baseOf cs) = cs := tl_base cs
    unfold baseOf at tb
    generalize Txt.join Str.empty (cs.map fun c => (⟨#[c]⟩ : Str)) = bs at tb ⊢
    -- place, shift
    refine ⟨_, rfl, _, rfl, _, _, rfl, rfl, a, _, rfl, hH2, by omega, fun pl H3 p0 p1 hH3 b3 => ?_⟩
    obtain ⟨pl, rfl⟩ := Int.eq_ofNat_of_zero_le p0
    refine ⟨_, rfl, a, 99, rfl, hH3, by decide, fun sh H4 h0 h1 hH4 b4 => ?_⟩
    obtain ⟨sh, rfl⟩ := Int.eq_ofNat_of_zero_le h0
    have s4 : SBut a H H4 := (s2.trans b3.sbut).trans b4.sbut
    have hpl : pl ≤ (TL.tl bs).length := by rw [tb]; omega
    have lb : bs.length ≤ sizeLine := by
      rw [len_tl, tb]
      exact Nat.le_trans (show cs.length ≤ 8 by omega) (by decide)
    -- tails
    refine ⟨_, rfl, _, rfl, _, rfl, _, rfl, lb, _, rfl, _, rfl, _, rfl, _, rfl, lb, _, rfl, a, 2, rfl, hH4, by decide, fun z H5 z0 z1 hH5 b5 => ?_⟩
    refine ⟨_, z, rfl, rfl, z0, z1, (by show 2 ≤ sizeLine; decide), fun T nT => ?_⟩
    have s5 := s4.trans b5.sbut
    obtain ⟨nT0, nTa⟩ := s5.free hH5 nT
    generalize ht0 : cutS bs (some (pl : Int)) none = t0
    generalize ht1 : (if z = 0 then Str.empty else t0) = t1
    have et0 : TL.tl t0 = (TL.tl bs).drop pl := by rw [← ht0]; exact tl_cut_from _ _ hpl
    have et1 : TL.tl t1 = [] ∨ TL.tl t1 = (TL.tl bs).drop pl := by
      rw [← ht1]
      split
      · exact .inl rfl
      · exact .inr et0
    have s6 : SBut a H (upd H5 T (.lst [V.str t0, V.str t1])) := s5.mut nT0
    have h6 : HandAt (upd H5 T (.lst [V.str t0, V.str t1])) a := hH5.upd nTa
    -- words
    refine ⟨Nat.zero_le _, fun W nW => ?_⟩
    obtain ⟨nW0, nWa⟩ := s6.free h6 nW
    have nTW : T ≠ W := ne_of_none upd_same nW
    have lt0 : (TL.tl t0).length ≤ 8 := by rw [et0, List.length_drop, tb]; omega
    have lt1 : (TL.tl t1).length ≤ 8 := by
      rcases et1 with e | e
      · rw [e]
        decide
      · rw [e, List.length_drop, tb]
        omega
    refine ⟨_, rfl, _, rfl, by omega, by omega, for_range (lo := 0) (fun i σ H7 => ∃ (o9 o10 : Option V), σ = [some (.ref a), some (.int (m : Int)), some (.str sg), some (.int (sz : Int)), some (.str bs), some (.int (pl : Int)), some (.int (sh : Int)), some (.ref T), some (.ref W), o9, o10, none] ∧
      H7 W = some (.lst (((List.range i).map (wordAt bs sg pl sh t0 t1)).map V.str)) ∧ H7 T = some (.lst [V.str t0, V.str t1]) ∧ HandAt H7 a ∧ SBut a H H7) ⟨none, none, rfl, upd_same, (by rw [upd_ne nTW]; exact upd_same), h6.upd nWa, s6.mut nW0⟩ ?_ ?_⟩
    · rintro i σ H7 hi ⟨o9, o10, rfl, hW, hT, hH7, s7⟩
      refine ⟨_, rfl, _, rfl, _, rfl, _, _, rfl, rfl, .inl ⟨by decide, by decide⟩, _, _, rfl, rfl, .inl ⟨_, rfl, _, rfl, _, rfl, lsz, _, _, rfl, rfl, (by show (0 : Int) < ((sg.length : Nat) : Int); omega), _, _, _, rfl, rfl, lsz, sign_ix (by omega), ?_⟩⟩
      have lw0 : (cutS bs none (some (pl : Int))).length ≤ 8 := by
        rw [len_tl, tl_cut_to _ _ hpl, List.length_take, tb]
        omega
      have lw1 : (cutS bs none (some (pl : Int)) ++ (⟨#[(TL.tl sg).getD ((sh + 5 * i) % (TL.tl sg).length) 0]⟩ : Str)).length ≤ 9 := by
        rw [len_tl, TL.tl_append, List.length_append, ← len_tl]
        exact Nat.add_le_add_right lw0 1
      have lt2 : (if i % 2 = 0 then t0 else t1).length ≤ 8 := by
        rw [len_tl]
        split
        · exact lt0
        · exact lt1
      refine ⟨.ref W, rfl, .inl ⟨rfl, _, SqL.of hW⟩, _, rfl, _, rfl, _, rfl, _, rfl, lb, _, rfl, _, _, rfl, rfl, ?_, _, rfl, _, rfl, _, _, rfl, rfl, (by show (0 : Int) < 2; decide), T, _, _, _, rfl, rfl, SqL.of hT, tail_ix, _, _, rfl, rfl, ?_, W, _, _, rfl, rfl, hW, ?_, ?_⟩
      · exact Nat.le_trans (Nat.add_le_add lw0 (Nat.le_refl 1)) (by decide)
      · exact Nat.le_trans (Nat.add_le_add lw1 lt2) (by decide)
      · rw [List.length_map, List.length_map, List.length_range]
        exact Nat.lt_of_lt_of_le (show i < 6 by omega) (by show 6 ≤ sizeLine; decide)
      refine ⟨_, _, rfl, ?_, (by rw [upd_ne nTW]; exact hT), hH7.upd nWa, s7.mut nW0⟩
      rw [upd_same, List.range_succ, List.map_append, List.map_append]
      rfl
    · rintro σ H7 ⟨o9, o10, rfl, hW, hT, hH7, s7⟩
      have em : ((m : Nat) : Int).toNat = m := Int.toNat_natCast m
      rw [em] at hW
      refine ⟨_, rfl, q H7 W _ hH7 s7 nW0 nWa hW (by rw [List.length_map, List.length_range]) (words_nodup hpl hm nd h5) ?_⟩
      intro w hw
      obtain ⟨j, _, rfl⟩ := List.mem_map.mp hw
      exact word_wd hpl (by rw [tb]; omega) (by rw [tb]; exact hc) (by omega) et0 et1
end
end Sw
namespace Sw
open PySem PySem.Spec PyProof.Rows L2 NdefX
abbrev sOnce : Stmt := topS 12
abbrev nOnce : List Str := ["things", "thing"]
theorem scOnce : FnScope nOnce ["things"] (defScope sOnce) := ⟨rfl, rfl, rfl, by decide +kernel, rfl, by decide +kernel, by decide +kernel⟩
section
variable {P : Program} {w : World} {K : PySem.W.Frag} {mg : Str → Option Value} {base : Heap}
theorem ok_once {f : Addr} {fd : FuncData} (F : Fun K "once" "once" sOnce f fd) (bl : mg "list" = none) : FnOk P w K mg base CX0 1 f fd ["things"] (spOnce K) := by
  refine F.ok scOnce (fun vs H Q E h => ?_) (fun cdv A outer s H vs Q E hr h => ?_)
  · obtain ⟨a, ws, rfl, _⟩ := h
    rfl
  · obtain ⟨a, ws, rfl, hW, h64, q⟩ := h
    refine ⟨_, pss_one (ps_ret (pe_callTy (call_listD rfl) (by rfl) bl bList (pa_cons (PE.or
        (pe_dc (own := [("thing", 1)]) (g := gName 1) (tt := tYes) rfl scOnce.nd (PI.or (pi_list (pv 0)) (pi_tup (pv 0))) (blkOk_by (N := nOnce) (sc := defScope sOnce) (by decide +kernel)) (fun _ _ _ _ _ => pg_name (i := 1) scOnce.nd rfl (Or.inl rfl)) (fun _ _ _ _ _ => pts_nil) (fun _ _ _ _ _ => pv 1) (fun _ _ _ _ _ => pe_bl))
        (pe_lock (pe_dc (own := [("thing", 1)]) (g := gName 1) (tt := tYes) rfl scOnce.nd (pi_keys (pv 0)) (blkOk_by (N := nOnce) (sc := defScope sOnce) (by decide +kernel)) (fun _ _ _ _ _ => pg_name (i := 1) scOnce.nd rfl (Or.inl rfl)) (fun _ _ _ _ _ => pts_nil) (fun _ _ _ _ _ => pv 1) (fun _ _ _ _ _ => pe_bl)))) pa_nil))), ?_⟩
    have h1000 : ws.length ≤ 1000 := by omega
    have injS : ∀ x y : Str, (Sum.inr x : Key) = Sum.inr y → x = y := fun _ _ e => Sum.inr.inj e
    have fin : ∀ (D : Addr) (us : List Str), H D = none → Once us ws → ∀ L, upd H D (.dK (onceK Sum.inr us)) L = none →
        Q (.ref L) (upd (upd H D (.dK (onceK Sum.inr us))) L (.lst ((onceK (Sum.inr : Str → Key) us).map fun kv => kV kv.1))) := by
      intro D us nD o L nL
      have e : ((onceK (Sum.inr : Str → Key) us).map fun kv => kV kv.1) = us.map V.str := by
        unfold onceK
        rw [List.map_map]
        rfl
      rw [e]
      have s1 := (same_new (o := .dK (onceK Sum.inr us)) nD).trans (same_new (o := .lst (us.map V.str)) nL)
      exact q _ L us s1 ((same_new nD).free nL) upd_same o
    rcases hW with (hL | hT) | ⟨kvs, hd, hk⟩
    · refine .inl (.inl ⟨_, rfl, a, rfl, ⟨_, hL⟩, fun D nD => dc_once (f := (Sum.inr : Str → Key)) injS (wk_list (val := V.str)) (by show 1 < 2; decide) (fun o => (same_new nD).seq hL) h1000 fun us o => ?_⟩)
      exact ⟨D, _, rfl, .inl upd_same, fun L nL => fin D us nD o L nL⟩
    · refine .inl (.inr ⟨_, rfl, a, rfl, ⟨_, hT⟩, fun D nD => dc_once (f := (Sum.inr : Str → Key)) injS (wk_tup (val := V.str)) (by show 1 < 2; decide) (fun o => same_seqT (same_new nD) hT) h1000 fun us o => ?_⟩)
      exact ⟨D, _, rfl, .inl upd_same, fun L nL => fin D us nD o L nL⟩
    · refine .inr ⟨a, _, hd, True.intro, fun od => ⟨_, rfl, a, od, rfl, .inl ⟨kvs, upd_same, fun D nD => dc_once (f := (Sum.inr : Str → Key)) injS (wk_keys hk) (by show 1 < 2; decide) (fun o => by rw [upd_ne (ne_of_none upd_same nD)]; exact upd_same) h1000 fun us o => ?_⟩⟩⟩
      refine ⟨by rw [upd_ne (ne_of_none upd_same nD)]; exact upd_same, ?_⟩
      have nD0 : H D = none := free_lock hd nD
      rw [unlock_new hd nD]
      exact ⟨D, _, rfl, .inl upd_same, fun L nL => fin D us nD0 o L nL⟩
end
end Sw
namespace Sw
open PySem PySem.Spec PyProof.Rows L2 NdefX
abbrev sAsc : Stmt := topS 13
abbrev nAsc : List Str := ["words", "word"]
theorem scAsc : FnScope nAsc ["words"] (defScope sAsc) := ⟨rfl, rfl, rfl, by decide +kernel, rfl, by decide +kernel, by decide +kernel⟩
section
variable {P : Program} {w : World} {K : PySem.W.Frag} {mg : Str → Option Value} {base : Heap}
theorem ok_asc {f fO : Addr} {fd fdO : FuncData} (F : Fun K "ascending" "ascending" sAsc f fd) (B : Blt2 mg) (GO : FnOk P w K mg base CX0 1 fO fdO ["things"] (spOnce K)) (mO : mg "once" = some (.ref fO)) (kO : PySem.W.keepIn K (.ref fO) = true) (bO : Binds K fdO ["things"] []) :
    FnOk P w K mg base CX0 2 f fd ["words"] (spAsc K) := by
  refine F.ok scAsc (fun vs H Q E h => ?_) (fun cdv A outer s H vs Q E hr h => ?_)
  · obtain ⟨a, ws, rfl, _⟩ := h
    rfl
  · obtain ⟨a, ws, rfl, hW, h64, q⟩ := h
    refine ⟨_, pss_one (ps_ret (pe_callTy call_tuple_of (by rfl) B.tuple bTuple (pa_cons (pe_callB cr_sortedS (by rfl) B.sorted bSorted (pa_cons
        (pe_lc (own := [("word", 1)]) (g := gName 1) (tt := tYes) rfl scAsc.nd (pi_list (pe_call GO hr rfl mO kO bO .nil pass0 (pa_cons (pv 0) pa_nil))) (blkOk_by (N := nAsc) (sc := defScope sAsc) (by decide +kernel)) (fun _ _ _ _ _ => pg_name (i := 1) scAsc.nd rfl (Or.inl rfl)) (fun _ _ _ _ _ => pts_nil)
          (fun _ _ _ _ _ => pe_callTy SkE.call_str_str (by rfl) B.str bStr (pa_cons (pv 1) pa_nil))) pa_nil)) pa_nil))), ?_⟩
    refine ⟨_, rfl, a, ws, rfl, hW, h64, fun H1 L0 us s1 nL0 hL0 o => ?_⟩
    have hus : us.length ≤ 63 := Nat.le_trans o.len (by omega)
    refine ⟨L0, rfl, ⟨_, SqL.of hL0⟩, fun L nL => ?_⟩
    refine lc_pure (val := V.str) (out := V.str) (l := us) wk_list (fun o => (same_new nL).seq (SqL.of hL0)) (by omega) (fun i u acc Q _ q => ⟨_, wipe_var (by show 1 < 2; decide) _, u, rfl, q⟩) ?_
    refine ⟨L, us, rfl, SqL.of upd_same, by omega, fun ys p pm so np => ?_⟩
    refine ⟨p, _, rfl, .inl ⟨SqL.of upd_same, fun T nT => ?_⟩⟩
    have nd : ys.Nodup := pm.nodup_iff.mpr o.nd
    have s2 := (s1.trans (same_new (o := .lst (us.map V.str)) nL)).trans (same_new (o := .lst (ys.map V.str)) np)
    exact q _ T ys (s2.trans (same_new nT)) (s2.free nT) upd_same (asc_of_sorted so nd) fun x => by rw [pm.mem_iff, o.mem]
end
end Sw
namespace Sw
open PySem PySem.Spec PyProof.Rows L2 NdefX
abbrev sWA : Stmt := topS 14
abbrev nWA : List Str := ["values", "at"]
theorem scWA : FnScope nWA ["values"] (defScope sWA) := ⟨rfl, rfl, rfl, by decide +kernel, rfl, by decide +kernel, by decide +kernel⟩
section
variable {P : Program} {w : World} {K : PySem.W.Frag} {mg : Str → Option Value} {base : Heap}
theorem ok_wa {f fA : Addr} {fd fdA : FuncData} (F : Fun K "with_ascending" "with_ascending" sWA f fd) (GA : FnOk P w K mg base CX0 2 fA fdA ["words"] (spAsc K)) (kA : PySem.W.keepIn K (.ref fA) = true) (bA : Binds K fdA ["words"] []) (mA : mg "ascending" = some (.ref fA)) :
    FnOk P w K mg base CX0 3 f fd ["values"] (spWA K) := by
  refine F.ok scWA (fun vs H Q E h => ?_) (fun cdv A outer s H vs Q E hr h => ?_)
  · obtain ⟨v, es, rfl, _⟩ := h
    rfl
  · obtain ⟨v, es, rfl, hv, q⟩ := h
    have hu := hu_of hr
    refine ⟨_, pss_cons (ps_if (pt_cmpR op_isN (pv 0) pe_non (nomark _)) (pss_one (ps_ret pe_dnewK)) pss_nil)
      (pss_one (ps_ret (pe_lock (pe_dc (own := [("at", 1)]) (g := gName 1) (tt := tYes) rfl scWA.nd (pi_keys (pv 0)) (blkOk_by (N := nWA) (sc := defScope sWA) (by decide +kernel)) (fun _ _ _ _ _ => pg_name (i := 1) scWA.nd rfl (Or.inl rfl)) (fun _ _ _ _ _ => pts_nil) (fun _ _ _ _ _ => pv 1)
        (fun _ _ _ _ _ => pe_call GA hr rfl mA kA bA .nil pass0 (pa_cons (pe_dget hu (pv 0) (pv 1) (fun _ _ => rfl)) pa_nil)))))), ?_⟩
    rcases hv with ⟨rfl, rfl⟩ | ⟨a, rfl, hd⟩
    · refine ⟨_, rfl, rfl, _, rfl, ?_⟩
      refine iteT (fun d nd => ?_)
      exact q _ d [] (same_new nd) nd ⟨upd_same, fun r hr => (nomatch hr)⟩ .nil
    · refine ⟨_, rfl, rfl, _, rfl, ?_⟩
      refine iteF ?_
      have ek : (es.map fun e : Ent => (e.1, V.ref e.2.1)).map (·.1) = es.map (·.1) := by rw [List.map_map]; rfl
      refine ⟨a, _, hd.at_, True.intro, fun od => ⟨_, rfl, a, od, rfl, .inl ⟨_, upd_same, fun D nD => ?_⟩⟩⟩
      have nD0 := free_lock hd.at_ nD
      have neD : a ≠ D := ne_of_none upd_same nD
      refine dc_it (wk_keys (l := es) (f := fun e => e.1) ek) (fun i Hc => ∃ rs : List Ent, Same (upd H a (.frz od (.dK (es.map fun e : Ent => (e.1, V.ref e.2.1))))) Hc ∧ Hc D = some (.dK (rs.map fun e : Ent => (e.1, V.ref e.2.1))) ∧ Alike (es.take i) rs ∧ ∀ r ∈ rs, Hc r.2.1 = some (.tup (r.2.2.map V.str)) ∧ AscS r.2.2)
        ⟨[], same_new nD, upd_same, .nil, fun r hr => (nomatch hr)⟩ (fun i Hc _ ⟨rs, sm, _⟩ => sm _ _ upd_same) ?_ ?_
      · rintro i x Hc Hc' hi ⟨rs, sm, hD, al, hr⟩ ⟨rfl, e, he, rfl⟩
        have hem : e ∈ es := List.mem_of_getElem? he
        refine ⟨rfl, _, rfl, ?_⟩
        have hv : valV (es.map fun e : Ent => (e.1, V.ref e.2.1)) e.1 = some (V.ref e.2.1) := valV_of_nd (by rw [ek]; exact hd.nd) (List.mem_map.mpr ⟨e, hem, rfl⟩)
        refine ⟨_, rfl, _, rfl, a, V.ref e.2.1, rfl, .inl ⟨_, _, .inr ⟨od, sm _ _ upd_same⟩, rfl, hv.symm⟩, ?_⟩
        refine ⟨e.2.1, e.2.2, rfl, .inl ?_, (hd.all e hem).2, fun H5 p us s5 np hp5 ha5 hm5 => ?_⟩
        · rcases (hd.all e hem).1 with z | z
          · exact .inl (sm.seq (sqL_lock hd.at_ z))
          · exact .inr (same_seqT sm (sqT_lock hd.at_ z))
        have hD5 := s5 _ _ hD
        have hlen : rs.length = (es.take i).length := by
          have z := congrArg List.length al.keys
          rw [List.length_map, List.length_map] at z
          exact z
        have hnk : valV (rs.map fun e : Ent => (e.1, V.ref e.2.1)) e.1 = none := by
          cases z : valV (rs.map fun e : Ent => (e.1, V.ref e.2.1)) e.1 with
          | none => rfl
          | some v =>
            have m := valV_in z
            have e2 : (rs.map fun e : Ent => (e.1, V.ref e.2.1)).map (·.1) = (es.take i).map (·.1) := by
              rw [List.map_map, ← al.keys]
              rfl
            rw [e2] at m
            have nd2 : ((es.take (i + 1)).map (·.1)).Nodup := hd.nd.sublist ((List.take_sublist _ _).map _)
            rw [take_snoc he, List.map_append] at nd2
            exact absurd rfl ((List.nodup_append.mp nd2).2.2 e.1 m e.1 List.mem_cons_self)
        have neP : ∀ (q : Addr) (xs : List V), H5 q = some (.tup xs) → q ≠ D := fun q xs z => ne_of z hD5 (fun y => nomatch y)
        refine ⟨_, e.1, rfl, hD5, ?_, rs ++ [(e.1, p, us)], ?_, ?_, ?_, ?_⟩
        · rw [List.length_map, hlen, List.length_take]
          exact Nat.lt_of_le_of_lt (Nat.min_le_right _ _) (small1000 (Nat.le_trans hd.len (by decide)))
        · exact same_mut (sm.trans s5) nD
        · rw [upd_same, putK_new _ hnk, List.map_append]
          rfl
        · rw [take_snoc he]
          exact al.snoc rfl hm5
        · intro r hrm
          rcases List.mem_append.mp hrm with z | z
          · rw [upd_ne (neP _ _ (s5 _ _ (hr r z).1))]
            exact ⟨s5 _ _ (hr r z).1, (hr r z).2⟩
          · rw [List.mem_singleton.mp z, upd_ne (neP _ _ hp5)]
            exact ⟨hp5, ha5⟩
      · rintro Hc ⟨rs, sm, hD, al, hr⟩
        rw [List.take_length] at al
        have hfz := sm _ _ upd_same
        refine ⟨hfz, q _ D rs (unlock_same hd.at_ sm) nD0 ⟨?_, fun r hrm => ?_⟩ al⟩
        · rw [upd_ne neD.symm]
          exact hD
        · rw [upd_ne (ne_of (hr r hrm).1 hfz (fun y => nomatch y))]
          exact hr r hrm
end
end Sw
namespace Sw
open PySem PySem.Spec PyProof.Rows L2 NdefX
abbrev sTab : Stmt := inClass (topS 20) 0
abbrev pTab : List Str := ["self", "name", "width", "key", "lists", "refers"]
abbrev nTab : List Str := ["self", "name", "width", "key", "lists", "refers", "columns", "column"]
theorem scTab : FnScope nTab pTab (defScope sTab) := ⟨rfl, rfl, rfl, by decide +kernel, rfl, by decide +kernel, by decide +kernel⟩
section
variable {P : Program} {w : World} {K : PySem.W.Frag} {mg : Str → Option Value} {base : Heap}
abbrev FunTab (K : PySem.W.Frag) (T0 T1 f : Addr) (fd : FuncData) : Prop := FunD K "__init__" "Table.__init__" (defArgs sTab) (defBody sTab) (defScope sTab) [] [("key", .ref T0), ("lists", .non), ("refers", .ref T1)] f fd
theorem ok_tabN {f CT T0 T1 fW : Addr} {fd fdW : FuncData} (F : FunTab K T0 T1 f fd) (B : Blt2 mg) (C : TabC K CT) (GW : FnOk P w K mg base CX0 3 fW fdW ["values"] (spWA K)) (kW : PySem.W.keepIn K (.ref fW) = true) (bW : Binds K fdW ["values"] []) (mW : mg "with_ascending" = some (.ref fW)) :
    FnOk P w K mg base CX0 4 f fd pTab (spTabN K CT) := by
  refine F.ok scTab (fun vs H Q E h => ?_) (fun cdv A outer s H vs Q E hr h => ?_)
  · obtain ⟨x, dx, kA, rA, nm, wd, ks, lv, es, rs, rfl, _⟩ := h
    rfl
  · obtain ⟨x, dx, kA, rA, nm, wd, ks, lv, es, rs, rfl, hx, hk, hkl, hl, hrA, q⟩ := h
    refine ⟨_, PSs.nox (pss_cons (ps_setDc (i := 6) (own := [("column", 7)]) (g := gName 7) (tt := tYes) rfl scTab.nd rfl rfl (sw_dict rfl rfl rfl (by decide +kernel)) (pi_tup (pv 3)) (blkOk_by (N := nTab) (sc := defScope sTab) (by decide +kernel)) (fun _ _ _ _ _ => pg_name (i := 7) scTab.nd rfl (Or.inl rfl)) (fun _ _ _ _ _ => pts_nil) (fun _ _ _ _ _ => pv 7) (fun _ _ _ _ _ => pe_bl))
      (pss_cons (ps_fld (pv 0) (pv 1) rfl) (pss_cons (ps_fld (pv 0) (pv 2) rfl)
      (pss_cons (ps_fld (pv 0) (pe_callTy call_tuple_of (by rfl) B.tuple bTuple (pa_cons (pe_callB cr_sortedI (by rfl) B.sorted bSorted (pa_cons
        (pe_lock (pe_lc (own := [("column", 7)]) (g := gName 7) (tt := tYes) rfl scTab.nd (pi_keys (pv 6)) (blkOk_by (N := nTab) (sc := defScope sTab) (by decide +kernel)) (fun _ _ _ _ _ => pg_name (i := 7) scTab.nd rfl (Or.inl rfl)) (fun _ _ _ _ _ => pts_nil)
          (fun _ _ _ _ _ => pe_callTy call_int1 (by rfl) B.int bInt (pa_cons (pv 7) pa_nil)))) pa_nil)) pa_nil)) rfl)
      (pss_cons (ps_fld (pv 0) (pe_call GW hr rfl mW kW bW .nil pass0 (pa_cons (pv 4) pa_nil)) rfl)
      (pss_one (ps_fld (pv 0) (pe_callTy call_tupleT (by rfl) B.tuple bTuple (pa_cons (pv 5) pa_nil)) rfl))))))), ?_⟩
    have injI : ∀ a b : Int, (Sum.inl a : Key) = Sum.inl b → a = b := fun _ _ e => Sum.inl.inj e
    refine ⟨_, rfl, kA, rfl, ⟨_, hk⟩, fun D nD => dc_once (f := (Sum.inl : Int → Key)) injI (wk_tup (val := V.int)) (by show 7 < 8; decide) (fun o => same_seqT (same_new nD) hk) (by omega) fun us o => ?_⟩
    have neD : x ≠ D := ne_of_none hx nD
    have hus : us.length ≤ 1000 := Nat.le_trans o.len (by omega)
    have s1 : SBut x H (upd H D (.dK (onceK Sum.inl us))) := Same.sbut (same_new nD)
    -- name, width
    refine ⟨_, rfl, _, rfl, x, CT, dx, _, rfl, (by rw [upd_ne neD]; exact hx), C.cl, C.n1, (by show 0 < 1000; decide), ?_⟩
    refine ⟨_, rfl, _, rfl, x, CT, dx, _, rfl, upd_same, C.cl, C.n2, (by show 1 < 1000; decide), ?_⟩
    rw [upd_upd]
    have s3 := s1.step (o := .ins CT dx (putF "width" (.int wd) (putF "name" (.str nm) [])))
    generalize hH3 : upd (upd H D (.dK (onceK Sum.inl us))) x (.ins CT dx (putF "width" (.int wd) (putF "name" (.str nm) []))) = H3 at s3 ⊢
    have hx3 : H3 x = some (.ins CT dx (putF "width" (.int wd) (putF "name" (.str nm) []))) := by rw [← hH3]; exact upd_same
    have hD3 : H3 D = some (.dK (onceK Sum.inl us)) := by rw [← hH3, upd_ne neD.symm]; exact upd_same
    -- key
    have ek : (onceK (Sum.inl : Int → Key) us).map (·.1) = us.map Sum.inl := by
      unfold onceK
      rw [List.map_map]
      rfl
    refine ⟨D, _, hD3, True.intro, fun od => ⟨_, rfl, D, od, rfl, .inl ⟨_, upd_same, fun L nL => ?_⟩⟩⟩
    refine lc_pure (val := V.int) (out := V.int) (l := us) (wk_keys ek) (fun o => by rw [upd_ne (ne_of_none upd_same nL)]; exact upd_same) hus (fun i u acc Q _ q => ⟨_, wipe_var (by show 7 < 8; decide) _, .inl ⟨u, rfl, q⟩⟩) ?_
    refine ⟨by rw [upd_ne (ne_of_none upd_same nL)]; exact upd_same, ?_⟩
    have nL2 := free_lock hD3 nL
    rw [unlock_new hD3 nL]
    refine ⟨L, us, rfl, SqL.of upd_same, fun ys p pm so np => ⟨p, _, rfl, .inl ⟨SqL.of upd_same, fun T nT => ?_⟩⟩⟩
    have s6 := ((same_new (o := .lst (us.map V.int)) nL2).trans (same_new (o := .lst (ys.map V.int)) np)).trans (same_new (o := .tup (ys.map V.int)) nT)
    generalize hH6 : upd (upd (upd H3 L (.lst (us.map V.int))) p (.lst (ys.map V.int))) T (.tup (ys.map V.int)) = H6 at s6 ⊢
    have hT6 : H6 T = some (.tup (ys.map V.int)) := by rw [← hH6]; exact upd_same
    have neT : x ≠ T := ne_of (s6 _ _ hx3) hT6 (fun z => nomatch z)
    refine ⟨_, rfl, x, CT, dx, _, rfl, s6 _ _ hx3, C.cl, C.n3, (by show 2 < 1000; decide), ?_⟩
    have s7 := (s3.same s6).step (o := .ins CT dx (putF "key" (.ref T) (putF "width" (.int wd) (putF "name" (.str nm) []))))
    generalize hH7 : upd H6 x (.ins CT dx (putF "key" (.ref T) (putF "width" (.int wd) (putF "name" (.str nm) [])))) = H7 at s7 ⊢
    have hx7 : H7 x = some (.ins CT dx (putF "key" (.ref T) (putF "width" (.int wd) (putF "name" (.str nm) [])))) := by rw [← hH7]; exact upd_same
    have hT7 : H7 T = some (.tup (ys.map V.int)) := by rw [← hH7, upd_ne neT.symm]; exact hT6
    -- lists
    refine ⟨_, rfl, lv, es, rfl, ?_, fun H8 lA ts s8 nl hts hal => ?_⟩
    · rcases hl with z | ⟨a, z, hd⟩
      · exact .inl z
      · exact .inr ⟨a, z, hd.but s7 hx⟩
    have nex : x ≠ lA := ne_of_none hx7 nl
    refine ⟨_, rfl, x, CT, dx, _, rfl, s8 _ _ hx7, C.cl, C.n4, (by show 3 < 1000; decide), ?_⟩
    have s9 := (s7.same s8).step (o := .ins CT dx (putF "lists" (.ref lA) (putF "key" (.ref T) (putF "width" (.int wd) (putF "name" (.str nm) [])))))
    -- refers
    refine ⟨_, rfl, rA, rs, rfl, sqT_ins hrA s9 hx, _, rfl, x, CT, dx, _, rfl, upd_same, C.cl, C.n5, (by show 4 < 1000; decide), ?_⟩
    have nd : ys.Nodup := pm.nodup_iff.mpr o.nd
    have s10 := s9.step (o := .ins CT dx (putF "refers" (.ref rA) (putF "lists" (.ref lA) (putF "key" (.ref T) (putF "width" (.int wd) (putF "name" (.str nm) []))))))
    refine q _ ys ts s10 ⟨⟨dx, T, lA, rA, upd_same, ?_, ?_, sqT_ins hrA s10 hx⟩, ascI_of so nd⟩ (fun z => by rw [pm.mem_iff, o.mem]) hal (fun dy kB lB rB e => ?_)
    · rw [upd_ne neT.symm, upd_ne neT.symm]
      exact s8 _ _ hT7
    · refine ⟨?_, fun r hr => ?_⟩
      · rw [upd_ne nex.symm, upd_ne nex.symm]
        exact hts.at_
      · have ne : r.2.1 ≠ x := ne_of (hts.all r hr).1 (s8 _ _ hx7) (fun z => nomatch z)
        rw [upd_ne ne, upd_ne ne]
        exact hts.all r hr
    · have e2 := (HO.ins.inj (Option.some.inj (e.symm.trans upd_same))).2.2
      have e3 : lB = lA := by
        have := congrArg (fun fs : List (Str × V) => fs.lookup ("lists" : Str)) e2
        exact V.ref.inj (Option.some.inj this)
      rw [e3]
      cases z : H lA with
      | none => rfl
      | some o => exact absurd (s7 lA o nex.symm z) (by rw [nl]; intro y; cases y)
theorem ok_tab {f CT T0 T1 fW : Addr} {fd fdW : FuncData} (F : FunTab K T0 T1 f fd) (B : Blt2 mg) (C : TabC K CT) (GW : FnOk P w K mg base CX0 3 fW fdW ["values"] (spWA K)) (kW : PySem.W.keepIn K (.ref fW) = true) (bW : Binds K fdW ["values"] []) (mW : mg "with_ascending" = some (.ref fW)) :
    FnOk P w K mg base CX0 4 f fd pTab (spTab K CT) := (ok_tabN F B C GW kW bW mW).imp fun _ _ _ _ => spTabN_of
end
end Sw
namespace Sw
open PySem PySem.Spec PyProof.Rows L2 NdefX
abbrev sReach : Stmt := inClass (topS 21) 2
abbrev nReach : List Str := ["self", "name", "found", "waiting", "here", "reference"]
theorem scReach : FnScope nReach ["self", "name"] (defScope sReach) := ⟨rfl, rfl, rfl, by decide +kernel, rfl, by decide +kernel, by decide +kernel⟩
section
variable {P : Program} {w : World} {K : PySem.W.Frag} {mg : Str → Option Value} {base : Heap}
theorem ok_reach {f CT CS : Addr} {fd : FuncData} (F : Fun K "reached" "Schema.reached" sReach f fd) (c : Cls K CS) (n : NoAttr K CS "named") (cT : Cls K CT) (nT : NoAttr K CT "refers") :
    FnOk P w K mg base CX0 1 f fd ["self", "name"] (spReach K CT CS) := by
  refine F.ok scReach (fun vs H Q E h => ?_) (fun cdv A outer s H vs Q E hr h => ?_)
  · obtain ⟨S, nm, l, rfl, _⟩ := h
    rfl
  · obtain ⟨S, nm, l, rfl, hS, kn, hnm, q⟩ := h
    have hu := hu_of hr
    refine ⟨_, pss_cons (ps_set (i := 2) scReach.nd rfl (Or.inl rfl) (pe_lst pa_nil)) (pss_cons (ps_set (i := 3) scReach.nd rfl (Or.inl rfl) (pe_lst (pa_cons (pv 1) pa_nil)))
      (pss_cons (ps_while PassesOwn.never (pt_truth (pv 3) (by intro _; rfl))
        (pss_cons (ps_set (i := 4) scReach.nd rfl (Or.inl rfl) (pe_bm0 PySem.F.plainAttrs_list PySem.F.slot_list_pop PySem.F.type_list_pop mt_pop (pv 3)))
        (pss_one (ps_for PassesOwn.never rfl (pi_tup (pe_fld (pe_dget hu (pe_fld (pv 0) rfl) (pv 4) (fun _ _ => rfl)) rfl)) (pg_name (i := 5) scReach.nd rfl (Or.inl rfl))
          (pss_one (ps_if (pt_cmpR op_notIn_seq (pe_ix ix_tup (pv 5) pe_int (fun _ _ => rfl)) (pv 2) (by rfl))
            (pss_cons (ps_expr (pe_bm PySem.F.plainAttrs_list PySem.F.slot_list_append PySem.F.type_list_append mt_append (pv 2) (pa_cons (pe_ix ix_tup (pv 5) pe_int (fun _ _ => rfl)) pa_nil)))
            (pss_one (ps_expr (pe_bm PySem.F.plainAttrs_list PySem.F.slot_list_append PySem.F.type_list_append mt_append (pv 3) (pa_cons (pe_ix ix_tup (pv 5) pe_int (fun _ _ => rfl)) pa_nil))))) pss_nil))))))
      (pss_one (ps_ret (pv 2))))), ?_⟩
    have hneg : Known l := kn
    refine ⟨by decide, fun Fa nF => ⟨_, rfl, (by show 1 ≤ sizeLine; decide), fun Wa nW => ?_⟩⟩
    have neFW : Fa ≠ Wa := ne_of_none upd_same nW
    have nW0 : H Wa = none := by rw [upd_ne neFW.symm] at nW; exact nW
    obtain ⟨dS, dN, hS1, hS2⟩ := hS.ex
    refine name_way ?_
    dsimp only
    refine seq_way ?_
    refine while_by (fun σ H' => ∃ (x4 x5 : Option V) (fs ws : List Str), σ = [some (.ref S), some (.str nm), some (.ref Fa), some (.ref Wa), x4, x5] ∧ Same H H' ∧ H' Fa = some (.lst (fs.map V.str)) ∧ H' Wa = some (.lst (ws.map V.str)) ∧ fs.Nodup ∧
        (∀ z ∈ fs, Rch l nm z) ∧ (∀ y ∈ ws, y = nm ∨ y ∈ fs) ∧ (∀ y, y = nm ∨ y ∈ fs → y ∈ ws ∨ ∀ z ∈ leads l y, z ∈ fs) ∧ ws.length ≤ fs.length + 1)
      (fun _ H' => 2 * (l.length - lenAt H' Fa) + lenAt H' Wa) ?_ ?_ ?_
    · refine ⟨_, _, [], [nm], rfl, (same_new nF).trans (same_new nW), ?_, ?_, List.nodup_nil, fun z hz => (nomatch hz), fun y hy => ?_, fun y hy => ?_, by show 1 ≤ 0 + 1; decide⟩
      · rw [upd_ne neFW]
        exact upd_same
      · exact upd_same
      · exact .inl (List.mem_singleton.mp hy)
      · rcases hy with hy | hy
        · exact .inl (List.mem_singleton.mpr hy)
        · exact (nomatch hy)
    · rintro σ H' ⟨x4, x5, fs, ws, rfl, sm, hF, hW, nd, hr1, hw1, hc1, hwl⟩
      refine ⟨_, rfl, !(ws.map V.str).isEmpty, .inl ⟨_, SqL.of hW, rfl⟩, ?_⟩
      rcases nil_or_snoc ws with rfl | ⟨wi, y, rfl⟩
      · refine iteF ?_
        refine ⟨_, rfl, ?_⟩
        refine q H' Fa fs sm nF hF fun z => ⟨hr1 z, fun r => ?_⟩
        have go : ∀ {b : Str}, Rch l nm b → b ∈ fs := by
          intro b r
          induction r with
          | one h => exact (hc1 nm (.inl rfl)).elim (fun x => (nomatch x)) fun x => x _ h
          | snoc _ h ih => exact (hc1 _ (.inr ih)).elim (fun x => (nomatch x)) fun x => x _ h
        exact go r
      · have ek : (!((wi ++ [y]).map V.str).isEmpty) = true := by simp
        rw [ek]
        refine iteT ?_
        have hyn : y ∈ l.map Tb.nm := by
          rcases hw1 y (by simp) with e | e
          · rw [e]
            exact hnm
          · exact (hr1 y e).known kn
        obtain ⟨t, ht, ety⟩ := List.mem_map.mp hyn
        subst ety
        refine ⟨_, rfl, .inl ⟨rfl, _, SqL.of hW⟩, Wa, _, .str t.nm, rfl, rfl, hW, by simp, ?_⟩
        rw [show ((wi ++ [t.nm]).map V.str).dropLast = wi.map V.str by simp]
        have sm1 := same_mut (o := .lst (wi.map V.str)) sm nW0
        generalize hH1 : upd H' Wa (.lst (wi.map V.str)) = H1 at sm1 ⊢
        have hW1 : H1 Wa = some (.lst (wi.map V.str)) := by rw [← hH1]; exact upd_same
        have hF1 : H1 Fa = some (.lst (fs.map V.str)) := by rw [← hH1, upd_ne neFW]; exact hF
        obtain ⟨dx, wd, kA, lA, rA, rs, hx, hld⟩ := (hS.tbs t ht).ex
        have ev : valV (kvT l) (Sum.inr t.nm : Key) = some (.ref t.x) := valV_tb hS.nd ht
        refine ⟨_, rfl, S, CS, dS, _, _, rfl, sm1 _ _ hS1, c, n, rfl, _, rfl, dN, _, rfl, (by rw [← ev]; exact DGet.k (k := Sum.inr t.nm) (sm1 _ _ hS2)), t.x, CT, dx, _, _, rfl, sm1 _ _ hx, cT, nT, rfl, rA, rfl, ⟨_, same_seqT sm1 hld.at_⟩, ?_⟩
        have bnd : ∀ {gs : List Str}, gs.Nodup → (∀ z ∈ gs, Rch l nm z) → gs.length ≤ l.length := fun {gs} h1 h2 => by
          have := nodup_le h1 fun z hz => (h2 z hz).known kn
          rw [List.length_map] at this
          exact this
        refine for_it (walk_tup (K := K) (a := rA) (xs := rs)) (fun i σ H2 => ∃ (x5 : Option V) (gs vs : List Str), σ = [some (.ref S), some (.str nm), some (.ref Fa), some (.ref Wa), some (.str t.nm), x5] ∧ Same H H2 ∧ H2 Fa = some (.lst (gs.map V.str)) ∧ H2 Wa = some (.lst (vs.map V.str)) ∧ gs.Nodup ∧
            (∀ z ∈ gs, Rch l nm z) ∧ (∀ y ∈ vs, y = nm ∨ y ∈ gs) ∧ (∀ z ∈ fs, z ∈ gs) ∧ (∀ z ∈ gs, z ∈ fs ∨ z ∈ vs) ∧ (∀ z ∈ wi, z ∈ vs) ∧ (∀ z ∈ t.zs.take i, z ∈ gs) ∧ 2 * (l.length - gs.length) + vs.length ≤ 2 * (l.length - fs.length) + wi.length ∧ vs.length ≤ gs.length)
          ⟨x5, fs, wi, rfl, sm1, hF1, hW1, nd, hr1, fun y hy => hw1 y (by simp [hy]), fun z hz => hz, fun z hz => .inl hz, fun z hz => hz, fun z hz => (nomatch hz), Nat.le_refl _, by rw [List.length_append] at hwl; exact Nat.le_of_succ_le_succ hwl⟩ (fun i σ H2 _ ⟨_, _, _, _, sm2, _⟩ => same_seqT sm2 hld.at_) ?_ ?_
        · rintro i v σ Hx H2 hi ⟨x5, gs, vs, rfl, sm2, hF2, hW2, nd2, hr2, hw2, sub2, new2, old2, tk2, mu2, len2⟩ ⟨rfl, hv⟩
          obtain ⟨z, hz, b, xs, rfl, hb, hb1⟩ := hld.all i v hv
          have hb2 := same_seqT sm2 hb
          have hzl : z ∈ leads l t.nm := by
            rw [leads_of hS.nd ht]
            exact List.mem_of_getElem? hz
          have hrz : Rch l nm z := by
            rcases hw1 t.nm (by simp) with e | e
            · rw [e] at hzl
              exact .one hzl
            · exact (hr1 _ e).snoc hzl
          refine ⟨_, rfl, b, xs, _, _, rfl, rfl, hb2, atI_nat (j := 1) hb1, _, rfl, Fa, _, rfl, .inl (SqL.of hF2), rfl, flat_str gs, _, rfl, ?_⟩
          rw [inV_str z gs]
          by_cases hzg : z ∈ gs
          · have e : (if true = true then !decide (z ∈ gs) else decide (z ∈ gs)) = false := by simp [hzg]
            rw [e]
            refine iteF ?_
            refine ⟨_, gs, vs, rfl, sm2, hF2, hW2, nd2, hr2, hw2, sub2, new2, old2, fun u hu => ?_, mu2, len2⟩
            rw [take_snoc hz] at hu
            rcases List.mem_append.mp hu with hu | hu
            · exact tk2 u hu
            · rw [List.mem_singleton.mp hu]
              exact hzg
          · have e : (if true = true then !decide (z ∈ gs) else decide (z ∈ gs)) = true := by simp [hzg]
            rw [e]
            refine iteT ?_
            have nd3 : (gs ++ [z]).Nodup := by
              rw [List.nodup_append]
              exact ⟨nd2, List.nodup_cons.mpr ⟨fun x => (nomatch x), List.nodup_nil⟩, fun a ha b hb e => hzg (by rw [← List.mem_singleton.mp hb, ← e]; exact ha)⟩
            have hr3 : ∀ u ∈ gs ++ [z], Rch l nm u := fun u hu => (List.mem_append.mp hu).elim (hr2 u) fun x => by rw [List.mem_singleton.mp x]; exact hrz
            have l3 : gs.length + 1 ≤ l.length := by
              have q3 := bnd nd3 hr3
              rw [List.length_append] at q3
              exact q3
            have ll := hS.len
            have smA := same_mut (o := .lst (gs.map V.str ++ [V.str z])) sm2 nF
            refine ⟨_, rfl, .inl ⟨rfl, _, SqL.of hF2⟩, _, rfl, b, xs, _, _, rfl, rfl, hb2, atI_nat (j := 1) hb1, Fa, _, _, rfl, rfl, hF2, by rw [List.length_map]; exact small1000 (by omega), ?_⟩
            have hW3 : upd H2 Fa (.lst (gs.map V.str ++ [V.str z])) Wa = some (.lst (vs.map V.str)) := by rw [upd_ne neFW.symm]; exact hW2
            refine ⟨_, rfl, .inl ⟨rfl, _, SqL.of hW3⟩, _, rfl, b, xs, _, _, rfl, rfl, same_seqT smA hb, atI_nat (j := 1) hb1, Wa, _, _, rfl, rfl, hW3, by rw [List.length_map]; exact small1000 (by omega), ?_⟩
            refine ⟨_, gs ++ [z], vs ++ [z], rfl, same_mut smA nW0, ?_, ?_, nd3, hr3, fun y hy => ?_, fun u hu => List.mem_append_left _ (sub2 u hu), fun u hu => ?_, fun u hu => List.mem_append_left _ (old2 u hu), fun u hu => ?_, ?_, ?_⟩
            · rw [upd_ne neFW, upd_same, List.map_append]
              rfl
            · rw [upd_same, List.map_append]
              rfl
            · rcases List.mem_append.mp hy with hy | hy
              · exact (hw2 y hy).imp id fun x => List.mem_append_left _ x
              · exact .inr (List.mem_append_right _ hy)
            · rcases List.mem_append.mp hu with hu | hu
              · exact (new2 u hu).imp id fun x => List.mem_append_left _ x
              · exact .inr (List.mem_append_right _ hu)
            · rw [take_snoc hz] at hu
              rcases List.mem_append.mp hu with hu | hu
              · exact List.mem_append_left _ (tk2 u hu)
              · exact List.mem_append_right _ hu
            · rw [List.length_append, List.length_append]
              show 2 * (l.length - (gs.length + 1)) + (vs.length + 1) ≤ _
              omega
            · rw [List.length_append, List.length_append]
              show vs.length + 1 ≤ gs.length + 1
              omega
        · rintro σ H2 ⟨x5, gs, vs, rfl, sm2, hF2, hW2, nd2, hr2, hw2, sub2, new2, old2, tk2, mu2, len2⟩
          refine ⟨⟨_, _, gs, vs, rfl, sm2, hF2, hW2, nd2, hr2, hw2, fun y hy => ?_, by omega⟩, ?_⟩
          · have all : ∀ z ∈ leads l t.nm, z ∈ gs := fun z hz => by
              rw [leads_of hS.nd ht] at hz
              refine tk2 z ?_
              rw [hld.len, List.take_length]
              exact hz
            have old : ∀ y, y = nm ∨ y ∈ fs → y ∈ vs ∨ ∀ z ∈ leads l y, z ∈ gs := fun y hy => by
              rcases hc1 y hy with x | x
              · rcases List.mem_append.mp x with x | x
                · exact .inl (old2 y x)
                · rw [List.mem_singleton.mp x]
                  exact .inr all
              · exact .inr fun z hz => sub2 z (x z hz)
            rcases hy with hy | hy
            · exact old y (.inl hy)
            · rcases new2 y hy with x | x
              · exact old y (.inr x)
              · exact .inl x
          · show 2 * (l.length - lenAt H2 Fa) + lenAt H2 Wa < 2 * (l.length - lenAt H' Fa) + lenAt H' Wa
            rw [lenAt_of hF2, lenAt_of hW2, lenAt_of hF, lenAt_of hW]
            simp only [List.length_map, List.length_append, List.length_cons, List.length_nil]
            omega
    · rintro σ H' Q Q' hq ⟨v, hv, k, t, z⟩
      exact ⟨v, hv, k, t, hq _ _ z⟩
end
end Sw
namespace Sw
open PySem PySem.Spec PyProof.Rows L2 NdefX
abbrev sUnk : Stmt := inClass (topS 3) 0
theorem scUnk : NScope ["self", "name", "__class__"] ["self", "name"] ["__class__"] (defScope sUnk) := nscope_by (by decide +kernel)
section
variable {P : Program} {w : World} {K : PySem.W.Frag} {mg : Str → Option Value} {base : Heap}
theorem ok_unk {D f cc cda : Addr} {fd : FuncData} (T : SupTxt P K mg "UnknownTable.__init__" sUnk D f cc cda fd) (O : OexC K D) (nf : PySem.W.findIn K (.ref D) "name" = some none) :
    FnOk P w K mg base CX0 1 f fd ["self", "name"] (spErr D "name" PStr) := by
  refine fn_super T O scUnk (fun vs H Q E h => ?_) rfl rfl rfl rfl rfl (fun _ => rfl) (fun _ => ⟨_, rfl⟩) (fun _ => rfl) (fun A outer s H vs Q E hr h => ?_)
  · obtain ⟨a, v, rfl, _⟩ := h
    rfl
  · obtain ⟨a, v, rfl, hH, ⟨z, rfl, hz⟩, q⟩ := h
    refine ⟨_, _, a, rfl, hH, pe_joined (.cons pe_str (.cons (pe_fmt (pv 1)) .nil)), pss_one (ps_ost (pv 0) (pv 1)), ?_⟩
    have l1 : (Str.empty ++ ("no table is called " : Str)).length ≤ 100 := by decide +kernel
    refine ⟨_, rfl, Nat.le_trans l1 (by decide), _, rfl, .inl ⟨z, rfl, Nat.le_trans hz (by decide), _, rfl, ?_, rfl, hH, ?_⟩⟩
    · rw [str_app_len]
      exact room_len (by omega)
    exact ⟨_, rfl, _, rfl, a, D, rfl, O, nf, .inl ⟨hH, q⟩⟩
abbrev sTable : Stmt := inClass (topS 21) 1
theorem scTable : FnScope ["self", "name"] ["self", "name"] (defScope sTable) := ⟨rfl, rfl, rfl, by decide +kernel, rfl, by decide +kernel, by decide +kernel⟩
/-- schema.table(name) -/
def spTable (CS D : Addr) : Sp := fun vs H Q E => ∃ (s : Addr) (z : Str) (kvs : List (Key × V)), vs = [.ref s, .str z] ∧ SchemaAt CS H s kvs ∧ z.length ≤ 1000 ∧
  (∀ v, valV kvs (Sum.inr z : Key) = some v → Q v H) ∧ (valV kvs (Sum.inr z : Key) = none → ∀ dd, H dd = none → E (.ref D) (some dd) (upd H dd (.xd [("name", .str z)])))
theorem ok_table {f CS D fU cc cda : Addr} {fd fdU : FuncData} (F : Fun K "table" "Schema.table" sTable f fd) (c : Cls K CS) (n : NoAttr K CS "named") (U : ErrTxt P K mg "UnknownTable" "UnknownTable.__init__" sUnk D fU cc cda fdU "name") :
    FnOk P w K mg base (L2.CX P w) 3 f fd ["self", "name"] (spTable CS D) := by
  have GU := ok_unk (w := w) (base := base) U.sup U.oex U.nf
  refine F.okX scTable (fun vs H Q E h => ?_) (fun cdv A outer s H vs Q E hr h => ?_)
  · obtain ⟨s, z, kvs, rfl, _⟩ := h
    rfl
  · obtain ⟨s, z, kvs, rfl, ⟨dx, d, hs, hd⟩, hz, q1, q2⟩ := h
    have hu := hu_of hr
    refine ⟨_, pss_cons (ps_if (pt_cmp (pc_dnotin hu (pv 1) (pe_fld (pv 0) rfl))) (pss_one (ps_raise rfl (takes_of rfl rfl rfl rfl) (pmk_oex U.oex U.iC U.tI GU hr U.bd .nil pass0 rfl U.gC (pa_cons (pv 1) pa_nil)))) pss_nil)
      (pss_one (ps_ret (pe_dget hu (pe_fld (pv 0) rfl) (pv 1) (fun _ _ => rfl)))), ?_⟩
    refine ⟨_, rfl, _, rfl, s, CS, dx, _, _, rfl, hs, c, n, rfl, d, _, rfl, DGet.k (k := Sum.inr z) hd, _, rfl, ?_⟩
    cases e : valV kvs (Sum.inr z : Key) with
    | none =>
      refine iteT ?_
      exact ⟨_, rfl, mk_err (fun a _ => ⟨z, rfl, hz⟩) (fun dd h => q2 e dd h)⟩
    | some v =>
      refine iteF ?_
      exact ⟨_, rfl, s, CS, dx, _, _, rfl, hs, c, n, rfl, _, rfl, d, v, rfl, (by rw [← e]; exact DGet.k (k := Sum.inr z) hd), q1 v e⟩
end
end Sw
namespace Sw
open PySem PySem.Spec PyProof.Rows L2 NdefX
abbrev sRing : Stmt := inClass (topS 4) 0
theorem scRing : NScope ["self", "name", "__class__"] ["self", "name"] ["__class__"] (defScope sRing) := nscope_by (by decide +kernel)
section
variable {P : Program} {w : World} {K : PySem.W.Frag} {mg : Str → Option Value} {base : Heap}
theorem ok_ring {D f cc cda : Addr} {fd : FuncData} (T : SupTxt P K mg "Ring.__init__" sRing D f cc cda fd) (O : OexC K D) (nf : PySem.W.findIn K (.ref D) "name" = some none) :
    FnOk P w K mg base CX0 1 f fd ["self", "name"] (spErr D "name" PStr) := by
  refine fn_super T O scRing (fun vs H Q E h => ?_) rfl rfl rfl rfl rfl (fun _ => rfl) (fun _ => ⟨_, rfl⟩) (fun _ => rfl) (fun A outer s H vs Q E hr h => ?_)
  · obtain ⟨a, v, rfl, _⟩ := h
    rfl
  · obtain ⟨a, v, rfl, hH, ⟨z, rfl, hz⟩, q⟩ := h
    refine ⟨_, _, a, rfl, hH, pe_joined (.cons pe_str (.cons (pe_fmt (pv 1)) (.cons pe_str .nil))), pss_one (ps_ost (pv 0) (pv 1)), ?_⟩
    have l1 : (Str.empty ++ ("the table " : Str)).length ≤ 100 := by decide +kernel
    have l2 : (" reaches itself" : Str).length ≤ 100 := by decide +kernel
    refine ⟨_, rfl, Nat.le_trans l1 (by decide), _, rfl, .inl ⟨z, rfl, Nat.le_trans hz (by decide), _, rfl, ?_, _, rfl, ?_, rfl, hH, ?_⟩⟩
    · rw [str_app_len]
      exact room_len (by omega)
    · rw [str_app_len, str_app_len]
      exact room_len (by omega)
    exact ⟨_, rfl, _, rfl, a, D, rfl, O, nf, .inl ⟨hH, q⟩⟩
end
end Sw
namespace Sw
open PySem PySem.Spec PyProof.Rows L2 NdefX
abbrev sSch : Stmt := inClass (topS 21) 0
abbrev nSch : List Str := ["self", "tables", "table", "reference", "names", "name"]
abbrev pSch : List Str := ["self"]
theorem scSch : FnScope nSch (pSch ++ [("tables" : Str)]) (defScope sSch) := ⟨rfl, rfl, rfl, by decide +kernel, rfl, by decide +kernel, by decide +kernel⟩
section
variable {P : Program} {w : World} {K : PySem.W.Frag} {mg : Str → Option Value} {base : Heap}
theorem ok_schema {f CT CS fRe DU fU ccU cdU DR fR ccR cdR : Addr} {fd fdRe fdU fdR : FuncData} (F : Fun K "__init__" "Schema.__init__" sSch f fd) (FRe : Fun K "reached" "Schema.reached" sReach fRe fdRe) (bRe : Binds K fdRe ["self", "name"] []) (mRe : Meth K CS "reached" fRe)
    (c : Cls K CS) (n : NoAttr K CS "named") (cT : Cls K CT) (nT : NoAttr K CT "refers") (nN : NoAttr K CT "name")
    (U : ErrTxt P K mg "UnknownTable" "UnknownTable.__init__" sUnk DU fU ccU cdU fdU "name") (R : ErrTxt P K mg "Ring" "Ring.__init__" sRing DR fR ccR cdR fdR "name") :
    FnR P w K mg base (L2.CX P w) 3 f (spSchema K CT CS DU DR) := by
  have GU := ok_unk (w := w) (base := base) U.sup U.oex U.nf
  have GR := ok_ring (w := w) (base := base) R.sup R.oex R.nf
  have GE : FnOk P w K mg base CX0 1 fRe fdRe ["self", "name"] (spReach K CT CS) := ok_reach FRe c n cT nT
  obtain ⟨oc, od, kV, doc, pm, an, cdv, ct, osl, rfl, lk, hcd⟩ := F.ex
  have hB := StX.bind_star1 (B := fun us => bindArgs (PySem.W.fnOf "__init__" "Schema.__init__" (defArgs sSch) (defBody sSch) (defScope sSch) Value.none kV doc pm an cdv ct) ⟨us, []⟩) (p1 := "self") (pv := "tables") (fun _ => rfl) (fun _ _ _ => rfl)
  refine (StX.fn_star (ps := pSch) lk hcd scSch StX.cxUp hB (sp := fun vs H Q E => ∃ (S p dS : Addr) (l : List Tb), vs = [.ref S, .ref p] ∧ H S = some (.ins CS dS []) ∧ H p = some (.tup (l.map fun t => V.ref t.x)) ∧ (∀ t ∈ l, TbAt K CT H t) ∧ (l.map Tb.nm).Nodup ∧ l.length ≤ 100 ∧ (l.flatMap Tb.zs).length ≤ 1000 ∧
    (∀ u, unkOf l = some u → u.length ≤ 1000 ∧ ∀ (H1 : Hp) (dd : Addr), SBut S H H1 → H1 dd = none → E (.ref DU) (some dd) (upd H1 dd (.xd [("name", .str u)]))) ∧
    (unkOf l = none → (∀ i t, l[i]? = some t → (∀ u ∈ l.take i, ¬ Rch l u.nm u.nm) → Rch l t.nm t.nm → t.nm.length ≤ 1000 ∧ ∀ (H1 : Hp) (dd : Addr), SBut S H H1 → H1 dd = none → E (.ref DR) (some dd) (upd H1 dd (.xd [("name", .str t.nm)]))) ∧
      ((∀ u ∈ l, ¬ Rch l u.nm u.nm) → ∀ H1 : Hp, SBut S H H1 → SchAt K CT CS H1 S l → Q .non H1))) (k := 2) ?_).imp ?_
  · rintro A outer s H vs Q E hr ⟨S, p, dS, l, rfl, hS, hp, htb, nd, hl, hz, qU, qG⟩
    have hu := hu_of hr
    refine ⟨_, pss_cons (ps_fld (pv 0) (pe_dc (own := [("table", 2)]) (g := gName 2) (tt := tYes) (tk := tFld K (tVar 2) "name") rfl scSch.nd (pi_tup (pv 1)) (blkOk_by (N := nSch) (sc := defScope sSch) (by decide +kernel)) (fun _ _ _ _ _ => pg_name (i := 2) scSch.nd rfl (Or.inl rfl)) (fun _ _ _ _ _ => pts_nil) (fun _ _ _ _ _ => pe_fld (pv 2) rfl) (fun _ _ _ _ _ => pv 2)) rfl)
      (pss_cons (ps_setLc2 (i := 4) (own := [("table", 2), ("reference", 3)]) (vs1 := [3]) (g := gName 2) (tt := tYes) (g1 := gName 3) (tt1 := tYes) (wi1 := iTup K (tFld K (tVar 2) "refers")) (te := tOp (rIxT K) (tVar 3) (tC (.int 1))) rfl scSch.nd rfl rfl (sw_true rfl rfl rfl (by decide +kernel)) (pi_tup (pv 1)) (blkOk_by (N := nSch) (sc := defScope sSch) (by decide +kernel)) (by decide)
        (fun _ _ _ _ _ => pg_name (i := 2) scSch.nd rfl (Or.inl rfl)) (fun _ _ _ _ _ => pts_nil) (fun _ _ _ _ _ => pi_tup (pe_fld (pv 2) rfl)) (fun _ _ _ _ _ => pg_name (i := 3) scSch.nd rfl (Or.inl rfl)) (fun _ _ _ _ _ => pts_nil) (fun _ _ _ _ _ => pe_ix ix_tup (pv 3) pe_int (fun _ _ => rfl)))
      (pss_cons (ps_for (passes_of rfl) rfl (pi_list (pv 4)) (pg_name (i := 5) scSch.nd rfl (Or.inl rfl))
        (pss_one (ps_if (pt_cmp (pc_dnotin hu (pv 5) (pe_fld (pv 0) rfl))) (pss_one (ps_raise rfl (takes_of rfl rfl rfl rfl) (pmk_oex U.oex U.iC U.tI GU hr U.bd .nil pass0 rfl U.gC (pa_cons (pv 5) pa_nil)))) pss_nil)))
      (pss_one (ps_for (passes_of rfl) rfl (pi_tup (pv 1)) (pg_name (i := 2) scSch.nd rfl (Or.inl rfl))
        (pss_one (ps_if (pt_cmpR op_in_seq (pe_fld (pv 2) rfl) (pe_meth (pv 0) c mRe GE (hr.mono (by decide)) bRe .nil pass0 (pa_cons (pe_fld (pv 2) rfl) pa_nil)) (by rfl))
          (pss_one (ps_raise rfl (takes_of rfl rfl rfl rfl) (pmk_oex R.oex R.iC R.tI GR hr R.bd .nil pass0 rfl R.gC (pa_cons (pe_fld (pv 2) rfl) pa_nil)))) pss_nil)))))), ?_⟩
    have mid : ∀ {H1 : Hp}, SBut S H H1 → ∀ dX dN : Addr, H1 S = some (.ins CS dX [("named", .ref dN)]) → H1 dN = some (.dK (kvT l)) → SchAt K CT CS H1 S l := fun {H1} e dX dN h1 h2 => ⟨⟨dX, dN, h1, h2⟩, fun t ht => (htb t ht).but e hS (Nat.zero_le _), nd, hl⟩
    refine ⟨_, rfl, p, rfl, ⟨_, SqT.of hp⟩, fun D nD => ?_⟩
    refine dc_it (wk_tup (K := K) (a := p) (l := l) (val := fun t : Tb => V.ref t.x)) (fun i Hc => Hc = upd H D (.dK (kvT (l.take i)))) rfl (fun i Hc _ e => by rw [e]; exact SqT.of (by rw [upd_ne (ne_of_none hp nD)]; exact hp)) ?_ ?_
    · rintro i x Hc Hc' hi rfl ⟨rfl, t, ht, rfl⟩
      have hm : t ∈ l := List.mem_of_getElem? ht
      obtain ⟨dx, wd, kA, lA, rA, rs, hx, hld⟩ := ((htb t hm).same (same_new (o := .dK (kvT (l.take i))) nD)).ex
      refine ⟨rfl, ?_⟩
      refine ⟨_, rfl, t.x, CT, dx, _, _, rfl, hx, cT, nN, rfl, _, rfl, _, Sum.inr t.nm, rfl, upd_same, ?_, ?_⟩
      · unfold kvT
        rw [List.length_map, List.length_take]
        exact Nat.lt_of_le_of_lt (Nat.min_le_right _ _) (small1000 (by omega))
      · rw [upd_upd, kvT_snoc nd ht]
    rintro Hc rfl
    rw [List.take_length]
    have neS : S ≠ D := ne_of_none hS nD
    refine ⟨_, rfl, S, CS, dS, _, rfl, (by rw [upd_ne neS]; exact hS), c, n, (by show 0 < 1000; decide), ?_⟩
    have s1 : SBut S H (upd (upd H D (.dK (kvT l))) S (.ins CS dS (putF "named" (.ref D) []))) := (Same.sbut (same_new nD)).step
    have hc1 : SchAt K CT CS (upd (upd H D (.dK (kvT l))) S (.ins CS dS (putF "named" (.ref D) []))) S l := mid s1 dS D upd_same (by rw [upd_ne neS.symm]; exact upd_same)
    have hp1 : (upd (upd H D (.dK (kvT l))) S (.ins CS dS (putF "named" (.ref D) []))) p = some (.tup (l.map fun t => V.ref t.x)) := s1 _ _ (ne_of hp hS (fun z => nomatch z)) hp
    generalize upd (upd H D (.dK (kvT l))) S (.ins CS dS (putF "named" (.ref D) [])) = H1 at s1 hc1 hp1 ⊢
    refine ⟨_, rfl, p, rfl, ⟨_, SqT.of hp1⟩, fun D2 nD2 => ?_⟩
    have hfm : (l.flatMap fun t : Tb => t.zs.map V.str) = (l.flatMap Tb.zs).map V.str := by rw [List.map_flatMap]
    refine lc2_pure (wk_tup (K := K) (a := p) (l := l) (val := fun t : Tb => V.ref t.x)) (out := fun t : Tb => t.zs.map V.str) (Pin := fun t k v => ∃ z, t.zs[k]? = some z ∧ RefTo K H1 v z) (fun o => SqT.of (by rw [upd_ne (ne_of_none hp1 nD2)]; exact hp1)) (by rw [hfm, List.length_map]; exact hz) (fun _ => rfl) (fun _ _ => rfl) ?_ ?_ ?_
    · intro t acc R hm hR
      have sn := same_new (o := .lst acc) nD2
      obtain ⟨dx, wd, kA, lA, rA, rs, hx, hld⟩ := (hc1.tbs t hm).ex
      refine ⟨_, rfl, t.x, CT, dx, _, _, rfl, sn _ _ hx, cT, nT, rfl, rA, rfl, ⟨_, same_seqT sn hld.at_⟩, ?_⟩
      refine hR (Itt K rA) (fun H' => SqT K H' rA rs) ?_ (fun o => same_seqT (same_new nD2) hld.at_)
      have w := walk_tup (K := K) (a := rA) (xs := rs)
      rw [hld.len] at w
      rw [List.length_map]
      exact w.mono (fun _ h => h) fun k Hx x Hy _ _ y => ⟨y.1, hld.all k x y.2⟩
    · rintro t k v y acc Q' hm ⟨z, hz1, b, xs, rfl, hb, hb1⟩ ho hq
      rw [List.getElem?_map, hz1] at ho
      obtain rfl : V.str z = y := Option.some.inj ho
      exact ⟨_, rfl, b, xs, _, _, rfl, rfl, same_seqT (same_new nD2) hb, atI_nat (j := 1) hb1, hq⟩
    have s2 := s1.same (same_new (o := .lst (l.flatMap fun t : Tb => t.zs.map V.str)) nD2)
    have hc2 := hc1.same (same_new (o := .lst (l.flatMap fun t : Tb => t.zs.map V.str)) nD2)
    have hp2 := same_new (o := .lst (l.flatMap fun t : Tb => t.zs.map V.str)) nD2 _ _ hp1
    have hD2 : upd H1 D2 (.lst (l.flatMap fun t : Tb => t.zs.map V.str)) D2 = some (.lst ((l.flatMap Tb.zs).map V.str)) := by rw [upd_same, hfm]
    generalize upd H1 D2 (.lst (l.flatMap fun t : Tb => t.zs.map V.str)) = H2 at s2 hc2 hp2 hD2 ⊢
    obtain ⟨dX, dN, hS2, hN2⟩ := hc2.ex
    refine ⟨_, rfl, D2, rfl, ⟨_, SqL.of hD2⟩, ?_⟩
    refine for_it (wk_list (K := K) (a := D2) (l := l.flatMap Tb.zs) (val := V.str)) (fun i σ H' => ∃ x5, σ = [some (.ref S), some (.ref p), none, none, some (.ref D2), x5] ∧ H' = H2 ∧ ∀ z ∈ (l.flatMap Tb.zs).take i, z ∈ l.map Tb.nm) ⟨none, rfl, rfl, fun z hz => (nomatch hz)⟩ (fun i σ H' _ ⟨_, _, e, _⟩ => by rw [e]; exact SqL.of hD2) ?_ ?_
    · rintro i x σ Hx Hy hi ⟨x5, rfl, rfl, hk⟩ ⟨rfl, z, hz1, rfl⟩
      refine ⟨_, rfl, _, rfl, S, CS, dX, _, _, rfl, hS2, c, n, rfl, dN, _, rfl, DGet.k (k := Sum.inr z) hN2, _, rfl, ?_⟩
      by_cases hzn : z ∈ l.map Tb.nm
      · obtain ⟨t, ht, rfl⟩ := List.mem_map.mp hzn
        rw [valV_tb hc2.nd ht]
        refine iteF ?_
        refine ⟨_, rfl, rfl, fun u hu => ?_⟩
        rw [take_snoc hz1] at hu
        rcases List.mem_append.mp hu with hu | hu
        · exact hk u hu
        · rw [List.mem_singleton.mp hu]
          exact hzn
      · rw [valV_no hzn]
        refine iteT ?_
        have hun : unkOf l = some z := find_first (fun u hu => by simp [hk u hu]) hz1 (by simp [hzn])
        exact ⟨_, rfl, mk_err (fun a _ => ⟨z, rfl, (qU z hun).1⟩) (fun dd h => (qU z hun).2 _ dd s2 h)⟩
    rintro σ Hx ⟨x5, rfl, rfl, hk⟩
    rw [List.take_length] at hk
    have kn : Known l := known_of hk
    have hun : unkOf l = none := List.find?_eq_none.mpr fun z hz => by simp [hk z hz]
    obtain ⟨qR, qN⟩ := qG hun
    refine ⟨_, rfl, p, rfl, ⟨_, SqT.of hp2⟩, ?_⟩
    refine for_it (wk_tup (K := K) (a := p) (l := l) (val := fun t : Tb => V.ref t.x)) (fun i σ H' => ∃ x2, σ = [some (.ref S), some (.ref p), x2, none, some (.ref D2), x5] ∧ Same Hx H' ∧ ∀ u ∈ l.take i, ¬ Rch l u.nm u.nm) ⟨none, rfl, Same.refl _, fun z hz => (nomatch hz)⟩ (fun i σ H' _ ⟨_, _, e, _⟩ => SqT.of (e _ _ hp2)) ?_ ?_
    · rintro i x σ Hw Hy hi ⟨x2, rfl, sm, hno⟩ ⟨rfl, t, ht, rfl⟩
      have hm : t ∈ l := List.mem_of_getElem? ht
      obtain ⟨dx, wd, kA, lA, rA, rs, hx, hld⟩ := (hc2.tbs t hm).ex
      refine ⟨_, rfl, t.x, CT, dx, _, _, rfl, sm _ _ hx, cT, nN, rfl, ?_⟩
      refine ⟨_, rfl, S, dX, _, rfl, sm _ _ hS2, rfl, _, rfl, t.x, CT, dx, _, _, rfl, sm _ _ hx, cT, nN, rfl, ?_⟩
      refine ⟨S, t.nm, l, rfl, hc2.same sm, kn, List.mem_map.mpr ⟨t, hm, rfl⟩, fun H3 F3 R3 s3 nF hF hR => ?_⟩
      refine ⟨F3, _, rfl, .inl (SqL.of hF), rfl, flat_str R3, _, rfl, ?_⟩
      rw [inV_str]
      have sm3 := sm.trans s3
      by_cases hr3 : t.nm ∈ R3
      · have e : (if false = true then !decide (t.nm ∈ R3) else decide (t.nm ∈ R3)) = true := by simp [hr3]
        rw [e]
        refine iteT ?_
        have q3 := qR i t ht hno ((hR _).mp hr3)
        refine ⟨_, rfl, t.x, CT, dx, _, _, rfl, sm3 _ _ hx, cT, nN, rfl, mk_err (fun a _ => ⟨t.nm, rfl, q3.1⟩) (fun dd h => q3.2 _ dd (s2.same sm3) h)⟩
      · have e : (if false = true then !decide (t.nm ∈ R3) else decide (t.nm ∈ R3)) = false := by simp [hr3]
        rw [e]
        refine iteF ?_
        refine ⟨_, rfl, sm3, fun u hu => ?_⟩
        rw [take_snoc ht] at hu
        rcases List.mem_append.mp hu with hu | hu
        · exact hno u hu
        · rw [List.mem_singleton.mp hu]
          exact fun z => hr3 ((hR _).mpr z)
    rintro σ Hw ⟨x2, rfl, sm, hno⟩
    rw [List.take_length] at hno
    exact qN hno _ (s2.same sm) (hc2.same sm)
  · rintro vs H Q E ⟨S, dS, l, rfl, hS, htb, nd, hl, hz, qU, qG⟩
    refine ⟨[.ref S], l.map fun t => V.ref t.x, rfl, rfl, ?_, fun p hp => ?_⟩
    · rw [List.length_map]
      exact Nat.le_of_lt (small1000 (by omega))
    · have sn := same_new (o := .tup (l.map fun t => V.ref t.x)) hp
      refine ⟨S, p, dS, l, rfl, sn _ _ hS, upd_same, fun t ht => (htb t ht).same sn, nd, hl, hz, fun u hu => ⟨(qU u hu).1, fun H1 dd s1 hd => (qU u hu).2 H1 dd (fun b o hb e => s1 b o hb (sn b o e)) hd⟩, fun hn => ⟨fun i t hi h1 h2 => ⟨((qG hn).1 i t hi h1 h2).1, fun H1 dd s1 hd => ((qG hn).1 i t hi h1 h2).2 H1 dd (fun b o hb e => s1 b o hb (sn b o e)) hd⟩, fun h1 H1 s1 => (qG hn).2 h1 H1 fun b o hb e => s1 b o hb (sn b o e)⟩⟩
end
end Sw
namespace Sw
open PySem PySem.Spec PyProof.Rows L2 NdefX
abbrev sRise : Stmt := topS 26
abbrev nRise : List Str := ["_law_items", "_law_rows", "_law_item", "_law_row"]
theorem scRise : FnScope nRise ["_law_items"] (defScope sRise) := ⟨rfl, rfl, rfl, by decide +kernel, rfl, by decide +kernel, by decide +kernel⟩
section
variable {P : Program} {w : World} {K : PySem.W.Frag} {mg : Str → Option Value} {base : Heap}
theorem ok_riseS {f : Addr} {fd : FuncData} (F : Fun K "_law_rising" "_law_rising" sRise f fd) (hlen : mg "len" = none) : FnOk P w K mg base CX0 1 f fd ["_law_items"] (spRiseS K) := by
  refine F.ok scRise (fun vs H Q E h => ?_) (fun cdv A outer s H vs Q E hr h => ?_)
  · obtain ⟨a, l, rfl, _⟩ := h
    rfl
  · obtain ⟨a, l, rfl, ha, hl, q⟩ := h
    refine ⟨_, pss_cons (ps_set (i := 1) scRise.nd rfl (Or.inl rfl) (pe_lst pa_nil))
      (pss_cons (ps_for PassesOwn.never rfl (pi_list (pv 0)) (pg_name (i := 2) scRise.nd rfl (Or.inr rfl))
        (pss_one (ps_if (pt_cmpR op_notIn_seq (pv 2) (pv 1) (by rfl))
          (pss_one (ps_expr (pe_bm PySem.F.plainAttrs_list PySem.F.slot_list_insert PySem.F.type_list_insert mt_insert (pv 1) (pa_cons (pe_callB call_len_seq (by rfl) hlen PySem.boot_len (pa_cons
            (pe_lc (own := [("_law_row", 3)]) (g := gName 3) (tt := tTest (tOp (fun x y H Q => ∃ i j, x = .str i ∧ y = .str j ∧ Q (.bl (decide (i.cps.toList < j.cps.toList))) H) (tVar 3) (tVar 2))) rfl scRise.nd (pi_list (pv 1)) (blkOk_by (N := nRise) (sc := defScope sRise) (by decide +kernel)) (fun _ _ _ _ _ => pg_name (i := 3) scRise.nd rfl (Or.inl rfl))
              (fun _ _ _ _ _ => pts_one (pt_cmpR op_lt_str (pv 3) (pv 2) (nomark _))) (fun _ _ _ _ _ => pv 3)) pa_nil)) (pa_cons (pv 2) pa_nil))))) pss_nil)))
      (pss_one (ps_ret (pv 1)))), ?_⟩
    refine ⟨by decide, fun R nR => ?_⟩
    refine ⟨_, rfl, a, rfl, ⟨_, (same_new nR).seq ha⟩, ?_⟩
    refine for_it (wk_list (K := K) (a := a) (l := l) (val := V.str)) (fun i σ Hc => ∃ (x2 : Option V) (us : List Str), σ = [some (.ref a), some (.ref R), x2, none] ∧ Same H Hc ∧ Hc R = some (.lst (us.map V.str)) ∧ AscS us ∧ (∀ z, z ∈ us ↔ z ∈ l.take i) ∧ us.length ≤ i)
      ⟨none, [], rfl, same_new nR, upd_same, .nil, fun z => by simp, Nat.le_refl _⟩ (fun i σ Hc _ ⟨_, _, _, e, _⟩ => e.seq ha) ?_ ?_
    · rintro i x σ Hx Hc hi ⟨x2, us, rfl, sm, hR, as, hm, hul⟩ ⟨rfl, z, hz, rfl⟩
      refine ⟨_, rfl, _, rfl, R, _, rfl, .inl (SqL.of hR), rfl, flat_str us, _, rfl, ?_⟩
      rw [inV_str]
      by_cases hzu : z ∈ us
      · have e : (if true = true then !decide (z ∈ us) else decide (z ∈ us)) = false := by simp [hzu]
        rw [e]
        refine iteF ?_
        refine ⟨_, us, rfl, sm, hR, as, fun y => ?_, by omega⟩
        rw [take_snoc hz, List.mem_append, List.mem_singleton, hm]
        constructor
        · exact .inl
        · rintro (q | q)
          · exact q
          · rw [q]
            exact (hm z).mp hzu
      · have e : (if true = true then !decide (z ∈ us) else decide (z ∈ us)) = true := by simp [hzu]
        rw [e]
        refine iteT ?_
        obtain ⟨i1, i2⟩ := ins_asc (lt := SLt) SLt.irrefl (fun _ _ _ => SLt.trans) SLt.tri us z as hzu
        refine ⟨_, rfl, .inl ⟨rfl, _, SqL.of hR⟩, _, rfl, R, rfl, ⟨_, SqL.of hR⟩, fun D nD => ?_⟩
        have neD : R ≠ D := ne_of_none hR nD
        refine lc_filter (wk_list (K := K) (a := R) (l := us) (val := V.str)) (p := fun u => decide (SLt u z)) (out := V.str) (fun o => SqL.of (by rw [upd_ne neD]; exact hR)) (by omega) (fun _ => rfl) (fun j u acc Q hu hq => ⟨_, rfl, _, rfl, u, z, rfl, rfl, _, rfl, hq⟩) (fun j u acc Q hu _ hq => ⟨_, rfl, hq⟩) ?_
        refine ⟨D, _, rfl, .inl (SqL.of upd_same), _, rfl, ?_⟩
        have smD := sm.trans (same_new (o := .lst ((us.filter fun u => decide (SLt u z)).map V.str)) nD)
        refine ⟨R, _, _, _, rfl, rfl, by rw [upd_ne neD]; exact hR, by rw [List.length_map]; exact small1000 (by omega), Int.natCast_nonneg _, ?_, ?_⟩
        · rw [List.length_map]
          have := List.length_filter_le (fun u => decide (SLt u z)) us
          omega
        · rw [List.length_map, Int.toNat_natCast]
          refine ⟨_, us.take (us.filter fun u => decide (SLt u z)).length ++ [z] ++ us.drop (us.filter fun u => decide (SLt u z)).length, rfl, same_mut smD nR, ?_, i1, fun y => ?_, ?_⟩
          · rw [upd_same]
            simp only [List.map_append, List.map_take, List.map_drop, List.map_cons, List.map_nil]
          · rw [i2, take_snoc hz, List.mem_append, List.mem_singleton, hm]
          · simp only [List.length_append, List.length_take, List.length_drop, List.length_cons, List.length_nil]
            have := List.length_filter_le (fun u => decide (SLt u z)) us
            omega
    · rintro σ Hc ⟨x2, us, rfl, sm, hR, as, hm, hul⟩
      rw [List.take_length] at hm
      exact ⟨_, rfl, q _ R us sm nR hR as hm⟩
theorem ok_riseI {f : Addr} {fd : FuncData} (F : Fun K "_law_rising" "_law_rising" sRise f fd) (hlen : mg "len" = none) : FnOk P w K mg base CX0 1 f fd ["_law_items"] (spRiseI K) := by
  refine F.ok scRise (fun vs H Q E h => ?_) (fun cdv A outer s H vs Q E hr h => ?_)
  · obtain ⟨a, l, rfl, _⟩ := h
    rfl
  · obtain ⟨a, l, rfl, ha, hl, q⟩ := h
    refine ⟨_, pss_cons (ps_set (i := 1) scRise.nd rfl (Or.inl rfl) (pe_lst pa_nil))
      (pss_cons (ps_for PassesOwn.never rfl (pi_list (pv 0)) (pg_name (i := 2) scRise.nd rfl (Or.inr rfl))
        (pss_one (ps_if (pt_cmpR op_notIn_seq (pv 2) (pv 1) (by rfl))
          (pss_one (ps_expr (pe_bm PySem.F.plainAttrs_list PySem.F.slot_list_insert PySem.F.type_list_insert mt_insert (pv 1) (pa_cons (pe_callB call_len_seq (by rfl) hlen PySem.boot_len (pa_cons
            (pe_lc (own := [("_law_row", 3)]) (g := gName 3) (tt := tTest (tOp (rI0 fun i j => .bl (decide (i < j))) (tVar 3) (tVar 2))) rfl scRise.nd (pi_list (pv 1)) (blkOk_by (N := nRise) (sc := defScope sRise) (by decide +kernel)) (fun _ _ _ _ _ => pg_name (i := 3) scRise.nd rfl (Or.inl rfl))
              (fun _ _ _ _ _ => pts_one (pt_cmpR op_lt (pv 3) (pv 2) (nomark _))) (fun _ _ _ _ _ => pv 3)) pa_nil)) (pa_cons (pv 2) pa_nil))))) pss_nil)))
      (pss_one (ps_ret (pv 1)))), ?_⟩
    refine ⟨by decide, fun R nR => ?_⟩
    refine ⟨_, rfl, a, rfl, ⟨_, (same_new nR).seq ha⟩, ?_⟩
    refine for_it (wk_list (K := K) (a := a) (l := l) (val := V.int)) (fun i σ Hc => ∃ (x2 : Option V) (us : List Int), σ = [some (.ref a), some (.ref R), x2, none] ∧ Same H Hc ∧ Hc R = some (.lst (us.map V.int)) ∧ AscI us ∧ (∀ z, z ∈ us ↔ z ∈ l.take i) ∧ us.length ≤ i)
      ⟨none, [], rfl, same_new nR, upd_same, .nil, fun z => by simp, Nat.le_refl _⟩ (fun i σ Hc _ ⟨_, _, _, e, _⟩ => e.seq ha) ?_ ?_
    · rintro i x σ Hx Hc hi ⟨x2, us, rfl, sm, hR, as, hm, hul⟩ ⟨rfl, z, hz, rfl⟩
      refine ⟨_, rfl, _, rfl, R, _, rfl, .inl (SqL.of hR), rfl, flat_int us, _, rfl, ?_⟩
      rw [inV_int]
      by_cases hzu : z ∈ us
      · have e : (if true = true then !decide (z ∈ us) else decide (z ∈ us)) = false := by simp [hzu]
        rw [e]
        refine iteF ?_
        refine ⟨_, us, rfl, sm, hR, as, fun y => ?_, by omega⟩
        rw [take_snoc hz, List.mem_append, List.mem_singleton, hm]
        constructor
        · exact .inl
        · rintro (q | q)
          · exact q
          · rw [q]
            exact (hm z).mp hzu
      · have e : (if true = true then !decide (z ∈ us) else decide (z ∈ us)) = true := by simp [hzu]
        rw [e]
        refine iteT ?_
        obtain ⟨i1, i2⟩ := ins_asc (lt := ILt) (fun x => Int.lt_irrefl x) (fun _ _ _ => Int.lt_trans) (fun x y h n => by have h : ¬ y < x := h; show x < y; omega) us z as hzu
        refine ⟨_, rfl, .inl ⟨rfl, _, SqL.of hR⟩, _, rfl, R, rfl, ⟨_, SqL.of hR⟩, fun D nD => ?_⟩
        have neD : R ≠ D := ne_of_none hR nD
        refine lc_filter (wk_list (K := K) (a := R) (l := us) (val := V.int)) (p := fun u => decide (ILt u z)) (out := V.int) (fun o => SqL.of (by rw [upd_ne neD]; exact hR)) (by omega) (fun _ => rfl) (fun j u acc Q hu hq => ⟨_, rfl, _, rfl, u, z, rfl, rfl, _, rfl, hq⟩) (fun j u acc Q hu _ hq => ⟨_, rfl, hq⟩) ?_
        refine ⟨D, _, rfl, .inl (SqL.of upd_same), _, rfl, ?_⟩
        have smD := sm.trans (same_new (o := .lst ((us.filter fun u => decide (ILt u z)).map V.int)) nD)
        refine ⟨R, _, _, _, rfl, rfl, by rw [upd_ne neD]; exact hR, by rw [List.length_map]; exact small1000 (by omega), Int.natCast_nonneg _, ?_, ?_⟩
        · rw [List.length_map]
          have := List.length_filter_le (fun u => decide (ILt u z)) us
          omega
        · rw [List.length_map, Int.toNat_natCast]
          refine ⟨_, us.take (us.filter fun u => decide (ILt u z)).length ++ [z] ++ us.drop (us.filter fun u => decide (ILt u z)).length, rfl, same_mut smD nR, ?_, i1, fun y => ?_, ?_⟩
          · rw [upd_same]
            simp only [List.map_append, List.map_take, List.map_drop, List.map_cons, List.map_nil]
          · rw [i2, take_snoc hz, List.mem_append, List.mem_singleton, hm]
          · simp only [List.length_append, List.length_take, List.length_drop, List.length_cons, List.length_nil]
            have := List.length_filter_le (fun u => decide (ILt u z)) us
            omega
    · rintro σ Hc ⟨x2, us, rfl, sm, hR, as, hm, hul⟩
      rw [List.take_length] at hm
      exact ⟨_, rfl, q _ R us sm nR hR as hm⟩
end
end Sw
namespace Sw
open PySem PySem.Spec PyProof.Rows L2 NdefX
abbrev sBuild : Stmt := topS 34
abbrev nBuild : List Str := ["_law_tables", "_law_made", "_law_row"]
theorem scBuild : FnScope nBuild ["_law_tables"] (defScope sBuild) := ⟨rfl, rfl, rfl, by decide +kernel, rfl, by decide +kernel, by decide +kernel⟩
section
variable {P : Program} {w : World} {K : PySem.W.Frag} {mg : Str → Option Value} {base : Heap}
theorem ok_build {f CT CS DU DR fB fC : Addr} {fd fdB : FuncData} (F : Fun K "_law_build" "_law_build" sBuild f fd) (hlen : mg "len" = none) (htup : mg "tuple" = none)
    (GB : FnOk P w K mg base CX0 4 fB fdB pTab (spTab K CT)) (MB : Mk K CT fB) (bB : KBn K fdB pTab 3 ["key", "lists", "refers"] (fun us ws => us ++ ws) (fun vs zs => vs ++ zs)) (gT : mg "Table" = some (.ref CT))
    (GC : FnR P w K mg base (L2.CX P w) 3 fC (spSchema K CT CS DU DR)) (MC : Mk K CS fC) (gS : mg "Schema" = some (.ref CS)) :
    FnOk P w K mg base CX0 6 f fd ["_law_tables"] (spBuild K CT CS) := by
  refine F.ok scBuild (fun vs H Q E h => ?_) (fun cdv A outer s H vs Q E hr h => ?_)
  · obtain ⟨a, xs, rows, rfl, _⟩ := h
    rfl
  · obtain ⟨a, xs, rows, rfl, ha, sane, q⟩ := h
    refine ⟨_, pss_cons (ps_set (i := 1) scBuild.nd rfl (Or.inl rfl) (pe_lst pa_nil))
      (pss_cons (ps_for PassesOwn.never rfl (pi_list (pv 0)) (pg_name (i := 2) scBuild.nd rfl (Or.inl rfl))
        (pss_one (ps_expr (pe_bm PySem.F.plainAttrs_list PySem.F.slot_list_append PySem.F.type_list_append mt_append (pv 1) (pa_cons
          (pe_makeK (n := 2) MB GB hr rfl gT bB pass0 (pa_cons (pe_ix ix_list (pv 2) pe_int (fun _ _ => rfl)) (pa_cons (pe_ix ix_list (pv 2) pe_int (fun _ _ => rfl)) pa_nil))
            (pk_cons (pe_callTy call_tuple_of (by rfl) htup bTuple (pa_cons (pe_ix ix_list (pv 2) pe_int (fun _ _ => rfl)) pa_nil)) (pk_cons (pe_ix ix_list (pv 2) pe_int (fun _ _ => rfl)) (pk_cons (pe_callTy call_tuple_of (by rfl) htup bTuple (pa_cons (pe_ix ix_list (pv 2) pe_int (fun _ _ => rfl)) pa_nil)) pk_nil)))) pa_nil)))))
      (pss_cons (ps_if (pt_cmpR op_eq (pe_callB call_len_seq (by rfl) hlen PySem.boot_len (pa_cons (pv 1) pa_nil)) pe_int (nomark _)) (pss_one (ps_ret (StX.pe_makeR MC GC (hr.mono (by decide)) rfl gS passL (pa_cons (pe_ix ix_list (pv 1) pe_int (fun _ _ => rfl)) pa_nil)))) pss_nil)
      (pss_cons (ps_if (pt_cmpR op_eq (pe_callB call_len_seq (by rfl) hlen PySem.boot_len (pa_cons (pv 1) pa_nil)) pe_int (nomark _)) (pss_one (ps_ret (StX.pe_makeR MC GC (hr.mono (by decide)) rfl gS passL (pa_cons (pe_ix ix_list (pv 1) pe_int (fun _ _ => rfl)) (pa_cons (pe_ix ix_list (pv 1) pe_int (fun _ _ => rfl)) pa_nil))))) pss_nil)
      (pss_one (ps_ret (StX.pe_makeR MC GC (hr.mono (by decide)) rfl gS passL (pa_cons (pe_ix ix_list (pv 1) pe_int (fun _ _ => rfl)) (pa_cons (pe_ix ix_list (pv 1) pe_int (fun _ _ => rfl)) (pa_cons (pe_ix ix_list (pv 1) pe_int (fun _ _ => rfl)) pa_nil))))))))), ?_⟩
    refine ⟨by decide, fun M nM => ?_⟩
    have neM : ∀ {b : Addr} {o : HO}, H b = some o → b ≠ M := fun h => ne_of_none h nM
    refine ⟨_, rfl, a, rfl, ⟨_, (same_new nM).seq ha.at_⟩, ?_⟩
    refine for_it (walk_list (K := K) (a := a) (xs := xs)) (fun i σ Hc => ∃ (x2 : Option V) (l : List Tb), σ = [some (.ref a), some (.ref M), x2] ∧ Same H Hc ∧ Hc M = some (.lst (l.map fun t => V.ref t.x)) ∧ l.length = i ∧ ∀ (j : Nat) (t : Tb), l[j]? = some t → ∃ r : Rw, rows[j]? = some r ∧ TbOf K CT Hc t r)
      ⟨none, [], rfl, same_new nM, upd_same, rfl, fun j t e => (by cases e)⟩ (fun i σ Hc _ ⟨_, _, _, e, _⟩ => e.seq ha.at_) ?_ ?_
    · rintro i v σ Hx Hc hi ⟨x2, l, rfl, sm, hM, hll, hl⟩ ⟨rfl, hv⟩
      obtain ⟨r, hr1, hrw⟩ := ha.all i v hv
      obtain ⟨⟨b, k, m, e, vs, rfl, g1, g2, g3, g4, g5⟩, g6⟩ := hrw.same sm
      have n3 := sane.n3
      have hli := ha.len
      refine ⟨_, rfl, .inl ⟨rfl, _, SqL.of hM⟩, ?_⟩
      refine ⟨_, rfl, b, _, _, _, rfl, rfl, g1, atI_nat (j := 0) rfl, _, rfl, b, _, _, _, rfl, rfl, g1, atI_nat (j := 1) rfl, ?_⟩
      refine ⟨_, rfl, b, _, _, _, rfl, rfl, g1, atI_nat (j := 2) rfl, k, _, rfl, .inl ⟨g2, fun kT nkT => ?_⟩⟩
      have s1 := same_new (o := .tup (r.ks.map V.int)) nkT
      refine ⟨_, rfl, b, _, _, _, rfl, rfl, s1.seq g1, atI_nat (j := 3) rfl, ?_⟩
      refine ⟨_, rfl, b, _, _, _, rfl, rfl, s1.seq g1, atI_nat (j := 4) rfl, e, _, rfl, .inl ⟨s1.seq g4, fun eT neT => ?_⟩⟩
      have s2 := same_new (o := .tup vs) neT
      have s12 := s1.trans s2
      refine ⟨rfl, rfl, fun x dx nx ndx ne => ?_⟩
      have s3 : Same _ _ := (same_new (o := .own x) ndx).trans (same_new (o := .ins CT dx []) (by rw [upd_ne ne.symm]; exact nx))
      have hkT := s3 _ _ (s2 _ _ (upd_same (H := Hc) (a := kT) (o := .tup (r.ks.map V.int))))
      have heT := s3 _ _ (upd_same (H := upd Hc kT (.tup (r.ks.map V.int))) (a := eT) (o := .tup vs))
      refine ⟨x, dx, kT, eT, r.nm, r.wd, r.ks, .ref m, r.es, vs, rfl, upd_same, SqT.of hkT, g6, .inr ⟨m, rfl, (g3.same s12).same s3⟩, SqT.of heT, fun H' ks' ts sbx tab hks hal => ⟨rfl, ?_⟩⟩
      have sF : Same _ H' := fun b o h => sbx b o (ne_of_none h nx) (s3 b o h)
      have sF0 := s12.trans sF
      have hM' := sF0 _ _ hM
      have hlv := (g5.same s12).same sF
      refine ⟨M, _, _, rfl, rfl, hM', by rw [List.length_map]; exact small1000 (by omega), _, l ++ [⟨x, r.nm, r.ls.map fun e => e.2.1⟩], rfl, same_mut (sm.trans sF0) nM, ?_, ?_, fun j t hj => ?_⟩
      · rw [upd_same, List.map_append]
        rfl
      · rw [List.length_append, hll]
        rfl
      · by_cases hjl : j < l.length
        · rw [List.getElem?_append_left hjl] at hj
          obtain ⟨r', h1, h2⟩ := hl j t hj
          exact ⟨r', h1, (h2.same sF0).notL (notL_upd hM')⟩
        · have ej : j = l.length := by
            have := (List.getElem?_eq_some_iff.mp hj).1
            rw [List.length_append] at this
            simp at this
            omega
          subst ej
          rw [List.getElem?_append_right (Nat.le_refl _), Nat.sub_self] at hj
          obtain rfl : (⟨x, r.nm, r.ls.map fun e => e.2.1⟩ : Tb) = t := Option.some.inj hj
          refine ⟨r, by rw [hll]; exact hr1, rfl, rfl, ks', ts, vs, tab.notL (notL_upd hM'), hks, hal, hlv.notL (notL_upd hM')⟩
    · rintro σ H1 ⟨x2, l, rfl, sm, hM, hll, hl⟩
      have hlr : l.length = rows.length := by rw [hll, ha.len]
      obtain ⟨kn, nr⟩ := sane.ok l hlr fun i t h => let ⟨r, h1, h2⟩ := hl i t h; ⟨r, h1, h2.nm, h2.zs⟩
      have n3 := sane.n3
      have n1 := sane.n1
      have hnm : l.map Tb.nm = rows.map Rw.nm := by
        refine List.ext_getElem? fun j => ?_
        rw [List.getElem?_map, List.getElem?_map]
        by_cases hj : j < l.length
        · have h1 := List.getElem?_eq_getElem hj
          obtain ⟨r, h2, h3⟩ := hl j _ h1
          rw [h1, h2]
          exact congrArg some h3.nm
        · rw [List.getElem?_eq_none (by omega), List.getElem?_eq_none (by omega)]
          rfl
      have tbs : ∀ t ∈ l, TbAt K CT H1 t := fun t ht => by
        obtain ⟨i, hi⟩ := List.mem_iff_getElem?.mp ht
        obtain ⟨r, _, h2⟩ := hl i t hi
        exact h2.tb
      have zl : ∀ t ∈ l, t.zs.length ≤ 100 := fun t ht => by
        obtain ⟨i, hi⟩ := List.mem_iff_getElem?.mp ht
        obtain ⟨r, h1, h2⟩ := hl i t hi
        rw [h2.zs, List.length_map]
        exact sane.ls r (List.mem_of_getElem? h1)
      have fl : (l.flatMap Tb.zs).length ≤ 1000 := by
        have := flat_len zl
        have : l.length * 100 ≤ 3 * 100 := Nat.mul_le_mul_right _ (by omega)
        omega
      have mk : ∀ x dx, H1 x = none → H1 dx = none → dx ≠ x → spSchema K CT CS DU DR (V.ref x :: l.map fun t => V.ref t.x) (upd (upd H1 dx (.own x)) x (.ins CS dx [])) (fun v H2 => v = .non ∧ Q (.ref x) H2) E0 := fun x dx nx ndx ne =>
        sch_sane kn nr tbs (by rw [hnm]; exact sane.nd) (by omega) fl nx ndx ne fun H' s' sc => ⟨rfl, q H' x l (sm.trans s') (sm.free nx) ⟨sc, hlr, fun i t h => let ⟨r, h1, h2⟩ := hl i t h; ⟨r, h1, h2.same s'⟩⟩⟩
      have hLM : SqL K H1 M (l.map fun t => V.ref t.x) := SqL.of hM
      refine ⟨_, rfl, M, _, rfl, .inl hLM, rfl, _, rfl, ?_⟩
      rw [dec_int, List.length_map]
      refine ite2 (fun c => ?_) (fun c => ?_)
      · have e1 : l.length = 1 := by simp at c; omega
        obtain ⟨t0, rfl⟩ := List.length_eq_one_iff.mp e1
        exact ⟨_, rfl, M, _, _, _, rfl, rfl, hLM, atI_nat (j := 0) rfl, mk⟩
      refine ⟨_, rfl, M, _, rfl, .inl hLM, rfl, _, rfl, ?_⟩
      rw [dec_int, List.length_map]
      refine ite2 (fun c2 => ?_) (fun c2 => ?_)
      · have e1 : l.length = 2 := by simp at c2; omega
        obtain ⟨t0, t1, rfl⟩ := len2 e1
        exact ⟨_, rfl, M, _, _, _, rfl, rfl, hLM, atI_nat (j := 0) rfl, _, rfl, M, _, _, _, rfl, rfl, hLM, atI_nat (j := 1) rfl, mk⟩
      · have e1 : l.length = 3 := by simp at c c2; omega
        obtain ⟨t0, t1, t2, rfl⟩ := len3 e1
        exact ⟨_, rfl, M, _, _, _, rfl, rfl, hLM, atI_nat (j := 0) rfl, _, rfl, M, _, _, _, rfl, rfl, hLM, atI_nat (j := 1) rfl, _, rfl, M, _, _, _, rfl, rfl, hLM, atI_nat (j := 2) rfl, mk⟩
end
end Sw
namespace Sw
open PySem PySem.Spec PyProof.Rows L2 NdefX
abbrev sDealT : Stmt := topS 28
abbrev nDealT : List Str := ["_law_hand", "_law_names", "_law_values", "_law_tables", "_law_name", "_law_width", "_law_unique", "_law_k", "_law_table", "_law_start", "_law_menu", "_law_low", "_law_high", "_law_ends"]
theorem scDealT : FnScope nDealT ["_law_hand", "_law_names", "_law_values"] (defScope sDealT) := ⟨rfl, rfl, rfl, by decide +kernel, rfl, by decide +kernel, by decide +kernel⟩
section
variable {P : Program} {w : World} {K : PySem.W.Frag} {mg : Str → Option Value} {base : Heap}
theorem ok_dealt {f fT fR : Addr} {fd fdT fdR : FuncData} (F : Fun K "_law_deal_tables" "_law_deal_tables" sDealT f fd) (B : Blt mg)
    (GT : FnOk P w K mg base CX0 1 fT fdT ["_law_hand", "_law_many"] spTake) (mT : mg "_law_take" = some (.ref fT)) (kT : PySem.W.keepIn K (.ref fT) = true) (bT : Binds K fdT ["_law_hand", "_law_many"] [])
    (GR : FnOk P w K mg base CX0 1 fR fdR ["_law_items"] (spRiseS K)) (mR : mg "_law_rising" = some (.ref fR)) (kR : PySem.W.keepIn K (.ref fR) = true) (bR : Binds K fdR ["_law_items"] []) :
    FnOk P w K mg base CX0 2 f fd ["_law_hand", "_law_names", "_law_values"] (spDealT K) := by
  refine F.ok scDealT (fun vs H Q E h => ?_) (fun cdv A outer s H vs Q E hr h => ?_)
  · obtain ⟨h, N, Va, ws, vals, rfl, _⟩ := h
    rfl
  · obtain ⟨h, N, Va, ws, vals, rfl, hh, hN, hV, hnd, n1, n3, v5, q⟩ := h
    have hu := hu_of hr
    refine ⟨_, pss_cons (ps_set (i := 3) scDealT.nd rfl (.inl rfl) (pe_lst pa_nil))
      (pss_mid (ps_for PassesOwn.never rfl (pi_list (pv 1)) (pg_name (i := 4) scDealT.nd rfl (.inl rfl))
        (pss_cons (ps_set (i := 5) scDealT.nd rfl (.inl rfl) (pe_ix ix_list (pe_lst (pa_cons pe_int (pa_cons pe_int (pa_cons pe_int (pa_cons pe_int (pa_cons pe_int pa_nil)))))) (pe_call GT hr rfl mT kT bT .nil pass0 (pa_cons (pv 0) (pa_cons pe_int pa_nil))) (fun _ _ => rfl)))
        (pss_cons (ps_set (i := 6) scDealT.nd rfl (.inl rfl) (pe_ix ix_list (pe_lst (pa_cons (pe_lst pa_nil) (pa_cons (pe_lst (pa_cons pe_int pa_nil)) (pa_cons (pe_lst (pa_cons (pe_op op_sub (pv 5) pe_int) pa_nil)) (pa_cons (pe_slice sl_list (pe_lst (pa_cons pe_int (pa_cons pe_int pa_nil))) po_none (po_some (pe_op op_sub (pv 5) pe_int))) pa_nil)))))
          (pe_call GT hr rfl mT kT bT .nil pass0 (pa_cons (pv 0) (pa_cons pe_int pa_nil))) (fun _ _ => rfl)))
        (pss_one (ps_expr (pe_bm PySem.F.plainAttrs_list PySem.F.slot_list_append PySem.F.type_list_append mt_append (pv 3) (pa_cons (pe_lst (pa_cons (pv 4) (pa_cons (pv 5) (pa_cons (pv 6) (pa_cons pe_dnewK (pa_cons (pe_lst pa_nil) pa_nil)))))) pa_nil)))))))
      (pss_mid (ps_for PassesOwn.never rfl (pi_range1 rfl B.range (pa_cons (pe_call GT hr rfl mT kT bT .nil pass0 (pa_cons (pv 0) (pa_cons pe_int pa_nil))) pa_nil)) (pg_name (i := 7) scDealT.nd rfl (.inl rfl))
        (pss_cons (ps_set (i := 8) scDealT.nd rfl (.inl rfl) (pe_ix ix_list (pv 3) (pe_call GT hr rfl mT kT bT .nil pass0 (pa_cons (pv 0) (pa_cons (pe_callB call_len_seq (by rfl) B.len PySem.boot_len (pa_cons (pv 3) pa_nil)) pa_nil))) (fun _ _ => rfl)))
        (pss_cons (ps_set (i := 9) scDealT.nd rfl (.inl rfl) (pe_call GT hr rfl mT kT bT .nil pass0 (pa_cons (pv 0) (pa_cons pe_int pa_nil))))
        (pss_cons (ps_set (i := 10) scDealT.nd rfl (.inl rfl) (pe_slice sl_list (pv 2) (po_some (pv 9)) (po_some (pe_op op_add (pe_op op_add (pv 9) pe_int) (pe_call GT hr rfl mT kT bT .nil pass0 (pa_cons (pv 0) (pa_cons pe_int pa_nil)))))))
        (pss_one (ps_dput hu (pe_ix ix_list (pv 8) pe_int (fun _ _ => rfl)) (pe_call GT hr rfl mT kT bT .nil pass0 (pa_cons (pv 0) (pa_cons (pe_ix ix_list (pv 8) pe_int (fun _ _ => rfl)) pa_nil))) (pe_call GR hr rfl mR kR bR .nil pass0 (pa_cons (pv 10) pa_nil)) rfl))))))
      (pss_mid (ps_for PassesOwn.never rfl (pi_range1 rfl B.range (pa_cons (pe_op op_mul (pe_call GT hr rfl mT kT bT .nil pass0 (pa_cons (pv 0) (pa_cons pe_int pa_nil))) (pe_callTy call_int1 (by rfl) B.int bInt (pa_cons (pe_cmpR op_gt (pe_callB call_len_seq (by rfl) B.len PySem.boot_len (pa_cons (pv 3) pa_nil)) pe_int (nomark _)) pa_nil))) pa_nil)) (pg_name (i := 7) scDealT.nd rfl (.inl rfl))
        (pss_cons (ps_set (i := 11) scDealT.nd rfl (.inl rfl) (pe_call GT hr rfl mT kT bT .nil pass0 (pa_cons (pv 0) (pa_cons (pe_op op_sub (pe_callB call_len_seq (by rfl) B.len PySem.boot_len (pa_cons (pv 3) pa_nil)) pe_int) pa_nil))))
        (pss_cons (ps_set (i := 12) scDealT.nd rfl (.inl rfl) (pe_op op_add (pe_op op_add (pv 11) pe_int) (pe_call GT hr rfl mT kT bT .nil pass0 (pa_cons (pv 0) (pa_cons (pe_op op_sub (pe_op op_sub (pe_callB call_len_seq (by rfl) B.len PySem.boot_len (pa_cons (pv 3) pa_nil)) pe_int) (pv 11)) pa_nil)))))
        (pss_cons (ps_set (i := 13) scDealT.nd rfl (.inl rfl) (pe_tup (pa_cons (pe_call GT hr rfl mT kT bT .nil pass0 (pa_cons (pv 0) (pa_cons (pe_ix ix_list (pe_ix ix_list (pv 3) (pv 11) (fun _ _ => rfl)) pe_int (fun _ _ => rfl)) pa_nil))) (pa_cons (pe_call GT hr rfl mT kT bT .nil pass0 (pa_cons (pv 0) (pa_cons (pe_ix ix_list (pe_ix ix_list (pv 3) (pv 12) (fun _ _ => rfl)) pe_int (fun _ _ => rfl)) pa_nil))) pa_nil))))
        (pss_one (ps_expr (pe_bm PySem.F.plainAttrs_list PySem.F.slot_list_append PySem.F.type_list_append mt_append (pe_ix ix_list (pe_ix ix_list (pv 3) (pv 11) (fun _ _ => rfl)) pe_int (fun _ _ => rfl)) (pa_cons (pe_tup (pa_cons (pe_ix ix_tup (pv 13) pe_int (fun _ _ => rfl)) (pa_cons (pe_ix ix_list (pv 1) (pv 12) (fun _ _ => rfl)) (pa_cons (pe_ix ix_tup (pv 13) pe_int (fun _ _ => rfl)) pa_nil)))) pa_nil))))))))
      (pss_one (ps_ret (pe_step (pv 3) (pe_ix ix_list (pe_lst (pa_cons pe_int (pa_cons (pe_un un_neg pe_int) pa_nil))) (pe_call GT hr rfl mT kT bT .nil pass0 (pa_cons (pv 0) (pa_cons pe_int pa_nil))) (fun _ _ => rfl)))))))), ?_⟩
    refine ⟨by decide, fun T nT => ?_⟩
    have neTh : T ≠ h := hh.ne nT
    have hNh : N ≠ h := hand_short hh (.inl ⟨_, hN, by rw [List.length_map]; omega⟩)
    have hVh : Va ≠ h := hand_short hh (.inl ⟨_, hV, by rw [List.length_map]; omega⟩)
    have s0 := same_new (o := .lst []) nT
    refine ⟨fun σ Hc => ∃ x4 x5 x6 cs rows, σ = [some (.ref h), some (.ref N), some (.ref Va), some (.ref T), x4, x5, x6, none, none, none, none, none, none, none] ∧ HandAt Hc h ∧ SBut h H Hc ∧ Grid K Hc T cs rows ∧ rows.map Rw.nm = ws ∧ (∀ c ∈ cs, H c.m = none ∧ H c.e = none) ∧ ∀ r ∈ rows, RwOwn vals r ∧ r.es = [] ∧ r.ls = [], ?_, ?_⟩
    · refine ⟨_, rfl, N, rfl, ⟨_, SqL.of (s0 _ _ hN)⟩, ?_⟩
      refine for_it (wk_list (K := K) (a := N) (l := ws) (val := V.str)) (fun i σ Hc => ∃ x4 x5 x6 cs rows, σ = [some (.ref h), some (.ref N), some (.ref Va), some (.ref T), x4, x5, x6, none, none, none, none, none, none, none] ∧ HandAt Hc h ∧ SBut h H Hc ∧ Grid K Hc T cs rows ∧ rows.map Rw.nm = ws.take i ∧ rows.length = i ∧ (∀ c ∈ cs, H c.m = none ∧ H c.e = none) ∧ ∀ r ∈ rows, RwOwn vals r ∧ r.es = [] ∧ r.ls = [])
        ⟨none, none, none, [], [], rfl, hh.same s0, Same.sbut s0, ⟨upd_same, rfl, by decide, fun i c r e => (by cases e), fun c hc => (nomatch hc), .nil, .nil, fun c hc => (nomatch hc)⟩, rfl, rfl, fun c hc => (nomatch hc), fun r hr => (nomatch hr)⟩ (fun i σ Hc _ ⟨_, _, _, _, _, _, _, e, _⟩ => SqL.of (e _ _ hNh hN)) ?_ ?_
      · rintro i x σ Hx Hc hi ⟨x4, x5, x6, cs, rows, rfl, hc, sb, g, hnm, hrl, hfr, hro⟩ ⟨rfl, z, hz, rfl⟩
        -- width
        refine ⟨by show 5 ≤ sizeLine; decide, fun L1 nL1 => ?_⟩
        have a1 := same_new (o := .lst [V.int 1, V.int 2, V.int 2, V.int 3, V.int 3]) nL1
        refine ⟨_, rfl, h, 5, rfl, hc.same a1, by decide, fun v H1 v0 v5 hh1 b1 => ?_⟩
        obtain ⟨wd, hwd, w1, w3⟩ := width_of v0 v5
        have neL1 : L1 ≠ h := hc.ne nL1
        refine ⟨L1, _, _, _, rfl, rfl, SqL.of (by rw [b1 _ neL1]; exact upd_same), hwd, ?_⟩
        have g1 := (g.same a1).hand (hc.same a1) b1.sbut
        have sb1 : SBut h H H1 := (sb.trans (Same.sbut a1)).trans b1.sbut
        -- unique
        refine ⟨by decide, fun L2 nL2 => ?_⟩
        have a2 := same_new (o := .lst []) nL2
        refine ⟨by show 1 ≤ sizeLine; decide, fun L3 nL3 => ?_⟩
        have a3 := same_new (o := .lst [V.int 0]) nL3
        refine ⟨_, rfl, _, _, rfl, rfl, by show 1 ≤ sizeLine; decide, fun L4 nL4 => ?_⟩
        have a4 := same_new (o := .lst [V.int (wd - 1)]) nL4
        refine ⟨by show 2 ≤ sizeLine; decide, fun L5 nL5 => ?_⟩
        have a5 := same_new (o := .lst [V.int 0, V.int 1]) nL5
        refine ⟨_, rfl, _, _, rfl, rfl, _, rfl, L5, _, rfl, SqL.of upd_same, fun L6 nL6 => ?_⟩
        obtain ⟨ns6, e6, l6, r6⟩ := cut01 w1 w3
        rw [e6]
        have a6 := same_new (o := .lst (ns6.map V.int)) nL6
        refine ⟨by show 4 ≤ sizeLine; decide, fun L7 nL7 => ?_⟩
        have a7 := same_new (o := .lst [V.ref L2, V.ref L3, V.ref L4, V.ref L6]) nL7
        have a26 := (((a2.trans a3).trans a4).trans a5).trans a6
        have a27 := a26.trans a7
        refine ⟨_, rfl, h, 4, rfl, hh1.same a27, by decide, fun v2 H2 u0 u4 hh2 b2 => ?_⟩
        have neL7 : L7 ≠ h := (hh1.same a26).ne nL7
        have sb12 : SBut h H1 H2 := (Same.sbut a27).trans b2.sbut
        have neL : ∀ {b : Addr} {xs : List V}, upd (upd (upd (upd (upd (upd H1 L2 (.lst [])) L3 (.lst [V.int 0])) L4 (.lst [V.int (wd - 1)])) L5 (.lst [V.int 0, V.int 1])) L6 (.lst (ns6.map V.int))) L7 (.lst [V.ref L2, V.ref L3, V.ref L4, V.ref L6]) b = some (.lst xs) → xs.length ≤ 5 → H2 b = some (.lst xs) := fun {b xs} e l => by
          rw [b2 b (hand_short (hh1.same a27) (.inl ⟨xs, e, l⟩))]
          exact e
        obtain ⟨U, ks, hU, hU2, k3, kr, nU⟩ : ∃ (U : Addr) (ks : List Int), atI [V.ref L2, V.ref L3, V.ref L4, V.ref L6] v2 = some (.ref U) ∧ H2 U = some (.lst (ks.map V.int)) ∧ ks.length ≤ 3 ∧ (∀ k ∈ ks, 0 ≤ k ∧ k < wd) ∧ H1 U = none := by
          rcases at4 (a := V.ref L2) (b := V.ref L3) (c := V.ref L4) (d := V.ref L6) u0 u4 with ⟨_, e⟩ | ⟨_, e⟩ | ⟨_, e⟩ | ⟨_, e⟩
          · exact ⟨L2, [], e, neL (((((a3.trans a4).trans a5).trans a6).trans a7) _ _ upd_same) (by decide), by decide, fun k hk => (nomatch hk), nL2⟩
          · exact ⟨L3, [0], e, neL ((((a4.trans a5).trans a6).trans a7) _ _ upd_same) (by show 1 ≤ 5; decide), by decide, fun k hk => by rw [List.mem_singleton.mp hk]; omega, a2.free nL3⟩
          · exact ⟨L4, [wd - 1], e, neL (((a5.trans a6).trans a7) _ _ upd_same) (by show 1 ≤ 5; decide), by show 1 ≤ 3; decide, fun k hk => by rw [List.mem_singleton.mp hk]; omega, (a2.trans a3).free nL4⟩
          · exact ⟨L6, ns6, e, neL (a7 _ _ upd_same) (by rw [List.length_map]; omega), l6, r6, (((a2.trans a3).trans a4).trans a5).free nL6⟩
        refine ⟨L7, _, _, _, rfl, rfl, SqL.of (neL upd_same (by show 4 ≤ 5; decide)), hU, ?_⟩
        have g2 := (g1.same a27).hand (hh1.same a27) b2.sbut
        -- the new row
        refine ⟨_, rfl, .inl ⟨rfl, _, SqL.of g2.tb⟩, _, rfl, _, rfl, _, rfl, fun d nd => ?_⟩
        have d1 := same_new (o := .dK []) nd
        refine ⟨by decide, fun eA neA => ?_⟩
        have d2 := same_new (o := .lst []) neA
        refine ⟨by show 5 ≤ sizeLine; decide, fun A nA => ?_⟩
        have d3 := same_new (o := .lst [V.str z, V.int wd, V.ref U, V.ref d, V.ref eA]) nA
        have d13 := (d1.trans d2).trans d3
        refine ⟨T, _, _, rfl, rfl, d13 _ _ g2.tb, by rw [List.length_map]; exact small1000 (Nat.le_trans g2.sml (by decide)), ?_⟩
        have cl : CellAt K (upd (upd (upd H2 d (.dK [])) eA (.lst [])) A (.lst [V.str z, V.int wd, V.ref U, V.ref d, V.ref eA])) ⟨A, U, d, eA⟩ ⟨z, wd, ks, [], []⟩ := ⟨upd_same, d13 _ _ hU2, (d2.trans d3) _ _ upd_same, .nil, fun e he => (nomatch he), ⟨[], d3 _ _ upd_same, ⟨rfl, Nat.zero_le _, fun i v e => (by cases e)⟩⟩, k3, Nat.zero_le _, Nat.zero_le _⟩
        have hne : H2 eA = none := d1.free neA
        have hnA : H2 A = none := (d1.trans d2).free nA
        have hin : ∀ c' ∈ cs, (∃ o, H1 c'.e = some o) := fun c' h => by
          obtain ⟨i, hi⟩ := List.mem_iff_getElem?.mp h
          have hr := List.getElem?_eq_getElem (show i < rows.length by rw [← g.len]; exact (List.getElem?_eq_some_iff.mp hi).1)
          obtain ⟨vs, h1, _⟩ := (g1.all i c' _ hi hr).e
          exact ⟨_, h1⟩
        have hcl : cs.length < 3 := by
          have h1 := g.len
          have h2 := n3
          omega
        refine ⟨_, _, _, cs ++ [⟨A, U, d, eA⟩], rows ++ [⟨z, wd, ks, [], []⟩], rfl, ?_, ?_, g2.more hcl d13 cl hne nd ?_ ?_ ?_ ?_ (fun u hu => (nomatch hu)) ?_, ?_, ?_, ?_, ?_⟩
        · refine HandAt.upd ?_ neTh
          exact hh2.same d13
        · exact ((sb1.trans sb12).trans (Same.sbut d13)).mut nT
        · exact ne_of_none hU2 hne
        · intro c' hc' e
          obtain ⟨o, ho⟩ := hin c' hc'
          have e : U = c'.e := e
          rw [← e, nU] at ho
          cases ho
        · exact (ne_of_none g2.tb hnA).symm
        · intro e
          have e : U = T := e
          rw [e, g1.tb] at nU
          cases nU
        · by_cases hr0 : rows = []
          · exact .inl hr0
          · refine .inr fun i c' r' h1 h2 b m => ?_
            cases hcs : cs with
            | nil => rw [hcs] at h1; cases h1
            | cons c0 cr =>
              have tb := g2.tb
              rw [hcs] at tb
              exact mine_T (g2.all i c' r' h1 h2) tb (g2.nT c' (List.mem_of_getElem? h1)) (hro r' (List.mem_of_getElem? h2)).2.1 b m
        · rw [List.map_append, hnm, take_snoc hz]
          rfl
        · rw [List.length_append, hrl]
          rfl
        · intro c' hc'
          rcases List.mem_append.mp hc' with hc' | hc'
          · exact hfr c' hc'
          · rw [List.mem_singleton.mp hc']
            exact ⟨((sb1.trans sb12).free hh2 nd).1, ((sb1.trans sb12).free hh2 hne).1⟩
        · intro r hr
          rcases List.mem_append.mp hr with hr | hr
          · exact hro r hr
          · rw [List.mem_singleton.mp hr]
            exact ⟨⟨⟨w1, w3⟩, ⟨k3, kr⟩, fun e he => (nomatch he)⟩, rfl, rfl⟩
      · rintro σ Hc ⟨x4, x5, x6, cs, rows, rfl, hc, sb, g, hnm, hrl, hfr, hro⟩
        rw [List.take_length] at hnm
        exact ⟨x4, x5, x6, cs, rows, rfl, hc, sb, g, hnm, hfr, hro⟩
    rintro σ1 H1 ⟨x4, x5, x6, cs, rows, rfl, hh1, sb1, g1, hnm1, hfr, hro1⟩
    have csl : cs.length = ws.length := by
      rw [g1.len, ← hnm1, List.length_map]
    have sum0 : ∀ (f : Rw → Nat) (rows : List Rw), (∀ r ∈ rows, f r = 0) → (rows.map f).sum = 0 := by
      intro f rows hz
      induction rows with
      | nil => rfl
      | cons r l ih =>
        show f r + (l.map f).sum = 0
        rw [hz r List.mem_cons_self, ih fun x hx => hz x (List.mem_cons_of_mem _ hx)]
    refine ⟨fun σ Hc => ∃ x7 x8 x9 x10 rows, σ = [some (.ref h), some (.ref N), some (.ref Va), some (.ref T), x4, x5, x6, x7, x8, x9, x10, none, none, none] ∧ HandAt Hc h ∧ SBut h H Hc ∧ Grid K Hc T cs rows ∧ rows.map Rw.nm = ws ∧ (∀ r ∈ rows, RwOwn vals r ∧ r.ls = []) ∧ (rows.map fun r => r.es.length).sum ≤ 2, ?_, ?_⟩
    · refine ⟨_, rfl, h, 3, rfl, hh1, by decide, fun v H2 v0 v3 hh2 b2 => ?_⟩
      have g2 := g1.hand hh1 b2.sbut
      have sb2 := sb1.trans b2.sbut
      refine ⟨v, rfl, by omega, by omega, ?_⟩
      refine for_it (walk_range (lo := 0) (n := v.toNat)) (fun i σ Hc => ∃ x7 x8 x9 x10 rows, σ = [some (.ref h), some (.ref N), some (.ref Va), some (.ref T), x4, x5, x6, x7, x8, x9, x10, none, none, none] ∧ HandAt Hc h ∧ SBut h H Hc ∧ Grid K Hc T cs rows ∧ rows.map Rw.nm = ws ∧ (∀ r ∈ rows, RwOwn vals r ∧ r.ls = []) ∧ (rows.map fun r => r.es.length).sum ≤ i)
        ⟨none, none, none, none, rows, rfl, hh2, sb2, g2, hnm1, fun r hr => ⟨(hro1 r hr).1, (hro1 r hr).2.2⟩, Nat.le_of_eq (sum0 _ _ fun r hr => by rw [(hro1 r hr).2.1]; rfl)⟩ (fun _ _ _ _ _ => trivial) ?_ ?_
      · rintro i x σ Hx Hc hi ⟨x7, x8, x9, x10, rows, rfl, hc, sb, g, hnm, hro, hsum⟩ ⟨rfl, rfl⟩
        have lenT : SqL K Hc T (cs.map fun c => V.ref c.a) := SqL.of g.tb
        refine ⟨_, rfl, _, rfl, _, rfl, T, _, rfl, .inl lenT, h, _, rfl, hc, by rw [List.length_map]; omega, fun ti H3 t0 t3 hh3 b3 => ?_⟩
        rw [List.length_map] at t3
        obtain ⟨n, rfl⟩ := Int.eq_ofNat_of_zero_le t0
        have hn : n < cs.length := Int.ofNat_lt.mp t3
        obtain ⟨c, hcn⟩ : ∃ c, cs[n]? = some c := ⟨_, List.getElem?_eq_getElem hn⟩
        obtain ⟨r, hrn⟩ : ∃ r, rows[n]? = some r := ⟨_, List.getElem?_eq_getElem (show n < rows.length by rw [← g.len]; exact hn)⟩
        have g3 := g.hand hc b3.sbut
        have sb3 := sb.trans b3.sbut
        refine ⟨T, _, _, _, rfl, rfl, SqL.of g3.tb, atI_nat (j := n) (by rw [List.getElem?_map, hcn]; rfl), ?_⟩
        refine ⟨_, rfl, h, 3, rfl, hh3, by decide, fun st H4 s0' s3' hh4 b4 => ?_⟩
        have g4 := g3.hand hh3 b4.sbut
        have sb4 := sb3.trans b4.sbut
        refine ⟨_, rfl, _, rfl, _, rfl, _, rfl, _, _, rfl, rfl, _, rfl, h, 3, rfl, hh4, by decide, fun u H5 u0 u3 hh5 b5 => ?_⟩
        have g5 := g4.hand hh4 b5.sbut
        have sb5 := sb4.trans b5.sbut
        refine ⟨_, _, rfl, rfl, _, rfl, Va, _, rfl, SqL.of (sb5 _ _ hVh hV), fun Mn nMn => ?_⟩
        obtain ⟨ms, ems, ms0, ms3, msv⟩ := cut_menu v5 s0' s3' u0 u3
        rw [ems]
        have a6 := same_new (o := .lst (ms.map V.str)) nMn
        have g6 := g5.same a6
        have hh6 := hh5.same a6
        -- rising
        refine ⟨_, rfl, Mn, ms, rfl, SqL.of upd_same, by omega, fun H7 R us s7 nR hR as hm => ?_⟩
        have g7 := g6.same s7
        have hh7 := hh6.same s7
        have cl7 := g7.all n c r hcn hrn
        refine ⟨_, rfl, c.a, _, _, _, rfl, rfl, SqL.of cl7.a, atI_nat (j := 3) rfl, ?_⟩
        have own := hro r (List.mem_of_getElem? hrn)
        refine ⟨_, rfl, _, rfl, c.a, _, _, _, rfl, rfl, SqL.of cl7.a, atI_nat (j := 1) rfl, h, r.wd, rfl, hh7, by have := own.1.wd.1; omega, fun col H8 c0 c3 hh8 b8 => ?_⟩
        have g8 := g7.hand hh7 b8.sbut
        have cl8 := g8.all n c r hcn hrn
        have sb8 : SBut h H H8 := (sb5.trans (Same.sbut (a6.trans s7))).trans b8.sbut
        have el1 : r.es.length ≤ 1 := by
          have h1 := le_sum (fun r : Rw => r.es.length) (List.mem_of_getElem? hrn)
          have h2 : r.es.length ≤ (rows.map fun r => r.es.length).sum := h1
          omega
        have neR : R ≠ h := hand_short hh7 (.inl ⟨_, hR, by rw [List.length_map]; exact Nat.le_trans (asc_sub as hm ms3) (by decide)⟩)
        have hR8 : H8 R = some (.lst (us.map V.str)) := by rw [b8 R neR]; exact hR
        have us3 : us.length ≤ 3 := asc_sub as hm ms3
        refine ⟨c.m, _, rfl, DPut.k (k := Sum.inl col) cl8.m (by rw [List.length_map]; exact small1000 (by omega)), ?_⟩
        rw [putE_kv r.es _ R us]
        have sbm : SBut c.m H8 (upd H8 c.m (.dK ((putE r.es (Sum.inl col) R us).map fun e => (e.1, V.ref e.2.1)))) := fun b o hb e => by rw [upd_ne hb]; exact e
        have tm : ∃ o, H8 c.m = some o ∧ (∀ ys, o ≠ .tup ys) ∧ ∀ u ys, o ≠ .frz u (.tup ys) := ⟨_, cl8.m, fun ys z => (nomatch z), fun u ys z => (nomatch z)⟩
        have nl : ∀ {b : Addr} {xs : List V}, H8 b = some (.lst xs) → b ≠ c.m := fun e => ne_of e cl8.m (fun z => nomatch z)
        have cl9 : CellAt K (upd H8 c.m (.dK ((putE r.es (Sum.inl col) R us).map fun e => (e.1, V.ref e.2.1)))) c { r with es := putE r.es (Sum.inl col) R us } := by
          obtain ⟨vs, e1, e2⟩ := cl8.e
          refine ⟨sbm _ _ (nl cl8.a) cl8.a, sbm _ _ (nl cl8.k) cl8.k, upd_same, putE_nd cl8.mn _ _ _, fun e he => ?_, ⟨vs, sbm _ _ (nl e1) e1, e2.sbut sbm tm⟩, cl8.kl, Nat.le_trans (putE_len _ _ _ _) (by omega), cl8.ll⟩
          rcases putE_mem he with rfl | he
          · exact ⟨sbm _ _ (nl hR8) hR8, asc_ne hm ms0, us3⟩
          · exact ⟨sbm _ _ (nl (cl8.me e he).1) (cl8.me e he).1, (cl8.me e he).2⟩
        have g9 := g8.chg hcn sbm cl9 (nl g8.tb) tm fun j c1 r1 hj h1 h2 b mb => by
          have x1 := g8.all j c1 r1 h1 h2
          rcases mb with rfl | rfl | rfl | rfl | ⟨e, he, rfl⟩
          · exact nl x1.a
          · exact nl x1.k
          · exact fun z => hj (idx_inj g8.nM h1 hcn z)
          · obtain ⟨vs, e1, _⟩ := x1.e
            exact nl e1
          · exact nl (x1.me e he).1
        refine ⟨_, _, _, _, rows.set n { r with es := putE r.es (Sum.inl col) R us }, rfl, hh8.upd (hand_short hh8 (.inr ⟨_, cl8.m⟩)), fun b o hb e => ?_, g9, ?_, fun r1 hr1 => ?_, ?_⟩
        · refine sbm _ _ (fun z => ?_) (sb8 b o hb e)
          rw [z, (hfr c (List.mem_of_getElem? hcn)).1] at e
          cases e
        · exact (map_set Rw.nm (b := { r with es := putE r.es (Sum.inl col) R us }) hrn rfl).trans hnm
        · rcases mem_set hr1 with rfl | hr1
          · refine ⟨⟨own.1.wd, own.1.ks, fun e he => ?_⟩, own.2⟩
            rcases putE_mem he with rfl | he
            · exact ⟨⟨col, rfl, c0, c3⟩, as, asc_ne hm ms0, us3, fun z hz => msv z ((hm z).mp hz)⟩
            · exact own.1.es e he
          · exact hro r1 hr1
        · exact Nat.le_trans (sum_set (fun r : Rw => r.es.length) hrn (putE_len _ _ _ _)) (by omega)
      · rintro σ Hc ⟨x7, x8, x9, x10, rows, rfl, hc, sb, g, hnm, hro, hsum⟩
        exact ⟨x7, x8, x9, x10, rows, rfl, hc, sb, g, hnm, hro, by omega⟩
    rintro σ2 H2 ⟨x7, x8, x9, x10, rows2, rfl, hh2, sb2, g2, hnm2, hro2, hsum2⟩
    refine ⟨fun σ Hc => ∃ x7 x11 x12 x13 rows, σ = [some (.ref h), some (.ref N), some (.ref Va), some (.ref T), x4, x5, x6, x7, x8, x9, x10, x11, x12, x13] ∧ HandAt Hc h ∧ SBut h H Hc ∧ Grid K Hc T cs rows ∧ Dealt ws vals rows, ?_, ?_⟩
    · refine ⟨_, rfl, h, 3, rfl, hh2, by decide, fun v H3 v0 v3 hh3 b3 => ?_⟩
      have g3 := g2.hand hh2 b3.sbut
      have sb3 := sb2.trans b3.sbut
      refine ⟨_, rfl, T, _, rfl, .inl (SqL.of g3.tb), _, _, rfl, rfl, .inr ⟨_, rfl, _, _, rfl, rfl, .inl ⟨by omega, by omega⟩, ?_⟩⟩
      obtain ⟨jj, hjj, j0, j2, jl⟩ : ∃ jj : Int, v * (if decide ((1 : Int) < (((cs.map fun c => V.ref c.a).length : Nat) : Int)) = true then 1 else 0) = jj ∧ 0 ≤ jj ∧ jj ≤ 2 ∧ (0 < jj → 1 < cs.length) := by
        refine ⟨_, rfl, ?_⟩
        rw [List.length_map]
        by_cases c1 : (1 : Int) < (cs.length : Int)
        · rw [decide_eq_true c1, if_pos rfl]
          exact ⟨by omega, by omega, fun _ => by omega⟩
        · rw [decide_eq_false c1, if_neg Bool.false_ne_true]
          exact ⟨by omega, by omega, fun z => by omega⟩
      refine ⟨jj, congrArg (fun i => [V.int i]) hjj, by omega, by omega, ?_⟩
      refine for_it (walk_range (lo := 0) (n := jj.toNat)) (fun i σ Hc => ∃ x7 x11 x12 x13 rows, σ = [some (.ref h), some (.ref N), some (.ref Va), some (.ref T), x4, x5, x6, x7, x8, x9, x10, x11, x12, x13] ∧ HandAt Hc h ∧ SBut h H Hc ∧ Grid K Hc T cs rows ∧ rows.map Rw.nm = ws ∧ (∀ r ∈ rows, RwOwn vals r) ∧ (rows.map fun r => r.es.length).sum ≤ 2 ∧ (∀ (i : Nat) (r : Rw), rows[i]? = some r → ∀ e ∈ r.ls, LdOk ws (rows.map Rw.wd) i e) ∧ (rows.map fun r => r.ls.length).sum ≤ i)
        ⟨x7, none, none, none, rows2, rfl, hh3, sb3, g3, hnm2, fun r hr => (hro2 r hr).1, hsum2, fun i r hr e he => (by rw [(hro2 r (List.mem_of_getElem? hr)).2] at he; cases he), Nat.le_of_eq (sum0 _ _ fun r hr => by rw [(hro2 r hr).2]; rfl)⟩ (fun _ _ _ _ _ => trivial) ?_ ?_
      · rintro i x σ Hx Hc hi ⟨x7, x11, x12, x13, rows, rfl, hc, sb, g, hnm, hro, hes, hld, hsum⟩ ⟨rfl, rfl⟩
        have len2 : 1 < cs.length := jl (by omega)
        have lenT : SqL K Hc T (cs.map fun c => V.ref c.a) := SqL.of g.tb
        -- low
        refine ⟨_, rfl, _, rfl, T, _, rfl, .inl lenT, _, _, rfl, rfl, h, _, rfl, hc, by rw [List.length_map]; omega, fun lo H4 l0 l3 hh4 b4 => ?_⟩
        rw [List.length_map] at l3
        obtain ⟨n, rfl⟩ := Int.eq_ofNat_of_zero_le l0
        have hn : n + 1 < cs.length := by omega
        have g4 := g.hand hc b4.sbut
        have sb4 := sb.trans b4.sbut
        -- high
        refine ⟨_, rfl, _, _, rfl, rfl, _, rfl, _, rfl, T, _, rfl, .inl (SqL.of g4.tb), _, _, rfl, rfl, _, rfl, _, _, rfl, rfl, h, _, rfl, hh4, by rw [List.length_map]; omega, fun u H5 u0 u3 hh5 b5 => ?_⟩
        rw [List.length_map] at u3
        obtain ⟨m, rfl⟩ := Int.eq_ofNat_of_zero_le u0
        have hm : n + 1 + m < cs.length := by omega
        have g5 := g4.hand hh4 b5.sbut
        have sb5 := sb4.trans b5.sbut
        refine ⟨_, _, rfl, rfl, ?_⟩
        have rl : rows.length = cs.length := g.len.symm
        obtain ⟨c, hcn⟩ : ∃ c, cs[n]? = some c := ⟨_, List.getElem?_eq_getElem (by omega)⟩
        obtain ⟨r, hrn⟩ : ∃ r, rows[n]? = some r := ⟨_, List.getElem?_eq_getElem (by omega)⟩
        obtain ⟨cH, hcH⟩ : ∃ c, cs[n + 1 + m]? = some c := ⟨_, List.getElem?_eq_getElem hm⟩
        obtain ⟨rH, hrH⟩ : ∃ r, rows[n + 1 + m]? = some r := ⟨_, List.getElem?_eq_getElem (by omega)⟩
        have own := hro r (List.mem_of_getElem? hrn)
        have ownH := hro rH (List.mem_of_getElem? hrH)
        have tat : ∀ (j : Nat) (c : Cell), cs[j]? = some c → atI (cs.map fun c => V.ref c.a) (j : Int) = some (.ref c.a) := fun j c h => atI_nat (by rw [List.getElem?_map, h]; rfl)
        have hdv : ((n : Int) + 1 + (m : Int)) = ((n + 1 + m : Nat) : Int) := rfl
        -- the ends
        refine ⟨_, rfl, _, rfl, _, rfl, T, _, _, _, rfl, rfl, SqL.of g5.tb, tat n c hcn, c.a, _, _, _, rfl, rfl, SqL.of (g5.all n c r hcn hrn).a, atI_nat (j := 1) rfl, h, r.wd, rfl, hh5, by have := own.wd.1; omega, fun ea H6 a0 a3 hh6 b6 => ?_⟩
        have g6 := g5.hand hh5 b6.sbut
        have sb6 := sb5.trans b6.sbut
        refine ⟨_, rfl, _, rfl, _, rfl, T, _, _, _, rfl, rfl, SqL.of g6.tb, tat (n + 1 + m) cH hcH, cH.a, _, _, _, rfl, rfl, SqL.of (g6.all _ cH rH hcH hrH).a, atI_nat (j := 1) rfl, h, rH.wd, rfl, hh6, by have := ownH.wd.1; omega, fun eb H7 e0 e3 hh7 b7 => ?_⟩
        have g7 := g6.hand hh6 b7.sbut
        have sb7 := sb6.trans b7.sbut
        refine ⟨by show 2 ≤ sizeLine; decide, fun Tp nTp => ?_⟩
        have a8 := same_new (o := .tup [V.int ea, V.int eb]) nTp
        have g8 := g7.same a8
        have hh8 := hh7.same a8
        have sb8 := sb7.trans (Same.sbut a8)
        obtain ⟨vs, hvs, hlv⟩ := (g8.all n c r hcn hrn).e
        -- append
        refine ⟨_, rfl, _, rfl, T, _, _, _, rfl, rfl, SqL.of g8.tb, tat n c hcn, c.a, _, _, _, rfl, rfl, SqL.of (g8.all n c r hcn hrn).a, atI_nat (j := 4) rfl, .inl ⟨rfl, _, SqL.of hvs⟩, ?_⟩
        obtain ⟨nmH, hnmH⟩ : ∃ z, ws[n + 1 + m]? = some z := ⟨_, List.getElem?_eq_getElem (by omega)⟩
        refine ⟨_, rfl, Tp, _, _, _, rfl, rfl, SqT.of upd_same, atI_nat (j := 0) rfl, ?_⟩
        refine ⟨_, rfl, _, rfl, N, _, _, _, rfl, rfl, SqL.of (sb8 _ _ hNh hN), atI_nat (j := n + 1 + m) (by rw [List.getElem?_map, hnmH]; rfl), ?_⟩
        refine ⟨_, rfl, Tp, _, _, _, rfl, rfl, SqT.of upd_same, atI_nat (j := 1) rfl, by show 3 ≤ sizeLine; decide, fun Tq nTq => ?_⟩
        have a9 := same_new (o := .tup [V.int ea, V.str nmH, V.int eb]) nTq
        have g9 := g8.same a9
        have hh9 := hh8.same a9
        have sb9 := sb8.trans (Same.sbut a9)
        have hv9 := a9 _ _ hvs
        have hl9 := hlv.same a9
        have ll1 : r.ls.length ≤ 1 := by
          have h1 := le_sum (fun r : Rw => r.ls.length) (List.mem_of_getElem? hrn)
          have h2 : r.ls.length ≤ (rows.map fun r => r.ls.length).sum := h1
          omega
        refine ⟨c.e, vs, _, rfl, rfl, hv9, by rw [hlv.len]; exact small1000 (by omega), ?_⟩
        obtain ⟨H9, hH9⟩ : ∃ H9, upd (upd H7 Tp (.tup [V.int ea, V.int eb])) Tq (.tup [V.int ea, V.str nmH, V.int eb]) = H9 := ⟨_, rfl⟩
        have hTq : H9 Tq = some (.tup [V.int ea, V.str nmH, V.int eb]) := by rw [← hH9]; exact upd_same
        rw [hH9] at g9 hh9 hv9 hl9 sb9 ⊢
        have sbe : SBut c.e H9 (upd H9 c.e (.lst (vs ++ [.ref Tq]))) := fun b o hb e => by rw [upd_ne hb]; exact e
        have te : ∃ o, H9 c.e = some o ∧ (∀ ys, o ≠ .tup ys) ∧ ∀ u ys, o ≠ .frz u (.tup ys) := ⟨_, hv9, fun ys z => (nomatch z), fun u ys z => (nomatch z)⟩
        have cl := g9.all n c r hcn hrn
        have hmem := List.mem_of_getElem? hcn
        have cl10 : CellAt K (upd H9 c.e (.lst (vs ++ [.ref Tq]))) c { r with ls := r.ls ++ [(ea, nmH, eb)] } := by
          refine ⟨sbe _ _ (lead_ne hl9 cl.a hv9 rfl) cl.a, sbe _ _ (g9.ke c hmem c hmem) cl.k, sbe _ _ (ne_of cl.m hv9 (fun z => nomatch z)) cl.m, cl.mn, fun e he => ?_, ⟨_, upd_same, ?_⟩, cl.kl, cl.el, ?_⟩
          · obtain ⟨z, hz⟩ := strs_head (cl.me e he).2.1
            exact ⟨sbe _ _ (lead_ne hl9 (cl.me e he).1 hv9 hz) (cl.me e he).1, (cl.me e he).2⟩
          · exact (hl9.sbut sbe te).snoc (sbe.seqT (SqT.of hTq) te) (by omega)
          · rw [List.length_append]
            show r.ls.length + 1 ≤ 2
            omega
        have g10 := g9.chg hcn sbe cl10 (g9.nT c hmem) te fun j c1 r1 hj h1 h2 b mb => by
          have x1 := g9.all j c1 r1 h1 h2
          rcases mb with rfl | rfl | rfl | rfl | ⟨e, he, rfl⟩
          · exact lead_ne hl9 x1.a hv9 rfl
          · exact g9.ke c1 (List.mem_of_getElem? h1) c hmem
          · exact ne_of x1.m hv9 (fun z => nomatch z)
          · exact fun z => hj (idx_inj g9.nE h1 hcn z)
          · obtain ⟨z, hz⟩ := strs_head (x1.me e he).2.1
            exact lead_ne hl9 (x1.me e he).1 hv9 hz
        have hwds : (rows.set n { r with ls := r.ls ++ [(ea, nmH, eb)] }).map Rw.wd = rows.map Rw.wd := map_set Rw.wd (b := { r with ls := r.ls ++ [(ea, nmH, eb)] }) hrn rfl
        refine ⟨_, _, _, _, rows.set n { r with ls := r.ls ++ [(ea, nmH, eb)] }, rfl, hh9.upd (hand_short hh9 (.inl ⟨_, hv9, by rw [hl9.len]; omega⟩)), fun b o hb e => ?_, g10, ?_, fun r1 hr1 => ?_, ?_, fun j r1 hj e he => ?_, ?_⟩
        · refine sbe _ _ (fun z => ?_) (sb9 b o hb e)
          rw [z, (hfr c hmem).2] at e
          cases e
        · exact (map_set Rw.nm (b := { r with ls := r.ls ++ [(ea, nmH, eb)] }) hrn rfl).trans hnm
        · rcases mem_set hr1 with rfl | hr1
          · exact ⟨own.wd, own.ks, own.es⟩
          · exact hro r1 hr1
        · have e1 := map_set (fun r : Rw => r.es.length) (b := { r with ls := r.ls ++ [(ea, nmH, eb)] }) hrn rfl
          have e2 : ((rows.set n { r with ls := r.ls ++ [(ea, nmH, eb)] }).map fun r => r.es.length) = rows.map fun r => r.es.length := e1
          rw [e2]
          exact hes
        · rw [hwds]
          by_cases hjn : n = j
          · subst hjn
            rw [List.getElem?_set_self (by omega)] at hj
            obtain rfl := Option.some.inj hj
            rcases List.mem_append.mp he with he | he
            · exact hld n r hrn e he
            · rw [List.mem_singleton.mp he]
              exact ⟨n + 1 + m, r.wd, rH.wd, by omega, by rw [List.getElem?_map, hrn]; rfl, by rw [List.getElem?_map, hrH]; rfl, hnmH, a0, a3, e0, e3⟩
          · rw [List.getElem?_set_ne hjn] at hj
            exact hld j r1 hj e he
        · exact Nat.le_trans (sum_set (fun r : Rw => r.ls.length) hrn (by show (r.ls ++ _).length ≤ _; rw [List.length_append]; exact Nat.le_refl _)) (by omega)
      · rintro σ Hc ⟨x7, x11, x12, x13, rows, rfl, hc, sb, g, hnm, hro, hes, hld, hsum⟩
        exact ⟨x7, x11, x12, x13, rows, rfl, hc, sb, g, ⟨hnm, hro, hld, hes, by omega⟩⟩
    rintro σ3 H3 ⟨x7, x11, x12, x13, rows, rfl, hh3, sb3, g3, dl⟩
    refine ⟨_, rfl, 1, rfl, by show 2 ≤ sizeLine; decide, fun L nL => ?_⟩
    have a4 := same_new (o := .lst [V.int 1, V.int (-1)]) nL
    refine ⟨_, rfl, h, 2, rfl, hh3.same a4, by decide, fun v H5 v0 v2 hh5 b5 => ?_⟩
    have neL : L ≠ h := hh3.ne nL
    have g5 := (g3.same a4).hand (hh3.same a4) b5.sbut
    have sb5 : SBut h H H5 := (sb3.trans (Same.sbut a4)).trans b5.sbut
    have hL5 : H5 L = some (.lst [V.int 1, V.int (-1)]) := by rw [b5 L neL]; exact upd_same
    have hv : v = 0 ∨ v = 1 := by omega
    rcases hv with rfl | rfl
    · refine ⟨L, _, _, _, rfl, rfl, SqL.of hL5, atI_nat (j := 0) rfl, 1, rfl, T, _, rfl, SqL.of g5.tb, .inl ⟨rfl, fun p np => ?_⟩⟩
      have a6 := same_new (o := .lst (cs.map fun c => V.ref c.a)) np
      obtain ⟨np0, nph⟩ := sb5.free hh5 np
      exact q _ p _ rows (hh5.same a6) (sb5.trans (Same.sbut a6)) np0 nph upd_same (.inl ⟨(g5.same a6).rows (SqL.of upd_same), dl⟩)
    · refine ⟨L, _, _, _, rfl, rfl, SqL.of hL5, atI_nat (j := 1) rfl, -1, rfl, T, _, rfl, SqL.of g5.tb, .inr ⟨rfl, fun p np => ?_⟩⟩
      have a6 := same_new (o := .lst (cs.map fun c => V.ref c.a).reverse) np
      obtain ⟨np0, nph⟩ := sb5.free hh5 np
      exact q _ p _ rows (hh5.same a6) (sb5.trans (Same.sbut a6)) np0 nph upd_same (.inr ⟨((g5.same a6).rows (SqL.of (g5.same a6).tb)).rev (SqL.of upd_same), dl⟩)
end
end Sw
namespace Sw
open PySem PySem.Spec PyProof.Rows L2 NdefX
abbrev sFind : Stmt := topS 27
abbrev nFind : List Str := ["_law_tables", "_law_name", "_law_table"]
theorem scFind : FnScope nFind ["_law_tables", "_law_name"] (defScope sFind) := ⟨rfl, rfl, rfl, by decide +kernel, rfl, by decide +kernel, by decide +kernel⟩
abbrev sCost : Stmt := topS 29
abbrev nCost : List Str := ["_law_tables", "_law_name", "_law_table", "_law_lead"]
theorem scCost : FnScope nCost ["_law_tables", "_law_name"] (defScope sCost) := ⟨rfl, rfl, rfl, by decide +kernel, rfl, by decide +kernel, by decide +kernel⟩
section
variable {P : Program} {w : World} {K : PySem.W.Frag} {mg : Str → Option Value} {base : Heap}
theorem ok_find {f : Addr} {fd : FuncData} (F : Fun K "_law_find" "_law_find" sFind f fd) : FnOk P w K mg base CX0 1 f fd ["_law_tables", "_law_name"] (spFind K) := by
  refine F.ok scFind (fun vs H Q E h => ?_) (fun cdv A outer s H vs Q E hr h => ?_)
  · obtain ⟨a, z, xs, rows, rfl, _⟩ := h
    rfl
  · obtain ⟨a, z, xs, rows, rfl, ha, hl, hz, q⟩ := h
    refine ⟨_, pss_one (ps_ret (pe_ix ix_list (pe_lc (own := [("_law_table", 2)]) (g := gName 2) (tt := tTest (tOp rEq (tOp (rIxL K) (tVar 2) (tC (.int 0))) (tVar 1))) rfl scFind.nd (pi_list (pv 0)) (blkOk_by (N := nFind) (sc := defScope sFind) (by decide +kernel)) (fun _ _ _ _ _ => pg_name (i := 2) scFind.nd rfl (Or.inl rfl))
      (fun _ _ _ _ _ => pts_one (pt_cmpR op_eq (pe_ix ix_list (pv 2) pe_int (fun _ _ => rfl)) (pv 1) (nomark _))) (fun _ _ _ _ _ => pv 2)) pe_int (fun _ _ => rfl))), ?_⟩
    have hzx : (xs.zip rows).map Prod.fst = xs := zip_fst ha.len
    refine ⟨_, rfl, a, rfl, ⟨_, ha.at_⟩, fun D nD => ?_⟩
    refine lc_filter (wk_list (K := K) (a := a) (l := xs.zip rows) (val := Prod.fst)) (p := fun u => decide (V.str u.2.nm = V.str z)) (out := Prod.fst) (fun o => by rw [hzx]; exact (same_new nD).seq ha.at_) (by rw [List.length_zip]; omega) (fun _ => rfl) (fun i u acc Q hu hq => ?_) (fun i u acc Q hu _ hq => ⟨_, rfl, hq⟩) ?_
    · obtain ⟨h1, h2⟩ := zip_at hu
      obtain ⟨r, h3, ⟨b, k, m, e, vs, eb, g1, _⟩, _⟩ := ha.all i u.1 h1
      rw [h2] at h3
      obtain rfl := Option.some.inj h3
      exact ⟨_, rfl, b, _, _, _, congrArg (fun v => v) eb, rfl, (same_new nD).seq g1, atI_nat (j := 0) rfl, _, rfl, rfl, _, rfl, hq⟩
    · obtain ⟨r, hr, hrn⟩ := List.mem_map.mp hz
      obtain ⟨i, hi⟩ := List.mem_iff_getElem?.mp hr
      have hx := List.getElem?_eq_getElem (show i < xs.length by rw [ha.len]; exact (List.getElem?_eq_some_iff.mp hi).1)
      have hin : (xs[i]'(by rw [ha.len]; exact (List.getElem?_eq_some_iff.mp hi).1), r) ∈ (xs.zip rows).filter fun u => decide (V.str u.2.nm = V.str z) := by
        refine List.mem_filter.mpr ⟨List.mem_of_getElem? (i := i) (List.getElem?_zip_eq_some.mpr ⟨hx, hi⟩), ?_⟩
        show decide (V.str r.nm = V.str z) = true
        rw [hrn]
        exact decide_eq_true rfl
      cases hf : (xs.zip rows).filter fun u => decide (V.str u.2.nm = V.str z) with
      | nil => rw [hf] at hin; cases hin
      | cons u rest =>
        have hu : u ∈ (xs.zip rows).filter fun u => decide (V.str u.2.nm = V.str z) := by rw [hf]; exact List.mem_cons_self
        obtain ⟨h1, h2⟩ := List.mem_filter.mp hu
        obtain ⟨j, hj⟩ := List.mem_iff_getElem?.mp h1
        obtain ⟨h3, h4⟩ := zip_at hj
        exact ⟨D, _, _, _, rfl, rfl, SqL.of upd_same, atI_nat (j := 0) rfl, q _ j u.1 u.2 (same_new nD) h3 h4 (V.str.inj (of_decide_eq_true h2))⟩
theorem ok_cost {f fF : Addr} {fd fdF : FuncData} (F : Fun K "_law_cost" "_law_cost" sCost f fd) (bC : Binds K fd ["_law_tables", "_law_name"] []) (mC : mg "_law_cost" = some (.ref f)) (hlen : mg "len" = none) (hsum : mg "sum" = none)
    (GF : FnOk P w K mg base CX0 1 fF fdF ["_law_tables", "_law_name"] (spFind K)) (mF : mg "_law_find" = some (.ref fF)) (kF : PySem.W.keepIn K (.ref fF) = true) (bF : Binds K fdF ["_law_tables", "_law_name"] []) :
    ∀ d : Nat, FnOk P w K mg base CX0 (d + 1) f fd ["_law_tables", "_law_name"] (spCost K d) := by
  intro d
  induction d with
  | zero =>
    refine F.ok scCost (fun vs H Q E h => ?_) (fun cdv A outer s H vs Q E hr h => ?_)
    · obtain ⟨a, z, xs, rows, rfl, _⟩ := h
      rfl
    · obtain ⟨a, z, xs, rows, rfl, _, _, h, _⟩ := h
      exact h.elim
  | succ d GC =>
    refine F.ok scCost (fun vs H Q E h => ?_) (fun cdv A outer s H vs Q E hr h => ?_)
    · obtain ⟨a, z, xs, rows, rfl, _⟩ := h
      rfl
    · obtain ⟨a, z, xs, rows, rfl, ha, hl, hh, q⟩ := h
      have hu := hu_of hr
      refine ⟨_, pss_cons (ps_set (i := 2) scCost.nd rfl (.inl rfl) (pe_call GF (hr.mono (by omega)) rfl mF kF bF .nil pass0 (pa_cons (pv 0) (pa_cons (pv 1) pa_nil))))
        (pss_one (ps_ret (pe_op op_add (pe_callB call_lenD (by rfl) hlen PySem.boot_len (pa_cons (pe_ix ix_list (pv 2) pe_int (fun _ _ => rfl)) pa_nil))
          (pe_callB (cr_sum rfl) (by rfl) hsum PyProof.Rows.boot_sum (pa_cons (pe_lc (own := [("_law_lead", 3)]) (g := gName 3) (tt := tYes) (te := tCall (spCost K d) [] E0 (tCons (tVar 0) (tCons (tOp (rIxT K) (tVar 3) (tC (.int 1))) tNil))) rfl scCost.nd (pi_list (pe_ix ix_list (pv 2) pe_int (fun _ _ => rfl))) (blkOk_by (N := nCost) (sc := defScope sCost) (by decide +kernel)) (fun _ _ _ _ _ => pg_name (i := 3) scCost.nd rfl (Or.inl rfl))
            (fun _ _ _ _ _ => pts_nil) (fun _ _ _ _ _ => pe_call GC hr rfl mC F.kp bC .nil pass0 (pa_cons (pv 0) (pa_cons (pe_ix ix_tup (pv 3) pe_int (fun _ _ => rfl)) pa_nil)))) pa_nil))))), ?_⟩
      refine ⟨_, rfl, _, rfl, a, z, xs, rows, rfl, ha, hl, hh.1, fun H1 i v r s1 hx hr1 hn => ?_⟩
      obtain ⟨r', hr2, hrw⟩ := (ha.same s1).all i v hx
      rw [hr1] at hr2
      obtain rfl := Option.some.inj hr2
      obtain ⟨⟨b, k, m, e, vs, rfl, g1, g2, g3, g4, g5⟩, g6⟩ := hrw
      refine ⟨_, rfl, b, _, _, _, rfl, rfl, g1, atI_nat (j := 3) rfl, m, _, rfl, g3.at_, ?_⟩
      refine ⟨_, rfl, b, _, _, _, rfl, rfl, g1, atI_nat (j := 4) rfl, e, rfl, ⟨_, g4⟩, fun D nD => ?_⟩
      have hin := List.mem_of_getElem? hr1
      refine lc_it (walk_list (K := K) (a := e) (xs := vs)) (fun i Hc => ∃ ns : List Int, Hc D = some (.lst (ns.map V.int)) ∧ ns.length = i ∧ Same H1 Hc) ⟨[], upd_same, rfl, same_new nD⟩ (fun i Hc _ ⟨_, _, _, s⟩ => s.seq g4) ?_ ?_
      · rintro j x Hc Hy hj ⟨ns, hD, hnl, sm⟩ ⟨rfl, hx2⟩
        obtain ⟨le, h1, q1, rfl, h2⟩ := g5.all j x hx2
        refine ⟨rfl, ?_⟩
        refine ⟨_, rfl, _, rfl, q1, _, _, _, rfl, rfl, same_seqT sm h2, atI_nat (j := 1) rfl, ?_⟩
        refine ⟨a, le.2.1, xs, rows, rfl, ha.same (s1.trans sm), hl, hh.2 r hin hn le (List.mem_of_getElem? h1), fun H' c s' => ?_⟩
        have hD' := s' _ _ hD
        have hsml := g5.sml
        have hlen := g5.len
        refine ⟨_, hD', by rw [List.length_map]; exact small1000 (by omega), ns ++ [c], ?_, ?_, same_mut (sm.trans s') nD⟩
        · rw [upd_same, List.map_append]
          rfl
        · rw [List.length_append, hnl]
          rfl
      · rintro Hc ⟨ns, hD, hnl, sm⟩
        exact ⟨D, ns, rfl, SqL.of hD, _, _, rfl, rfl, q _ _ (s1.trans sm)⟩
end
end Sw
namespace Sw
open PySem PySem.Spec PyProof.Rows L2 NdefX
abbrev sVars : Stmt := topS 30
abbrev nVars : List Str := ["_law_shapes", "_law_items", "_law_shape", "_law_item", "_law_k"]
theorem scVars : FnScope nVars ["_law_shapes"] (defScope sVars) := ⟨rfl, rfl, rfl, by decide +kernel, rfl, by decide +kernel, by decide +kernel⟩
section
variable {P : Program} {w : World} {K : PySem.W.Frag} {mg : Str → Option Value} {base : Heap}
theorem ok_vars {f : Addr} {fd : FuncData} (F : Fun K "_law_vars" "_law_vars" sVars f fd) (B : Blt mg) : FnOk P w K mg base CX0 1 f fd ["_law_shapes"] (spVars K) := by
  refine F.ok scVars (fun vs H Q E h => ?_) (fun cdv A outer s H vs Q E hr h => ?_)
  · obtain ⟨a, xs, ss, rfl, _⟩ := h
    rfl
  · obtain ⟨a, xs, ss, rfl, ha, q⟩ := h
    refine ⟨_, pss_cons (ps_set (i := 1) scVars.nd rfl (.inr rfl) (pe_lst pa_nil))
      (pss_cons (ps_for PassesOwn.never rfl (pi_list (pv 0)) (pg_name (i := 2) scVars.nd rfl (.inl rfl))
        (pss_one (ps_set (i := 1) scVars.nd rfl (.inr rfl) (pe_op op_joinL (pv 1) (pe_lc (own := [("_law_item", 3)]) (g := gName 3) (tt := tTest (tOp rEq (tSl rSlS (tVar 3) tNoPart (tPart (tC (.int 1)))) (tC (.str "?")))) rfl scVars.nd (pi_tup (pe_slice sl_tup (pv 2) (po_some pe_int) po_none)) (blkOk_by (N := nVars) (sc := defScope sVars) (by decide +kernel))
          (fun _ _ _ _ _ => pg_name (i := 3) scVars.nd rfl (Or.inl rfl)) (fun _ _ _ _ _ => pts_one (pt_cmpR op_eq (pe_slice sl_str (pv 3) po_none (po_some pe_int)) pe_str (nomark _))) (fun _ _ _ _ _ => pv 3))))))
      (pss_one (ps_ret (pe_lc (own := [("_law_k", 4)]) (g := gName 4) (tt := tTest (tOp (rIn K true) (tOp (rIxL K) (tVar 1) (tVar 4)) (tSl (rSlL K) (tVar 1) tNoPart (tPart (tVar 4))))) (te := tOp (rIxL K) (tVar 1) (tVar 4)) rfl scVars.nd (pi_range1 rfl B.range (pa_cons (pe_callB call_len_seq (by rfl) B.len PySem.boot_len (pa_cons (pv 1) pa_nil)) pa_nil)) (blkOk_by (N := nVars) (sc := defScope sVars) (by decide +kernel))
          (fun _ _ _ _ _ => pg_name (i := 4) scVars.nd rfl (Or.inl rfl)) (fun _ _ _ _ _ => pts_one (pt_cmpR op_notIn_seq (pe_ix ix_list (pv 1) (pv 4) (fun _ _ => rfl)) (pe_slice sl_list (pv 1) po_none (po_some (pv 4))) (by rfl))) (fun _ _ _ _ _ => pe_ix ix_list (pv 1) (pv 4) (fun _ _ => rfl)))))), ?_⟩
    refine ⟨by decide, fun I0 nI0 => ?_⟩
    have s0 := same_new (o := .lst []) nI0
    have ssl : ∀ s ∈ ss, s.length ≤ 10 := fun s hs => by
      obtain ⟨i, hi⟩ := List.mem_iff_getElem?.mp hs
      have hx := List.getElem?_eq_getElem (show i < xs.length by rw [ha.len]; exact (List.getElem?_eq_some_iff.mp hi).1)
      obtain ⟨s', h1, _, _, h2, _⟩ := ha.all i _ hx
      rw [hi] at h1
      obtain rfl := Option.some.inj h1
      exact h2
    refine ⟨_, rfl, a, rfl, ⟨_, s0.seq ha.at_⟩, ?_⟩
    refine for_it (walk_list (K := K) (a := a) (xs := xs)) (fun i σ Hc => ∃ (x2 : Option V) (I : Addr), σ = [some (.ref a), some (.ref I), x2, none, none] ∧ Same H Hc ∧ SqL K Hc I ((allVars (ss.take i)).map V.str))
      ⟨none, I0, rfl, s0, SqL.of upd_same⟩ (fun i σ Hc _ ⟨_, _, _, e, _⟩ => e.seq ha.at_) ?_ ?_
    · rintro i v σ Hx Hc hi ⟨x2, I, rfl, sm, hI⟩ ⟨rfl, hv⟩
      obtain ⟨s, hs, ⟨b, rfl, hb⟩, l2, l10, lz⟩ := ha.all i v hv
      have hb' := same_seqT sm hb
      refine ⟨_, rfl, _, rfl, 1, rfl, b, _, rfl, hb', ?_, fun p np => ?_⟩
      · intro z
        have h1 : HT.sIx (s.map V.str).length 0 (some 1) = min 1 (s.map V.str).length := HT.sIx_nat _ 0 1
        rw [h1, List.length_map] at z
        omega
      rw [cut_tail s (by omega)]
      have sp := same_new (o := .tup (s.tail.map V.str)) np
      refine ⟨p, rfl, ⟨_, SqT.of upd_same⟩, fun D nD => ?_⟩
      have sD : ∀ o, Same _ (upd (upd Hc p (.tup (s.tail.map V.str))) D o) := fun o => same_new nD
      refine lc_filter (wk_tup (K := K) (a := p) (l := s.tail) (val := V.str)) (p := isV) (out := V.str) (fun o => SqT.of ((sD o) _ _ upd_same)) (by rw [List.length_tail]; omega) (fun _ => rfl) (fun j u acc Q hu hq => ?_) (fun j u acc Q hu _ hq => ⟨_, rfl, hq⟩) ?_
      · have hm : u ∈ s := List.mem_of_mem_tail (List.mem_of_getElem? hu)
        exact ⟨_, rfl, 1, rfl, u, rfl, Nat.le_trans (lz u hm).1 (by decide), rfl, _, rfl, hq⟩
      · have sf := sp.trans (sD (.lst ((s.tail.filter isV).map V.str)))
        have e1 : allVars (ss.take (i + 1)) = allVars (ss.take i) ++ s.tail.filter isV := by
          unfold allVars
          rw [take_snoc hs, List.flatMap_append]
          simp
        have len1 : (allVars (ss.take (i + 1))).length ≤ 100 := by
          have := allVars_len (ss := ss.take (i + 1)) fun s hs => ssl s (List.mem_of_mem_take hs)
          have h2 : (ss.take (i + 1)).length ≤ ss.length := by rw [List.length_take]; omega
          have := ha.sml
          omega
        refine ⟨I, D, _, _, rfl, rfl, sf.seq hI, SqL.of upd_same, ?_, fun p2 np2 => ?_⟩
        · rw [List.length_map, List.length_map, ← List.length_append, ← e1]
          exact Nat.le_of_lt (small1000 (by omega))
        · have s2 := same_new (o := .lst ((allVars (ss.take i)).map V.str ++ (s.tail.filter isV).map V.str)) np2
          refine ⟨_, p2, rfl, sm.trans (sf.trans s2), ?_⟩
          rw [e1, List.map_append]
          exact SqL.of upd_same
    · rintro σ H1 ⟨x2, I, rfl, sm, hI⟩
      rw [ha.len, List.take_length] at hI
      have len1 : (allVars ss).length ≤ 100 := by
        have := allVars_len ssl
        have := ha.sml
        omega
      refine ⟨_, rfl, I, _, rfl, .inl hI, _, rfl, ?_, ?_, fun D nD => ?_⟩
      · have := Int.natCast_nonneg ((allVars ss).map V.str).length
        omega
      · rw [List.length_map]
        omega
      refine lc_it (walk_range (lo := 0) (n := ((allVars ss).map V.str).length)) (fun i Hc => ∃ us : List Str, Hc D = some (.lst (us.map V.str)) ∧ us.Nodup ∧ (∀ z, z ∈ us ↔ z ∈ (allVars ss).take i) ∧ us.length ≤ i ∧ Same H1 Hc)
        ⟨[], upd_same, .nil, fun z => by simp, Nat.le_refl _, same_new nD⟩ (fun _ _ _ _ => trivial) ?_ ?_
      · rintro i x Hc Hy hi ⟨us, hD, und, hm, hul, s2⟩ ⟨rfl, rfl⟩
        rw [List.length_map] at hi
        obtain ⟨z, hz⟩ : ∃ z, (allVars ss)[i]? = some z := ⟨_, List.getElem?_eq_getElem hi⟩
        have ei : (0 : Int) + (i : Int) = ((i : Nat) : Int) := Int.zero_add _
        have hat : atI ((allVars ss).map V.str) (0 + (i : Int)) = some (V.str z) := by
          rw [ei]
          exact atI_nat (by rw [List.getElem?_map, hz]; rfl)
        refine ⟨rfl, ?_⟩
        refine ⟨_, rfl, _, rfl, I, _, _, _, rfl, rfl, s2.seq hI, hat, _, rfl, _, rfl, _, rfl, I, _, rfl, s2.seq hI, fun p np => ?_⟩
        rw [ei, cut_upto, ← List.map_take]
        have sp := same_new (o := .lst (((allVars ss).take i).map V.str)) np
        refine ⟨p, _, rfl, .inl (SqL.of upd_same), rfl, flat_str _, _, rfl, ?_⟩
        rw [inV_str]
        by_cases hzn : z ∈ (allVars ss).take i
        · have e : (if true = true then !decide (z ∈ (allVars ss).take i) else decide (z ∈ (allVars ss).take i)) = false := by simp [hzn]
          rw [e]
          refine iteF ?_
          refine ⟨us, sp _ _ hD, und, fun y => ?_, by omega, s2.trans sp⟩
          rw [hm, take_snoc hz, List.mem_append, List.mem_singleton]
          exact ⟨.inl, fun h => h.elim id fun h => by rw [h]; exact hzn⟩
        · have e : (if true = true then !decide (z ∈ (allVars ss).take i) else decide (z ∈ (allVars ss).take i)) = true := by simp [hzn]
          rw [e]
          refine iteT ?_
          refine ⟨_, rfl, _, rfl, I, _, _, _, rfl, rfl, (s2.trans sp).seq hI, hat, _, sp _ _ hD, by rw [List.length_map]; exact small1000 (by omega), us ++ [z], ?_, ?_, fun y => ?_, ?_, same_mut (s2.trans sp) nD⟩
          · rw [upd_same, List.map_append]
            rfl
          · rw [List.nodup_append]
            exact ⟨und, by simp, fun x hx y hy z' => hzn ((hm z).mp (by
              have hy : y = z := by simpa using hy
              rw [← hy, ← z']
              exact hx))⟩
          · rw [List.mem_append, List.mem_singleton, hm, take_snoc hz, List.mem_append, List.mem_singleton]
          · rw [List.length_append]
            show us.length + 1 ≤ i + 1
            omega
      · rintro Hc ⟨us, hD, und, hm, hul, s2⟩
        rw [List.length_map, List.take_length] at hm
        rw [List.length_map] at hul
        exact q Hc D us (sm.trans s2) (sm.free nD) hD und hm (by omega)
end
end Sw
namespace Sw
open PySem PySem.Spec PyProof.Rows L2 NdefX
abbrev sParts : Stmt := topS 31
abbrev nParts : List Str := ["_law_hand", "_law_tables", "_law_terms", "_law_many", "_law_room", "_law_shapes", "_law_k", "_law_table", "_law_items", "_law_at", "_law_item", "_law_menu", "_law_spot", "_law_cost_here"]
theorem scParts : FnScope nParts ["_law_hand", "_law_tables", "_law_terms", "_law_many", "_law_room"] (defScope sParts) := ⟨rfl, rfl, rfl, by decide +kernel, rfl, by decide +kernel, by decide +kernel⟩
section
variable {P : Program} {w : World} {K : PySem.W.Frag} {mg : Str → Option Value} {base : Heap}
theorem ok_parts {f fT fC : Addr} {fd fdT fdC : FuncData} (F : Fun K "_law_parts" "_law_parts" sParts f fd) (B : Blt mg) (htup : mg "tuple" = none)
    (GT : FnOk P w K mg base CX0 1 fT fdT ["_law_hand", "_law_many"] spTake) (mT : mg "_law_take" = some (.ref fT)) (kT : PySem.W.keepIn K (.ref fT) = true) (bT : Binds K fdT ["_law_hand", "_law_many"] [])
    (GC : FnOk P w K mg base CX0 4 fC fdC ["_law_tables", "_law_name"] (spCost K 3)) (mC : mg "_law_cost" = some (.ref fC)) (kC : PySem.W.keepIn K (.ref fC) = true) (bC : Binds K fdC ["_law_tables", "_law_name"] []) :
    FnOk P w K mg base CX0 5 f fd ["_law_hand", "_law_tables", "_law_terms", "_law_many", "_law_room"] (spParts K) := by
  refine F.ok scParts (fun vs H Q E h => ?_) (fun cdv A outer s H vs Q E hr h => ?_)
  · obtain ⟨h, T, Tm, many, room, xs, rows, vals, tms, rfl, _⟩ := h
    rfl
  · obtain ⟨h, T, Tm, many, room, xs, rows, vals, tms, rfl, hh, hR, ok, nml, vll, hTm, t1, t60, tl, m1, m10, q⟩ := h
    have hu := hu_of hr
    have h1 : Room 1 _ := hr.mono (by decide)
    refine ⟨_, pss_cons (ps_set (i := 5) scParts.nd rfl (.inl rfl) (pe_lst pa_nil))
      (pss_cons (ps_for PassesOwn.never rfl (pi_range1 rfl B.range (pa_cons (pv 3) pa_nil)) (pg_name (i := 6) scParts.nd rfl (.inl rfl))
        (pss_cons (ps_set (i := 7) scParts.nd rfl (.inl rfl) (pe_ix ix_list (pv 1) (pe_call GT h1 rfl mT kT bT .nil pass0 (pa_cons (pv 0) (pa_cons (pe_callB call_len_seq (by rfl) B.len PySem.boot_len (pa_cons (pv 1) pa_nil)) pa_nil))) (fun _ _ => rfl)))
        (pss_cons (ps_set (i := 8) scParts.nd rfl (.inl rfl) (pe_lst (pa_cons (pe_ix ix_list (pv 7) pe_int (fun _ _ => rfl)) pa_nil)))
        (pss_mid (ps_for PassesOwn.never rfl (pi_range1 rfl B.range (pa_cons (pe_ix ix_list (pv 7) pe_int (fun _ _ => rfl)) pa_nil)) (pg_name (i := 9) scParts.nd rfl (.inl rfl))
          (pss_cons (ps_set (i := 10) scParts.nd rfl (.inl rfl) (pe_ix ix_list (pv 2) (pe_call GT h1 rfl mT kT bT .nil pass0 (pa_cons (pv 0) (pa_cons (pe_callB call_len_seq (by rfl) B.len PySem.boot_len (pa_cons (pv 2) pa_nil)) pa_nil))) (fun _ _ => rfl)))
          (pss_cons (ps_set (i := 11) scParts.nd rfl (.inl rfl) (pe_op op_joinL (pe_dget2 hu (pe_ix ix_list (pv 7) pe_int (fun _ _ => rfl)) (pv 9) (pe_lst pa_nil) ⟨rfl, rfl, rfl, rfl⟩) (pe_lst (pa_cons (pv 10) pa_nil))))
          (pss_cons (ps_set (i := 12) scParts.nd rfl (.inl rfl) (pe_call GT h1 rfl mT kT bT .nil pass0 (pa_cons (pv 0) (pa_cons (pe_callB call_len_seq (by rfl) B.len PySem.boot_len (pa_cons (pv 11) pa_nil)) pa_nil))))
          (pss_one (ps_expr (pe_bm PySem.F.plainAttrs_list PySem.F.slot_list_append PySem.F.type_list_append mt_append (pv 8) (pa_cons
            (pe_ix ix_list (pe_lst (pa_cons (pe_ix ix_list (pv 11) (pv 12) (fun _ _ => rfl)) (pa_cons (pv 10) pa_nil))) (pe_callTy call_int1 (by rfl) B.int bInt (pa_cons (pe_cmpR op_eq (pe_slice sl_str (pv 10) po_none (po_some pe_int)) pe_str (nomark _)) pa_nil)) (fun _ _ => rfl)) pa_nil))))))))
        (pss_cons (ps_set (i := 13) scParts.nd rfl (.inl rfl) (pe_call GC hr rfl mC kC bC .nil pass0 (pa_cons (pv 1) (pa_cons (pe_ix ix_list (pv 7) pe_int (fun _ _ => rfl)) pa_nil))))
        (pss_one (ps_if (PW.pt (pw_or (pt_cmpR (op_eqD hr.units) (pv 5) (pe_lst pa_nil) (nomark _)) (pw_or1 (pt_cmpR op_le (pv 13) (pv 4) (nomark _)))))
          (pss_cons (ps_expr (pe_bm PySem.F.plainAttrs_list PySem.F.slot_list_append PySem.F.type_list_append mt_append (pv 5) (pa_cons (pe_callTy call_tuple_of (by rfl) htup bTuple (pa_cons (pv 8) pa_nil)) pa_nil)))
          (pss_one (ps_set (i := 4) scParts.nd rfl (.inl rfl) (pe_op op_sub (pv 4) (pv 13))))) pss_nil)))))))
      (pss_one (ps_ret (pv 5)))), ?_⟩
    refine ⟨by decide, fun S nS => ?_⟩
    have neS : S ≠ h := hh.ne nS
    have s0 := same_new (o := .lst []) nS
    have rl := hR.len
    have n3 := ok.n3
    have n1 := ok.n1
    refine ⟨_, rfl, (many : Int), rfl, by omega, by omega, ?_⟩
    refine for_it (walk_range (lo := 0) (n := ((many : Nat) : Int).toNat)) (fun i σ Hc => ∃ room x6 x7 x8 x9 x10 x11 x12 x13 ys ss, σ = [some (.ref h), some (.ref T), some (.ref Tm), some (.int (many : Int)), some (.int room), some (.ref S), x6, x7, x8, x9, x10, x11, x12, x13] ∧ HandAt Hc h ∧ SBut h H Hc ∧ Hc S = some (.lst ys) ∧ ShapesAt K Hc S ys ss ∧ ss.length ≤ i ∧ (1 ≤ i → 1 ≤ ss.length) ∧ ∀ s ∈ ss, PartOk rows tms s)
      ⟨room, none, none, none, none, none, none, none, none, [], [], rfl, hh.same s0, Same.sbut s0, upd_same, ⟨SqL.of upd_same, rfl, Nat.zero_le _, fun i v e => (by cases e)⟩, Nat.le_refl _, fun z => (by omega), fun s hs => (nomatch hs)⟩ (fun _ _ _ _ _ => trivial) ?_ ?_
    · rintro i x σ Hx Hc hi ⟨room, x6, x7, x8, x9, x10, x11, x12, x13, ys, ss, rfl, hc, sb, hS, hsh, hsl, hs1, hpo⟩ ⟨rfl, rfl⟩
      have hi : i < many := by rw [Int.toNat_natCast] at hi; exact hi
      have hRc := hR.hand hh sb ok
      refine ⟨_, rfl, _, rfl, _, rfl, T, _, rfl, .inl hRc.at_, h, _, rfl, hc, by omega, fun ti H1 t0' t3' hh1 b1 => ?_⟩
      obtain ⟨n, rfl⟩ := Int.eq_ofNat_of_zero_le t0'
      have hn : n < xs.length := Int.ofNat_lt.mp t3'
      have sb1 := sb.trans b1.sbut
      have hR1 := hR.hand hh sb1 ok
      have hv := List.getElem?_eq_getElem hn
      obtain ⟨r, hrn, ⟨⟨b, k, m, e, vs, eb, g1, g2, g3, g4, g5⟩, g6, g7⟩⟩ := hR1.all n _ hv
      have hrm := List.mem_of_getElem? hrn
      have own := ok.own r hrm
      rw [eb] at hv
      refine ⟨T, _, _, _, rfl, rfl, hR1.at_, atI_nat (j := n) hv, ?_⟩
      have rwat : ∀ {H' : Hp}, SBut h H1 H' → RwAt K H' (.ref b) r := fun {H'} e' => RwAt.hand (vals := vals) ⟨⟨b, k, m, e, vs, rfl, g1, g2, g3, g4, g5⟩, g6, g7⟩ hh1 e' own (ok.ls r hrm)
      refine ⟨_, rfl, b, _, _, _, rfl, rfl, g1, atI_nat (j := 0) rfl, by show 1 ≤ sizeLine; decide, fun I nI => ?_⟩
      have neI : I ≠ h := hh1.ne nI
      have sI := same_new (o := .lst [V.str r.nm]) nI
      have hS1 : H1 S = some (.lst ys) := b1.sbut _ _ neS hS
      have hsh1 := hsh.hand hc b1.sbut
      have neSI : S ≠ I := ne_of_none hS1 nI
      refine ⟨fun σ Hd => ∃ x9 x10 x11 x12 its, σ = [some (.ref h), some (.ref T), some (.ref Tm), some (.int (many : Int)), some (.int room), some (.ref S), some (.int (0 + (i : Int))), some (.ref b), some (.ref I), x9, x10, x11, x12, x13] ∧ HandAt Hd h ∧ SBut h H1 Hd ∧ Hd I = some (.lst ((r.nm :: its).map V.str)) ∧ (its.length : Int) = r.wd ∧ ∀ z ∈ its, (z ∈ tms ∨ ∃ e ∈ r.es, z ∈ e.2.2) ∧ SOk z, ?_, ?_⟩
      · have gI := (g1 : SqL K H1 b _)
        refine ⟨_, rfl, b, _, _, _, rfl, rfl, sI.seq g1, atI_nat (j := 1) rfl, r.wd, rfl, by have := own.wd; omega, by have := own.wd; omega, ?_⟩
        refine for_it (walk_range (lo := 0) (n := r.wd.toNat)) (fun j σ Hd => ∃ x9 x10 x11 x12 its, σ = [some (.ref h), some (.ref T), some (.ref Tm), some (.int (many : Int)), some (.int room), some (.ref S), some (.int (0 + (i : Int))), some (.ref b), some (.ref I), x9, x10, x11, x12, x13] ∧ HandAt Hd h ∧ SBut h H1 Hd ∧ Hd I = some (.lst ((r.nm :: its).map V.str)) ∧ its.length = j ∧ ∀ z ∈ its, (z ∈ tms ∨ ∃ e ∈ r.es, z ∈ e.2.2) ∧ SOk z)
          ⟨x9, x10, x11, x12, [], rfl, hh1.same sI, Same.sbut sI, upd_same, rfl, fun z hz => (nomatch hz)⟩ (fun _ _ _ _ _ => trivial) ?_ ?_
        · rintro j x σ Hx Hd hj ⟨x9, x10, x11, x12, its, rfl, hd, sbd, hI, hil, hio⟩ ⟨rfl, rfl⟩
          have sb2 := sb1.trans sbd
          have hTmd := sqL_hand hTm hh sb2 (by rw [List.length_map]; omega)
          -- the item
          refine ⟨_, rfl, _, rfl, _, rfl, Tm, _, rfl, .inl hTmd, h, _, rfl, hd, by rw [List.length_map]; omega, fun ui H3 u0 u3 hh3 b3 => ?_⟩
          rw [List.length_map] at u3
          obtain ⟨un, rfl⟩ := Int.eq_ofNat_of_zero_le u0
          have hun : un < tms.length := Int.ofNat_lt.mp u3
          have hz := List.getElem?_eq_getElem hun
          have hzm := List.mem_of_getElem? hz
          have zok := tl _ hzm
          generalize tms[un] = z at hz hzm zok
          have sb3 := sbd.trans b3.sbut
          have hTm3 := sqL_hand hTm hh (sb1.trans sb3) (by rw [List.length_map]; omega)
          refine ⟨Tm, _, _, _, rfl, rfl, hTm3, atI_nat (j := un) (by rw [List.getElem?_map, hz]; rfl), ?_⟩
          have hI3 : H3 I = some (.lst ((r.nm :: its).map V.str)) := b3.sbut _ _ neI hI
          -- the menu
          obtain ⟨⟨b', k', m', e', vs', eb', f1, f2, f3, f4, f5⟩, f6, f7⟩ := rwat sb3
          cases eb'
          refine ⟨_, rfl, b, _, _, _, rfl, rfl, f1, atI_nat (j := 3) rfl, m', rfl, .inl ⟨_, .inl f3.at_⟩, _, rfl, by decide, fun Dn nDn => ?_⟩
          have sD := same_new (o := .lst []) nDn
          refine ⟨_, DGet.k (k := Sum.inl (0 + (j : Int))) (sD _ _ f3.at_), _, rfl, by show 1 ≤ sizeLine; decide, fun Ln nLn => ?_⟩
          have sL := same_new (o := .lst [V.str z]) nLn
          have sDL := sD.trans sL
          obtain ⟨M0, mm, eM, hM0, hmm, mml⟩ : ∃ (M0 : Addr) (mm : List Str), ((valV (r.es.map fun e => (e.1, V.ref e.2.1)) (Sum.inl (0 + (j : Int)) : Key)).getD (.ref Dn)) = .ref M0 ∧ SqL K (upd (upd H3 Dn (.lst [])) Ln (.lst [V.str z])) M0 (mm.map V.str) ∧ (∀ y ∈ mm, ∃ e ∈ r.es, y ∈ e.2.2) ∧ mm.length ≤ 3 := by
            cases hvk : valV (r.es.map fun e => (e.1, V.ref e.2.1)) (Sum.inl (0 + (j : Int)) : Key) with
            | none => exact ⟨Dn, [], rfl, SqL.of (sL _ _ upd_same), fun y hy => (nomatch hy), by decide⟩
            | some v =>
              obtain ⟨e, he, rfl⟩ := valV_ent hvk
              exact ⟨e.2.1, e.2.2, rfl, sDL.seq (f7 e he), fun y hy => ⟨e, he, hy⟩, (own.es e he).2.2.2.1⟩
          rw [eM]
          refine ⟨M0, Ln, _, _, rfl, rfl, hM0, SqL.of upd_same, by rw [List.length_map]; exact Nat.le_of_lt (small1000 (by show mm.length + 1 ≤ 1000; omega)), fun M nM => ?_⟩
          have emz : mm.map V.str ++ [V.str z] = (mm ++ [z]).map V.str := by rw [List.map_append]; rfl
          rw [emz]
          have sM := same_new (o := .lst ((mm ++ [z]).map V.str)) nM
          have s3 := sDL.trans sM
          have hh4 := hh3.same s3
          -- the spot
          refine ⟨_, rfl, _, rfl, M, _, rfl, .inl (SqL.of upd_same), h, _, rfl, hh4, by rw [List.length_map, List.length_append]; show (0 : Int) < ((mm.length + 1 : Nat) : Int); omega, fun sp H5 p0 p3 hh5 b5 => ?_⟩
          obtain ⟨sn, rfl⟩ := Int.eq_ofNat_of_zero_le p0
          have hsn : sn < (mm ++ [z]).length := by rw [List.length_map] at p3; exact Int.ofNat_lt.mp p3
          have hw := List.getElem?_eq_getElem hsn
          have hwm := List.mem_of_getElem? hw
          generalize (mm ++ [z])[sn] = wz at hw hwm
          have sb5 : SBut h H1 H5 := (sb3.trans (Same.sbut s3)).trans b5.sbut
          have neM : M ≠ h := hand_short hh4 (.inl ⟨_, upd_same, by rw [List.length_map, List.length_append]; show mm.length + 1 ≤ 5; omega⟩)
          have hM5 : H5 M = some (.lst ((mm ++ [z]).map V.str)) := b5.sbut _ _ neM upd_same
          have hI5 : H5 I = some (.lst ((r.nm :: its).map V.str)) := b5.sbut _ _ neI (s3 _ _ hI3)
          -- append
          refine ⟨_, rfl, .inl ⟨rfl, _, SqL.of hI5⟩, ?_⟩
          refine ⟨_, rfl, _, rfl, M, _, _, _, rfl, rfl, SqL.of hM5, atI_nat (j := sn) (by rw [List.getElem?_map, hw]; rfl), _, rfl, by show 2 ≤ sizeLine; decide, fun Q1 nQ1 => ?_⟩
          have sQ := same_new (o := .lst [V.str wz, V.str z]) nQ1
          obtain ⟨y, hy, hyo⟩ : ∃ y : Str, atI [V.str wz, V.str z] (if decide (V.str (cutS z none (some 1)) = V.str "?") = true then (1 : Int) else 0) = some (.str y) ∧ (y = wz ∨ y = z) := by
            by_cases c : decide (V.str (cutS z none (some 1)) = V.str "?") = true
            · rw [if_pos c]
              exact ⟨z, atI_nat (j := 1) rfl, .inr rfl⟩
            · rw [if_neg c]
              exact ⟨wz, atI_nat (j := 0) rfl, .inl rfl⟩
          have hyok : (y ∈ tms ∨ ∃ e ∈ r.es, y ∈ e.2.2) ∧ SOk y := by
            rcases hyo with rfl | rfl
            · rcases List.mem_append.mp hwm with q1 | q1
              · obtain ⟨e, he, hye⟩ := hmm _ q1
                exact ⟨.inr ⟨e, he, hye⟩, vll _ ((own.es e he).2.2.2.2 _ hye)⟩
              · rw [List.mem_singleton.mp q1]
                exact ⟨.inl hzm, zok⟩
            · exact ⟨.inl hzm, zok⟩
          have jl : its.length ≤ 3 := by have := own.wd; omega
          refine ⟨_, rfl, 1, rfl, z, rfl, Nat.le_trans zok.1 (by decide), rfl, .inr ⟨_, rfl, Q1, _, _, _, rfl, rfl, SqL.of upd_same, hy, I, _, _, rfl, rfl, sQ _ _ hI5, by rw [List.length_map]; exact small1000 (by show its.length + 1 ≤ 1000; omega), ?_⟩⟩
          refine ⟨_, _, _, _, its ++ [y], rfl, (hh5.same sQ).upd neI, fun b0 o hb eo => ?_, ?_, by rw [List.length_append, hil]; rfl, fun u hu => ?_⟩
          · rw [upd_ne (fun z0 => ?_)]
            · exact sQ _ _ (sb5 b0 o hb eo)
            · rw [z0, nI] at eo
              cases eo
          · rw [upd_same]
            simp only [List.map_cons, List.map_append, List.map_nil, List.cons_append]
          · rcases List.mem_append.mp hu with hu | hu
            · exact hio u hu
            · rw [List.mem_singleton.mp hu]
              exact hyok
        · rintro σ Hd ⟨x9, x10, x11, x12, its, rfl, hd, sbd, hI, hil, hio⟩
          refine ⟨x9, x10, x11, x12, its, rfl, hd, sbd, hI, ?_, hio⟩
          have := own.wd
          rw [hil]
          omega
      rintro σ Hd ⟨x9, x10, x11, x12, its, rfl, hd, sbd, hI, hil, hio⟩
      -- the cost
      have sb2 := sb1.trans sbd
      have hRd := hR.hand hh sb2 ok
      obtain ⟨⟨b', k', m', e', vs', eb', f1, f2, f3, f4, f5⟩, f6, f7⟩ := rwat sbd
      cases eb'
      have shd := hsh1.hand hh1 sbd
      have hSd : Hd S = some (.lst ys) := sbd _ _ neS hS1
      refine ⟨_, rfl, _, rfl, b, _, _, _, rfl, rfl, f1, atI_nat (j := 0) rfl, T, r.nm, xs, rows, rfl, hRd, by omega, ok.ht r hrm, fun H6 cst s6 => ?_⟩
      have hS6 := s6 _ _ hSd
      have sh6 := shd.same s6
      have hI6 := s6 _ _ hI
      have hh6 := hd.same s6
      have sb6 : SBut h H H6 := sb2.trans (Same.sbut s6)
      -- shapes == [] or cost <= room
      refine ⟨_, rfl, by decide, fun E1 nE1 => ?_⟩
      have sE := same_new (o := .lst []) nE1
      have sokS : ∀ s ∈ ss, ∀ z ∈ s, SOk z := fun s hs => by
        obtain ⟨j, hj⟩ := List.mem_iff_getElem?.mp hs
        have hx := List.getElem?_eq_getElem (show j < ys.length by rw [hsh.len]; exact (List.getElem?_eq_some_iff.mp hj).1)
        obtain ⟨s', h1, _, _, _, h2⟩ := hsh.all j _ hx
        rw [hj] at h1
        obtain rfl := Option.some.inj h1
        exact h2
      have sh7 := sh6.same sE
      have hh7 := hh6.same sE
      have sb7 := sb6.trans (Same.sbut sE)
      have hS7 := sE _ _ hS6
      have hI7 := sE _ _ hI6
      refine ⟨_, _, .lst sh7.at_ (ShapesAt.dp sh7.len sh7.all), .lst (SqL.of upd_same) .nil, shapedShapes sokS, rfl, _, rfl, ?_⟩
      rw [eqvNil]
      generalize upd H6 E1 (.lst []) = H7 at sh7 hh7 sb7 hS7 hI7 ⊢
      have wdl := own.wd
      cases hse : ss.isEmpty with
      | true =>
        refine iteT ?_
        refine iteT ?_
        refine ⟨_, rfl, .inl ⟨rfl, _, SqL.of hS7⟩, _, rfl, I, _, rfl, .inl ⟨SqL.of hI7, fun Tq nTq => ?_⟩⟩
        have sT := same_new (o := .tup ((r.nm :: its).map V.str)) nTq
        refine ⟨S, ys, _, rfl, rfl, sT _ _ hS7, by rw [hsh.len]; exact small1000 (by omega), ?_⟩
        refine ⟨_, rfl, _, rfl, _, _, rfl, rfl, ?_⟩
        refine ⟨_, _, _, _, _, _, _, _, _, ys ++ [.ref Tq], ss ++ [r.nm :: its], rfl, (hh7.same sT).upd neS, same_past (sb7.trans (Same.sbut sT)) nS, upd_same, (sh7.same sT).snoc (sT _ _ hS7) upd_same (by omega) (by show 2 ≤ its.length + 1; omega) (by show its.length + 1 ≤ 10; omega) (fun z hz => ?_), ?_, fun _ => ?_, fun s hs => ?_⟩
        · rcases List.mem_cons.mp hz with rfl | hz
          · exact nml r hrm
          · exact (hio z hz).2
        · rw [List.length_append]
          exact Nat.succ_le_succ hsl
        · rw [List.length_append]
          exact Nat.le_add_left _ _
        · rcases List.mem_append.mp hs with hs | hs
          · exact hpo s hs
          · rw [List.mem_singleton.mp hs]
            exact ⟨r, hrm, rfl, hil, fun z hz => (hio z hz).1⟩
      | false =>
        refine iteF ?_
        refine ⟨_, rfl, _, rfl, _, _, rfl, rfl, _, rfl, ?_⟩
        refine ite2 (fun _ => ?_) (fun _ => ?_)
        · skip
          refine ⟨_, rfl, .inl ⟨rfl, _, SqL.of hS7⟩, _, rfl, I, _, rfl, .inl ⟨SqL.of hI7, fun Tq nTq => ?_⟩⟩
          have sT := same_new (o := .tup ((r.nm :: its).map V.str)) nTq
          refine ⟨S, ys, _, rfl, rfl, sT _ _ hS7, by rw [hsh.len]; exact small1000 (by omega), ?_⟩
          refine ⟨_, rfl, _, rfl, _, _, rfl, rfl, ?_⟩
          refine ⟨_, _, _, _, _, _, _, _, _, ys ++ [.ref Tq], ss ++ [r.nm :: its], rfl, (hh7.same sT).upd neS, same_past (sb7.trans (Same.sbut sT)) nS, upd_same, (sh7.same sT).snoc (sT _ _ hS7) upd_same (by omega) (by show 2 ≤ its.length + 1; omega) (by show its.length + 1 ≤ 10; omega) (fun z hz => ?_), ?_, fun _ => ?_, fun s hs => ?_⟩
          · rcases List.mem_cons.mp hz with rfl | hz
            · exact nml r hrm
            · exact (hio z hz).2
          · rw [List.length_append]
            exact Nat.succ_le_succ hsl
          · rw [List.length_append]
            exact Nat.le_add_left _ _
          · rcases List.mem_append.mp hs with hs | hs
            · exact hpo s hs
            · rw [List.mem_singleton.mp hs]
              exact ⟨r, hrm, rfl, hil, fun z hz => (hio z hz).1⟩
        · refine ⟨_, _, _, _, _, _, _, _, _, ys, ss, rfl, hh7, sb7, hS7, sh7, by omega, fun _ => ?_, hpo⟩
          cases ss with
          | nil => cases hse
          | cons a r => exact Nat.le_add_left _ _
    · rintro σ Hc ⟨room, x6, x7, x8, x9, x10, x11, x12, x13, ys, ss, rfl, hc, sb, hS, hsh, hsl, hs1, hpo⟩
      rw [Int.toNat_natCast] at hsl hs1
      exact ⟨_, rfl, q Hc S ys ss hc sb nS neS hS hsh (hs1 m1) hsl hpo⟩
end
end Sw
namespace Sw
open PySem PySem.Spec PyProof.Rows L2 NdefX
abbrev sAsk : Stmt := topS 32
abbrev nAsk : List Str := ["_law_hand", "_law_tables", "_law_values", "_law_terms", "_law_many", "_law_shapes", "_law_one", "_law_room", "_law_limits", "_law_item", "_law_start", "_law_pool", "_law_n", "_law_head"]
theorem bMin : bootBuiltins "min" = some (.builtin "min") := by decide +kernel
abbrev pAsk : List Str := ["_law_hand", "_law_tables", "_law_values", "_law_terms", "_law_many"]
theorem scAsk : FnScope nAsk pAsk (defScope sAsk) := ⟨rfl, rfl, rfl, by decide +kernel, rfl, by decide +kernel, by decide +kernel⟩
section
variable {P : Program} {w : World} {K : PySem.W.Frag} {mg : Str → Option Value} {base : Heap}
theorem ok_ask {f fT fC fP fV fR : Addr} {fd fdT fdC fdP fdV fdR : FuncData} (F : Fun K "_law_deal_ask" "_law_deal_ask" sAsk f fd) (B : Blt mg) (htup : mg "tuple" = none) (hsum : mg "sum" = none) (hmin : mg "min" = none)
    (GT : FnOk P w K mg base CX0 1 fT fdT ["_law_hand", "_law_many"] spTake) (mT : mg "_law_take" = some (.ref fT)) (kT : PySem.W.keepIn K (.ref fT) = true) (bT : Binds K fdT ["_law_hand", "_law_many"] [])
    (GR : FnOk P w K mg base CX0 1 fR fdR ["_law_items"] (spRiseS K)) (mR : mg "_law_rising" = some (.ref fR)) (kR : PySem.W.keepIn K (.ref fR) = true) (bR : Binds K fdR ["_law_items"] [])
    (GV : FnOk P w K mg base CX0 1 fV fdV ["_law_shapes"] (spVars K)) (mV : mg "_law_vars" = some (.ref fV)) (kV : PySem.W.keepIn K (.ref fV) = true) (bV : Binds K fdV ["_law_shapes"] [])
    (GC : FnOk P w K mg base CX0 4 fC fdC ["_law_tables", "_law_name"] (spCost K 3)) (mC : mg "_law_cost" = some (.ref fC)) (kC : PySem.W.keepIn K (.ref fC) = true) (bC : Binds K fdC ["_law_tables", "_law_name"] [])
    (GP : FnOk P w K mg base CX0 5 fP fdP ["_law_hand", "_law_tables", "_law_terms", "_law_many", "_law_room"] (spParts K)) (mP : mg "_law_parts" = some (.ref fP)) (kP : PySem.W.keepIn K (.ref fP) = true) (bP : Binds K fdP ["_law_hand", "_law_tables", "_law_terms", "_law_many", "_law_room"] []) :
    FnOk P w K mg base CX0 6 f fd pAsk (spAsk K) := by
  refine F.ok scAsk (fun vs H Q E h => ?_) (fun cdv A outer s H vs Q E hr h => ?_)
  · obtain ⟨h, T, Va, Tm, many, xs, rows, vals, tms, rfl, _⟩ := h
    rfl
  · obtain ⟨h, T, Va, Tm, many, xs, rows, vals, tms, rfl, hh, hR, ok, nml, vll, hV, v5, hTm, t50, tl, m1, m9, q⟩ := h
    have hu := hu_of hr
    have h1 : Room 1 _ := hr.mono (by decide)
    have h4 : Room 4 _ := hr.mono (by decide)
    refine ⟨_, pss_cons (ps_set (i := 5) scAsk.nd rfl (.inl rfl) (pe_call GP hr rfl mP kP bP .nil pass0 (pa_cons (pv 0) (pa_cons (pv 1) (pa_cons (pe_op op_joinL (pv 3) (pe_slice sl_list (pv 2) po_none (po_some pe_int))) (pa_cons (pe_op op_add pe_int (pe_call GT h1 rfl mT kT bT .nil pass0 (pa_cons (pv 0) (pa_cons (pv 4) pa_nil)))) (pa_cons pe_int pa_nil)))))))
      (pss_cons (ps_set (i := 7) scAsk.nd rfl (.inl rfl) (pe_op op_sub pe_int (pe_callB (cr_sum rfl) (by rfl) hsum PyProof.Rows.boot_sum (pa_cons (pe_lc (own := [("_law_one", 6)]) (g := gName 6) (tt := tYes) (te := tCall (spCost K 3) [] E0 (tCons (tVar 1) (tCons (tOp (rIxT K) (tVar 6) (tC (.int 0))) tNil))) rfl scAsk.nd (pi_list (pv 5)) (blkOk_by (N := nAsk) (sc := defScope sAsk) (by decide +kernel))
          (fun _ _ _ _ _ => pg_name (i := 6) scAsk.nd rfl (Or.inl rfl)) (fun _ _ _ _ _ => pts_nil) (fun _ _ _ _ _ => pe_call GC h4 rfl mC kC bC .nil pass0 (pa_cons (pv 1) (pa_cons (pe_ix ix_tup (pv 6) pe_int (fun _ _ => rfl)) pa_nil)))) pa_nil))))
      (pss_cons (ps_set (i := 8) scAsk.nd rfl (.inl rfl) pe_dnewK)
      (pss_mid (ps_for PassesOwn.never rfl (pi_list (pe_call GV h1 rfl mV kV bV .nil pass0 (pa_cons (pv 5) pa_nil))) (pg_name (i := 9) scAsk.nd rfl (.inl rfl))
        (pss_cons (ps_set (i := 10) scAsk.nd rfl (.inl rfl) (pe_call GT h1 rfl mT kT bT .nil pass0 (pa_cons (pv 0) (pa_cons pe_int pa_nil))))
        (pss_one (ps_if (PW.pt (pw_and (pt_cmpR op_lt (pe_callB call_lenD (by rfl) B.len PySem.boot_len (pa_cons (pv 8) pa_nil)) (pe_callB (call_min2 rfl) (by rfl) hmin bMin (pa_cons (pv 7) (pa_cons pe_int pa_nil))) (nomark _)) (pw_and1 (pt_cmpR op_eq (pe_call GT h1 rfl mT kT bT .nil pass0 (pa_cons (pv 0) (pa_cons pe_int pa_nil))) pe_int (nomark _)))))
          (pss_one (ps_dput hu (pv 8) (pv 9) (pe_call GR h1 rfl mR kR bR .nil pass0 (pa_cons (pe_slice sl_list (pe_slice sl_list (pv 2) (po_some (pv 10)) po_none) po_none (po_some (pe_call GT h1 rfl mT kT bT .nil pass0 (pa_cons (pv 0) (pa_cons pe_int pa_nil))))) pa_nil)) rfl)) pss_nil))))
      (pss_cons (ps_set (i := 11) scAsk.nd rfl (.inr rfl) (pe_op op_joinL (pe_call GV h1 rfl mV kV bV .nil pass0 (pa_cons (pv 5) pa_nil)) (pe_slice sl_list (pv 2) po_none (po_some pe_int))))
      (pss_cons (ps_set (i := 13) scAsk.nd rfl (.inl rfl) (pe_callTy call_tuple_of (by rfl) htup bTuple (pa_cons (pe_lc (own := [("_law_n", 12)]) (g := gName 12) (tt := tYes) (te := tOp (rIxL K) (tVar 11) (tCall spTake [] E0 (tCons (tVar 0) (tCons (tCB (fun xs H Q => ∃ p ys, xs = [V.ref p] ∧ (SqL K H p ys ∨ SqT K H p ys) ∧ Q (.int ys.length) H) (tCons (tVar 11) tNil)) tNil)))) rfl scAsk.nd (pi_range1 rfl B.range (pa_cons (pe_call GT h1 rfl mT kT bT .nil pass0 (pa_cons (pv 0) (pa_cons pe_int pa_nil))) pa_nil)) (blkOk_by (N := nAsk) (sc := defScope sAsk) (by decide +kernel))
          (fun _ _ _ _ _ => pg_name (i := 12) scAsk.nd rfl (Or.inl rfl)) (fun _ _ _ _ _ => pts_nil) (fun _ _ _ _ _ => pe_ix ix_list (pv 11) (pe_call GT h1 rfl mT kT bT .nil pass0 (pa_cons (pv 0) (pa_cons (pe_callB call_len_seq (by rfl) B.len PySem.boot_len (pa_cons (pv 11) pa_nil)) pa_nil))) (fun _ _ => rfl))) pa_nil)))
      (pss_one (ps_ret (pe_lst (pa_cons (pv 13) (pa_cons (pv 5) (pa_cons (pv 8) (pa_cons (pe_cmpR op_eq (pe_call GT h1 rfl mT kT bT .nil pass0 (pa_cons (pv 0) (pa_cons pe_int pa_nil))) pe_int (nomark _)) pa_nil)))))))))))), ?_⟩
    -- the shapes
    refine ⟨_, rfl, _, rfl, _, rfl, _, rfl, 1, rfl, Va, _, rfl, hV, fun L1 nL1 => ?_⟩
    have e1 : cutV (vals.map V.str) none (some 1) = (vals.take 1).map V.str := by
      have := cut_upto (vals.map V.str) 1
      rw [← List.map_take] at this
      exact this
    rw [e1]
    have s1 := same_new (o := .lst ((vals.take 1).map V.str)) nL1
    refine ⟨Tm, L1, _, _, rfl, rfl, s1.seq hTm, SqL.of upd_same, by rw [List.length_map, List.length_map, List.length_take]; exact Nat.le_of_lt (small1000 (by omega)), fun L2 nL2 => ?_⟩
    rw [← List.map_append]
    have s2 := s1.trans (same_new (o := .lst ((tms ++ vals.take 1).map V.str)) nL2)
    have hh2 := hh.same s2
    refine ⟨_, rfl, _, rfl, h, _, rfl, hh2, by omega, fun v H3 v0 v3 hh3 b3 => ?_⟩
    obtain ⟨m, hm, mm1, mm2⟩ : ∃ m : Nat, (1 : Int) + v = (m : Int) ∧ 1 ≤ m ∧ m ≤ many := ⟨(1 + v).toNat, by omega, by omega, by omega⟩
    refine ⟨_, _, rfl, rfl, ?_⟩
    dsimp only
    rw [hm]
    have sb3 : SBut h H H3 := (Same.sbut s2).trans b3.sbut
    have tl2 : (tms ++ vals.take 1).length ≤ 60 := by rw [List.length_append, List.length_take]; omega
    have neL2 : L2 ≠ h := (hh.same s1).ne nL2
    have hL2 : H3 L2 = some (.lst ((tms ++ vals.take 1).map V.str)) := b3.sbut _ _ neL2 upd_same
    refine ⟨h, T, L2, m, 3, xs, rows, vals, tms ++ vals.take 1, rfl, hh3, hR.hand hh sb3 ok, ok, nml, vll, SqL.of hL2, ?_, tl2, fun z hz => ?_, mm1, by omega, fun H4 S ys ss hh4 sb4 nS4 neS hS sh n1 nm po => ?_⟩
    · rw [List.length_append, List.length_take]
      omega
    · rcases List.mem_append.mp hz with hz | hz
      · exact tl z hz
      · exact vll z (List.mem_of_mem_take hz)
    have sb4' := sb3.trans sb4
    have hR4 := hR.hand hh sb4' ok
    -- the room
    refine ⟨_, rfl, S, rfl, ⟨_, sh.at_⟩, fun D nD => ?_⟩
    refine lc_it (walk_list (K := K) (a := S) (xs := ys)) (fun i Hc => ∃ ns : List Int, Hc D = some (.lst (ns.map V.int)) ∧ ns.length = i ∧ Same H4 Hc) ⟨[], upd_same, rfl, same_new nD⟩ (fun i Hc _ ⟨_, _, _, e⟩ => e.seq sh.at_) ?_ ?_
    · rintro i x Hc Hy hi ⟨ns, hD, hnl, sm⟩ ⟨rfl, hx⟩
      obtain ⟨s, hs, ⟨qq, rfl, hq⟩, _⟩ := sh.all i x hx
      obtain ⟨r, hr1, hr2, _⟩ := po s (List.mem_of_getElem? hs)
      have h0 : (s.map V.str)[0]? = some (.str r.nm) := by
        cases s with
        | nil => cases hr2
        | cons a l =>
          obtain rfl := Option.some.inj hr2
          rfl
      refine ⟨rfl, ?_⟩
      refine ⟨_, rfl, _, rfl, qq, _, _, _, rfl, rfl, same_seqT sm hq, atI_nat (j := 0) h0, T, r.nm, xs, rows, rfl, hR4.same sm, by have := ok.n3; omega, ok.ht r hr1, fun H' c s' => ?_⟩
      have hil : i < 10 := by
        have := sh.len
        have := sh.sml
        omega
      refine ⟨_, s' _ _ hD, by rw [List.length_map]; exact small1000 (by omega), ns ++ [c], ?_, ?_, same_mut (sm.trans s') nD⟩
      · rw [upd_same, List.map_append]
        rfl
      · rw [List.length_append, hnl]
        rfl
    rintro H5 ⟨ns, hD5, hnl, sm5⟩
    refine ⟨D, ns, rfl, SqL.of hD5, _, _, rfl, rfl, ?_⟩
    obtain ⟨rm, hrm⟩ : ∃ rm : Int, rm = (4 : Int) - ns.sum := ⟨_, rfl⟩
    have hh5 := hh4.same sm5
    have sb5 : SBut h H H5 := sb4'.trans (Same.sbut sm5)
    have sh5 := sh.same sm5
    -- the conditions
    refine fun Ld nLd => ?_
    have sLd := same_new (o := .dK []) nLd
    have hLd : Ld ≠ h := hh5.ne nLd
    refine ⟨fun σ Hc => ∃ x9 x10 es, σ = [some (.ref h), some (.ref T), some (.ref Va), some (.ref Tm), some (.int (many : Int)), some (.ref S), none, some (.int rm), some (.ref Ld), x9, x10, none, none, none] ∧ HandAt Hc h ∧ SBut h H5 Hc ∧ Lims K Hc Ld vals (allVars ss) es ∧ es.length ≤ 100, ?_, ?_⟩
    · refine ⟨_, rfl, S, ys, ss, rfl, sh5.same sLd, fun H6 Dv us s6 nDv hDv und hus ul => ?_⟩
      have hh6 := (hh5.same sLd).same s6
      have neDv : Dv ≠ h := (hh5.same sLd).ne nDv
      have neDL : Ld ≠ Dv := ne_of_none upd_same nDv
      refine ⟨Dv, rfl, ⟨_, SqL.of hDv⟩, ?_⟩
      refine for_it (wk_list (K := K) (a := Dv) (l := us) (val := V.str)) (fun i σ Hc => ∃ x9 x10 es, σ = [some (.ref h), some (.ref T), some (.ref Va), some (.ref Tm), some (.int (many : Int)), some (.ref S), none, some (.int rm), some (.ref Ld), x9, x10, none, none, none] ∧ HandAt Hc h ∧ SBut h H5 Hc ∧ Hc Dv = some (.lst (us.map V.str)) ∧ Lims K Hc Ld vals (allVars ss) es ∧ es.length ≤ i)
        ⟨none, none, [], by rw [hrm]; rfl, hh6, (Same.sbut (sLd.trans s6)), hDv, ⟨s6 _ _ upd_same, .nil, fun e he => (nomatch he)⟩, Nat.le_refl _⟩ (fun i σ Hc _ ⟨_, _, _, _, _, _, e, _⟩ => SqL.of e) ?_ ?_
      · rintro i x σ Hx Hc hi ⟨x9, x10, es, rfl, hc, sb, hD, lm, hel⟩ ⟨rfl, z, hz, rfl⟩
        refine ⟨_, rfl, h, 4, rfl, hc, by decide, fun st H1 t0 t4 hh1 b1 => ?_⟩
        have sb1 := sb.trans b1.sbut
        have lm1 := lm.hand hc b1.sbut
        have hD1 := b1.sbut _ _ neDv hD
        -- both tests
        refine ⟨_, rfl, Ld, _, rfl, lm1.at_, _, rfl, _, _, rfl, _, _, rfl, rfl, _, rfl, ?_⟩
        refine ite2 (fun _ => ?_) (fun _ => ?_)
        · refine ⟨_, rfl, h, 4, rfl, hh1, by decide, fun w0 H2 w1 w2 hh2' b2 => ?_⟩
          have sb2 := sb1.trans b2.sbut
          have lm2 := lm1.hand hh1 b2.sbut
          have hD2 := b2.sbut _ _ neDv hD1
          refine ⟨rfl, _, rfl, ?_⟩
          rw [dec_int]
          refine ite2 (fun _ => ?_) (fun _ => ?_)
          · have hV2 := sqL_hand hV hh (sb5.trans sb2) (by rw [List.length_map]; omega)
            obtain ⟨stn, rfl⟩ := Int.eq_ofNat_of_zero_le t0
            refine ⟨_, rfl, _, rfl, _, rfl, Va, _, rfl, hV2, fun La nLa => ?_⟩
            have ec : cutV (vals.map V.str) (some ((stn : Nat) : Int)) none = (vals.drop stn).map V.str := by
              unfold cutV
              rw [HT.sIx_nat, HT.sIx_none, List.length_map, List.map_drop, List.take_of_length_le (by rw [List.length_drop, List.length_map]; exact Nat.le_refl _)]
              congr 1
              omega
            rw [ec]
            have sa := same_new (o := .lst ((vals.drop stn).map V.str)) nLa
            have neLa : La ≠ h := hh2'.ne nLa
            refine ⟨_, rfl, h, 4, rfl, hh2'.same sa, by decide, fun u H3 u0 u4 hh3' b3 => ⟨_, rfl, ?_⟩⟩
            obtain ⟨un, rfl⟩ := Int.eq_ofNat_of_zero_le u0
            have hLa : H3 La = some (.lst ((vals.drop stn).map V.str)) := b3.sbut _ _ neLa upd_same
            refine ⟨La, _, rfl, SqL.of hLa, fun Lb nLb => ?_⟩
            rw [cut_upto, ← List.map_take]
            have sbL := same_new (o := .lst (((vals.drop stn).take un).map V.str)) nLb
            have ml : ((vals.drop stn).take un).length ≤ 3 := by rw [List.length_take]; omega
            refine ⟨Lb, _, rfl, SqL.of upd_same, by omega, fun H7 R us' s7 nR hR7 as hm => ?_⟩
            have sb7 : SBut h H5 H7 := ((sb2.trans (Same.sbut sa)).trans b3.sbut).trans (Same.sbut (sbL.trans s7))
            have lm7 := (((lm2.same sa).hand (hh2'.same sa) b3.sbut).same sbL).same s7
            have hh7 := (hh3'.same sbL).same s7
            have hD7 : H7 Dv = some (.lst (us.map V.str)) := (sbL.trans s7) _ _ (b3.sbut _ _ neDv (sa _ _ hD2))
            refine ⟨_, rfl, _, rfl, Ld, _, rfl, DPut.k (k := Sum.inr z) lm7.at_ (by rw [List.length_map]; exact small1000 (by have := (List.getElem?_eq_some_iff.mp hz).1; omega)), ?_⟩
            rw [putE_kv es _ R us']
            have nl : ∀ {b : Addr} {xs : List V}, H7 b = some (.lst xs) → b ≠ Ld := fun e => ne_of e lm7.at_ (fun z => nomatch z)
            have sbm : ∀ b o, b ≠ Ld → H7 b = some o → (upd H7 Ld (.dK ((putE es (Sum.inr z) R us').map fun e => (e.1, V.ref e.2.1)))) b = some o := fun b o hb e => by rw [upd_ne hb]; exact e
            refine ⟨_, _, putE es (Sum.inr z) R us', rfl, hh7.upd hLd, same_past sb7 nLd, sbm _ _ (nl hD7) hD7, ⟨upd_same, putE_nd lm7.nd _ _ _, fun e he => ?_⟩, Nat.le_trans (putE_len _ _ _ _) (by omega)⟩
            rcases putE_mem he with rfl | he
            · exact ⟨sbm _ _ (nl hR7) hR7, as, asc_sub as hm ml, fun y hy => List.mem_of_mem_drop (List.mem_of_mem_take ((hm y).mp hy)), z, rfl, (hus z).mp (List.mem_of_getElem? hz)⟩
            · exact ⟨sbm _ _ (nl (lm7.all e he).1) (lm7.all e he).1, (lm7.all e he).2⟩
          · exact ⟨_, _, es, rfl, hh2', sb2, hD2, lm2, by omega⟩
        · refine iteF ?_
          exact ⟨_, _, es, rfl, hh1, sb1, hD1, lm1, by omega⟩
      · rintro σ Hc ⟨x9, x10, es, rfl, hc, sb, hD, lm, hel⟩
        exact ⟨x9, x10, es, rfl, hc, sb, lm, by omega⟩
    rintro σ6 H6 ⟨x9, x10, es, rfl, hh6, sb6, lm, hel⟩
    have sh6 := sh5.hand hh5 sb6
    have sbH6 := sb5.trans sb6
    have hV6 := sqL_hand hV hh sbH6 (by rw [List.length_map]; omega)
    -- the pool
    refine ⟨_, rfl, S, ys, ss, rfl, sh6, fun H7 Dv us s7 nDv hDv und hus ul => ?_⟩
    refine ⟨_, rfl, 1, rfl, Va, _, rfl, s7.seq hV6, fun La nLa => ?_⟩
    rw [e1]
    have sa := same_new (o := .lst ((vals.take 1).map V.str)) nLa
    refine ⟨Dv, La, _, _, rfl, rfl, SqL.of (sa _ _ hDv), SqL.of upd_same, by rw [List.length_map, List.length_map, List.length_take]; exact Nat.le_of_lt (small1000 (by omega)), fun Pl nPl => ?_⟩
    rw [← List.map_append]
    have sp := same_new (o := .lst ((us ++ vals.take 1).map V.str)) nPl
    have s8 := (s7.trans sa).trans sp
    have hh8 := hh6.same s8
    have nePl : Pl ≠ h := (hh6.same (s7.trans sa)).ne nPl
    have pl1 : 1 ≤ (us ++ vals.take 1).length := by rw [List.length_append, List.length_take]; omega
    have pls : (us ++ vals.take 1).length ≤ 101 := by rw [List.length_append, List.length_take]; omega
    -- the head
    refine ⟨_, rfl, h, 4, rfl, hh8, by decide, fun v9 H9 t0 t4 hh9 b9 => ⟨v9, rfl, by omega, by omega, fun D9 nD9 => ?_⟩⟩
    have hPl9 : H9 Pl = some (.lst ((us ++ vals.take 1).map V.str)) := b9.sbut _ _ nePl upd_same
    have neD9 : D9 ≠ h := hh9.ne nD9
    refine lc_it (walk_range (lo := 0) (n := v9.toNat)) (fun i Hc => ∃ hs : List Str, Hc D9 = some (.lst (hs.map V.str)) ∧ hs.length = i ∧ HandAt Hc h ∧ SBut h H9 Hc ∧ ∀ z ∈ hs, z ∈ us ++ vals.take 1)
      ⟨[], upd_same, rfl, hh9.upd neD9, Same.sbut (same_new nD9), fun z hz => (nomatch hz)⟩ (fun _ _ _ _ => trivial) ?_ ?_
    · rintro i x Hc Hy hi ⟨hs, hD, hsl, hc, sb, hso⟩ ⟨rfl, rfl⟩
      refine ⟨rfl, ?_⟩
      have hPl := sb _ _ nePl hPl9
      refine ⟨_, rfl, _, rfl, _, rfl, Pl, _, rfl, .inl (SqL.of hPl), h, _, rfl, hc, by rw [List.length_map]; omega, fun u Hd u0 u1 hd bd => ?_⟩
      rw [List.length_map] at u1
      obtain ⟨un, rfl⟩ := Int.eq_ofNat_of_zero_le u0
      have hun : un < (us ++ vals.take 1).length := Int.ofNat_lt.mp u1
      have hz := List.getElem?_eq_getElem hun
      have hzm := List.mem_of_getElem? hz
      generalize (us ++ vals.take 1)[un] = z at hz hzm
      have hPl' := bd.sbut _ _ nePl hPl
      have hD' := bd.sbut _ _ neD9 hD
      refine ⟨Pl, _, _, _, rfl, rfl, SqL.of hPl', atI_nat (j := un) (by rw [List.getElem?_map, hz]; rfl), _, hD', by rw [List.length_map]; exact small1000 (by omega), hs ++ [z], ?_, ?_, hd.upd neD9, same_past (sb.trans bd.sbut) nD9, fun y hy => ?_⟩
      · rw [upd_same, List.map_append]
        rfl
      · rw [List.length_append, hsl]
        rfl
      · rcases List.mem_append.mp hy with hy | hy
        · exact hso y hy
        · rw [List.mem_singleton.mp hy]
          exact hzm
    rintro H10 ⟨hs, hD10, hsl, hh10, sb10, hso⟩
    refine ⟨D9, _, rfl, .inl ⟨SqL.of hD10, fun Th nTh => ?_⟩⟩
    have sT := same_new (o := .tup (hs.map V.str)) nTh
    have hh11 := hh10.same sT
    have neTh : Th ≠ h := hh10.ne nTh
    -- the question
    refine ⟨_, rfl, _, rfl, _, rfl, _, rfl, h, 2, rfl, hh11, by decide, fun w0 H12 w1 w2 hh12 b12 => ⟨rfl, by show 4 ≤ sizeLine; decide, fun A nA => ?_⟩⟩
    have sA := same_new (o := .lst [V.ref Th, V.ref S, V.ref Ld, V.bl (decide (V.int w0 = V.int 1))]) nA
    have sb12 : SBut h H6 H12 := ((((Same.sbut s8).trans b9.sbut).trans sb10).trans (Same.sbut sT)).trans b12.sbut
    have sbA : SBut h H H12 := sbH6.trans sb12
    obtain ⟨nA0, nAh⟩ := sbA.free hh12 nA
    refine q _ A ⟨hs, ss, es, decide (V.int w0 = V.int 1)⟩ (hh12.same sA) (sbA.trans (Same.sbut sA)) nA0 nAh ⟨⟨Th, S, Ld, ys, upd_same, sA _ _ (b12.sbut _ _ neTh upd_same), (sh6.hand hh6 sb12).same sA, (lm.hand hh6 sb12).same sA⟩⟩ ⟨n1, Nat.le_trans nm mm2, po, by show hs.length ≤ 3; omega, fun z hz => ?_, hel⟩
    rcases List.mem_append.mp (hso z hz) with q1 | q1
    · exact .inl ((hus z).mp q1)
    · exact .inr (List.mem_of_mem_take q1)
end
end Sw
namespace Sw
open PySem PySem.Spec PyProof.Rows L2 NdefX
abbrev sBegin : Stmt := topS 33
abbrev nBegin : List Str := ["_law_script", "_law_many", "_law_signs", "_law_hand", "_law_names", "_law_values", "_law_words", "_law_word", "_law_terms", "_law_tables"]
theorem scBegin : FnScope nBegin ["_law_script", "_law_many"] (defScope sBegin) := ⟨rfl, rfl, rfl, by decide +kernel, rfl, by decide +kernel, by decide +kernel⟩
abbrev sg36 : Str := "abcdefghijklmnopqrstuvwxyz0123456789"
section
variable {P : Program} {w : World} {K : PySem.W.Frag} {mg : Str → Option Value} {base : Heap}
theorem ok_begin {f fT fD fS fB fA : Addr} {fd fdT fdD fdS fdB fdA : FuncData} (F : Fun K "_law_begin" "_law_begin" sBegin f fd)
    (GT : FnOk P w K mg base CX0 1 fT fdT ["_law_hand", "_law_many"] spTake) (mT : mg "_law_take" = some (.ref fT)) (kT : PySem.W.keepIn K (.ref fT) = true) (bT : Binds K fdT ["_law_hand", "_law_many"] [])
    (GD : FnOk P w K mg base CX0 1 fD fdD ["_law_script", "_law_k"] (spDeal K)) (mD : mg "_law_deal" = some (.ref fD)) (kD : PySem.W.keepIn K (.ref fD) = true) (bD : Binds K fdD ["_law_script", "_law_k"] [])
    (GS : FnOk P w K mg base CX0 2 fS fdS ["_law_hand", "_law_many", "_law_signs"] spSpell) (mS : mg "_law_spell" = some (.ref fS)) (kS : PySem.W.keepIn K (.ref fS) = true) (bS : Binds K fdS ["_law_hand", "_law_many", "_law_signs"] [])
    (GB : FnOk P w K mg base CX0 2 fB fdB ["_law_hand", "_law_names", "_law_values"] (spDealT K)) (mB : mg "_law_deal_tables" = some (.ref fB)) (kB : PySem.W.keepIn K (.ref fB) = true) (bB : Binds K fdB ["_law_hand", "_law_names", "_law_values"] [])
    (GA : FnOk P w K mg base CX0 6 fA fdA pAsk (spAsk K)) (mA : mg "_law_deal_ask" = some (.ref fA)) (kA : PySem.W.keepIn K (.ref fA) = true) (bA : Binds K fdA pAsk []) :
    FnOk P w K mg base CX0 7 f fd ["_law_script", "_law_many"] (spBegin K) := by
  refine F.ok scBegin (fun vs H Q E h => ?_) (fun cdv A outer s H vs Q E hr h => ?_)
  · obtain ⟨a, ns, many, rfl, _⟩ := h
    rfl
  · obtain ⟨a, ns, many, rfl, hs, hn, m1, m9, q⟩ := h
    have h1 : Room 1 _ := hr.mono (by decide)
    have h2 : Room 2 _ := hr.mono (by decide)
    refine ⟨_, pss_cons (ps_set (i := 2) scBegin.nd rfl (.inl rfl) pe_str)
      (pss_cons (ps_set (i := 3) scBegin.nd rfl (.inl rfl) (pe_call GD h1 rfl mD kD bD .nil pass0 (pa_cons (pv 0) (pa_cons pe_int pa_nil))))
      (pss_cons (ps_set (i := 4) scBegin.nd rfl (.inl rfl) (pe_call GS h2 rfl mS kS bS .nil pass0 (pa_cons (pv 3) (pa_cons (pe_op op_add pe_int (pe_call GT h1 rfl mT kT bT .nil pass0 (pa_cons (pv 3) (pa_cons pe_int pa_nil)))) (pa_cons (pe_slice sl_str (pv 2) po_none (po_some pe_int)) pa_nil)))))
      (pss_cons (ps_set (i := 5) scBegin.nd rfl (.inl rfl) (pe_call GS h2 rfl mS kS bS .nil pass0 (pa_cons (pv 3) (pa_cons pe_int (pa_cons (pv 2) pa_nil)))))
      (pss_cons (ps_set (i := 6) scBegin.nd rfl (.inl rfl) (pe_call GS h2 rfl mS kS bS .nil pass0 (pa_cons (pv 3) (pa_cons pe_int (pa_cons (pv 2) pa_nil)))))
      (pss_mid (ps_if (pt_cmpR op_eq (pe_call GT h1 rfl mT kT bT .nil pass0 (pa_cons (pv 3) (pa_cons pe_int pa_nil))) pe_int (nomark _))
        (pss_cons (ps_set (i := 5) scBegin.nd rfl (.inl rfl) (pe_lst (pa_cons pe_str (pa_cons pe_str (pa_cons pe_str (pa_cons pe_str (pa_cons pe_str pa_nil)))))))
        (pss_one (ps_set (i := 6) scBegin.nd rfl (.inl rfl) (pe_lst (pa_cons pe_str (pa_cons pe_str (pa_cons pe_str (pa_cons pe_str pa_nil)))))))) pss_nil)
      (pss_cons (ps_setLc (i := 8) (own := [("_law_word", 7)]) (g := gName 7) (tt := tYes) rfl scBegin.nd rfl rfl (sw_true rfl rfl rfl (by decide +kernel)) (pi_list (pv 6)) (blkOk_by (N := nBegin) (sc := defScope sBegin) (by decide +kernel)) (fun _ _ _ _ _ => pg_name (i := 7) scBegin.nd rfl (Or.inl rfl)) (fun _ _ _ _ _ => pts_nil)
        (fun _ _ _ _ _ => pe_op op_add_str pe_str (pv 7)))
      (pss_cons (ps_set (i := 3) scBegin.nd rfl (.inl rfl) (pe_call GD h1 rfl mD kD bD .nil pass0 (pa_cons (pv 0) (pa_cons pe_int pa_nil))))
      (pss_cons (ps_set (i := 9) scBegin.nd rfl (.inl rfl) (pe_call GB h2 rfl mB kB bB .nil pass0 (pa_cons (pv 3) (pa_cons (pv 4) (pa_cons (pv 5) pa_nil)))))
      (pss_cons (ps_set (i := 3) scBegin.nd rfl (.inl rfl) (pe_call GD h1 rfl mD kD bD .nil pass0 (pa_cons (pv 0) (pa_cons pe_int pa_nil))))
      (pss_one (ps_ret (pe_lst (pa_cons (pv 9) (pa_cons (pv 5) (pa_cons (pv 8) (pa_cons (pe_call GA hr rfl mA kA bA .nil pass0 (pa_cons (pv 3) (pa_cons (pv 9) (pa_cons (pv 5) (pa_cons (pv 8) (pa_cons (pv 1) pa_nil)))))) pa_nil)))))))))))))))), ?_⟩
    have lt36 : ∀ c ∈ TL.tl sg36, c < 0x110000 := by decide +kernel
    have sg26 : ∃ sg : Str, cutS sg36 none (some 26) = sg ∧ (TL.tl sg).length = 26 ∧ (TL.tl sg).Nodup ∧ ∀ c ∈ TL.tl sg, c < 0x110000 := ⟨_, rfl, by decide +kernel, by decide +kernel, by decide +kernel⟩
    obtain ⟨sg, esg, sg1, sg2, sg3⟩ := sg26
    refine ⟨_, rfl, a, ns, 4, rfl, hs, hn, by decide, fun H1 p1 s1 n1 hh1 => ?_⟩
    -- the names
    refine ⟨_, rfl, _, rfl, p1, 3, rfl, hh1, by decide, fun v H2 v0 v3 hh2 b2 => ?_⟩
    obtain ⟨m, hm, mm1, mm3⟩ : ∃ m : Nat, (1 : Int) + v = (m : Int) ∧ 1 ≤ m ∧ m ≤ 3 := ⟨(1 + v).toNat, by omega, by omega, by omega⟩
    refine ⟨_, _, rfl, rfl, ?_⟩
    dsimp only
    rw [hm]
    refine ⟨_, rfl, 26, rfl, sg36, rfl, by decide +kernel, ?_⟩
    rw [esg]
    refine ⟨p1, m, sg, rfl, hh2, by omega, .inl sg1, sg2, fun H3 N ws hh3 sb3 nN neN hN hwl hnd hwd => ?_⟩
    have t2 : SBut p1 H1 H3 := b2.sbut.trans sb3
    -- the values, the words
    refine ⟨_, rfl, _, rfl, p1, 5, sg36, rfl, hh3, by decide, .inr (by decide +kernel), by decide +kernel, fun H4 V1 vs1 hh4 sb4 nV neV hV1 hvl hvn hvd => ?_⟩
    refine ⟨_, rfl, _, rfl, p1, 4, sg36, rfl, hh4, by decide, .inr (by decide +kernel), by decide +kernel, fun H5 W1 wd1 hh5 sb5 nW neW hW1 hdl hdn hdd => ?_⟩
    have t5 : SBut p1 H1 H5 := (t2.trans sb4).trans sb5
    have hN5 := sb5 _ _ neN (sb4 _ _ neN hN)
    have hV5 := sb5 _ _ neV hV1
    refine ⟨fun σ Hc => ∃ (Va Wo : Addr) (vals wds : List Str), σ = [some (.ref a), some (.int (many : Int)), some (.str sg36), some (.ref p1), some (.ref N), some (.ref Va), some (.ref Wo), none, none, none] ∧ SBut p1 H1 Hc ∧ Hc N = some (.lst (ws.map V.str)) ∧ Hc Va = some (.lst (vals.map V.str)) ∧ Hc Wo = some (.lst (wds.map V.str)) ∧ vals.length = 5 ∧ vals.Nodup ∧ (∀ z ∈ vals, Wd sgn z) ∧ wds.length = 4 ∧ ∀ z ∈ wds, Wd sgn z, ?_, ?_⟩
    · refine ⟨_, rfl, p1, 4, rfl, hh5, by decide, fun v2 H6 w0 w4 hh6 b6 => ⟨rfl, _, rfl, ?_⟩⟩
      rw [dec_int]
      have t6 : SBut p1 H1 H6 := t5.trans b6.sbut
      refine ite2 (fun _ => ?_) (fun _ => ?_)
      · refine ⟨by show 5 ≤ sizeLine; decide, fun Va nVa => ?_⟩
        have sv := same_new (o := .lst [V.str "v1", V.str "v2", V.str "v3", V.str "v4", V.str "v5"]) nVa
        refine ⟨by show 4 ≤ sizeLine; decide, fun Wo nWo => ?_⟩
        have sw := same_new (o := .lst [V.str "w1", V.str "w2", V.str "w3", V.str "w4"]) nWo
        refine ⟨Va, Wo, ["v1", "v2", "v3", "v4", "v5"], ["w1", "w2", "w3", "w4"], rfl, t6.trans (Same.sbut (sv.trans sw)), (sv.trans sw) _ _ (b6.sbut _ _ neN hN5), sw _ _ upd_same, upd_same, rfl, by decide +kernel, ?_, rfl, ?_⟩
        · intro z hz
          have : ∀ z ∈ (["v1", "v2", "v3", "v4", "v5"] : List Str), 1 ≤ (TL.tl z).length ∧ (TL.tl z).length ≤ 8 ∧ ∀ c ∈ TL.tl z, c ∈ TL.tl sgn := by decide +kernel
          exact this z hz
        · intro z hz
          have : ∀ z ∈ (["w1", "w2", "w3", "w4"] : List Str), 1 ≤ (TL.tl z).length ∧ (TL.tl z).length ≤ 8 ∧ ∀ c ∈ TL.tl z, c ∈ TL.tl sgn := by decide +kernel
          exact this z hz
      · exact ⟨V1, W1, vs1, wd1, rfl, t6, b6.sbut _ _ neN hN5, b6.sbut _ _ neV hV5, b6.sbut _ _ neW hW1, hvl, hvn, hvd, hdl, hdd⟩
    rintro σ6 H6 ⟨Va, Wo, vals, wds, rfl, t6, hN6, hV6, hW6, v5, vnd, vwd, w4, wwd⟩
    have vok : ∀ z ∈ vals, SOk z := fun z hz => wd_ok (vwd z hz) lt36
    have wok : ∀ z ∈ wds, z.length ≤ 900 ∧ PySem.PyData.strOk z = true := fun z hz => ⟨by rw [len_tl]; exact Nat.le_trans (wwd z hz).2.1 (by decide), (wd_ok (wwd z hz) lt36).2⟩
    have sm6 : Same H H6 := same_hand s1 n1 t6
    -- the terms
    refine ⟨_, rfl, Wo, rfl, ⟨_, SqL.of hW6⟩, fun D nD => ?_⟩
    have neWD : Wo ≠ D := ne_of_none hW6 nD
    refine lc_pure (val := V.str) (out := fun z => V.str (("?" : Str) ++ z)) (l := wds) (wk_list (K := K) (a := Wo) (val := V.str)) (fun o => SqL.of (by rw [upd_ne neWD]; exact hW6)) (by omega) (fun i u acc Q hu hq => ⟨_, rfl, _, _, rfl, rfl, ?_, hq⟩) ?_
    · have h9 := (wok u (List.mem_of_getElem? hu)).1
      have hq1 : ("?" : Str).length = 1 := by decide +kernel
      rw [hq1]
      exact room_len (by omega)
    have e7 : (wds.map fun z => V.str (("?" : Str) ++ z)) = (wds.map fun z => ("?" : Str) ++ z).map V.str := by rw [List.map_map]; rfl
    rw [e7]
    have s7 := same_new (o := .lst ((wds.map fun z => ("?" : Str) ++ z).map V.str)) nD
    have sm7 := sm6.trans s7
    have tok : ∀ z ∈ wds.map fun z => ("?" : Str) ++ z, SOk z := fun z hz => by
      obtain ⟨y, hy, rfl⟩ := List.mem_map.mp hz
      exact sok_q (wok y hy)
    have twd : ∀ z ∈ wds.map fun z => ("?" : Str) ++ z, ∃ y, z = ("?" : Str) ++ y ∧ Wd sgn y := fun z hz => by
      obtain ⟨y, hy, rfl⟩ := List.mem_map.mp hz
      exact ⟨y, rfl, wwd y hy⟩
    have t4 : (wds.map fun z => ("?" : Str) ++ z).length = 4 := by rw [List.length_map, w4]
    have hTm7 : upd H6 D (.lst ((wds.map fun z => ("?" : Str) ++ z).map V.str)) D = some (.lst ((wds.map fun z => ("?" : Str) ++ z).map V.str)) := upd_same
    generalize (wds.map fun z => ("?" : Str) ++ z) = tms at tok twd t4 s7 sm7 hTm7 ⊢
    have hN7 := s7 _ _ hN6
    have hV7 := s7 _ _ hV6
    generalize upd H6 D (.lst (tms.map V.str)) = H7 at s7 sm7 hTm7 hN7 hV7 ⊢
    -- the tables
    refine ⟨_, rfl, a, ns, 0, rfl, sm7.seq hs, hn, by decide, fun H8 p2 s8 n8 hh8 => ?_⟩
    refine ⟨_, rfl, _, rfl, _, rfl, p2, N, Va, ws, vals, rfl, hh8, s8 _ _ hN7, s8 _ _ hV7, hnd, by omega, by omega, v5, fun H9 T xs rows hh9 sb9 nT neT hT hrows => ?_⟩
    obtain ⟨rows', hR, rok, sane, nmw⟩ := dealt_way hrows hnd (by omega) (by omega)
    have sm9 : Same H7 H9 := same_hand s8 n8 sb9
    -- the question
    refine ⟨_, rfl, a, ns, 1, rfl, (sm7.trans sm9).seq hs, hn, by decide, fun H10 p3 s10 n10 hh10 => ?_⟩
    have sm10 := sm9.trans s10
    have nok : ∀ r ∈ rows', SOk r.nm := fun r hr => wd_ok (hwd _ (nmw r hr)) sg3
    refine ⟨_, rfl, _, rfl, _, rfl, _, rfl, _, rfl, _, rfl, _, rfl, _, rfl, p3, T, Va, D, many, xs, rows', vals, tms, rfl, hh10, hR.same s10, rok, nok, vok, SqL.of (sm10 _ _ hV7), v5, SqL.of (sm10 _ _ hTm7), by omega, tok, m1, m9, fun H11 Ak k hh11 sb11 nA neA hA hok => ⟨by show 4 ≤ sizeLine; decide, fun R nR => ?_⟩⟩
    have sR := same_new (o := .lst [V.ref T, V.ref Va, V.ref D, V.ref Ak]) nR
    have sm11 : Same H9 H11 := same_hand s10 n10 sb11
    have smA : Same H H11 := (sm7.trans sm9).trans sm11
    refine q _ R xs rows' vals tms k (smA.trans sR) (smA.free nR) ⟨⟨T, Va, D, Ak, upd_same, (hR.same sm11).same sR, sR _ _ ((sm9.trans sm11) _ _ hV7), sR _ _ ((sm9.trans sm11) _ _ hTm7), hA.same sR⟩, rok, sane, hok, nok, vok, tok, v5, t4, vnd, vwd, twd⟩
end
end Sw
namespace Sw
open PySem PySem.Spec PyProof.Rows L2 NdefX
abbrev sIsVar : Stmt := topS 10
abbrev sIsTerm : Stmt := topS 11
theorem bAll : bootBuiltins "all" = some (.builtin "all") := by decide +kernel
theorem scIsVar : FnScope ["term"] ["term"] (defScope sIsVar) := ⟨rfl, rfl, rfl, by decide +kernel, rfl, by decide +kernel, by decide +kernel⟩
abbrev nIsTerm : List Str := ["item", "text", "sign"]
theorem scIsTerm : FnScope nIsTerm ["item"] (defScope sIsTerm) := ⟨rfl, rfl, rfl, by decide +kernel, rfl, by decide +kernel, by decide +kernel⟩
theorem pt_is {X : Cx} {e : Expr} {t : TE} (he : ∀ whole, isTrue e X.env whole = (do let v ← whole; standAt e.pos; holding [v] (truthy v))) (h : PE X e t) : PT X e (tB t) := pt_val h he
section
variable {P : Program} {w : World} {K : PySem.W.Frag} {mg : Str → Option Value} {base : Heap}
theorem ok_isvar {f : Addr} {fd : FuncData} (F : Fun K "is_variable" "is_variable" sIsVar f fd) : FnOk P w K mg base CX0 1 f fd ["term"] spIsVar := by
  refine F.ok scIsVar (fun vs H Q E h => ?_) (fun cdv A outer s H vs Q E hr h => ?_)
  · obtain ⟨z, rfl, _⟩ := h
    rfl
  · obtain ⟨z, rfl, q⟩ := h
    refine ⟨_, pss_one (ps_ret (pe_bm PySem.F.plainAttrs_str PySem.F.slot_str_startswith PySem.F.type_str_startswith mt_startswith (pv 0) (pa_cons pe_str pa_nil))), ?_⟩
    exact ⟨_, rfl, rfl, z, "?", rfl, rfl, q⟩
/-- what is_term reads of the module -/
structure TermG (K : PySem.W.Frag) (mg : Str → Option Value) : Prop where
  sg : ∃ t, mg "SIGNS" = some (.str sgn t)
  lg : ∃ t, mg "LONGEST" = some (.int 8 t)
  isi : mg "isinstance" = none
  str : mg "str" = none
  len : mg "len" = none
  all : mg "all" = none
  ss : PySem.W.kitOne K (.type "str") (.type "str") = some true
theorem ok_isterm {f : Addr} {fd : FuncData} (F : Fun K "is_term" "is_term" sIsTerm f fd) (T : TermG K mg) : FnOk P w K mg base CX0 1 f fd ["item"] (spIsTerm K) := by
  obtain ⟨t1, gS⟩ := T.sg
  obtain ⟨t2, gL⟩ := T.lg
  refine F.ok scIsTerm (fun vs H Q E h => ?_) (fun cdv A outer s H vs Q E hr h => ?_)
  · obtain ⟨x, rfl, _⟩ := h
    rfl
  · obtain ⟨x, rfl, hx⟩ := h
    refine ⟨_, pss_cons (ps_if (pt_not (pt_is (by intro _; rfl) (pe_callB call_isi (by rfl) T.isi boot_isinstance (pa_cons (pv 0) (pa_cons (pe_bltn (v := .ty "str") rfl T.str bStr rfl) pa_nil))))) (pss_one (ps_ret pe_bl)) pss_nil)
      (pss_cons (ps_set (i := 1) scIsTerm.nd rfl (Or.inl rfl) (pe_bm PySem.F.plainAttrs_str PySem.F.slot_str_removeprefix PySem.F.type_str_removeprefix mt_removeprefix (pv 0) (pa_cons pe_str pa_nil)))
      (pss_one (ps_ret (pe_andT (pe_chain op_le op_le pe_int (pe_callB call_len_str (by rfl) T.len PySem.boot_len (pa_cons (pv 1) pa_nil)) (pe_glob (v := .int 8) rfl gL ⟨_, rfl⟩))
        (pe_one (pe_callB (cr_all rfl) (by rfl) T.all bAll (pa_cons (pe_lc (own := [("sign", 2)]) (g := gName 2) (tt := tYes) rfl scIsTerm.nd (pi_str (pv 1)) (blkOk_by (N := nIsTerm) (sc := defScope sIsTerm) (by decide +kernel)) (fun _ _ _ _ _ => pg_name (i := 2) scIsTerm.nd rfl (Or.inl rfl)) (fun _ _ _ _ _ => pts_nil)
          (fun _ _ _ _ _ => pe_cmpR op_in_str (pv 2) (pe_glob (v := .str sgn) rfl gS ⟨_, rfl⟩) (by rfl))) pa_nil))))))), ?_⟩
    rcases hx with ⟨z, rfl, hz, q⟩ | ⟨t, ty, hk, q⟩
    · refine ⟨_, rfl, _, _, _, _, _, rfl, .ty _, .base (.str z), T.ss, true, rfl, iteF ?_⟩
      refine ⟨_, rfl, rfl, z, "?", rfl, rfl, Nat.le_trans hz (by decide), ?_⟩
      have lt := Nat.le_trans (cut_len z) hz
      have fin : ∀ H' : Hp, Same H H' → ∀ b : Bool, isTermS z = b → Q (.bl b) H' := fun H' s b e => e ▸ q H' s
      unfold isTermS at fin
      generalize Txt.removeprefix z "?" = tx at lt fin ⊢
      refine ⟨_, rfl, tx, rfl, Nat.le_trans lt (by decide), _, _, rfl, rfl, _, rfl, ?_⟩
      refine ite2 (fun c => ?_) (fun c => ?_)
      · refine ⟨_, _, rfl, rfl, _, rfl, ?_⟩
        refine ite2 (fun c2 => ?_) (fun c2 => ?_)
        · have l1 : 1 ≤ tx.length := by have := of_decide_eq_true c; omega
          have l8 : tx.length ≤ 8 := by have := of_decide_eq_true c2; omega
          have l8t : (TL.tl tx).length ≤ 8 := by rw [← len_tl]; exact l8
          refine ⟨_, rfl, tx, rfl, fun D nD => ?_⟩
          refine lc_pure (val := fun c => V.str ⟨#[c]⟩) (out := fun c => V.bl (inSg c)) (l := TL.tl tx) wk_text (fun o => True.intro) (by omega) (fun i u acc Q' _ q' => ⟨_, wipe_var (by show 2 < 3; decide) _, _, _, rfl, rfl, q'⟩) ?_
          refine ⟨D, (TL.tl tx).map inSg, rfl, SqL.of (by rw [upd_same, List.map_map]; rfl), ?_⟩
          refine fin _ (same_new nD) _ ?_
          rw [decide_eq_true l1, decide_eq_true l8]
          show (TL.tl tx).all inSg = _
          rw [List.all_map]
          rfl
        · have l8 : ¬ tx.length ≤ 8 := fun h => c2 (decide_eq_true (by omega))
          refine fin _ (Same.refl _) _ ?_
          rw [decide_eq_false l8, Bool.and_false, Bool.false_and]
          exact (Bool.eq_false_iff.mpr c2).symm
      · have l1 : ¬ 1 ≤ tx.length := fun h => c (decide_eq_true (by omega))
        refine ⟨_, rfl, ?_⟩
        refine iteF (fin _ (Same.refl _) _ ?_)
        rw [decide_eq_false l1, Bool.false_and, Bool.false_and]
    · refine ⟨_, rfl, _, _, _, _, _, rfl, .ty _, ty, hk, false, rfl, iteT q⟩
end
end Sw
namespace Sw
open PySem PySem.Spec PyProof.Rows L2 NdefX
abbrev sCPart : Stmt := topS 18
abbrev nCPart : List Str := ["schema", "part", "width", "item"]
theorem scCPart : FnScope nCPart ["schema", "part"] (defScope sCPart) := ⟨rfl, rfl, rfl, by decide +kernel, rfl, by decide +kernel, by decide +kernel⟩
section
variable {P : Program} {w : World} {K : PySem.W.Frag} {mg : Str → Option Value} {base : Heap}
theorem ok_cpart {f fI fG CT CS DU : Addr} {fd fdI fdG : FuncData} (F : Fun K "check_part" "check_part" sCPart f fd) (hlen : mg "len" = none) (hall : mg "all" = none)
    (GI : FnOk P w K mg base CX0 1 fI fdI ["item"] (spIsTerm K)) (mI : mg "is_term" = some (.ref fI)) (kI : PySem.W.keepIn K (.ref fI) = true) (bI : Binds K fdI ["item"] [])
    (GG : FnOk P w K mg base (L2.CX P w) 3 fG fdG ["self", "name"] (spTable CS DU)) (MG : Meth K CS "table" fG) (bG : Binds K fdG ["self", "name"] []) (cS : Cls K CS) (cT : Cls K CT) (tW : NoAttr K CT "width") :
    FnOk P w K mg base CX0 4 f fd ["schema", "part"] (spPartOk K CT CS) := by
  refine F.ok scCPart (fun vs H Q E h => ?_) (fun cdv A outer s H vs Q E hr h => ?_)
  · obtain ⟨S, a, s, rows, l, rfl, _⟩ := h
    rfl
  · obtain ⟨S, a, s, rows, l, rfl, hS, ha, good, q⟩ := h
    have h1 : Room 1 _ := hr.mono (by decide)
    refine ⟨_, pss_cons (ps_if (pt_not (pt_truth (pv 1) (by intro _; rfl))) pss_never pss_nil)
      (pss_cons (ps_set (i := 2) scCPart.nd rfl (Or.inl rfl) (pe_fld (pe_meth (pv 0) cS MG GG hr bG .nil passL (pa_cons (pe_ix ix_tup (pv 1) pe_int (fun _ _ => rfl)) pa_nil)) rfl))
      (pss_one (ps_if (PW.pt (pw_or (pt_cmpR op_ne (pe_callB call_len_seq (by rfl) hlen PySem.boot_len (pa_cons (pv 1) pa_nil)) (pe_op op_add (pv 2) pe_int) (nomark _)) (pw_or1 (pt_not (pt_is (by intro _; rfl) (pe_callB (cr_all rfl) (by rfl) hall bAll (pa_cons
          (pe_lc (own := [("item", 3)]) (g := gName 3) (tt := tYes) rfl scCPart.nd (pi_tup (pe_slice sl_tup (pv 1) (po_some pe_int) po_none)) (blkOk_by (N := nCPart) (sc := defScope sCPart) (by decide +kernel)) (fun _ _ _ _ _ => pg_name (i := 3) scCPart.nd rfl (Or.inl rfl)) (fun _ _ _ _ _ => pts_nil)
            (fun _ _ _ _ _ => pe_call GI h1 rfl mI kI bI .nil pass0 (pa_cons (pv 3) pa_nil))) pa_nil))))))) pss_never pss_nil))), ?_⟩
    obtain ⟨r, hrm, hhd, hwd⟩ := good.row
    obtain ⟨nm, rest, rfl⟩ : ∃ nm rest, s = nm :: rest := by
      cases s with
      | nil => cases hhd
      | cons a b => exact ⟨a, b, rfl⟩
    obtain rfl : nm = r.nm := Option.some.inj hhd
    obtain ⟨t, htm, htn, htb⟩ := hS.get hrm
    have sc := hS.sch
    obtain ⟨dX, dN, hS1, hS2⟩ := sc.ex
    have hget : valV (kvT l) (Sum.inr r.nm : Key) = some (.ref t.x) := by
      rw [← htn]
      exact valV_tb sc.nd htm
    obtain ⟨ks, ts, vs, ⟨⟨dx, kA, lA, rA, g1, _⟩, _⟩, _⟩ := htb.tab
    refine ⟨_, rfl, true, ?_, iteF ?_⟩
    · exact .inr (.inl ⟨_, ha, rfl⟩)
    refine ⟨_, rfl, S, dX, _, rfl, hS1, rfl, _, rfl, a, _, _, _, rfl, rfl, ha, atI_nat (j := 0) rfl, ?_⟩
    refine ⟨S, r.nm, kvT l, rfl, ⟨dX, dN, hS1, hS2⟩, good.short _ List.mem_cons_self, fun v hv => ?_, fun hv => ?_⟩
    · rw [hget] at hv
      obtain rfl : V.ref t.x = v := Option.some.inj hv
      refine ⟨t.x, CT, dx, _, _, rfl, g1, cT, tW, rfl, ?_⟩
      refine ⟨_, rfl, a, _, rfl, .inr ha, _, rfl, _, _, rfl, rfl, rfl, _, rfl, ?_⟩
      refine iteNS ?_ ?_
      · have e1 : (((r.nm :: rest).map V.str).length : Int) = r.wd + 1 := by
          rw [List.length_map, List.length_cons, ← hwd]
          rfl
        rw [e1]
      refine ⟨_, rfl, 1, rfl, a, _, rfl, ha, ?_, fun p np => ?_⟩
      · intro z
        have h1 : HT.sIx ((r.nm :: rest).map V.str).length 0 (some 1) = min 1 ((r.nm :: rest).map V.str).length := HT.sIx_nat _ 0 1
        rw [h1, List.length_map] at z
        have := good.two
        omega
      rw [cut_tail _ (by simp)]
      have sp := same_new (o := .tup ((r.nm :: rest).tail.map V.str)) np
      refine ⟨p, rfl, ⟨_, SqT.of upd_same⟩, fun D nD => ?_⟩
      have hp : SqT K (upd H p (.tup (rest.map V.str))) p (rest.map V.str) := SqT.of upd_same
      refine lc_it (wk_tup (K := K) (a := p) (l := rest) (val := V.str)) (fun i Hc => Same (upd H p (.tup (rest.map V.str))) Hc ∧ ∃ bs : List Bool, Hc D = some (.lst (bs.map V.bl)) ∧ bs.length = i ∧ bs.all id = true) ⟨same_new nD, [], upd_same, rfl, rfl⟩ (fun i Hc _ ⟨e, _⟩ => same_seqT e hp) ?_ ?_
      · rintro i x Hc Hy hi ⟨sm, bs, hD, hbl, hba⟩ ⟨rfl, z, hz, rfl⟩
        have hzm := List.mem_of_getElem? hz
        refine ⟨rfl, ?_⟩
        refine ⟨_, rfl, .str z, rfl, .inl ⟨z, rfl, good.short z (List.mem_cons_of_mem _ hzm), fun H' s' => ?_⟩⟩
        rw [good.terms z hzm]
        refine ⟨_, s' _ _ hD, by rw [List.length_map, hbl]; exact small1000 (by have := good.len; rw [List.length_cons] at this; omega), same_mut (sm.trans s') nD, bs ++ [true], by rw [upd_same, List.map_append]; rfl, by rw [List.length_append, hbl]; rfl, by rw [List.all_append, hba]; rfl⟩
      rintro H8 ⟨sm, bs, hD, hbl, hba⟩
      refine ⟨D, bs, rfl, SqL.of hD, true, ?_, iteF ?_⟩
      · rw [hba]
      exact q _ (sp.trans sm)
    · rw [hget] at hv
      cases hv
end
end Sw
namespace Sw
open PySem PySem.Spec PyProof.Rows L2 NdefX
abbrev sCheck : Stmt := topS 17
abbrev nCheck : List Str := ["schema", "head", "parts", "among", "part", "term", "terms"]
theorem scCheck : FnScope nCheck ["schema", "head", "parts", "among"] (defScope sCheck) := ⟨rfl, rfl, rfl, by decide +kernel, rfl, by decide +kernel, by decide +kernel⟩
section
variable {P : Program} {w : World} {K : PySem.W.Frag} {mg : Str → Option Value} {base : Heap}
theorem ok_check {f fP fA fV CT CS : Addr} {fd fdP fdA fdV : FuncData} (F : Fun K "check" "check" sCheck f fd)
    (GP : FnOk P w K mg base CX0 4 fP fdP ["schema", "part"] (spPartOk K CT CS)) (mP : mg "check_part" = some (.ref fP)) (kP : PySem.W.keepIn K (.ref fP) = true) (bP : Binds K fdP ["schema", "part"] [])
    (GA : FnOk P w K mg base CX0 2 fA fdA ["words"] (spAsc K)) (mA : mg "ascending" = some (.ref fA)) (kA : PySem.W.keepIn K (.ref fA) = true) (bA : Binds K fdA ["words"] [])
    (GV : FnOk P w K mg base CX0 1 fV fdV ["term"] spIsVar) (mV : mg "is_variable" = some (.ref fV)) (kV : PySem.W.keepIn K (.ref fV) = true) (bV : Binds K fdV ["term"] []) :
    FnOk P w K mg base CX0 5 f fd ["schema", "head", "parts", "among"] (spCheckOk K CT CS) := by
  refine F.ok scCheck (fun vs H Q E h => ?_) (fun cdv A outer s H vs Q E hr h => ?_)
  · obtain ⟨S, hA, pA, mA', hd, xs, ss, ks, kvs, rows, l, rfl, _⟩ := h
    rfl
  · obtain ⟨S, hA, pA, mA', hd, xs, ss, ks, kvs, rows, l, rfl, hS, hh, hp, hps, hm, hk, good, q⟩ := h
    have h1 : Room 1 _ := hr.mono (by decide)
    have h2 : Room 2 _ := hr.mono (by decide)
    refine ⟨_, pss_cons (ps_if (pt_not (pt_truth (pv 2) (by intro _; rfl))) pss_never pss_nil)
      (pss_cons (ps_for PassesOwn.never rfl (pi_tup (pv 2)) (pg_name (i := 4) scCheck.nd rfl (Or.inl rfl)) (pss_one (ps_expr (pe_call GP hr rfl mP kP bP .nil pass0 (pa_cons (pv 0) (pa_cons (pv 4) pa_nil))))))
      (pss_cons (ps_setLc2 (i := 6) (own := [("part", 4), ("term", 5)]) (vs1 := [5]) (g := gName 4) (tt := tYes) (g1 := gName 5) (tt1 := tYes) (wi1 := iTup K (tSl (rSlT K) (tVar 4) (tPart (tC (.int 1))) tNoPart)) (te := tVar 5) rfl scCheck.nd rfl rfl (sw_true rfl rfl rfl (by decide +kernel)) (pi_tup (pv 2)) (blkOk_by (N := nCheck) (sc := defScope sCheck) (by decide +kernel)) (by decide)
        (fun _ _ _ _ _ => pg_name (i := 4) scCheck.nd rfl (Or.inl rfl)) (fun _ _ _ _ _ => pts_nil) (fun _ _ _ _ _ => pi_tup (pe_slice sl_tup (pv 4) (po_some pe_int) po_none)) (fun _ _ _ _ _ => pg_name (i := 5) scCheck.nd rfl (Or.inl rfl)) (fun _ _ _ _ _ => pts_nil) (fun _ _ _ _ _ => pv 5))
      (pss_one (ps_for PassesOwn.never rfl (pi_tup (pe_tup (StX.pa_star (pv 1) (StX.pa_star (pe_call GA h2 rfl mA kA bA .nil pass0 (pa_cons (pv 3) pa_nil)) pa_nil)))) (pg_name (i := 5) scCheck.nd rfl (Or.inl rfl))
        (pss_one (ps_if (PW.pt (pw_and (pt_is (by intro _; rfl) (pe_call GV h1 rfl mV kV bV .nil pass0 (pa_cons (pv 5) pa_nil))) (pw_and1 (pt_cmpR op_notIn_seq (pv 5) (pv 6) (by rfl))))) pss_never pss_nil)))))), ?_⟩
    have hne : xs.isEmpty = false := by
      cases xs with
      | nil => have h1 := hps.len; have h2 := good.n1; rw [← h1] at h2; exact absurd h2 (by simp)
      | cons a b => rfl
    have tail_ok : ∀ {s : List Str}, s ∈ ss → ¬ (HT.sIx (s.map V.str).length 0 (some 1) = 0 ∧ HT.sIx (s.map V.str).length (s.map V.str).length none = (s.map V.str).length) := fun {s} hs => by
      rintro ⟨z, _⟩
      have h1 : HT.sIx (s.map V.str).length 0 (some 1) = min 1 (s.map V.str).length := HT.sIx_nat _ 0 1
      rw [h1, List.length_map] at z
      have := (good.parts s hs).two
      omega
    refine ⟨_, rfl, true, .inr (.inl ⟨xs, hp, by rw [hne]; rfl⟩), iteF ?_⟩
    refine ⟨_, rfl, pA, rfl, ⟨_, hp⟩, ?_⟩
    refine for_it (walk_tup (K := K) (a := pA) (xs := xs)) (fun i σ Hc => ∃ x4, σ = [some (.ref S), some (.ref hA), some (.ref pA), some (.ref mA'), x4, none, none] ∧ Same H Hc) ⟨none, rfl, Same.refl _⟩ (fun i σ Hc _ ⟨_, _, e⟩ => same_seqT e hp) ?_ ?_
    · rintro i x σ Hc Hy hi ⟨x4, rfl, sm⟩ ⟨rfl, hx⟩
      obtain ⟨s, hs, b, rfl, hb⟩ := hps.all i x hx
      exact ⟨_, rfl, _, rfl, S, b, s, rows, l, rfl, hS.same sm, same_seqT sm hb, good.parts s (List.mem_of_getElem? hs), fun H' s' => ⟨_, rfl, sm.trans s'⟩⟩
    rintro σ H1 ⟨x4, rfl, sm1⟩
    refine ⟨_, rfl, pA, rfl, ⟨_, same_seqT sm1 hp⟩, fun D nD => ?_⟩
    have nD0 : H D = none := sm1.free nD
    refine lc2_it (walk_tup (K := K) (a := pA) (xs := xs)) (fun i Hc => Same H Hc ∧ Hc D = some (.lst ((termsOf (ss.take i)).map V.str))) ⟨sm1.trans (same_new nD), upd_same⟩ (fun i Hc _ ⟨e, _⟩ => same_seqT e hp) ?_ ?_
    · rintro i x Hc Hy hi ⟨sm, hD⟩ ⟨rfl, hx⟩
      obtain ⟨s, hs, b, rfl, hb⟩ := hps.all i x hx
      have hsm := List.mem_of_getElem? hs
      have sg := good.parts s hsm
      refine ⟨rfl, ?_⟩
      refine ⟨_, rfl, 1, rfl, b, _, rfl, same_seqT sm hb, tail_ok hsm, fun p np => ?_⟩
      rw [cut_tail s (by have := sg.two; omega)]
      have sp := same_new (o := .tup (s.tail.map V.str)) np
      have hpp : SqT K (upd Hy p (.tup (s.tail.map V.str))) p (s.tail.map V.str) := SqT.of upd_same
      have tl : (termsOf (ss.take (i + 1))).length ≤ 100 := by
        have h1 := terms_len (ss := ss.take (i + 1)) fun u hu => (good.parts u (List.mem_of_mem_take hu)).len
        have h2 : (ss.take (i + 1)).length ≤ ss.length := by rw [List.length_take]; omega
        have := good.n10
        omega
      rw [terms_snoc hs, List.length_append] at tl
      refine ⟨p, rfl, ⟨_, hpp⟩, ?_⟩
      refine in_it (wk_tup (K := K) (a := p) (l := s.tail) (val := V.str)) (fun j Hd => Same H Hd ∧ SqT K Hd p (s.tail.map V.str) ∧ Hd D = some (.lst ((termsOf (ss.take i) ++ s.tail.take j).map V.str))) ⟨sm.trans sp, hpp, by rw [List.take_zero, List.append_nil]; exact sp _ _ hD⟩ (fun j Hd _ ⟨_, e, _⟩ => e) ?_ ?_
      · rintro j x Hd Hz hj ⟨smd, hpd, hDd⟩ ⟨rfl, z, hz, rfl⟩
        refine ⟨rfl, ?_⟩
        refine ⟨_, rfl, _, hDd, ?_, same_mut smd nD0, sqT_upd hpd hDd (fun ys => ⟨fun z => (nomatch z), fun u z => (nomatch z)⟩), ?_⟩
        · rw [List.length_map, List.length_append, List.length_take]
          exact small1000 (by omega)
        · rw [upd_same, take_snoc hz, ← List.append_assoc, List.map_append (l₂ := [z])]
          rfl
      · rintro Hd ⟨smd, _, hDd⟩
        refine ⟨smd, ?_⟩
        rw [terms_snoc hs]
        rw [List.take_length] at hDd
        exact hDd
    rintro H2 ⟨sm2, hD2⟩
    rw [show ss.take xs.length = ss by rw [hps.len]; exact List.take_length] at hD2
    refine ⟨_, rfl, hA, _, rfl, .inl (same_seqT sm2 hh), ?_⟩
    refine ⟨_, rfl, mA', ks, rfl, .inr ⟨kvs, sm2 _ _ hm, hk⟩, good.kl, fun H3 p us s3 np hpu as hmu => ?_⟩
    refine ⟨p, _, rfl, .inl (SqT.of hpu), ?_⟩
    have ul : us.length ≤ 64 := by
      have := nodup_le (asc_nd as) fun z hz => (hmu z).mp hz
      have := good.kl
      omega
    refine ⟨by rw [List.length_append, List.length_append, List.length_map, List.length_map]; have := good.hl; exact Nat.le_of_lt (small1000 (by show hd.length + (us.length + 0) ≤ 1000; omega)), fun T nT => ?_⟩
    have eT : hd.map V.str ++ (us.map V.str ++ []) = (hd ++ us).map V.str := by rw [List.append_nil, List.map_append]
    rw [eT]
    have sT := same_new (o := .tup ((hd ++ us).map V.str)) nT
    have hT : SqT K (upd H3 T (.tup ((hd ++ us).map V.str))) T ((hd ++ us).map V.str) := SqT.of upd_same
    have hD3 := sT _ _ (s3 _ _ hD2)
    have sm3 := (sm2.trans s3).trans sT
    refine ⟨T, rfl, ⟨_, hT⟩, ?_⟩
    refine for_it (wk_tup (K := K) (a := T) (l := hd ++ us) (val := V.str)) (fun i σ Hc => ∃ x5, σ = [some (.ref S), some (.ref hA), some (.ref pA), some (.ref mA'), x4, x5, some (.ref D)] ∧ Hc = upd H3 T (.tup ((hd ++ us).map V.str))) ⟨none, rfl, rfl⟩ (fun i σ Hc _ ⟨_, _, e⟩ => by rw [e]; exact hT) ?_ ?_
    · rintro i x σ Hc Hy hi ⟨x5, rfl, rfl⟩ ⟨rfl, z, hz, rfl⟩
      refine ⟨_, rfl, z, rfl, isVar z, rfl, ?_⟩
      cases hv : isVar z with
      | false => exact iteF (iteF ⟨_, rfl, rfl⟩)
      | true =>
        refine iteT ?_
        refine ⟨_, rfl, _, rfl, D, _, rfl, .inl (SqL.of hD3), rfl, flat_str _, _, rfl, ?_⟩
        rw [inV_str]
        have hzt : z ∈ termsOf ss := by
          rcases List.mem_append.mp (List.mem_of_getElem? hz) with h | h
          · exact good.hd z h hv
          · exact good.ks z ((hmu z).mp h) hv
        have e : (if true = true then !decide (z ∈ termsOf ss) else decide (z ∈ termsOf ss)) = false := by simp [hzt]
        rw [e]
        exact iteF ⟨_, rfl, rfl⟩
    · rintro σ Hc ⟨x5, rfl, rfl⟩
      exact q _ sm3
end
end Sw
namespace Sw
open PySem PySem.Spec PyProof.Rows L2 NdefX
abbrev sBad : Stmt := inClass (topS 5) 0
abbrev sUnb : Stmt := inClass (topS 6) 0
theorem scBad : NScope ["self", "part", "__class__"] ["self", "part"] ["__class__"] (defScope sBad) := nscope_by (by decide +kernel)
theorem scUnb : NScope ["self", "variable", "__class__"] ["self", "variable"] ["__class__"] (defScope sUnb) := nscope_by (by decide +kernel)
section
variable {P : Program} {w : World} {K : PySem.W.Frag} {mg : Str → Option Value} {base : Heap}
theorem ok_bad {D f cc cda : Addr} {fd : FuncData} (T : SupTxt P K mg "BadPart.__init__" sBad D f cc cda fd) (O : OexC K D) (nf : PySem.W.findIn K (.ref D) "part" = some none) :
    FnOk P w K mg base CX0 1 f fd ["self", "part"] (spErr D "part" (PTup K)) := by
  refine fn_super T O scBad (fun vs H Q E h => ?_) rfl rfl rfl rfl rfl (fun _ => rfl) (fun _ => ⟨_, rfl⟩) (fun _ => rfl) (fun A outer s H vs Q E hr h => ?_)
  · obtain ⟨a, v, rfl, _⟩ := h
    rfl
  · obtain ⟨a, v, rfl, hH, ⟨b, l, rfl, hb, hl, hn⟩, q⟩ := h
    refine ⟨_, _, a, rfl, hH, pe_joined (.cons pe_str (.cons (pe_fmtT hr (pv 1)) .nil)), pss_one (ps_ost (pv 0) (pv 1)), ?_⟩
    have l1 : (Str.empty ++ ("not a part: " : Str)).length ≤ 100 := by decide +kernel
    have c1 := fmt_le fun z hz => (hl z hz).1
    have c2 : l.length * 10004 ≤ 50 * 10004 := Nat.mul_le_mul_right _ hn
    have s24 : 1000000 ≤ sizeLine := by decide
    refine ⟨_, rfl, Nat.le_trans l1 (by decide), _, rfl, b, l, rfl, hb, fun y hy c hc => ?_, by omega, fun m hm => ⟨_, rfl, ?_, rfl, hH, ?_⟩⟩
    · have h2 := (hl y hy).2
      unfold PySem.PyData.strOk at h2
      rw [← Array.all_toList, List.all_eq_true] at h2
      have := of_decide_eq_true (h2 c hc)
      omega
    · rw [str_app_len]
      omega
    exact ⟨_, rfl, _, rfl, a, D, rfl, O, nf, .inl ⟨hH, q⟩⟩
theorem ok_unb {D f cc cda : Addr} {fd : FuncData} (T : SupTxt P K mg "Unbound.__init__" sUnb D f cc cda fd) (O : OexC K D) (nf : PySem.W.findIn K (.ref D) "variable" = some none) :
    FnOk P w K mg base CX0 1 f fd ["self", "variable"] (spErr D "variable" PStr) := by
  refine fn_super T O scUnb (fun vs H Q E h => ?_) rfl rfl rfl rfl rfl (fun _ => rfl) (fun _ => ⟨_, rfl⟩) (fun _ => rfl) (fun A outer s H vs Q E hr h => ?_)
  · obtain ⟨a, v, rfl, _⟩ := h
    rfl
  · obtain ⟨a, v, rfl, hH, ⟨z, rfl, hz⟩, q⟩ := h
    refine ⟨_, _, a, rfl, hH, pe_joined (.cons pe_str (.cons (pe_fmt (pv 1)) (.cons pe_str .nil))), pss_one (ps_ost (pv 0) (pv 1)), ?_⟩
    have l1 : (Str.empty ++ ("the variable " : Str)).length ≤ 100 := by decide +kernel
    have l2 : (" is in no part" : Str).length ≤ 100 := by decide +kernel
    refine ⟨_, rfl, Nat.le_trans l1 (by decide), _, rfl, .inl ⟨z, rfl, Nat.le_trans hz (by decide), _, rfl, ?_, _, rfl, ?_, rfl, hH, ?_⟩⟩
    · rw [str_app_len]
      exact room_len (by omega)
    · rw [str_app_len, str_app_len]
      exact room_len (by omega)
    exact ⟨_, rfl, _, rfl, a, D, rfl, O, nf, .inl ⟨hH, q⟩⟩
end
end Sw
namespace Sw
open PySem PySem.Spec PyProof.Rows L2 NdefX
section
variable {P : Program} {w : World} {K : PySem.W.Frag} {mg : Str → Option Value} {base : Heap}
theorem ok_cpx {f fI fG CT CS DU DB DN fB ccB cdB : Addr} {fd fdI fdG fdB : FuncData} (F : Fun K "check_part" "check_part" sCPart f fd) (hlen : mg "len" = none) (hall : mg "all" = none)
    (GI : FnOk P w K mg base CX0 1 fI fdI ["item"] (spIsTerm K)) (mI : mg "is_term" = some (.ref fI)) (kI : PySem.W.keepIn K (.ref fI) = true) (bI : Binds K fdI ["item"] [])
    (GG : FnOk P w K mg base (L2.CX P w) 3 fG fdG ["self", "name"] (spTable CS DU)) (MG : Meth K CS "table" fG) (bG : Binds K fdG ["self", "name"] []) (cS : Cls K CS) (cT : Cls K CT) (tW : NoAttr K CT "width")
    (B : ErrTxt P K mg "BadPart" "BadPart.__init__" sBad DB fB ccB cdB fdB "part") :
    FnOk P w K mg base (L2.CX P w) 4 f fd ["schema", "part"] (spPartX K CT CS DU DB DN) := by
  have GB := ok_bad (w := w) (base := base) B.sup B.oex B.nf
  refine F.okX scCPart (fun vs H Q E h => ?_) (fun cdv A outer s H vs Q E hr h => ?_)
  · obtain ⟨S, a, s, rows, l, rfl, _⟩ := h
    rfl
  · obtain ⟨S, a, s, rows, l, rfl, hS, ha, raw, wd1, q, qE⟩ := h
    have h1 : Room 1 _ := hr.mono (by decide)
    refine ⟨_, pss_cons (ps_if (pt_not (pt_truth (pv 1) (by intro _; rfl))) pss_never pss_nil)
      (pss_cons (ps_set (i := 2) scCPart.nd rfl (Or.inl rfl) (pe_fld (pe_meth (pv 0) cS MG GG hr bG .nil (passes_call (takes_of rfl rfl rfl rfl) fun _ _ _ _ h => h) (pa_cons (pe_ix ix_tup (pv 1) pe_int (fun _ _ => rfl)) pa_nil)) rfl))
      (pss_one (ps_if (PW.pt (pw_or (pt_cmpR op_ne (pe_callB call_len_seq (by rfl) hlen PySem.boot_len (pa_cons (pv 1) pa_nil)) (pe_op op_add (pv 2) pe_int) (nomark _)) (pw_or1 (pt_not (pt_is (by intro _; rfl) (pe_callB (cr_all rfl) (by rfl) hall bAll (pa_cons
          (pe_lc (own := [("item", 3)]) (g := gName 3) (tt := tYes) rfl scCPart.nd (pi_tup (pe_slice sl_tup (pv 1) (po_some pe_int) po_none)) (blkOk_by (N := nCPart) (sc := defScope sCPart) (by decide +kernel)) (fun _ _ _ _ _ => pg_name (i := 3) scCPart.nd rfl (Or.inl rfl)) (fun _ _ _ _ _ => pts_nil)
            (fun _ _ _ _ _ => pe_call GI h1 rfl mI kI bI .nil pass0 (pa_cons (pv 3) pa_nil))) pa_nil))))))) (pss_one (ps_raise rfl (takes_of rfl rfl rfl rfl) (pmk_oex B.oex B.iC B.tI GB (hr.mono (by decide)) B.bd .nil pass0 rfl B.gC (pa_cons (pv 1) pa_nil)))) pss_nil))), ?_⟩
    obtain ⟨nm, rest, rfl⟩ : ∃ nm rest, s = nm :: rest := by
      cases s with
      | nil => exact absurd raw.ne (by decide)
      | cons a b => exact ⟨a, b, rfl⟩
    have sc := hS.sch
    obtain ⟨dX, dN, hS1, hS2⟩ := sc.ex
    obtain ⟨fnd1, fnd2⟩ := hS.find nm
    have okn := raw.ok nm List.mem_cons_self
    have tup : ∀ {Hc : Hp}, Same H Hc → PTup K (.ref a) Hc := fun s => ⟨a, _, rfl, same_seqT s ha, fun z hz => raw.ok z hz, Nat.le_trans raw.len (by decide)⟩
    refine ⟨_, rfl, true, .inr (.inl ⟨_, ha, rfl⟩), iteF ?_⟩
    refine ⟨_, rfl, S, dX, _, rfl, hS1, rfl, _, rfl, a, _, _, _, rfl, rfl, ha, atI_nat (j := 0) rfl, ?_⟩
    refine ⟨S, nm, kvT l, rfl, ⟨dX, dN, hS1, hS2⟩, okn.1, fun v hv => ?_, fun hv dd hdd => ?_⟩
    · cases hf : rows.find? fun x => decide (x.nm = nm) with
      | none => rw [fnd2 hf] at hv; cases hv
      | some r =>
        obtain ⟨t, htm, htn, htb, hget⟩ := fnd1 r hf
        rw [hget] at hv
        obtain rfl : V.ref t.x = v := Option.some.inj hv
        obtain ⟨ks, ts, vs, ⟨⟨dx, kA, lA, rA, g1, _⟩, _⟩, _⟩ := htb.tab
        have pf := fault_some (r := rest) hf
        refine ⟨t.x, CT, dx, _, _, rfl, g1, cT, tW, rfl, ?_⟩
        refine ⟨_, rfl, a, _, rfl, .inr ha, _, rfl, _, _, rfl, rfl, rfl, _, rfl, ?_⟩
        have e1 : (((nm :: rest).map V.str).length : Int) = rest.length + 1 := by
          rw [List.length_map, List.length_cons]
          rfl
        by_cases hw : (rest.length : Int) = r.wd
        · refine iteNS (by rw [e1, hw]) ?_
          have hw1 : 1 ≤ rest.length := by have := wd1 r (List.mem_of_find?_eq_some hf); omega
          refine ⟨_, rfl, 1, rfl, a, _, rfl, ha, ?_, fun p np => ?_⟩
          · intro z
            have h1 : HT.sIx ((nm :: rest).map V.str).length 0 (some 1) = min 1 ((nm :: rest).map V.str).length := HT.sIx_nat _ 0 1
            rw [h1, List.length_map, List.length_cons] at z
            omega
          rw [cut_tail _ (by simp)]
          have sp := same_new (o := .tup ((nm :: rest).tail.map V.str)) np
          refine ⟨p, rfl, ⟨_, SqT.of upd_same⟩, fun D nD => ?_⟩
          have hp : SqT K (upd H p (.tup (rest.map V.str))) p (rest.map V.str) := SqT.of upd_same
          refine lc_it (wk_tup (K := K) (a := p) (l := rest) (val := V.str)) (fun i Hc => Same (upd H p (.tup (rest.map V.str))) Hc ∧ Hc D = some (.lst (((rest.take i).map isTermS).map V.bl))) ⟨same_new nD, upd_same⟩ (fun i Hc _ ⟨e, _⟩ => same_seqT e hp) ?_ ?_
          · rintro i x Hc Hy hi ⟨sm, hD⟩ ⟨rfl, z, hz, rfl⟩
            have hzm := List.mem_of_getElem? hz
            refine ⟨rfl, ?_⟩
            refine ⟨_, rfl, .str z, rfl, .inl ⟨z, rfl, (raw.ok z (List.mem_cons_of_mem _ hzm)).1, fun H' s' => ?_⟩⟩
            refine ⟨_, s' _ _ hD, by rw [List.length_map, List.length_map, List.length_take]; exact small1000 (by have := raw.len; rw [List.length_cons] at this; omega), same_mut (sm.trans s') nD, ?_⟩
            rw [upd_same, take_snoc hz, List.map_append, List.map_append]
            rfl
          rintro H8 ⟨sm, hD⟩
          rw [List.take_length] at hD
          have s8 := sp.trans sm
          refine ⟨D, rest.map isTermS, rfl, SqL.of hD, _, rfl, ?_⟩
          have ea : (rest.map isTermS).all id = rest.all isTermS := by rw [List.all_map]; rfl
          rw [ea]
          cases hall2 : rest.all isTermS with
          | true => exact iteF (q (by rw [pf, if_pos ⟨hw, hall2⟩]) _ s8)
          | false =>
            refine iteT ?_
            exact ⟨_, rfl, mk_err (fun b hb => tup (s8.trans (same_new hb))) (fun dd h => qE (.part (nm :: rest)) (by rw [pf, if_neg (fun c => by rw [hall2] at c; exact absurd c.2 (by decide))]) H8 dd a s8 h (same_seqT s8 ha))⟩
        · have hc : decide (V.int ((((nm :: rest).map V.str).length : Nat) : Int) = V.int (r.wd + 1)) = false := decide_eq_false fun z => hw (by have := V.int.inj z; omega)
          have hc2 : (!decide (V.int ((((nm :: rest).map V.str).length : Nat) : Int) = V.int (r.wd + 1))) = true := by rw [hc]; rfl
          rw [hc2]
          refine iteT (iteT ?_)
          exact ⟨_, rfl, mk_err (fun b hb => tup (same_new hb)) (fun dd h => qE (.part (nm :: rest)) (by rw [pf, if_neg (fun c => hw c.1)]) H dd a (Same.refl _) h ha)⟩
    · cases hf : rows.find? fun x => decide (x.nm = nm) with
      | none =>
        exact qE (.table nm) (fault_none hf) H dd (Same.refl _) hdd
      | some r =>
        obtain ⟨t, _, _, _, hget⟩ := fnd1 r hf
        rw [hget] at hv
        cases hv
end
end Sw
namespace Sw
open PySem PySem.Spec PyProof.Rows L2 NdefX
section
variable {P : Program} {w : World} {K : PySem.W.Frag} {mg : Str → Option Value} {base : Heap}
theorem ok_ckx {f fP fA fV CT CS DU DB DN fB ccB cdB fN ccN cdN : Addr} {fd fdP fdA fdV fdB fdN : FuncData} (F : Fun K "check" "check" sCheck f fd)
    (GP : FnOk P w K mg base (L2.CX P w) 4 fP fdP ["schema", "part"] (spPartX K CT CS DU DB DN)) (mP : mg "check_part" = some (.ref fP)) (kP : PySem.W.keepIn K (.ref fP) = true) (bP : Binds K fdP ["schema", "part"] [])
    (GA : FnOk P w K mg base CX0 2 fA fdA ["words"] (spAsc K)) (mA : mg "ascending" = some (.ref fA)) (kA : PySem.W.keepIn K (.ref fA) = true) (bA : Binds K fdA ["words"] [])
    (GV : FnOk P w K mg base CX0 1 fV fdV ["term"] spIsVar) (mV : mg "is_variable" = some (.ref fV)) (kV : PySem.W.keepIn K (.ref fV) = true) (bV : Binds K fdV ["term"] [])
    (B : ErrTxt P K mg "BadPart" "BadPart.__init__" sBad DB fB ccB cdB fdB "part") (N : ErrTxt P K mg "Unbound" "Unbound.__init__" sUnb DN fN ccN cdN fdN "variable") :
    FnOk P w K mg base (L2.CX P w) 5 f fd ["schema", "head", "parts", "among"] (spCheckX K CT CS DU DB DN) := by
  have GB := ok_bad (w := w) (base := base) B.sup B.oex B.nf
  have GN := ok_unb (w := w) (base := base) N.sup N.oex N.nf
  refine F.okX scCheck (fun vs H Q E h => ?_) (fun cdv A outer s H vs Q E hr h => ?_)
  · obtain ⟨S, hA, pA, mA', hd, xs, ss, ks, kvs, rows, l, rfl, _⟩ := h
    rfl
  · obtain ⟨S, hA, pA, mA', hd, xs, ss, ks, kvs, rows, l, rfl, hS, hh, hp, hps, hm, hk, raw, q⟩ := h
    have h1 : Room 1 _ := hr.mono (by decide)
    have h2 : Room 2 _ := hr.mono (by decide)
    refine ⟨_, pss_cons (ps_if (pt_not (pt_truth (pv 2) (by intro _; rfl))) (pss_one (ps_raise rfl (takes_of rfl rfl rfl rfl) (pmk_oex B.oex B.iC B.tI GB h2 B.bd .nil pass0 rfl B.gC (pa_cons (pe_tup pa_nil) pa_nil)))) pss_nil)
      (pss_cons (ps_for (passes_of rfl) rfl (pi_tup (pv 2)) (pg_name (i := 4) scCheck.nd rfl (Or.inl rfl)) (pss_one (ps_expr (pe_call GP hr rfl mP kP bP .nil (passes_call (takes_of rfl rfl rfl rfl) fun _ _ _ _ h => h) (pa_cons (pv 0) (pa_cons (pv 4) pa_nil))))))
      (pss_cons (ps_setLc2 (i := 6) (own := [("part", 4), ("term", 5)]) (vs1 := [5]) (g := gName 4) (tt := tYes) (g1 := gName 5) (tt1 := tYes) (wi1 := iTup K (tSl (rSlT K) (tVar 4) (tPart (tC (.int 1))) tNoPart)) (te := tVar 5) rfl scCheck.nd rfl rfl (sw_true rfl rfl rfl (by decide +kernel)) (pi_tup (pv 2)) (blkOk_by (N := nCheck) (sc := defScope sCheck) (by decide +kernel)) (by decide)
        (fun _ _ _ _ _ => pg_name (i := 4) scCheck.nd rfl (Or.inl rfl)) (fun _ _ _ _ _ => pts_nil) (fun _ _ _ _ _ => pi_tup (pe_slice sl_tup (pv 4) (po_some pe_int) po_none)) (fun _ _ _ _ _ => pg_name (i := 5) scCheck.nd rfl (Or.inl rfl)) (fun _ _ _ _ _ => pts_nil) (fun _ _ _ _ _ => pv 5))
      (pss_one (ps_for (passes_of rfl) rfl (pi_tup (pe_tup (StX.pa_star (pv 1) (StX.pa_star (pe_call GA h2 rfl mA kA bA .nil pass0 (pa_cons (pv 3) pa_nil)) pa_nil)))) (pg_name (i := 5) scCheck.nd rfl (Or.inl rfl))
        (pss_one (ps_if (PW.pt (pw_and (pt_is (by intro _; rfl) (pe_call GV h1 rfl mV kV bV .nil pass0 (pa_cons (pv 5) pa_nil))) (pw_and1 (pt_cmpR op_notIn_seq (pv 5) (pv 6) (by rfl))))) (pss_one (ps_raise rfl (takes_of rfl rfl rfl rfl) (pmk_oex N.oex N.iC N.tI GN h2 N.bd .nil pass0 rfl N.gC (pa_cons (pv 5) pa_nil)))) pss_nil)))))), ?_⟩
    obtain ⟨us0, as0, ms0⟩ := asc_exists ks
    obtain ⟨q0, qE⟩ := q us0 as0 ms0
    have xl : xs.length = ss.length := hps.len
    have truth : TruV K (.ref pA) H (!xs.isEmpty) := .inr (.inl ⟨xs, hp, rfl⟩)
    refine ⟨_, rfl, _, truth, ?_⟩
    cases hss : ss with
    | nil =>
      obtain rfl : xs = [] := List.eq_nil_of_length_eq_zero (by rw [xl, hss]; rfl)
      refine iteT ?_
      refine ⟨by decide, fun T nT => ?_⟩
      have sT := same_new (o := .tup []) nT
      have hT : SqT K (upd H T (.tup [])) T (([] : List Str).map V.str) := SqT.of upd_same
      have hdue : dueOf rows hd ss us0 = some (.part []) := by rw [hss]; rfl
      exact mk_err (fun b hb => ⟨T, [], rfl, same_seqT (same_new hb) hT, fun z hz => (nomatch hz), Nat.zero_le _⟩) (fun dd h => qE (.part []) hdue _ dd T sT h hT)
    | cons s1 sr =>
    have n1 : 1 ≤ ss.length := by rw [hss]; exact Nat.le_add_left 1 _
    have xe : xs.isEmpty = false := by
      cases xs with
      | nil => rw [hss] at xl; cases xl
      | cons _ _ => rfl
    rw [xe]
    refine iteF ?_
    clear hss
    have tail_ok : ∀ {s : List Str}, s ∈ ss → 2 ≤ s.length → ¬ (HT.sIx (s.map V.str).length 0 (some 1) = 0 ∧ HT.sIx (s.map V.str).length (s.map V.str).length none = (s.map V.str).length) := fun {s} hs h2 => by
      rintro ⟨z, _⟩
      have h1 : HT.sIx (s.map V.str).length 0 (some 1) = min 1 (s.map V.str).length := HT.sIx_nat _ 0 1
      rw [h1, List.length_map] at z
      omega
    refine ⟨_, rfl, pA, rfl, ⟨_, hp⟩, ?_⟩
    refine for_it (walk_tup (K := K) (a := pA) (xs := xs)) (fun i σ Hc => ∃ x4, σ = [some (.ref S), some (.ref hA), some (.ref pA), some (.ref mA'), x4, none, none] ∧ Same H Hc ∧ ∀ s ∈ ss.take i, partFault rows s = none) ⟨none, rfl, Same.refl _, fun s hs => (nomatch hs)⟩ (fun i σ Hc _ ⟨_, _, e, _⟩ => same_seqT e hp) ?_ ?_
    · rintro i x σ Hc Hy hi ⟨x4, rfl, sm, hb⟩ ⟨rfl, hx⟩
      obtain ⟨s, hs, b, rfl, hbq⟩ := hps.all i x hx
      refine ⟨_, rfl, _, rfl, S, b, s, rows, l, rfl, hS.same sm, same_seqT sm hbq, raw.parts s (List.mem_of_getElem? hs), raw.wd, fun hn H' s' => ⟨_, rfl, sm.trans s', fun u hu => ?_⟩, fun o ho => (qE o (due_part hb hs ho)).same sm⟩
      rw [take_snoc hs] at hu
      rcases List.mem_append.mp hu with h | h
      · exact hb u h
      · rw [List.mem_singleton.mp h]
        exact hn
    rintro σ H1 ⟨x4, rfl, sm1, hnone⟩
    rw [show ss.take xs.length = ss by rw [xl]; exact List.take_length] at hnone
    have hdue := due_free (hd := hd) (us := us0) n1 hnone
    have two : ∀ s ∈ ss, 2 ≤ s.length := fun s hs => by
      have h1 := hnone s hs
      cases s with
      | nil => cases h1
      | cons nm r =>
        cases hf : rows.find? fun x => decide (x.nm = nm) with
        | none => rw [fault_none hf] at h1; cases h1
        | some x =>
          rw [fault_some hf] at h1
          by_cases c : (r.length : Int) = x.wd ∧ r.all isTermS = true
          · have := raw.wd x (List.mem_of_find?_eq_some hf)
            rw [List.length_cons]
            omega
          · rw [if_neg c] at h1
            cases h1
    refine ⟨_, rfl, pA, rfl, ⟨_, same_seqT sm1 hp⟩, fun D nD => ?_⟩
    have nD0 : H D = none := sm1.free nD
    have tlen : (termsOf ss).length ≤ 200 := by
      have go : ∀ {ss : List (List Str)}, (∀ s ∈ ss, s.length ≤ 20) → (termsOf ss).length ≤ ss.length * 20 := by
        intro ss
        induction ss with
        | nil => exact fun _ => Nat.zero_le _
        | cons s r ih =>
          intro h
          unfold termsOf at ih ⊢
          rw [List.flatMap_cons, List.length_append, List.length_cons, List.length_tail]
          have h1 := h s List.mem_cons_self
          have h2 := ih fun u hu => h u (List.mem_cons_of_mem _ hu)
          omega
      have := go fun s hs => (raw.parts s hs).len
      have := raw.n10
      omega
    refine lc2_it (walk_tup (K := K) (a := pA) (xs := xs)) (fun i Hc => Same H Hc ∧ Hc D = some (.lst ((termsOf (ss.take i)).map V.str))) ⟨sm1.trans (same_new nD), upd_same⟩ (fun i Hc _ ⟨e, _⟩ => same_seqT e hp) ?_ ?_
    · rintro i x Hc Hy hi ⟨sm, hD⟩ ⟨rfl, hx⟩
      obtain ⟨s, hs, b, rfl, hb⟩ := hps.all i x hx
      have hsm := List.mem_of_getElem? hs
      refine ⟨rfl, ?_⟩
      refine ⟨_, rfl, 1, rfl, b, _, rfl, same_seqT sm hb, tail_ok hsm (two s hsm), fun p np => ?_⟩
      rw [cut_tail s (by have := two s hsm; omega)]
      have sp := same_new (o := .tup (s.tail.map V.str)) np
      have hpp : SqT K (upd Hy p (.tup (s.tail.map V.str))) p (s.tail.map V.str) := SqT.of upd_same
      have tl : (termsOf (ss.take (i + 1))).length ≤ 200 := by
        have e : termsOf ss = termsOf (ss.take (i + 1)) ++ termsOf (ss.drop (i + 1)) := by
          unfold termsOf
          rw [← List.flatMap_append, List.take_append_drop]
        rw [e, List.length_append] at tlen
        omega
      rw [terms_snoc hs, List.length_append] at tl
      refine ⟨p, rfl, ⟨_, hpp⟩, ?_⟩
      refine in_it (wk_tup (K := K) (a := p) (l := s.tail) (val := V.str)) (fun j Hd => Same H Hd ∧ SqT K Hd p (s.tail.map V.str) ∧ Hd D = some (.lst ((termsOf (ss.take i) ++ s.tail.take j).map V.str))) ⟨sm.trans sp, hpp, by rw [List.take_zero, List.append_nil]; exact sp _ _ hD⟩ (fun j Hd _ ⟨_, e, _⟩ => e) ?_ ?_
      · rintro j x Hd Hz hj ⟨smd, hpd, hDd⟩ ⟨rfl, z, hz, rfl⟩
        refine ⟨rfl, ?_⟩
        refine ⟨_, rfl, _, hDd, ?_, same_mut smd nD0, sqT_upd hpd hDd (fun ys => ⟨fun z => (nomatch z), fun u z => (nomatch z)⟩), ?_⟩
        · rw [List.length_map, List.length_append, List.length_take]
          exact small1000 (by omega)
        · rw [upd_same, take_snoc hz, ← List.append_assoc, List.map_append (l₂ := [z])]
          rfl
      · rintro Hd ⟨smd, _, hDd⟩
        refine ⟨smd, ?_⟩
        rw [terms_snoc hs]
        rw [List.take_length] at hDd
        exact hDd
    rintro H2 ⟨sm2, hD2⟩
    rw [show ss.take xs.length = ss by rw [xl]; exact List.take_length] at hD2
    refine ⟨_, rfl, hA, _, rfl, .inl (same_seqT sm2 hh), ?_⟩
    refine ⟨_, rfl, mA', ks, rfl, .inr ⟨kvs, sm2 _ _ hm, hk⟩, raw.kl, fun H3 p us s3 np hpu asu hmu => ?_⟩
    obtain rfl : us = us0 := ascS_unique asu as0 fun z => by rw [hmu z, ms0 z]
    refine ⟨p, _, rfl, .inl (SqT.of hpu), ?_⟩
    have ul : us.length ≤ 64 := by
      have := nodup_le (asc_nd asu) fun z hz => (hmu z).mp hz
      have := raw.kl
      omega
    refine ⟨by rw [List.length_append, List.length_append, List.length_map, List.length_map]; have := raw.hl; exact Nat.le_of_lt (small1000 (by show hd.length + (us.length + 0) ≤ 1000; omega)), fun T nT => ?_⟩
    have eT : hd.map V.str ++ (us.map V.str ++ []) = (hd ++ us).map V.str := by rw [List.append_nil, List.map_append]
    rw [eT]
    have sT := same_new (o := .tup ((hd ++ us).map V.str)) nT
    have hT : SqT K (upd H3 T (.tup ((hd ++ us).map V.str))) T ((hd ++ us).map V.str) := SqT.of upd_same
    have hD3 := sT _ _ (s3 _ _ hD2)
    have sm3 := (sm2.trans s3).trans sT
    have oku : ∀ z ∈ hd ++ us, SOk z := fun z hz => by
      rcases List.mem_append.mp hz with h | h
      · exact raw.ho z h
      · exact raw.ko z ((hmu z).mp h)
    refine ⟨T, rfl, ⟨_, hT⟩, ?_⟩
    refine for_it (wk_tup (K := K) (a := T) (l := hd ++ us) (val := V.str)) (fun i σ Hc => ∃ x5, σ = [some (.ref S), some (.ref hA), some (.ref pA), some (.ref mA'), x4, x5, some (.ref D)] ∧ Hc = upd H3 T (.tup ((hd ++ us).map V.str)) ∧ ∀ z ∈ (hd ++ us).take i, (isVar z && !decide (z ∈ termsOf ss)) = false) ⟨none, rfl, rfl, fun z hz => (nomatch hz)⟩ (fun i σ Hc _ ⟨_, _, e, _⟩ => by rw [e]; exact hT) ?_ ?_
    · rintro i x σ Hc Hy hi ⟨x5, rfl, rfl, hb⟩ ⟨rfl, z, hz, rfl⟩
      have hzm := List.mem_of_getElem? hz
      have next : (isVar z && !decide (z ∈ termsOf ss)) = false → ∀ u ∈ (hd ++ us).take (i + 1), (isVar u && !decide (u ∈ termsOf ss)) = false := fun hn u hu => by
        rw [take_snoc hz] at hu
        rcases List.mem_append.mp hu with h | h
        · exact hb u h
        · rw [List.mem_singleton.mp h]
          exact hn
      refine ⟨_, rfl, z, rfl, isVar z, rfl, ?_⟩
      cases hv : isVar z with
      | false => exact iteF (iteF ⟨_, rfl, rfl, next (by rw [hv]; rfl)⟩)
      | true =>
        refine iteT ?_
        refine ⟨_, rfl, _, rfl, D, _, rfl, .inl (SqL.of hD3), rfl, flat_str _, _, rfl, ?_⟩
        rw [inV_str]
        by_cases hzt : z ∈ termsOf ss
        · have e : (if true = true then !decide (z ∈ termsOf ss) else decide (z ∈ termsOf ss)) = false := by simp [hzt]
          rw [e]
          exact iteF ⟨_, rfl, rfl, next (by rw [hv]; simp [hzt])⟩
        · have e : (if true = true then !decide (z ∈ termsOf ss) else decide (z ∈ termsOf ss)) = true := by simp [hzt]
          rw [e]
          refine iteT ?_
          have hfree : freeOf ss (hd ++ us) = some z := find_first (fun u hu => hb u hu) hz (by rw [hv]; simp [hzt])
          exact ⟨_, rfl, mk_err (fun b hb => ⟨z, rfl, (oku z hzm).1⟩) (fun dd h => qE (.unb z) (by rw [hdue, hfree]; rfl) _ dd sm3 h)⟩
    · rintro σ Hc ⟨x5, rfl, rfl, hb⟩
      rw [List.take_length] at hb
      have hfree : freeOf ss (hd ++ us) = none := List.find?_eq_none.mpr fun z hz => by rw [hb z hz]; decide
      exact q0 (by rw [hdue, hfree]; rfl) _ sm3
end
end Sw
namespace Sw
open PySem PySem.Spec PyProof.Rows L2
/-- a question's __init__ in general, its values in the order self, schema, head, among, duplicates, parts -/
def spQuesXB (K : PySem.W.Frag) (CT CS CQ DU DB DN : Addr) : Sp := fun vs H Q E => ∃ (x dx S hA pA : Addr) (hd : List Str) (lv : V) (dup : Bool) (xs : List V) (ss : List (List Str)) (ks : List Str) (es : List Ent) (rows : List Rw) (l : List Tb), vs = [.ref x, .ref S, .ref hA, lv, .bl dup, .ref pA] ∧
  H x = some (.ins CQ dx []) ∧ SchOf K CT CS H S rows l ∧ SqT K H hA (hd.map V.str) ∧ SqT K H pA xs ∧ PartsV K H xs ss ∧ ((lv = .non ∧ es = []) ∨ ∃ a, lv = .ref a ∧ LDict K H a es) ∧ es.map (·.1) = ks.map Sum.inr ∧ AskRaw rows hd ss ks ∧
  ∀ us : List Str, AscS us → (∀ z, z ∈ us ↔ z ∈ ks) → (dueOf rows hd ss us = none → ∀ (H' : Hp) (lA : Addr) (ts : List Ent), SBut x H H' → H lA = none → QuesAt K CQ H' x S hd ss ts dup hA pA lA xs → Alike es ts → Q .non H') ∧ ∀ o, dueOf rows hd ss us = some o → EOut K DU DB DN E H o
/-- Question(schema, head, part, .., among = .., duplicates = ..) in general -/
def spQuesXK (K : PySem.W.Frag) (CT CS CQ DU DB DN : Addr) : List V → List V → Hp → VK → XK → Prop := fun vs zs H Q E => ∃ as rest, vs = as ++ rest ∧ as.length = 3 ∧ rest.length ≤ sizeLine ∧ ∀ p, H p = Option.none → spQuesXB K CT CS CQ DU DB DN ((as ++ zs) ++ [V.ref p]) (upd H p (.tup rest)) Q E
end Sw
namespace Sw
open PySem PySem.Spec PyProof.Rows L2
/-- C(e, .., k = v, ..) in a try: what __init__ lets out is told by the slots -/
def tMakeRKE (C : Addr) (m : Nat) (sp : List V → List V → Hp → VK → XK → Prop) (Ex : L2.St → XK) (t tk : TA) : TE := fun σ H Q => t σ H fun vs H1 => tk σ H1 fun zs H2 => zs.length = m ∧ ∀ x dx, H2 x = Option.none → H2 dx = Option.none → dx ≠ x →
  sp (V.ref x :: vs) zs (upd (upd H2 dx (.own x)) x (.ins C dx [])) (fun v H3 => v = .non ∧ Q (.ref x) H3) (Ex σ)
section
variable {X : Cx} {CX : CXT} {k : Nat} {f C : Addr} {ks : List Str} {sp : List V → List V → Hp → VK → XK → Prop} {Ex : L2.St → XK} {x : Str} {p pos : Pos} {e : Expr} {es : List Expr} {kws : List Keyword} {t tk : TA}
theorem pe_makeRKE (M : Mk X.K C f) (F : FnRK X.prog X.w X.K X.mg X.base CX k f ks sp) (hr : Room (k + 1) X.A) (hg : Gl X x) (hm : X.mg x = some (.ref C)) (hx : ∀ σ, PassesAt CX X σ (Ex σ)) (ha : PA X (e :: es) t) (hkw : PK X kws tk)
    (h1 : (backToKw pos (keywordEach kws X.env)).all (·.1.isSome) = true := by rfl) (h2 : (backToKw pos (keywordEach kws X.env)).filterMap (·.1) = ks := by rfl) (h3 : (x == ("__debug__" : Str)) = false := by decide)
    (h4 : starEach (e :: es) X.env = (false, eval e X.env) :: starEach es X.env := by rfl) (h5 : ((backTo pos (starEach (e :: es) X.env)).any (·.1) || (backToKw pos (keywordEach kws X.env)).any (·.1.isNone)) = false := by rfl) :
    PE X (.Call (.Name x p) (e :: es) kws pos) (tMakeRKE C ks.length sp Ex t tk) := by
  refine ⟨fun pins s σ H Q I h => wpAny_Call_Name_kw (ld_glob I hg hm ?_ h3)⟩
  refine PySem.W.callWith_KW (h₀ := X.base) I.ok.mod.kin M.kp h1 (thn (ha.run pos pins s σ H _ I h) fun us s1 ⟨vs, H1, I1, r, q⟩ => ?_) h5 h4
  refine thn (hkw.run pos pins s1 σ H1 _ I1 q) fun ws s2 ⟨zs, H2, I2, rz, l2, q2⟩ => ⟨I2.kIn, ?_⟩
  rw [h2]
  have z := q2 (s2.heap.objs.size + 1) s2.heap.objs.size (I2.hok.fresh (Nat.le_succ _)) (I2.hok.fresh (Nat.le_refl _)) (Nat.ne_of_lt (Nat.lt_succ_self _))
  have J := Inv.made (C := C) I2
  have rc : Vals (V.ref (s2.heap.objs.size + 1) :: vs) (Value.ref (s2.heap.objs.size + 1) :: us) := .cons rfl r
  refine wpAny_call (make_map (f := f) I2.kIn M.makes M.init (beq_iff_eq.mp M.fn) (codeAny_mono (F _ X.stack _ _ (Value.ref (s2.heap.objs.size + 1) :: us) ws _ _ _ (Ex σ) (hr.make C us (ks.zip ws)) (J.env0.make C us (ks.zip ws)) rc rz l2 z) fun res s' w' => ?_))
  cases res with
  | error er => exact hx σ pins _ _ er s' J w'
  | ok fl =>
    cases fl with
    | ret u =>
      obtain ⟨v, H', J3, rv, ev, q3⟩ := J.after w'
      subst ev
      exact ⟨rv, ⟨V.ref (s2.heap.objs.size + 1), H', J3, rfl, q3⟩⟩
    | next => exact w'.elim
    | brk => exact w'.elim
    | cont => exact w'.elim
end
/-- what a call makes a question of, good or not -/
structure AskInX (K : PySem.W.Frag) (CT CS : Addr) (H : Hp) (S hA : Addr) (hd : List Str) (xs : List V) (ss : List (List Str)) (ks : List Str) (rows : List Rw) (l : List Tb) : Prop where
  sch : SchOf K CT CS H S rows l
  hh : SqT K H hA (hd.map V.str)
  pv : PartsV K H xs ss
  raw : AskRaw rows hd ss ks
theorem AskInX.same {K : PySem.W.Frag} {CT CS S hA : Addr} {H H' : Hp} {hd : List Str} {xs : List V} {ss : List (List Str)} {ks : List Str} {rows : List Rw} {l : List Tb} (h : AskInX K CT CS H S hA hd xs ss ks rows l) (s : Same H H') : AskInX K CT CS H' S hA hd xs ss ks rows l :=
  ⟨h.sch.same s, same_seqT s h.hh, h.pv.same s, h.raw⟩
/-- what comes of Question(..) -/
def QuesOut (K : PySem.W.Frag) (CQ DU DB DN S hA : Addr) (hd : List Str) (xs : List V) (ss : List (List Str)) (ks : List Str) (es : List Ent) (rows : List Rw) (dup : Bool) (H : Hp) (Q : VK) (E : XK) : Prop :=
  ∀ us : List Str, AscS us → (∀ z, z ∈ us ↔ z ∈ ks) → (dueOf rows hd ss us = none → ∀ (H' : Hp) (x lA pA : Addr) (ts : List Ent), Same H H' → H x = none → H lA = none → QuesAt K CQ H' x S hd ss ts dup hA pA lA xs → Alike es ts → Q (.ref x) H') ∧ ∀ o, dueOf rows hd ss us = some o → EOut K DU DB DN E H o
theorem mk_quesX {K : PySem.W.Frag} {CT CS CQ DU DB DN S hA li : Addr} {H : Hp} {hd : List Str} {xs : List V} {ss : List (List Str)} {ks : List Str} {es : List Ent} {rows : List Rw} {l : List Tb} {dup : Bool} {Q : VK} {E : XK} (a : AskInX K CT CS H S hA hd xs ss ks rows l) (hl : xs.length ≤ 3) (hli : LDict K H li es) (hk : es.map (·.1) = ks.map Sum.inr)
    (q : QuesOut K CQ DU DB DN S hA hd xs ss ks es rows dup H Q E) {x dx : Addr} (nx : H x = none) (ndx : H dx = none) (ne : dx ≠ x) :
    spQuesXK K CT CS CQ DU DB DN (V.ref x :: V.ref S :: V.ref hA :: xs) [.ref li, .bl dup] (upd (upd H dx (.own x)) x (.ins CQ dx [])) (fun v H2 => v = .non ∧ Q (.ref x) H2) E := by
  have s1 : Same H (upd (upd H dx (.own x)) x (.ins CQ dx [])) := (same_new ndx).trans (same_new (by rw [upd_ne ne.symm]; exact nx))
  refine ⟨[.ref x, .ref S, .ref hA], xs, rfl, rfl, Nat.le_trans hl (by decide), fun p np => ?_⟩
  have sp := same_new (o := .tup xs) np
  have s2 := s1.trans sp
  exact ⟨x, dx, S, hA, p, hd, .ref li, dup, xs, ss, ks, es, rows, l, rfl, sp _ _ upd_same, a.sch.same s2, same_seqT s2 a.hh, SqT.of upd_same, a.pv.same s2, .inr ⟨li, rfl, hli.same s2⟩, hk, a.raw, fun us as mu => ⟨fun d0 H' lA ts sb nl qa al => ⟨rfl, (q us as mu).1 d0 H' x lA p ts (fun b o e => sb b o (ne_of_none e nx) (s2 b o e)) nx (s2.free nl) qa al⟩, fun o ho => ((q us as mu).2 o ho).same s2⟩⟩
/-- _law_query(schema, ask) in general -/
def spQueryX (K : PySem.W.Frag) (CT CS CQ DU DB DN : Addr) : Sp := fun vs H Q E => ∃ (S a hA sh li : Addr) (dup : Bool) (hd : List Str) (xs : List V) (ss : List (List Str)) (ks : List Str) (es : List Ent) (rows : List Rw) (l : List Tb), vs = [.ref S, .ref a] ∧ SqL K H a [.ref hA, .ref sh, .ref li, .bl dup] ∧ SqL K H sh xs ∧ 1 ≤ xs.length ∧ xs.length ≤ 3 ∧ AskInX K CT CS H S hA hd xs ss ks rows l ∧
  LDict K H li es ∧ es.map (·.1) = ks.map Sum.inr ∧ QuesOut K CQ DU DB DN S hA hd xs ss ks es rows dup H Q E
end Sw
namespace Sw
open PySem PySem.Spec PyProof.Rows L2
/-- a promise's __init__ in general, its values in the order self, schema, part, among, partners -/
def spPromXB (K : PySem.W.Frag) (CT CS CP DU DB DN : Addr) : Sp := fun vs H Q E => ∃ (x dx S p qA : Addr) (s : List Str) (lv : V) (xs : List V) (ss : List (List Str)) (ks : List Str) (es : List Ent) (rows : List Rw) (l : List Tb), vs = [.ref x, .ref S, .ref p, lv, .ref qA] ∧
  H x = some (.ins CP dx []) ∧ SchOf K CT CS H S rows l ∧ SqT K H p (s.map V.str) ∧ SqT K H qA xs ∧ PartsV K H xs ss ∧ ((lv = .non ∧ es = []) ∨ ∃ a, lv = .ref a ∧ LDict K H a es) ∧ es.map (·.1) = ks.map Sum.inr ∧ AskRaw rows [] (s :: ss) ks ∧
  ∀ us : List Str, AscS us → (∀ z, z ∈ us ↔ z ∈ ks) → (dueOf rows [] (s :: ss) us = none → ∀ (H' : Hp) (lA : Addr) (ts : List Ent), SBut x H H' → H lA = none → PromAt K CP H' x p qA lA s xs ss ts → Alike es ts → Q .non H') ∧ ∀ o, dueOf rows [] (s :: ss) us = some o → EOut K DU DB DN E H o
/-- Promise(schema, part, partner, .., among = ..) in general -/
def spPromXK (K : PySem.W.Frag) (CT CS CP DU DB DN : Addr) : List V → List V → Hp → VK → XK → Prop := fun vs zs H Q E => ∃ as rest, vs = as ++ rest ∧ as.length = 3 ∧ rest.length ≤ sizeLine ∧ ∀ p, H p = Option.none → spPromXB K CT CS CP DU DB DN ((as ++ zs) ++ [V.ref p]) (upd H p (.tup rest)) Q E
/-- what a call makes a promise of, good or not -/
structure VowInX (K : PySem.W.Frag) (CT CS : Addr) (H : Hp) (S p : Addr) (s : List Str) (xs : List V) (ss : List (List Str)) (ks : List Str) (rows : List Rw) (l : List Tb) : Prop where
  sch : SchOf K CT CS H S rows l
  hp : SqT K H p (s.map V.str)
  pv : PartsV K H xs ss
  raw : AskRaw rows [] (s :: ss) ks
theorem VowInX.same {K : PySem.W.Frag} {CT CS S p : Addr} {H H' : Hp} {s : List Str} {xs : List V} {ss : List (List Str)} {ks : List Str} {rows : List Rw} {l : List Tb} (h : VowInX K CT CS H S p s xs ss ks rows l) (e : Same H H') : VowInX K CT CS H' S p s xs ss ks rows l :=
  ⟨h.sch.same e, same_seqT e h.hp, h.pv.same e, h.raw⟩
/-- what comes of Promise(..) -/
def PromOut (K : PySem.W.Frag) (CP DU DB DN p : Addr) (s : List Str) (xs : List V) (ss : List (List Str)) (ks : List Str) (es : List Ent) (rows : List Rw) (H : Hp) (Q : VK) (E : XK) : Prop :=
  ∀ us : List Str, AscS us → (∀ z, z ∈ us ↔ z ∈ ks) → (dueOf rows [] (s :: ss) us = none → ∀ (H' : Hp) (x lA qA : Addr) (ts : List Ent), Same H H' → H x = none → H lA = none → PromAt K CP H' x p qA lA s xs ss ts → Alike es ts → Q (.ref x) H') ∧ ∀ o, dueOf rows [] (s :: ss) us = some o → EOut K DU DB DN E H o
theorem PromOut.same {K : PySem.W.Frag} {CP DU DB DN p : Addr} {s : List Str} {xs : List V} {ss : List (List Str)} {ks : List Str} {es : List Ent} {rows : List Rw} {H H1 : Hp} {Q : VK} {E : XK} (q : PromOut K CP DU DB DN p s xs ss ks es rows H Q E) (e : Same H H1) : PromOut K CP DU DB DN p s xs ss ks es rows H1 Q E :=
  fun us as mu => ⟨fun d0 H' x lA qA ts s' nx nl pa al => (q us as mu).1 d0 H' x lA qA ts (e.trans s') (e.free nx) (e.free nl) pa al, fun o ho => ((q us as mu).2 o ho).same e⟩
theorem mk_vowX {K : PySem.W.Frag} {CT CS CP DU DB DN S p li : Addr} {H : Hp} {s : List Str} {xs : List V} {ss : List (List Str)} {ks : List Str} {es : List Ent} {rows : List Rw} {l : List Tb} {Q : VK} {E : XK} (a : VowInX K CT CS H S p s xs ss ks rows l) (hl : xs.length ≤ 2) (hli : LDict K H li es) (hk : es.map (·.1) = ks.map Sum.inr)
    (q : PromOut K CP DU DB DN p s xs ss ks es rows H Q E) {x dx : Addr} (nx : H x = none) (ndx : H dx = none) (ne : dx ≠ x) :
    spPromXK K CT CS CP DU DB DN (V.ref x :: V.ref S :: V.ref p :: xs) [.ref li] (upd (upd H dx (.own x)) x (.ins CP dx [])) (fun v H2 => v = .non ∧ Q (.ref x) H2) E := by
  have s1 : Same H (upd (upd H dx (.own x)) x (.ins CP dx [])) := (same_new ndx).trans (same_new (by rw [upd_ne ne.symm]; exact nx))
  refine ⟨[.ref x, .ref S, .ref p], xs, rfl, rfl, Nat.le_trans hl (by decide), fun r nr => ?_⟩
  have sp := same_new (o := .tup xs) nr
  have s2 := s1.trans sp
  exact ⟨x, dx, S, p, r, s, .ref li, xs, ss, ks, es, rows, l, rfl, sp _ _ upd_same, a.sch.same s2, same_seqT s2 a.hp, SqT.of upd_same, a.pv.same s2, .inr ⟨li, rfl, hli.same s2⟩, hk, a.raw, fun us as mu => ⟨fun d0 H' lA ts sb nl pa al => ⟨rfl, (q us as mu).1 d0 H' x lA r ts (fun b o e => sb b o (ne_of_none e nx) (s2 b o e)) nx (s2.free nl) pa al⟩, fun o ho => ((q us as mu).2 o ho).same s2⟩⟩
/-- _law_vow(schema, pledge) in general -/
def spVowX (K : PySem.W.Frag) (CT CS CP DU DB DN : Addr) : Sp := fun vs H Q E => ∃ (S a p sh li : Addr) (s : List Str) (xs : List V) (ss : List (List Str)) (ks : List Str) (es : List Ent) (rows : List Rw) (l : List Tb), vs = [.ref S, .ref a] ∧ SqL K H a [.ref p, .ref sh, .ref li] ∧ SqL K H sh xs ∧ xs.length ≤ 2 ∧ VowInX K CT CS H S p s xs ss ks rows l ∧
  LDict K H li es ∧ es.map (·.1) = ks.map Sum.inr ∧ PromOut K CP DU DB DN p s xs ss ks es rows H Q E
end Sw
namespace Sw
open PySem PySem.Spec PyProof.Rows L2 NdefX
abbrev sProm : Stmt := inClass (topS 16) 0
abbrev nProm : List Str := ["self", "schema", "part", "among", "partners", "conditions"]
abbrev pP : List Str := ["self", "schema", "part"]
abbrev kP : List Str := ["among"]
theorem scProm : FnScope nProm ((pP ++ kP) ++ [("partners" : Str)]) (defScope sProm) := ⟨rfl, rfl, rfl, by decide +kernel, rfl, by decide +kernel, by decide +kernel⟩
abbrev FunProm (K : PySem.W.Frag) (f : Addr) (fd : FuncData) : Prop := FunD K "__init__" "Promise.__init__" (defArgs sProm) (defBody sProm) (defScope sProm) [] [("among", .non)] f fd
section
variable {P : Program} {w : World} {K : PySem.W.Frag} {mg : Str → Option Value} {base : Heap}
theorem promX_body {f fW fC CT CS CP DU DB DN : Addr} {fdW fdC : FuncData} {cdv : Value} (C : PromC K CP)
    (GW : FnOk P w K mg base CX0 3 fW fdW ["values"] (spWA K)) (mW : mg "with_ascending" = some (.ref fW)) (kW : PySem.W.keepIn K (.ref fW) = true) (bW : Binds K fdW ["values"] [])
    (GC : FnOk P w K mg base (L2.CX P w) 5 fC fdC ["schema", "head", "parts", "among"] (spCheckX K CT CS DU DB DN)) (mC : mg "check" = some (.ref fC)) (kC : PySem.W.keepIn K (.ref fC) = true) (bC : Binds K fdC ["schema", "head", "parts", "among"] [])
    (A : Around) (outer : List Env) (s : Shared) (H : Hp) (vs : List V) (Q : VK) (E : XK) (hr : Room 5 (A.deeper (envOfC "Promise.__init__" (defScope sProm) s.heap.objs.size f cdv))) (h : spPromXB K CT CS CP DU DB DN vs H Q E) :
    ∃ t, PSs (cxOf (L2.CX P w) P w K mg base nProm "Promise.__init__" (defScope sProm) f cdv A outer s H E) (defBody sProm) t ∧ t { nx := fun _ H' => Q .non H', rt := Q } (L2.start nProm vs) H := by
  obtain ⟨x, dx, S, p, qA, s0, lv, xs, ss, ks, es, rows, l, rfl, hx, hS, hp, hq, hps, hl, hk, raw, q⟩ := h
  have h3 : Room 3 _ := hr.mono (by decide)
  refine ⟨_, (pss_cons (ps_set (i := 5) scProm.nd rfl (Or.inl rfl) (pe_call GW h3 rfl mW kW bW .nil pass0 (pa_cons (pv 3) pa_nil)))
    (pss_cons (ps_expr (pe_call GC hr rfl mC kC bC .nil (passes_call (takes_of rfl rfl rfl rfl) fun _ _ _ _ h => h) (pa_cons (pv 1) (pa_cons (pe_tup pa_nil) (pa_cons (pe_tup (pa_cons (pv 2) (StX.pa_star (pv 4) pa_nil))) (pa_cons (pv 5) pa_nil))))))
    (pss_cons (ps_fld (pv 0) (pv 2) rfl) (pss_cons (ps_fld (pv 0) (pv 4) rfl) (pss_one (ps_fld (pv 0) (pv 5) rfl)))))), ?_⟩
  refine ⟨_, rfl, lv, es, rfl, hl, fun H1 lA ts s1 nl hts hal => ?_⟩
  have hk2 : (ts.map fun e : Ent => (e.1, V.ref e.2.1)).map (·.1) = ks.map Sum.inr := by rw [← hk, ← hal.keys, List.map_map]; rfl
  refine ⟨_, rfl, by decide, fun E0 nE0 => ?_⟩
  have sE := same_new (o := .tup []) nE0
  have hq1 := same_seqT (s1.trans sE) hq
  have xl : xs.length ≤ 10 := by have h1 := hps.len; have h2 := raw.n10; rw [List.length_cons] at h2; omega
  refine ⟨_, rfl, _, rfl, qA, xs, rfl, .inl hq1, by show (xs ++ []).length + 1 ≤ sizeLine; rw [List.append_nil]; exact Nat.le_of_lt (small1000 (by omega)), fun P1 nP1 => ?_⟩
  rw [List.append_nil]
  have sP := same_new (o := .tup (V.ref p :: xs)) nP1
  have sA := (s1.trans sE).trans sP
  refine ⟨_, rfl, S, E0, P1, lA, [], V.ref p :: xs, s0 :: ss, ks, _, rows, l, rfl, hS.same sA, SqT.of (sP _ _ upd_same), SqT.of upd_same, (hps.same sA).cons (same_seqT sA hp), (sE.trans sP) _ _ hts.at_, hk2, raw, fun us as mu => ?_⟩
  obtain ⟨q0, qE⟩ := q us as mu
  refine ⟨fun hd0 H2 s2 => ?_, fun o ho => (qE o ho).same sA⟩
  replace q0 := q0 hd0
  have s12 := sA.trans s2
  have sL := (sE.trans sP).trans s2
  have hx2 := s12 _ _ hx
  have hb2 : SBut x H H2 := Same.sbut s12
  refine ⟨_, rfl, _, rfl, x, CP, dx, _, rfl, hx2, C.cl, C.n1, (by show 0 < 1000; decide), ?_⟩
  refine ⟨_, rfl, _, rfl, x, CP, dx, _, rfl, upd_same, C.cl, C.n2, (by show 1 < 1000; decide), ?_⟩
  refine ⟨_, rfl, _, rfl, x, CP, dx, _, rfl, upd_same, C.cl, C.n3, (by show 2 < 1000; decide), ?_⟩
  simp only [upd_upd]
  have b7 := hb2.step (o := .ins CP dx (promF p qA lA))
  refine q0 _ lA ts b7 nl ⟨⟨dx, upd_same⟩, sqT_ins hp b7 hx, sqT_ins hq b7 hx, hps.but b7 hx, ?_⟩ hal
  refine ⟨?_, fun r hr => ?_⟩
  · rw [upd_ne (ne_of_none hx nl).symm]
    exact sL _ _ hts.at_
  · rw [upd_ne (ne_of (sL _ _ (hts.all r hr).1) hx2 (fun z => nomatch z))]
    exact ⟨sL _ _ (hts.all r hr).1, (hts.all r hr).2⟩
theorem ok_promX {f fW fC CT CS CP DU DB DN : Addr} {fd fdW fdC : FuncData} (F : FunProm K f fd) (C : PromC K CP)
    (GW : FnOk P w K mg base CX0 3 fW fdW ["values"] (spWA K)) (mW : mg "with_ascending" = some (.ref fW)) (kW : PySem.W.keepIn K (.ref fW) = true) (bW : Binds K fdW ["values"] [])
    (GC : FnOk P w K mg base (L2.CX P w) 5 fC fdC ["schema", "head", "parts", "among"] (spCheckX K CT CS DU DB DN)) (mC : mg "check" = some (.ref fC)) (kC : PySem.W.keepIn K (.ref fC) = true) (bC : Binds K fdC ["schema", "head", "parts", "among"] []) :
    FnRK P w K mg base (L2.CX P w) 6 f ["among"] (spPromXK K CT CS CP DU DB DN) := by
  obtain ⟨oc, od, dV, kV, doc, pm, an, cdv, ct, osl, rfl, lk, hcd, hD, hK⟩ := F.ex
  rcases hD with ⟨_, rfl⟩ | ⟨e, _⟩
  · exact fn_starK (D := 0) (ps := pP) (kn := kP) (pv := "partners") (ms := []) (ord := id) (ordV := id) lk hcd scProm StX.cxUp (fun q hq => nomatch hq) (fun r l => ⟨r, l⟩)
      (fun us rest ws h1 h2 => match us, ws, rest, h1, h2 with | [_, _, _], [_], [], _, _ => rfl | [_, _, _], [_], _ :: _, _, _ => rfl)
      (fun A outer s H vs Q E hr h => promX_body C GW mW kW bW GC mC kC bC A outer s H vs Q E hr h)
  · exact absurd rfl e
end
end Sw
namespace Sw
open PySem PySem.Spec PyProof.Rows L2 NdefX
section
variable {P : Program} {w : World} {K : PySem.W.Frag} {mg : Str → Option Value} {base : Heap}
abbrev sVow : Stmt := topS 35
theorem scVow : FnScope ["_law_schema", "_law_pledge", "_law_rows"] ["_law_schema", "_law_pledge"] (defScope sVow) := ⟨rfl, rfl, rfl, by decide +kernel, rfl, by decide +kernel, by decide +kernel⟩
theorem ok_vowX {f fP CT CS CP DU DB DN : Addr} {fd : FuncData} (F : Fun K "_law_vow" "_law_vow" sVow f fd) (hlen : mg "len" = none)
    (GP : FnRK P w K mg base (L2.CX P w) 6 fP ["among"] (spPromXK K CT CS CP DU DB DN)) (MP : Mk K CP fP) (gP : mg "Promise" = some (.ref CP)) : FnOk P w K mg base (L2.CX P w) 8 f fd ["_law_schema", "_law_pledge"] (spVowX K CT CS CP DU DB DN) := by
  refine F.okX scVow (fun vs H Q E h => ?_) (fun cdv A outer s H vs Q E hr h => ?_)
  · obtain ⟨S, a, p, sh, li, s0, xs, ss, ks, es, rows, l, rfl, _⟩ := h
    rfl
  · obtain ⟨S, a, p, sh, li, s0, xs, ss, ks, es, rows, l, rfl, ha, hsh, hx2, hin, hli, hk, q⟩ := h
    refine ⟨_, pss_cons (ps_set (i := 2) scVow.nd rfl (Or.inl rfl) (pe_op op_joinL (pe_lst (pa_cons (pe_ix ix_list (pv 1) pe_int (fun _ _ => rfl)) pa_nil)) (pe_ix ix_list (pv 1) pe_int (fun _ _ => rfl))))
      (pss_cons (ps_if (pt_cmpR op_eq (pe_callB call_len_seq (by rfl) hlen PySem.boot_len (pa_cons (pv 2) pa_nil)) pe_int (nomark _)) (pss_one (ps_ret (pe_makeRK MP GP hr rfl gP (passes_call (takes_of rfl rfl rfl rfl) fun _ _ _ _ h => h) (pa_cons (pv 0) (pa_cons (pe_ix ix_list (pv 2) pe_int (fun _ _ => rfl)) pa_nil)) (pk_cons (pe_ix ix_list (pv 1) pe_int (fun _ _ => rfl)) pk_nil)))) pss_nil)
      (pss_cons (ps_if (pt_cmpR op_eq (pe_callB call_len_seq (by rfl) hlen PySem.boot_len (pa_cons (pv 2) pa_nil)) pe_int (nomark _)) (pss_one (ps_ret (pe_makeRK MP GP hr rfl gP (passes_call (takes_of rfl rfl rfl rfl) fun _ _ _ _ h => h) (pa_cons (pv 0) (pa_cons (pe_ix ix_list (pv 2) pe_int (fun _ _ => rfl)) (pa_cons (pe_ix ix_list (pv 2) pe_int (fun _ _ => rfl)) pa_nil))) (pk_cons (pe_ix ix_list (pv 1) pe_int (fun _ _ => rfl)) pk_nil)))) pss_nil)
      (pss_one (ps_ret (pe_makeRK MP GP hr rfl gP (passes_call (takes_of rfl rfl rfl rfl) fun _ _ _ _ h => h) (pa_cons (pv 0) (pa_cons (pe_ix ix_list (pv 2) pe_int (fun _ _ => rfl)) (pa_cons (pe_ix ix_list (pv 2) pe_int (fun _ _ => rfl)) (pa_cons (pe_ix ix_list (pv 2) pe_int (fun _ _ => rfl)) pa_nil)))) (pk_cons (pe_ix ix_list (pv 1) pe_int (fun _ _ => rfl)) pk_nil)))))), ?_⟩
    refine ⟨_, rfl, a, _, _, _, rfl, rfl, ha, atI_nat (j := 0) rfl, by show 1 ≤ sizeLine; decide, fun L1 nL1 => ?_⟩
    have s1 := same_new (o := .lst [V.ref p]) nL1
    refine ⟨_, rfl, a, _, _, _, rfl, rfl, s1.seq ha, atI_nat (j := 1) rfl, L1, sh, _, _, rfl, rfl, SqL.of upd_same, s1.seq hsh, by show 1 + xs.length ≤ sizeLine; exact Nat.le_of_lt (small1000 (by omega)), fun R nR => ?_⟩
    have s2 := s1.trans (same_new (o := .lst ([V.ref p] ++ xs)) nR)
    have hR : SqL K (upd (upd H L1 (.lst [V.ref p])) R (.lst ([V.ref p] ++ xs))) R (V.ref p :: xs) := SqL.of upd_same
    generalize upd (upd H L1 (.lst [V.ref p])) R (.lst ([V.ref p] ++ xs)) = H2 at s2 hR ⊢
    have ha2 := s2.seq ha
    have q2 := PromOut.same q s2
    have hin2 := hin.same s2
    have hli2 := hli.same s2
    refine ⟨_, rfl, R, _, rfl, .inl hR, rfl, _, rfl, ?_⟩
    rw [dec_int, List.length_cons]
    refine ite2 (fun c => ?_) (fun c => ?_)
    · have e1 : xs.length = 0 := by simp at c; omega
      obtain rfl := List.eq_nil_of_length_eq_zero e1
      exact ⟨_, rfl, _, rfl, R, _, _, _, rfl, rfl, hR, atI_nat (j := 0) rfl, _, rfl, a, _, _, _, rfl, rfl, ha2, atI_nat (j := 2) rfl, rfl, fun x dx nx ndx ne => mk_vowX hin2 hx2 hli2 hk q2 nx ndx ne⟩
    refine ⟨_, rfl, R, _, rfl, .inl hR, rfl, _, rfl, ?_⟩
    rw [dec_int, List.length_cons]
    refine ite2 (fun c2 => ?_) (fun c2 => ?_)
    · have e1 : xs.length = 1 := by simp at c2; omega
      obtain ⟨v0, rfl⟩ := List.length_eq_one_iff.mp e1
      exact ⟨_, rfl, _, rfl, R, _, _, _, rfl, rfl, hR, atI_nat (j := 0) rfl, _, rfl, R, _, _, _, rfl, rfl, hR, atI_nat (j := 1) rfl, _, rfl, a, _, _, _, rfl, rfl, ha2, atI_nat (j := 2) rfl, rfl, fun x dx nx ndx ne => mk_vowX hin2 hx2 hli2 hk q2 nx ndx ne⟩
    · have e1 : xs.length = 2 := by simp at c c2; omega
      obtain ⟨v0, v1, rfl⟩ := len2 e1
      exact ⟨_, rfl, _, rfl, R, _, _, _, rfl, rfl, hR, atI_nat (j := 0) rfl, _, rfl, R, _, _, _, rfl, rfl, hR, atI_nat (j := 1) rfl, _, rfl, R, _, _, _, rfl, rfl, hR, atI_nat (j := 2) rfl, _, rfl, a, _, _, _, rfl, rfl, ha2, atI_nat (j := 2) rfl, rfl, fun x dx nx ndx ne => mk_vowX hin2 hx2 hli2 hk q2 nx ndx ne⟩
end
end Sw
namespace Sw
open PySem PySem.Spec PyProof.Rows L2
theorem isV_iff (z : Str) : isV z = true ↔ (TL.tl z).head? = some 63 := by
  have q : TL.tl ("?" : Str) = [63] := by decide +kernel
  unfold isV
  rw [decide_eq_true_iff]
  cases h : TL.tl z with
  | nil =>
    constructor
    · intro e
      have e2 : cutS z none (some 1) = ("?" : Str) := V.str.inj e
      have l := cutS_length z none (some 1)
      rw [len_tl z, h, e2, len_tl, q] at l
      exact absurd l (by decide)
    · exact fun e => (nomatch e)
  | cons a r =>
    have t : TL.tl (cutS z none (some ((1 : Nat) : Int))) = [a] := by
      rw [tl_cut_to z 1 (by rw [h]; exact Nat.le_add_left 1 _), h]
      rfl
    constructor
    · intro e
      have e2 : cutS z none (some 1) = ("?" : Str) := V.str.inj e
      have t2 : TL.tl (cutS z none (some 1)) = [a] := t
      rw [e2, q] at t2
      rw [List.head?_cons, (List.cons.inj t2).1]
    · intro e
      rw [List.head?_cons] at e
      refine congrArg V.str (tl_inj ?_)
      show TL.tl (cutS z none (some ((1 : Nat) : Int))) = TL.tl ("?" : Str)
      rw [t, q, Option.some.inj e]
theorem isV_isVar (z : Str) : isV z = isVar z := by
  rw [Bool.eq_iff_iff, isV_iff, isVar_iff]
theorem cut_tl (z : Str) : TL.tl (Txt.removeprefix z "?") = if isV z = true then (TL.tl z).tail else TL.tl z := by
  by_cases c : isV z = true
  · rw [if_pos c]
    have h := (isV_iff z).mp c
    obtain ⟨r, hr⟩ : ∃ r, TL.tl z = 63 :: r := by
      cases e : TL.tl z with
      | nil => rw [e] at h; cases h
      | cons a r => rw [e] at h; exact ⟨r, by rw [Option.some.inj h]⟩
    have ez : z = ("?" : Str) ++ (⟨r.toArray⟩ : Str) := tl_inj (by
      show TL.tl z = TL.tl (("?" : Str) ++ (⟨r.toArray⟩ : Str))
      rw [q_tl, hr])
    rw [hr]
    rw [ez, cut_q2]
    rfl
  · rw [if_neg c, cut_q fun e => c ((isV_iff z).mpr e)]
theorem lword (z : Str) : cutS z (some (if isV z = true then 1 else 0)) none = Txt.removeprefix z "?" := by
  refine tl_inj ?_
  show TL.tl (cutS z _ none) = TL.tl (Txt.removeprefix z "?")
  rw [cut_tl]
  by_cases c : isV z = true
  · rw [if_pos c, if_pos c]
    have h := (isV_iff z).mp c
    have l : 1 ≤ (TL.tl z).length := by
      cases e : TL.tl z with
      | nil => rw [e] at h; cases h
      | cons a r => exact Nat.le_add_left 1 _
    exact (tl_cut_from z 1 l).trans (List.drop_one)
  · rw [if_neg c, if_neg c]
    exact (tl_cut_from z 0 (Nat.zero_le _)).trans List.drop_zero
theorem shapedL {s : List Str} (h : ∀ z ∈ s, SOk z) : SeqAt.shaped (.list (s.map .str)) = true := by
  obtain ⟨h1, h2⟩ := canStrs h
  have e1 : PySem.PyData.canLay0 (.list (s.map .str)) = true := h1
  unfold SeqAt.shaped
  have e2 : PySem.PyData.depth (.list (s.map .str)) = PySem.PyData.depthAll (s.map .str) + 1 := rfl
  rw [e1, e2, h2]
  rfl
theorem eqvNilS (s : List Str) : PySem.PyData.eqv (.list (s.map .str)) (.list []) = s.isEmpty := by
  cases s with
  | nil => rfl
  | cons z r => rfl
theorem isTerm_bad (z : Str) : isTermS z = ((decide (1 ≤ (Txt.removeprefix z "?").length) && decide ((Txt.removeprefix z "?").length ≤ 8)) && (((TL.tl (Txt.removeprefix z "?")).filter fun c => !inSg c).map fun c => (⟨#[c]⟩ : Str)).isEmpty) := by
  unfold isTermS
  congr 1
  rw [Bool.eq_iff_iff, List.all_eq_true, List.isEmpty_map, List.isEmpty_iff, List.filter_eq_nil_iff]
  exact ⟨fun h c hc => by rw [h c hc]; decide, fun h c hc => by have := h c hc; cases e : inSg c with
    | true => rfl
    | false => rw [e] at this; exact absurd rfl this⟩
/-- signs of a text as texts -/
theorem one_ok {z : Str} (h : SOk z) {c : Nat} (hc : c ∈ TL.tl (Txt.removeprefix z "?")) : SOk (⟨#[c]⟩ : Str) := by
  have hm : c ∈ z.cps.toList := by
    rw [cut_tl] at hc
    by_cases e : isV z = true
    · rw [if_pos e] at hc
      exact List.mem_of_mem_tail hc
    · rw [if_neg e] at hc
      exact hc
  refine ⟨by show 1 ≤ 1000; decide, ?_⟩
  have h2 := h.2
  unfold PySem.PyData.strOk at h2 ⊢
  rw [Array.all_eq_true'] at h2 ⊢
  intro x hx
  have : x = c := by simpa using hx
  rw [this]
  exact h2 c (Array.mem_toList_iff.mp hm)
/-- _law_is_term(x) -/
def spLTerm : Sp := fun vs H Q _ => ∃ z : Str, vs = [.str z] ∧ SOk z ∧ ∀ H' : Hp, Same H H' → Q (.bl (isTermS z)) H'
end Sw
namespace Sw
open PySem PySem.Spec PyProof.Rows L2 NdefX
abbrev sLTerm : Stmt := topS 36
abbrev nLTerm : List Str := ["_law_x", "_law_word", "_law_bad", "_law_sign"]
theorem scLTerm : FnScope nLTerm ["_law_x"] (defScope sLTerm) := ⟨rfl, rfl, rfl, by decide +kernel, rfl, by decide +kernel, by decide +kernel⟩
section
variable {P : Program} {w : World} {K : PySem.W.Frag} {mg : Str → Option Value} {base : Heap}
theorem ok_lterm {f : Addr} {fd : FuncData} (F : Fun K "_law_is_term" "_law_is_term" sLTerm f fd) (B : Blt mg) (isi : mg "isinstance" = none) (str : mg "str" = none) (ss : PySem.W.kitOne K (.type "str") (.type "str") = some true) : FnOk P w K mg base CX0 1 f fd ["_law_x"] spLTerm := by
  refine F.ok scLTerm (fun vs H Q E h => ?_) (fun cdv A outer s H vs Q E hr h => ?_)
  · obtain ⟨z, rfl, _⟩ := h
    rfl
  · obtain ⟨z, rfl, hz, q⟩ := h
    refine ⟨_, pss_cons (ps_if (pt_not (pt_is (by intro _; rfl) (pe_callB call_isi (by rfl) isi boot_isinstance (pa_cons (pv 0) (pa_cons (pe_bltn (v := .ty "str") rfl str bStr rfl) pa_nil))))) (pss_one (ps_ret pe_bl)) pss_nil)
      (pss_cons (ps_set (i := 1) scLTerm.nd rfl (Or.inl rfl) (pe_slice sl_str (pv 0) (po_some (pe_callTy call_int1 (by rfl) B.int bInt (pa_cons (pe_cmpR op_eq (pe_slice sl_str (pv 0) po_none (po_some pe_int)) pe_str (nomark _)) pa_nil))) po_none))
      (pss_cons (ps_setLc (i := 2) (own := [("_law_sign", 3)]) (g := gName 3) (te := tVar 3) rfl scLTerm.nd rfl rfl (sw_true rfl rfl rfl (by decide +kernel)) (pi_str (pv 1)) (blkOk_by (N := nLTerm) (sc := defScope sLTerm) (by decide +kernel)) (fun _ _ _ _ _ => pg_name (i := 3) scLTerm.nd rfl (Or.inl rfl))
          (fun _ _ _ _ _ => pts_one (pt_cmpR op_notIn_str (pv 3) pe_str (by rfl))) (fun _ _ _ _ _ => pv 3))
      (pss_one (ps_ret (pe_andT (pe_cmpR op_le pe_int (pe_callB call_len_str (by rfl) B.len PySem.boot_len (pa_cons (pv 1) pa_nil)) (nomark _)) (pe_andT (pe_cmpR op_le (pe_callB call_len_str (by rfl) B.len PySem.boot_len (pa_cons (pv 1) pa_nil)) pe_int (nomark _))
          (pe_one (pe_cmpR (op_eqD hr.units) (pv 2) (pe_lst pa_nil) (nomark _))))))))), ?_⟩
    refine ⟨_, rfl, _, _, _, _, _, rfl, .ty _, .base (.str z), ss, true, rfl, iteF ?_⟩
    have hz1 : z.length ≤ sizeLine := Nat.le_trans hz.1 (by decide)
    refine ⟨_, rfl, _, rfl, 1, rfl, z, rfl, hz1, rfl, .inr ⟨_, rfl, _, rfl, z, rfl, hz1, ?_⟩⟩
    show gName 1 (V.str (cutS z (some (if isV z = true then 1 else 0)) none)) _ _ _
    rw [lword]
    have lt : (Txt.removeprefix z "?").length ≤ 1000 := Nat.le_trans (cut_len z) hz.1
    have oks : ∀ c ∈ TL.tl (Txt.removeprefix z "?"), SOk (⟨#[c]⟩ : Str) := fun c hc => one_ok hz hc
    have fin : ∀ H' : Hp, Same H H' → ∀ b : Bool, b = ((decide (1 ≤ (Txt.removeprefix z "?").length) && decide ((Txt.removeprefix z "?").length ≤ 8)) && (((TL.tl (Txt.removeprefix z "?")).filter fun c => !inSg c).map fun c => (⟨#[c]⟩ : Str)).isEmpty) → Q (.bl b) H' := fun H' s b e => by
      rw [e, ← isTerm_bad z]
      exact q H' s
    generalize Txt.removeprefix z "?" = tx at lt oks fin ⊢
    refine ⟨_, rfl, tx, rfl, fun D nD => ?_⟩
    refine lc_filter (val := fun c => V.str ⟨#[c]⟩) (out := fun c => V.str ⟨#[c]⟩) (p := fun c => !inSg c) (l := TL.tl tx) wk_text (fun o => True.intro) (by rw [← len_tl]; exact lt) (fun _ => rfl) (fun i u acc Q' hu hq => ?_) (fun i u acc Q' hu _ hq => ⟨_, rfl, hq⟩) ?_
    · exact ⟨_, rfl, _, _, rfl, rfl, _, rfl, hq⟩
    have sD : Same H (upd H D (.lst (((TL.tl tx).filter fun c => !inSg c).map fun c => V.str ⟨#[c]⟩))) := same_new nD
    have hD : SqL K (upd H D (.lst (((TL.tl tx).filter fun c => !inSg c).map fun c => V.str ⟨#[c]⟩))) D ((((TL.tl tx).filter fun c => !inSg c).map fun c => (⟨#[c]⟩ : Str)).map V.str) := SqL.of (by rw [upd_same, List.map_map]; rfl)
    have okb : ∀ y ∈ ((TL.tl tx).filter fun c => !inSg c).map fun c => (⟨#[c]⟩ : Str), SOk y := fun y hy => by
      obtain ⟨c, hc, rfl⟩ := List.mem_map.mp hy
      exact oks c (List.mem_filter.mp hc).1
    generalize ((TL.tl tx).filter fun c => !inSg c).map (fun c => (⟨#[c]⟩ : Str)) = bs at hD okb fin
    generalize upd H D _ = H1 at sD hD ⊢
    have lt2 : tx.length ≤ sizeLine := Nat.le_trans lt (by decide)
    refine ⟨_, rfl, tx, rfl, lt2, _, _, rfl, rfl, _, rfl, ?_⟩
    refine ite2 (fun c => ?_) (fun c => ?_)
    · refine ⟨_, rfl, tx, rfl, lt2, _, _, rfl, rfl, _, rfl, ?_⟩
      refine ite2 (fun c2 => ?_) (fun c2 => ?_)
      · have l1 : 1 ≤ tx.length := by have := of_decide_eq_true c; omega
        have l8 : tx.length ≤ 8 := by have := of_decide_eq_true c2; omega
        refine ⟨_, rfl, by decide, fun p np => ?_⟩
        have sp := same_new (o := .lst []) np
        refine ⟨_, _, .lst (sp.seq hD) (dpStrs bs), .lst (SqL.of upd_same) .nil, shapedL okb, rfl, ?_⟩
        rw [eqvNilS]
        exact fin _ (sD.trans sp) _ (by rw [decide_eq_true l1, decide_eq_true l8]; rfl)
      · have l8 : ¬ tx.length ≤ 8 := fun h => c2 (decide_eq_true (by omega))
        exact fin _ sD _ (by rw [decide_eq_false l8, Bool.and_false, Bool.false_and]; exact Bool.eq_false_iff.mpr c2)
    · have l1 : ¬ 1 ≤ tx.length := fun h => c (decide_eq_true (by omega))
      exact fin _ sD _ (by rw [decide_eq_false l1, Bool.false_and, Bool.false_and]; exact Bool.eq_false_iff.mpr c)
end
end Sw
namespace Sw
open PySem PySem.Spec PyProof.Rows L2
/-- what is told, as the tuple at p -/
def ToldAt (K : PySem.W.Frag) (xs : List V) (H : Hp) (p : Addr) : Option Due → Prop
  | none => ∃ q, SqT K H p [.str "good", .ref q] ∧ SqT K H q xs
  | some (.table nm) => SqT K H p [.str "table", .str nm]
  | some (.part s) => ∃ q, SqT K H p [.str "part", .ref q] ∧ SqT K H q (s.map V.str)
  | some (.unb v) => SqT K H p [.str "unbound", .str v]
/-- _law_expected(tables, ask) -/
def spLExp (K : PySem.W.Frag) : Sp := fun vs H Q _ => ∃ (T a hA sh li : Addr) (dup : Bool) (tx : List V) (rows : List Rw) (hd : List Str) (xs : List V) (ss : List (List Str)) (ks : List Str) (kvs : List (Key × V)), vs = [.ref T, .ref a] ∧ RowsAt K H T tx rows ∧ rows.length ≤ 100 ∧ SqL K H a [.ref hA, .ref sh, .ref li, .bl dup] ∧ SqL K H sh xs ∧
  SqT K H hA (hd.map V.str) ∧ PartsV K H xs ss ∧ H li = some (.dK kvs) ∧ kvs.map (·.1) = ks.map Sum.inr ∧ AskRaw rows hd ss ks ∧ (∀ s ∈ ss, s.length ≤ 10) ∧ (rows.map Rw.nm).Nodup ∧
  ∀ us : List Str, AscS us → (∀ z, z ∈ us ↔ z ∈ ks) → ∀ (H' : Hp) (p : Addr), Same H H' → ToldAt K xs H' p (dueOf rows hd ss us) → Q (.ref p) H'
/-- a name that no row has -/
theorem find_nm0 {rows : List Rw} {nm : Str} : (rows.find? fun x => decide (x.nm = nm)) = none ↔ nm ∉ rows.map Rw.nm := by
  rw [List.find?_eq_none]
  constructor
  · intro h hm
    obtain ⟨r, hr, e⟩ := List.mem_map.mp hm
    exact h r hr (decide_eq_true e)
  · intro h r hr e
    exact h (List.mem_map.mpr ⟨r, hr, of_decide_eq_true e⟩)
theorem mem_vars {ss : List (List Str)} {z : Str} (h : isV z = true) : z ∈ allVars ss ↔ z ∈ termsOf ss := by
  unfold allVars termsOf
  rw [List.mem_flatMap, List.mem_flatMap]
  exact ⟨fun ⟨s, h1, h2⟩ => ⟨s, h1, (List.mem_filter.mp h2).1⟩, fun ⟨s, h1, h2⟩ => ⟨s, h1, List.mem_filter.mpr ⟨h2, h⟩⟩⟩
theorem zip_snd {α β : Type} : ∀ {xs : List α} {ys : List β}, xs.length = ys.length → (xs.zip ys).map Prod.snd = ys
  | [], [], _ => rfl
  | x :: r, y :: s, h => by
    show y :: (r.zip s).map Prod.snd = _
    rw [zip_snd (Nat.succ.inj h)]
theorem find_nd {rows : List Rw} (nd : (rows.map Rw.nm).Nodup) {r : Rw} (h : r ∈ rows) : (rows.find? fun x => decide (x.nm = r.nm)) = some r := by
  cases e : rows.find? fun x => decide (x.nm = r.nm) with
  | none => exact absurd (List.mem_map.mpr ⟨r, h, rfl⟩) (find_nm0.mp e)
  | some x =>
    have h1 := List.mem_of_find?_eq_some e
    have h0 := List.find?_some e
    have h2 : x.nm = r.nm := of_decide_eq_true h0
    obtain ⟨i, hi⟩ := List.mem_iff_getElem?.mp h
    obtain ⟨j, hj⟩ := List.mem_iff_getElem?.mp h1
    have ei : (rows.map Rw.nm)[i]? = some r.nm := by rw [List.getElem?_map, hi]; rfl
    have ej : (rows.map Rw.nm)[j]? = some r.nm := by rw [List.getElem?_map, hj, ← h2]; rfl
    obtain rfl := nd_idx nd ei ej
    rw [hi] at hj
    exact hj.symm
end Sw
namespace Sw
open PySem PySem.Spec PyProof.Rows L2
/-- k08's _law_expected(tables, rows, limits) -/
def spLExp8 (K : PySem.W.Frag) : Sp := fun vs H Q _ => ∃ (T sh li : Addr) (tx : List V) (rows : List Rw) (xs : List V) (ss : List (List Str)) (ks : List Str) (kvs : List (Key × V)), vs = [.ref T, .ref sh, .ref li] ∧ RowsAt K H T tx rows ∧ rows.length ≤ 100 ∧ SqL K H sh xs ∧
  PartsV K H xs ss ∧ H li = some (.dK kvs) ∧ kvs.map (·.1) = ks.map Sum.inr ∧ AskRaw rows [] ss ks ∧ (∀ s ∈ ss, s.length ≤ 10) ∧ (rows.map Rw.nm).Nodup ∧ 1 ≤ ss.length ∧ (∀ z ∈ ks, isV z = true) ∧
  ∀ us : List Str, AscS us → (∀ z, z ∈ us ↔ z ∈ ks) → ∀ (H' : Hp) (p : Addr), Same H H' → ToldAt K xs H' p (dueOf rows [] ss us) → Q (.ref p) H'
end Sw
namespace Sw
open PySem PySem.Spec PyProof.Rows L2 NdefX
abbrev sLExp : Stmt := topS 37
abbrev nLExp : List Str := ["_law_tables", "_law_rows", "_law_limits", "_law_shape", "_law_table", "_law_bad", "_law_item", "_law_known"]
theorem scLExp : FnScope nLExp ["_law_tables", "_law_rows", "_law_limits"] (defScope sLExp) := ⟨rfl, rfl, rfl, by decide +kernel, rfl, by decide +kernel, by decide +kernel⟩
section
variable {P : Program} {w : World} {K : PySem.W.Frag} {mg : Str → Option Value} {base : Heap}
theorem ok_lexp {f fT fF fV fR : Addr} {fd fdT fdF fdV fdR : FuncData} (F : Fun K "_law_expected" "_law_expected" sLExp f fd) (B : Blt mg) (htup : mg "tuple" = none) (hlist : mg "list" = none)
    (GT : FnOk P w K mg base CX0 1 fT fdT ["_law_x"] spLTerm) (mT : mg "_law_is_term" = some (.ref fT)) (kT : PySem.W.keepIn K (.ref fT) = true) (bT : Binds K fdT ["_law_x"] [])
    (GF : FnOk P w K mg base CX0 1 fF fdF ["_law_tables", "_law_name"] (spFind K)) (mF : mg "_law_find" = some (.ref fF)) (kF : PySem.W.keepIn K (.ref fF) = true) (bF : Binds K fdF ["_law_tables", "_law_name"] [])
    (GV : FnOk P w K mg base CX0 1 fV fdV ["_law_shapes"] (spVars K)) (mV : mg "_law_vars" = some (.ref fV)) (kV : PySem.W.keepIn K (.ref fV) = true) (bV : Binds K fdV ["_law_shapes"] [])
    (GR : FnOk P w K mg base CX0 1 fR fdR ["_law_items"] (spRiseS K)) (mR : mg "_law_rising" = some (.ref fR)) (kR : PySem.W.keepIn K (.ref fR) = true) (bR : Binds K fdR ["_law_items"] []) :
    FnOk P w K mg base CX0 2 f fd ["_law_tables", "_law_rows", "_law_limits"] (spLExp8 K) := by
  refine F.ok scLExp (fun vs H Q E h => ?_) (fun cdv A outer s H vs Q E hr h => ?_)
  · obtain ⟨T, sh, li, tx, rows, xs, ss, ks, kvs, rfl, _⟩ := h
    rfl
  · obtain ⟨T, sh, li, tx, rows, xs, ss, ks, kvs, rfl, hT, hrl, hsh, hp, hli, hk, raw, s10, nd, n1, kvar, q⟩ := h
    refine ⟨_, pss_cons (ps_for PassesOwn.never rfl (pi_list (pv 1)) (pg_name (i := 3) scLExp.nd rfl (.inl rfl))
        (pss_cons (ps_if (pt_cmpR op_notIn_seq (pe_ix ix_tup (pv 3) pe_int (fun _ _ => rfl)) (pe_lc (own := [("_law_table", 4)]) (g := gName 4) (tt := tYes) (te := tOp (rIxL K) (tVar 4) (tC (.int 0))) rfl scLExp.nd (pi_list (pv 0)) (blkOk_by (N := nLExp) (sc := defScope sLExp) (by decide +kernel)) (fun _ _ _ _ _ => pg_name (i := 4) scLExp.nd rfl (Or.inl rfl)) (fun _ _ _ _ _ => pts_nil)
            (fun _ _ _ _ _ => pe_ix ix_list (pv 4) pe_int (fun _ _ => rfl))) (by rfl)) (pss_one (ps_ret (pe_tup (pa_cons pe_str (pa_cons (pe_ix ix_tup (pv 3) pe_int (fun _ _ => rfl)) pa_nil))))) pss_nil)
        (pss_cons (ps_setLc (i := 5) (own := [("_law_item", 6)]) (g := gName 6) (te := tVar 6) rfl scLExp.nd rfl rfl (sw_true rfl rfl rfl (by decide +kernel)) (pi_tup (pe_slice sl_tup (pv 3) (po_some pe_int) po_none)) (blkOk_by (N := nLExp) (sc := defScope sLExp) (by decide +kernel)) (fun _ _ _ _ _ => pg_name (i := 6) scLExp.nd rfl (Or.inl rfl))
          (fun _ _ _ _ _ => pts_one (pt_not (pt_is (by intro _; rfl) (pe_call GT hr rfl mT kT bT .nil pass0 (pa_cons (pv 6) pa_nil))))) (fun _ _ _ _ _ => pv 6))
        (pss_one (ps_if (PW.pt (pw_or (pt_cmpR (op_neD hr.units) (pv 5) (pe_lst pa_nil) (nomark _)) (pw_or1 (pt_cmpR op_ne (pe_callB call_len_seq (by rfl) B.len PySem.boot_len (pa_cons (pv 3) pa_nil)) (pe_op op_add (pe_ix ix_list (pe_call GF hr rfl mF kF bF .nil pass0 (pa_cons (pv 0) (pa_cons (pe_ix ix_tup (pv 3) pe_int (fun _ _ => rfl)) pa_nil))) pe_int (fun _ _ => rfl)) pe_int) (nomark _)))))
          (pss_one (ps_ret (pe_tup (pa_cons pe_str (pa_cons (pv 3) pa_nil))))) pss_nil)))))
      (pss_cons (ps_set (i := 7) scLExp.nd rfl (Or.inl rfl) (pe_call GV hr rfl mV kV bV .nil pass0 (pa_cons (pv 1) pa_nil)))
      (pss_cons (ps_for PassesOwn.never rfl (pi_list (pe_call GR hr rfl mR kR bR .nil pass0 (pa_cons (pe_callTy (call_listD rfl) (by rfl) hlist bList (pa_cons (pv 2) pa_nil)) pa_nil))) (pg_name (i := 6) scLExp.nd rfl (.inl rfl))
        (pss_one (ps_if (pt_cmpR op_notIn_seq (pv 6) (pv 7) (by rfl)) (pss_one (ps_ret (pe_tup (pa_cons pe_str (pa_cons (pv 6) pa_nil))))) pss_nil)))
      (pss_one (ps_ret (pe_tup (pa_cons pe_str (pa_cons (pe_callTy call_tuple_of (by rfl) htup bTuple (pa_cons (pv 1) pa_nil)) pa_nil))))))), ?_⟩
    obtain ⟨us0, as0, ms0⟩ := asc_exists ks
    have q0 := q us0 as0 ms0
    clear q
    have xl := hp.len
    have okp : ∀ s ∈ ss, ∀ z ∈ s, SOk z := fun s hs => (raw.parts s hs).ok
    -- the parts
    refine ⟨_, rfl, sh, rfl, ⟨_, hsh⟩, ?_⟩
    refine for_it (walk_list (K := K) (a := sh) (xs := xs)) (fun i σ Hc => ∃ x2 x4, σ = [some (.ref T), some (.ref sh), some (.ref li), x2, none, x4, none, none] ∧ Same H Hc ∧ ∀ s ∈ ss.take i, partFault rows s = none) ⟨none, none, rfl, Same.refl _, fun s hs => (nomatch hs)⟩ (fun i σ Hc _ ⟨_, _, _, e, _⟩ => e.seq hsh) ?_ ?_
    · rintro i x σ Hx Hc hi ⟨x2, x4, rfl, sm, hb⟩ ⟨rfl, hx⟩
      obtain ⟨s, hs, b, rfl, hbq⟩ := hp.all i x hx
      have hsm := List.mem_of_getElem? hs
      have pr := raw.parts s hsm
      have hbc := same_seqT sm hbq
      obtain ⟨nm, r, rfl⟩ : ∃ nm r, s = nm :: r := by
        cases s with
        | nil => exact absurd pr.ne (by decide)
        | cons nm r => exact ⟨nm, r, rfl⟩
      refine ⟨_, rfl, b, _, _, _, rfl, rfl, hbc, atI_nat (j := 0) rfl, ?_⟩
      have hTc := hT.same sm
      have hzx : (tx.zip rows).map Prod.fst = tx := zip_fst hTc.len
      have hzy : (tx.zip rows).map Prod.snd = rows := zip_snd hTc.len
      refine ⟨_, rfl, T, rfl, ⟨_, hTc.at_⟩, fun D nD => ?_⟩
      refine lc_pure (wk_list (K := K) (a := T) (l := tx.zip rows) (val := Prod.fst)) (out := fun u => V.str u.2.nm) (fun o => by rw [hzx]; exact (same_new nD).seq hTc.at_) (by rw [List.length_zip]; omega) (fun j u acc Q' hu q' => ?_) ?_
      · obtain ⟨h1, h2⟩ := zip_at hu
        obtain ⟨r', h3, ⟨b', k, m, e, vs, eb, g1, _⟩, _⟩ := hTc.all j u.1 h1
        rw [h2] at h3
        obtain rfl := Option.some.inj h3
        exact ⟨_, wipe_var (by show 4 < 8; decide) _, b', _, _, _, eb, rfl, (same_new nD).seq g1, atI_nat (j := 0) rfl, q'⟩
      have eD : (tx.zip rows).map (fun u => V.str u.2.nm) = (rows.map Rw.nm).map V.str := by
        show (tx.zip rows).map ((fun r : Rw => V.str r.nm) ∘ Prod.snd) = _
        rw [← List.map_map, hzy, List.map_map]
        rfl
      rw [eD]
      have sD := same_new (o := .lst ((rows.map Rw.nm).map V.str)) nD
      refine ⟨D, _, rfl, .inl (SqL.of upd_same), rfl, flat_str _, _, rfl, ?_⟩
      rw [inV_str]
      have hbD := same_seqT sD hbc
      have smD := sm.trans sD
      generalize upd Hc D _ = H2 at sD hbD smD ⊢
      by_cases hnm : nm ∈ rows.map Rw.nm
      · have e : (if true = true then !decide (nm ∈ rows.map Rw.nm) else decide (nm ∈ rows.map Rw.nm)) = false := by simp [hnm]
        rw [e]
        refine iteF ?_
        obtain ⟨rw0, hrw, rfl⟩ := List.mem_map.mp hnm
        have hf := find_nd nd hrw
        refine ⟨_, rfl, 1, rfl, b, _, rfl, hbD, ?_, fun p np => ?_⟩
        · rintro ⟨z, _⟩
          have h1 : HT.sIx ((rw0.nm :: r).map V.str).length 0 (some 1) = min 1 ((rw0.nm :: r).map V.str).length := HT.sIx_nat _ 0 1
          rw [h1, List.length_map, List.length_cons] at z
          omega
        rw [cut_tail (rw0.nm :: r) (by rw [List.length_cons]; omega)]
        have sp := same_new (o := .tup (r.map V.str)) np
        have hpp : SqT K (upd H2 p (.tup (r.map V.str))) p (r.map V.str) := SqT.of upd_same
        have smp := smD.trans sp
        have hbp := same_seqT sp hbD
        have rl : r.length ≤ 20 := by have := pr.len; rw [List.length_cons] at this; omega
        refine ⟨p, rfl, ⟨_, hpp⟩, fun B nB => ?_⟩
        refine lc_it (wk_tup (K := K) (a := p) (l := r) (val := V.str)) (fun j Hd => Same (upd H2 p (.tup (r.map V.str))) Hd ∧ Hd B = some (.lst (((r.take j).filter fun z => !isTermS z).map V.str))) ⟨same_new nB, upd_same⟩ (fun j Hd _ ⟨e, _⟩ => same_seqT e hpp) ?_ ?_
        · rintro j x Hd Hy hj ⟨sd, hB⟩ ⟨rfl, z, hz, rfl⟩
          refine ⟨rfl, ?_⟩
          refine ⟨_, rfl, z, rfl, pr.ok z (List.mem_cons_of_mem _ (List.mem_of_getElem? hz)), fun H' s' => ⟨_, rfl, ?_⟩⟩
          have hB' := s' _ _ hB
          have sd' := sd.trans s'
          have len : ((r.take j).filter fun z => !isTermS z).length ≤ 20 := Nat.le_trans (List.length_filter_le _ _) (by rw [List.length_take]; omega)
          cases ht : isTermS z with
          | true =>
            refine iteF ?_
            refine ⟨sd', ?_⟩
            rw [take_snoc hz, List.filter_append]
            simp only [List.filter_cons, List.filter_nil, ht]
            rw [show (if (!true) = true then [z] else []) = ([] : List Str) from rfl, List.append_nil]
            exact hB'
          | false =>
            refine iteT ?_
            refine ⟨_, rfl, _, hB', by rw [List.length_map]; exact small1000 (by omega), same_mut sd' nB, ?_⟩
            rw [upd_same, take_snoc hz, List.filter_append]
            simp only [List.filter_cons, List.filter_nil, ht]
            rw [show (if (!false) = true then [z] else []) = [z] from rfl, List.map_append]
            rfl
        rintro H4 ⟨s34, hB4⟩
        rw [List.take_length] at hB4
        have sm4 := smp.trans s34
        have hb4 := same_seqT s34 hbp
        have okb : ∀ z ∈ r.filter (fun z => !isTermS z), SOk z := fun z hz => pr.ok z (List.mem_cons_of_mem _ (List.mem_filter.mp hz).1)
        have ebs : (r.filter fun z => !isTermS z).isEmpty = r.all isTermS := by
          rw [Bool.eq_iff_iff, List.isEmpty_iff, List.filter_eq_nil_iff, List.all_eq_true]
          exact ⟨fun h z hz => by have := h z hz; cases e : isTermS z with
            | true => rfl
            | false => rw [e] at this; exact absurd rfl this, fun h z hz => by rw [h z hz]; decide⟩
        generalize r.filter (fun z => !isTermS z) = bs at hB4 okb ebs
        refine ⟨_, rfl, by decide, fun E2 nE2 => ?_⟩
        have sE := same_new (o := .lst []) nE2
        refine ⟨_, _, .lst (SqL.of (sE _ _ hB4)) (dpStrs bs), .lst (SqL.of upd_same) .nil, shapedL okb, rfl, _, rfl, ?_⟩
        rw [eqvNilS, ebs]
        have sm5 := sm4.trans sE
        have hb5 := same_seqT sE hb4
        generalize upd H4 E2 (.lst []) = H5 at sm5 hb5 ⊢
        have out : partFault rows (rw0.nm :: r) = some (.part (rw0.nm :: r)) → ∀ H6 : Hp, Same H H6 → ∀ T1 : Addr, H6 T1 = none → Q (.ref T1) (upd H6 T1 (.tup [V.str "part", V.ref b])) := fun hpf H6 s6 T1 n1 => by
          refine q0 _ T1 (s6.trans (same_new n1)) ?_
          rw [due_part hb hs hpf]
          exact ⟨b, SqT.of upd_same, same_seqT (s6.trans (same_new n1)) hbq⟩
        cases hall : r.all isTermS with
        | false =>
          refine iteT ?_
          refine iteT ?_
          exact ⟨_, rfl, by show 2 ≤ sizeLine; decide, fun T1 n1 => out (by rw [fault_some hf, if_neg (fun c => by rw [c.2] at hall; cases hall)]) _ sm5 T1 n1⟩
        | true =>
          refine iteF ?_
          refine ⟨_, rfl, b, _, rfl, .inr hb5, ?_⟩
          refine ⟨_, rfl, _, rfl, b, _, _, _, rfl, rfl, hb5, atI_nat (j := 0) rfl, ?_⟩
          refine ⟨T, rw0.nm, tx, rows, rfl, hT.same sm5, hrl, hnm, fun H6 k v r' s6 hv hr' hn => ?_⟩
          obtain ⟨r'', h1, hrw'⟩ := ((hT.same sm5).same s6).all k v hv
          rw [hr'] at h1
          obtain rfl := Option.some.inj h1
          obtain ⟨⟨b', kk, m, e, vs, rfl, g1, g2, g3, g4, g5⟩, g6, g7⟩ := hrw'
          have hf' := find_nd nd (List.mem_of_getElem? hr')
          rw [hn, hf] at hf'
          obtain rfl := Option.some.inj hf'
          refine ⟨b', _, _, _, rfl, rfl, g1, atI_nat (j := 1) rfl, _, _, rfl, rfl, rfl, _, rfl, ?_⟩
          have sm6 := sm5.trans s6
          rw [dec_int]
          by_cases hw : (r.length : Int) = rw0.wd
          · have e : (!((((rw0.nm :: r).map V.str).length : Int) == rw0.wd + 1)) = false := by
              rw [List.length_map, List.length_cons]
              have : ((r.length + 1 : Nat) : Int) = rw0.wd + 1 := by omega
              rw [this]
              simp
            rw [e]
            refine iteF ?_
            refine ⟨_, _, rfl, sm6, fun u hu => ?_⟩
            rw [take_snoc hs] at hu
            rcases List.mem_append.mp hu with h | h
            · exact hb u h
            · rw [List.mem_singleton.mp h, fault_some hf, if_pos ⟨hw, hall⟩]
          · have e : (!((((rw0.nm :: r).map V.str).length : Int) == rw0.wd + 1)) = true := by
              rw [List.length_map, List.length_cons]
              have : ((r.length + 1 : Nat) : Int) ≠ rw0.wd + 1 := by omega
              rw [beq_eq_false_iff_ne.mpr this]
              rfl
            rw [e]
            refine iteT ?_
            exact ⟨_, rfl, by show 2 ≤ sizeLine; decide, fun T1 n1 => out (by rw [fault_some hf, if_neg (fun c => hw c.1)]) _ sm6 T1 n1⟩
      · have e : (if true = true then !decide (nm ∈ rows.map Rw.nm) else decide (nm ∈ rows.map Rw.nm)) = true := by simp [hnm]
        rw [e]
        refine iteT ?_
        refine ⟨_, rfl, b, _, _, _, rfl, rfl, hbD, atI_nat (j := 0) rfl, by show 2 ≤ sizeLine; decide, fun T1 n1 => ?_⟩
        refine q0 _ T1 (smD.trans (same_new n1)) ?_
        rw [due_part hb hs (fault_none (find_nm0.mpr hnm))]
        exact SqT.of upd_same
    · rintro σ H2 ⟨x2, x4, rfl, sm, hb⟩
      rw [show ss.take xs.length = ss by rw [xl]; exact List.take_length] at hb
      have two : ∀ s ∈ ss, 2 ≤ s.length := fun s hs => by
        have h1 := hb s hs
        cases s with
        | nil => cases h1
        | cons nm r =>
          cases hf : rows.find? fun x => decide (x.nm = nm) with
          | none => rw [fault_none hf] at h1; cases h1
          | some x =>
            rw [fault_some hf] at h1
            by_cases c : (r.length : Int) = x.wd ∧ r.all isTermS = true
            · have := raw.wd x (List.mem_of_find?_eq_some hf)
              rw [List.length_cons]
              omega
            · rw [if_neg c] at h1
              cases h1
      have hsa : ShapesAt K H2 sh xs ss := ⟨sm.seq hsh, xl, raw.n10, fun i v hv => let ⟨s, h1, q1, h2, h3⟩ := hp.all i v hv; ⟨s, h1, ⟨q1, h2, same_seqT sm h3⟩, two s (List.mem_of_getElem? h1), s10 s (List.mem_of_getElem? h1), okp s (List.mem_of_getElem? h1)⟩⟩
      refine ⟨_, rfl, sh, xs, ss, rfl, hsa, fun H3 Kn kn s3 nKn hKn knd hkn hknl => ?_⟩
      have sm3 := sm.trans s3
      have hdue := due_free (hd := []) (us := us0) n1 hb
      refine ⟨_, rfl, li, kvs, rfl, .of (sm3 _ _ hli), fun M2 nM2 => ?_⟩
      have eK : (kvs.map fun kv => L2.kV kv.1) = ks.map V.str := by
        have h := congrArg (List.map L2.kV) hk
        rw [List.map_map, List.map_map] at h
        exact h
      rw [eK]
      have sL2 := same_new (o := .lst (ks.map V.str)) nM2
      have sm5 := sm3.trans sL2
      refine ⟨M2, ks, rfl, SqL.of upd_same, (by have := raw.kl; omega), fun H7 R us s5 nR hR asu hmu => ?_⟩
      obtain rfl : us = us0 := ascS_unique asu as0 fun z => by rw [hmu z, ms0 z]
      have sm7 := sm5.trans s5
      have hkn7 : H7 Kn = some (.lst (kn.map V.str)) := s5 _ _ (sL2 _ _ hKn)
      refine ⟨R, rfl, ⟨_, SqL.of hR⟩, ?_⟩
      refine for_it (wk_list (K := K) (a := R) (l := us) (val := V.str)) (fun i σ Hc => ∃ x5, σ = [some (.ref T), some (.ref sh), some (.ref li), x2, none, x4, x5, some (.ref Kn)] ∧ Hc = H7 ∧ ∀ z ∈ us.take i, (isVar z && !decide (z ∈ termsOf ss)) = false) ⟨none, rfl, rfl, fun z hz => (nomatch hz)⟩ (fun i σ Hc _ ⟨_, _, e, _⟩ => by rw [e]; exact SqL.of hR) ?_ ?_
      · rintro i x σ Hx Hc hi ⟨x5, rfl, rfl, hbz⟩ ⟨rfl, z, hz, rfl⟩
        have hv : isV z = true := kvar z ((hmu z).mp (List.mem_of_getElem? hz))
        have next : (isVar z && !decide (z ∈ termsOf ss)) = false → ∀ u ∈ us.take (i + 1), (isVar u && !decide (u ∈ termsOf ss)) = false := fun hn u hu => by
          rw [take_snoc hz] at hu
          rcases List.mem_append.mp hu with h | h
          · exact hbz u h
          · rw [List.mem_singleton.mp h]
            exact hn
        refine ⟨_, rfl, _, rfl, Kn, _, rfl, .inl (SqL.of hkn7), rfl, flat_str _, _, rfl, ?_⟩
        rw [inV_str]
        have hmem : z ∈ kn ↔ z ∈ termsOf ss := by rw [hkn z, mem_vars hv]
        by_cases hzt : z ∈ termsOf ss
        · have e : (if true = true then !decide (z ∈ kn) else decide (z ∈ kn)) = false := by simp [hmem, hzt]
          rw [e]
          exact iteF ⟨_, rfl, rfl, next (by rw [decide_eq_true hzt]; simp)⟩
        · have e : (if true = true then !decide (z ∈ kn) else decide (z ∈ kn)) = true := by simp [hmem, hzt]
          rw [e]
          refine iteT ?_
          refine ⟨_, rfl, by show 2 ≤ sizeLine; decide, fun T1 n1 => ?_⟩
          have hfree : freeOf ss ([] ++ us) = some z := find_first (fun u hu => hbz u hu) hz (by rw [← isV_isVar, hv, decide_eq_false hzt]; rfl)
          refine q0 _ T1 (sm7.trans (same_new n1)) ?_
          rw [hdue, hfree]
          exact SqT.of upd_same
      · rintro σ Hc ⟨x5, rfl, rfl, hbz⟩
        rw [List.take_length] at hbz
        have hfree : freeOf ss ([] ++ us) = none := List.find?_eq_none.mpr fun z hz => by rw [hbz z hz]; decide
        refine ⟨_, rfl, sh, xs, rfl, .inl ⟨sm7.seq hsh, fun T1 n1 => ⟨by show 2 ≤ sizeLine; decide, fun T2 n2 => ?_⟩⟩⟩
        have sa := same_new (o := .tup xs) n1
        have sb := same_new (o := .tup [V.str "good", V.ref T1]) n2
        refine q0 _ T2 ((sm7.trans sa).trans sb) ?_
        rw [hdue, hfree]
        exact ⟨T1, SqT.of upd_same, same_seqT sb (SqT.of upd_same)⟩
end
end Sw
namespace Sw
open PySem PySem.Spec PyProof.Rows L2
def cutL (s : List Str) (lo hi : Option Int) : List Str := (s.drop (HT.sIx s.length 0 lo)).take (HT.sIx s.length s.length hi - HT.sIx s.length 0 lo)
theorem cutV_strs (s : List Str) (lo hi : Option Int) : cutV (s.map V.str) lo hi = (cutL s lo hi).map V.str := by
  unfold cutV cutL
  rw [List.length_map, List.map_take, List.map_drop]
theorem cutL_mem {s : List Str} {lo hi : Option Int} {z : Str} (h : z ∈ cutL s lo hi) : z ∈ s := List.mem_of_mem_drop (List.mem_of_mem_take h)
theorem cutL_len (s : List Str) (lo hi : Option Int) : (cutL s lo hi).length ≤ s.length := by
  unfold cutL
  rw [List.length_take, List.length_drop]
  omega
theorem cutL_to (s : List Str) (k : Nat) : cutL s none (some (k : Int)) = s.take k := by
  unfold cutL
  rw [HT.sIx_nat, HT.sIx_none, List.drop_zero, Nat.sub_zero]
  exact (List.take_eq_take_min).symm
theorem cutL_two (s : List Str) (i k : Nat) : (cutL s (some (i : Int)) (some (k : Int))).length ≤ k - i := by
  unfold cutL
  rw [HT.sIx_nat, HT.sIx_nat, List.length_take, List.length_drop]
  omega
theorem cutL_from1 (s : List Str) : (cutL s (some 1) none).length ≤ s.length - 1 := by
  have h := HT.sIx_nat s.length 0 1
  have h1 : HT.sIx s.length 0 (some 1) = min 1 s.length := h
  unfold cutL
  rw [h1, List.length_take, List.length_drop]
  omega
theorem cutL_hi {s : List Str} {hi : Int} (h : 1 ≤ s.length) (h1 : 1 ≤ hi) : 1 ≤ (cutL s none (some hi)).length := by
  obtain ⟨k, rfl⟩ := Int.eq_ofNat_of_zero_le (show (0 : Int) ≤ hi by omega)
  rw [cutL_to, List.length_take]
  omega
theorem ixN_nat {n i : Nat} (h : i < n) : ixN n (i : Int) = some i := by
  unfold ixN
  rw [if_pos (Int.natCast_nonneg _), if_pos (Int.ofNat_lt.mpr h), Int.toNat_natCast]
/-- t[lo:hi] of texts -/
theorem slA_strs {K : PySem.W.Frag} {H : Hp} {a : Addr} {s : List Str} {lo hi : Option Int} {Q : VK} (h : SqT K H a (s.map V.str)) (q : ∀ (H' : Hp) (p : Addr), Same H H' → SqT K H' p ((cutL s lo hi).map V.str) → Q (.ref p) H') : rSlA K (.ref a) lo hi H Q := by
  refine ⟨a, _, rfl, h, fun w => q H a (Same.refl _) ?_, fun _ p np => q _ p (same_new np) (SqT.of ?_)⟩
  · rw [List.length_map] at w
    have e : cutL s lo hi = s := by
      unfold cutL
      rw [w.1, w.2, List.drop_zero, Nat.sub_zero, List.take_length]
    rw [e]
    exact h
  · rw [upd_same, cutV_strs]
/-- t + u of texts -/
theorem catA_strs {K : PySem.W.Frag} {H : Hp} {a b : Addr} {s t : List Str} {Q : VK} (h : SqT K H a (s.map V.str)) (h2 : SqT K H b (t.map V.str)) (l : s.length + t.length ≤ 1000) (q : ∀ (H' : Hp) (p : Addr), Same H H' → SqT K H' p ((s ++ t).map V.str) → Q (.ref p) H') : rCatA K (.ref a) (.ref b) H Q := by
  refine ⟨a, b, _, _, rfl, rfl, h, h2, by rw [List.length_map, List.length_map]; exact Nat.le_trans l (by decide), fun e => ?_, fun _ e => ?_, fun _ _ p np => ?_⟩
  · obtain rfl : s = [] := List.map_eq_nil_iff.mp e
    exact q H b (Same.refl _) h2
  · obtain rfl : t = [] := List.map_eq_nil_iff.mp e
    exact q H a (Same.refl _) (by rw [List.append_nil]; exact h)
  · exact q _ p (same_new np) (SqT.of (by rw [upd_same, List.map_append]))
theorem sok_cut {z : Str} (h : SOk z) (lo hi : Option Int) : SOk (cutS z lo hi) := by
  refine ⟨Nat.le_trans (cutS_length z lo hi) h.1, ?_⟩
  have h2 := h.2
  unfold PySem.PyData.strOk at h2 ⊢
  rw [Array.all_eq_true'] at h2 ⊢
  intro c hc
  refine h2 c (Array.mem_toList_iff.mp ?_)
  have hm : c ∈ TL.tl (cutS z lo hi) := Array.mem_toList_iff.mpr hc
  unfold cutS at hm
  have hm2 : c ∈ ((z.cps.toList.drop (HT.sIx z.length 0 lo)).take (HT.sIx z.length z.length hi - HT.sIx z.length 0 lo)).toArray.toList := hm
  rw [List.toList_toArray] at hm2
  exact List.mem_of_mem_drop (List.mem_of_mem_take hm2)
theorem sok_qx {z : Str} (h : SOk z) (l : z.length ≤ 900) : SOk (("?" : Str) ++ z) := by
  have e := q_tl z
  refine ⟨by rw [len_tl, e, List.length_cons, ← len_tl]; omega, ?_⟩
  have h2 := h.2
  unfold PySem.PyData.strOk at h2 ⊢
  rw [Array.all_eq_true'] at h2 ⊢
  intro c hc
  have hm : c ∈ TL.tl (("?" : Str) ++ z) := Array.mem_toList_iff.mpr hc
  rw [e] at hm
  rcases List.mem_cons.mp hm with h | h
  · rw [h]
    decide
  · exact h2 c (Array.mem_toList_iff.mp h)
/-- parts of texts, in a list that is ours -/
structure RowsI (K : PySem.W.Frag) (H : Hp) (R : Addr) (ys : List V) (us : List (List Str)) (m : Nat) : Prop where
  at_ : H R = some (.lst ys)
  pv : PartsV K H ys us
  l3 : us.length ≤ 3
  ok : ∀ s ∈ us, 1 ≤ s.length ∧ s.length ≤ m ∧ ∀ z ∈ s, SOk z
theorem PartsV.hand {K : PySem.W.Frag} {H H' : Hp} {h : Addr} {xs : List V} {ss : List (List Str)} (q : PartsV K H xs ss) (hh : HandAt H h) (e : SBut h H H') : PartsV K H' xs ss :=
  ⟨q.len, fun i v hv => let ⟨s, h1, b, h2, h3⟩ := q.all i v hv; ⟨s, h1, b, h2, sqT_hand h3 hh e⟩⟩
theorem RowsI.hand {K : PySem.W.Frag} {H H' : Hp} {h R : Addr} {ys : List V} {us : List (List Str)} {m : Nat} (q : RowsI K H R ys us m) (hh : HandAt H h) (e : SBut h H H') : RowsI K H' R ys us m :=
  ⟨e _ _ (hand_short hh (.inl ⟨ys, q.at_, by rw [q.pv.len]; have := q.l3; omega⟩)) q.at_, q.pv.hand hh e, q.l3, q.ok⟩
theorem RowsI.same {K : PySem.W.Frag} {H H' : Hp} {R : Addr} {ys : List V} {us : List (List Str)} {m : Nat} (q : RowsI K H R ys us m) (e : Same H H') : RowsI K H' R ys us m := ⟨e _ _ q.at_, q.pv.same e, q.l3, q.ok⟩
theorem RowsI.more {K : PySem.W.Frag} {H : Hp} {R : Addr} {ys : List V} {us : List (List Str)} {m n : Nat} (q : RowsI K H R ys us m) (e : m ≤ n) : RowsI K H R ys us n := ⟨q.at_, q.pv, q.l3, fun s hs => let ⟨h1, h2, h3⟩ := q.ok s hs; ⟨h1, by omega, h3⟩⟩
theorem RowsI.put {K : PySem.W.Frag} {H : Hp} {R b : Addr} {ys : List V} {us : List (List Str)} {m j : Nat} {s : List Str} (q : RowsI K H R ys us m) (hb : SqT K H b (s.map V.str)) (h1 : 1 ≤ s.length) (hm : s.length ≤ m) (hz : ∀ z ∈ s, SOk z) : RowsI K (upd H R (.lst (ys.set j (.ref b)))) R (ys.set j (.ref b)) (us.set j s) m := by
  have tup : ∀ {c : Addr} {vs : List V}, SqT K H c vs → SqT K (upd H R (.lst (ys.set j (.ref b)))) c vs := fun h => sqT_upd h q.at_ fun ys => ⟨fun z => (nomatch z), fun u z => (nomatch z)⟩
  refine ⟨upd_same, ⟨by rw [List.length_set, List.length_set]; exact q.pv.len, fun i v hv => ?_⟩, by rw [List.length_set]; exact q.l3, fun u hu => ?_⟩
  · have hjl : i < ys.length := by have := (List.getElem?_eq_some_iff.mp hv).1; rw [List.length_set] at this; exact this
    by_cases e : j = i
    · subst e
      rw [List.getElem?_set_self hjl] at hv
      exact ⟨s, List.getElem?_set_self (by rw [← q.pv.len]; exact hjl), b, (Option.some.inj hv).symm, tup hb⟩
    · rw [List.getElem?_set_ne e] at hv
      obtain ⟨s', h1, c, h2, h3⟩ := q.pv.all i v hv
      exact ⟨s', by rw [List.getElem?_set_ne e]; exact h1, c, h2, tup h3⟩
  · rcases List.mem_or_eq_of_mem_set hu with h | h
    · exact q.ok u h
    · rw [h]
      exact ⟨h1, hm, hz⟩
theorem RowsI.upd {K : PySem.W.Frag} {H : Hp} {R I : Addr} {ys vs vs' : List V} {us : List (List Str)} {m : Nat} (q : RowsI K H R ys us m) (hI : H I = some (.lst vs)) (ne : R ≠ I) : RowsI K (upd H I (.lst vs')) R ys us m :=
  ⟨by rw [upd_ne ne]; exact q.at_, ⟨q.pv.len, fun i v hv => let ⟨s, h1, b, h2, h3⟩ := q.pv.all i v hv; ⟨s, h1, b, h2, sqT_upd h3 hI fun ys => ⟨fun z => (nomatch z), fun u z => (nomatch z)⟩⟩⟩, q.l3, q.ok⟩
theorem sqL_dk {K : PySem.W.Frag} {H : Hp} {M a : Addr} {xs : List V} {kvs : List (Key × V)} {o : HO} (h : SqL K H a xs) (hM : H M = some (.dK kvs)) : SqL K (upd H M o) a xs := by
  have go : ∀ w, H a = some w → w ≠ .dK kvs → upd H M o a = some w := fun w e z => by
    rw [upd_ne (ne_of e hM z)]
    exact e
  rcases h with (h | ⟨u, h⟩) | h
  · exact .inl (.inl (go _ h fun z => nomatch z))
  · exact .inl (.inr ⟨u, go _ h fun z => nomatch z⟩)
  · exact .inr h
theorem sqT_dk {K : PySem.W.Frag} {H : Hp} {M a : Addr} {xs : List V} {kvs : List (Key × V)} {o : HO} (h : SqT K H a xs) (hM : H M = some (.dK kvs)) : SqT K (upd H M o) a xs := sqT_upd h hM fun ys => ⟨fun z => (nomatch z), fun u z => (nomatch z)⟩
theorem RowsI.dk {K : PySem.W.Frag} {H : Hp} {R M : Addr} {ys : List V} {kvs : List (Key × V)} {o : HO} {us : List (List Str)} {m : Nat} (q : RowsI K H R ys us m) (hM : H M = some (.dK kvs)) : RowsI K (L2.upd H M o) R ys us m :=
  ⟨by rw [upd_ne (ne_of q.at_ hM fun z => nomatch z)]; exact q.at_, ⟨q.pv.len, fun i v hv => let ⟨s, h1, b, h2, h3⟩ := q.pv.all i v hv; ⟨s, h1, b, h2, sqT_dk h3 hM⟩⟩, q.l3, q.ok⟩
theorem LDict.put {K : PySem.W.Frag} {H : Hp} {M L : Addr} {es : List Ent} {k : Key} {us : List Str} (q : LDict K H M es) (l : es.length ≤ 99) (hL : SqL K H L (us.map V.str)) (ul : us.length < 64) : LDict K (upd H M (.dK (putK (es.map fun e : Ent => (e.1, V.ref e.2.1)) k (.ref L)))) M (putE es k L us) := by
  refine ⟨by rw [upd_same, putE_kv es k L us], putE_nd q.nd k L us, Nat.le_trans (putE_len es k L us) (by omega), fun e he => ?_⟩
  rcases putE_mem he with rfl | h
  · exact ⟨.inl (sqL_dk hL q.at_), ul⟩
  · exact ⟨(q.all e h).1.imp (fun x => sqL_dk x q.at_) (fun x => sqT_dk x q.at_), (q.all e h).2⟩
def badL : List Str := ["", "?", "A", "a b", "abcdefghi", "?abcdefghi", "?A", "a-", "a?"]
theorem badL_ok : ∀ z ∈ badL, SOk z := by
  have h : ∀ z ∈ badL, z.length ≤ 1000 ∧ PySem.PyData.strOk z = true := by decide +kernel
  exact h
/-- a question that was spoilt n times or less, as the list at a -/
structure SpAt (K : PySem.W.Frag) (H : Hp) (a : Addr) (n : Nat) (hA sh li : Addr) (dup : Bool) (hd : List Str) (xs : List V) (ss : List (List Str)) (es : List Ent) : Prop where
  at_ : SqL K H a [.ref hA, .ref sh, .ref li, .bl dup]
  hhd : SqT K H hA (hd.map V.str)
  hsh : SqL K H sh xs
  pv : PartsV K H xs ss
  hli : LDict K H li es
  key : ∀ e ∈ es, ∃ v, e.1 = Sum.inr v ∧ SOk v
  ev : ∀ e ∈ es, e.2.2 = [("v1" : Str)]
  l3 : ss.length ≤ 3
  ok : ∀ s ∈ ss, 1 ≤ s.length ∧ s.length ≤ 4 + n ∧ ∀ z ∈ s, SOk z
  hl : hd.length ≤ 4
  ho : ∀ z ∈ hd, SOk z
  el : es.length ≤ n
theorem LDict.hand {K : PySem.W.Frag} {H H' : Hp} {h a : Addr} {es : List Ent} (q : LDict K H a es) (hh : HandAt H h) (e : SBut h H H') (ev : ∀ u ∈ es, u.2.2.length ≤ 60) : LDict K H' a es :=
  ⟨e _ _ (hand_short hh (.inr ⟨_, q.at_⟩)) q.at_, q.nd, q.len, fun u hu => ⟨(q.all u hu).1.imp (fun x => sqL_hand x hh e (by rw [List.length_map]; exact ev u hu)) (fun x => sqT_hand x hh e), (q.all u hu).2⟩⟩
theorem SpAt.hand {K : PySem.W.Frag} {H H' : Hp} {h a hA sh li : Addr} {n : Nat} {dup : Bool} {hd : List Str} {xs : List V} {ss : List (List Str)} {es : List Ent} (q : SpAt K H a n hA sh li dup hd xs ss es) (hh : HandAt H h) (e : SBut h H H') : SpAt K H' a n hA sh li dup hd xs ss es :=
  { q with at_ := sqL_hand q.at_ hh e (by decide : 4 ≤ 60), hhd := sqT_hand q.hhd hh e, hsh := sqL_hand q.hsh hh e (by rw [q.pv.len]; have := q.l3; omega), pv := q.pv.hand hh e, hli := q.hli.hand hh e fun u hu => by rw [q.ev u hu]; decide }
/-- _law_spoilt(hand, ask, extra, room) -/
def spSpoilt (K : PySem.W.Frag) : Sp := fun vs H Q _ => ∃ (h a : Addr) (x : Str) (room : Int) (n : Nat) (hA sh li : Addr) (dup : Bool) (hd : List Str) (xs : List V) (ss : List (List Str)) (es : List Ent), vs = [.ref h, .ref a, .str x, .int room] ∧ HandAt H h ∧ n ≤ 6 ∧ SOk x ∧ x.length ≤ 100 ∧ SpAt K H a n hA sh li dup hd xs ss es ∧
  ∀ (H' : Hp) (a' hA' sh' li' : Addr) (hd' : List Str) (xs' : List V) (ss' : List (List Str)) (es' : List Ent), SBut h H H' → HandAt H' h → SpAt K H' a' (n + 1) hA' sh' li' dup hd' xs' ss' es' → Q (.ref a') H'
end Sw
namespace Sw
open PySem PySem.Spec PyProof.Rows L2
/-- a promise that was spoilt n times or less, as the list at a -/
structure Sp8At (K : PySem.W.Frag) (H : Hp) (a : Addr) (n : Nat) (sh li : Addr) (xs : List V) (ss : List (List Str)) (es : List Ent) : Prop where
  at_ : SqL K H a [.ref sh, .ref li]
  hsh : SqL K H sh xs
  pv : PartsV K H xs ss
  hli : LDict K H li es
  key : ∀ e ∈ es, ∃ v, e.1 = Sum.inr v ∧ SOk v ∧ isV v = true
  ev : ∀ e ∈ es, e.2.2 = [("v1" : Str)]
  n1 : 1 ≤ ss.length
  l3 : ss.length ≤ 3
  ok : ∀ s ∈ ss, 1 ≤ s.length ∧ s.length ≤ 4 + n ∧ ∀ z ∈ s, SOk z
  el : es.length ≤ n
theorem Sp8At.hand {K : PySem.W.Frag} {H H' : Hp} {h a sh li : Addr} {n : Nat} {xs : List V} {ss : List (List Str)} {es : List Ent} (q : Sp8At K H a n sh li xs ss es) (hh : HandAt H h) (e : SBut h H H') : Sp8At K H' a n sh li xs ss es :=
  { q with at_ := sqL_hand q.at_ hh e (by decide : 2 ≤ 60), hsh := sqL_hand q.hsh hh e (by rw [q.pv.len]; have := q.l3; omega), pv := q.pv.hand hh e, hli := q.hli.hand hh e fun u hu => by rw [q.ev u hu]; decide }
/-- a dict of lists beside another list that is changed -/
theorem LDict.lst {K : PySem.W.Frag} {H : Hp} {M R : Addr} {es : List Ent} {ys ys' : List V} (q : LDict K H M es) (hR : H R = some (.lst ys)) (ne : M ≠ R) (hn : ∀ e ∈ es, e.2.2.map V.str ≠ ys) : LDict K (upd H R (.lst ys')) M es := by
  refine ⟨by rw [upd_ne ne]; exact q.at_, q.nd, q.len, fun e he => ⟨(q.all e he).1.imp (fun h => ?_) (fun h => sqT_upd h hR fun ys => ⟨fun z => (nomatch z), fun u z => (nomatch z)⟩), (q.all e he).2⟩⟩
  have go : ∀ w, H e.2.1 = some w → w ≠ .lst ys → upd H R (.lst ys') e.2.1 = some w := fun w x z => by
    rw [upd_ne (ne_of x hR z)]
    exact x
  rcases h with (h | ⟨u, h⟩) | h
  · exact .inl (.inl (go _ h fun z => hn e he (HO.lst.inj z)))
  · exact .inl (.inr ⟨u, go _ h fun z => nomatch z⟩)
  · exact .inr h
theorem RowsI.nostr {K : PySem.W.Frag} {H : Hp} {R : Addr} {ys : List V} {us : List (List Str)} {m : Nat} (q : RowsI K H R ys us m) (z : Str) : [V.str z] ≠ ys := by
  intro e
  obtain ⟨s, _, b, h, _⟩ := q.pv.all 0 (V.str z) (by rw [← e]; rfl)
  cases h
end Sw
namespace Sw
open PySem PySem.Spec PyProof.Rows L2 NdefX
abbrev sSpoilt : Stmt := topS 38
abbrev pSpoilt : List Str := ["_law_hand", "_law_given", "_law_extra", "_law_room"]
abbrev nSpoilt : List Str := ["_law_hand", "_law_given", "_law_extra", "_law_room", "_law_kind", "_law_rows", "_law_limits", "_law_at", "_law_shorter", "_law_bad", "_law_items", "_law_spot"]
theorem bMax : bootBuiltins "max" = some (.builtin "max") := by decide +kernel
theorem bDict : bootBuiltins "dict" = some (.type "dict") := by decide +kernel
theorem scSpoilt : FnScope nSpoilt pSpoilt (defScope sSpoilt) := ⟨rfl, rfl, rfl, by decide +kernel, rfl, by decide +kernel, by decide +kernel⟩
/-- k08's _law_spoilt(hand, given, extra, room) -/
def spSpoilt8 (K : PySem.W.Frag) : Sp := fun vs H Q _ => ∃ (h a : Addr) (x : Str) (room : Int) (n : Nat) (sh li : Addr) (xs : List V) (ss : List (List Str)) (es : List Ent), vs = [.ref h, .ref a, .str x, .int room] ∧ HandAt H h ∧ n ≤ 6 ∧ SOk x ∧ x.length ≤ 100 ∧ Sp8At K H a n sh li xs ss es ∧
  ∀ (H' : Hp) (a' sh' li' : Addr) (xs' : List V) (ss' : List (List Str)) (es' : List Ent), SBut h H H' → HandAt H' h → Sp8At K H' a' (n + 1) sh' li' xs' ss' es' → Q (.ref a') H'
section
variable {P : Program} {w : World} {K : PySem.W.Frag} {mg : Str → Option Value} {base : Heap}
theorem ok_spoilt8 {f fT : Addr} {fd fdT : FuncData} (F : Fun K "_law_spoilt" "_law_spoilt" sSpoilt f fd) (B : Blt mg) (htup : mg "tuple" = none) (hlist : mg "list" = none) (hmax : mg "max" = none) (hdict : mg "dict" = none)
    (GT : FnOk P w K mg base CX0 1 fT fdT ["_law_hand", "_law_many"] spTake) (mT : mg "_law_take" = some (.ref fT)) (kT : PySem.W.keepIn K (.ref fT) = true) (bT : Binds K fdT ["_law_hand", "_law_many"] []) :
    FnOk P w K mg base CX0 2 f fd pSpoilt (spSpoilt8 K) := by
  refine F.ok scSpoilt (fun vs H Q E h => ?_) (fun cdv A outer s H vs Q E hr h => ?_)
  · obtain ⟨h, a, x, room, n, sh, li, xs, ss, es, rfl, _⟩ := h
    rfl
  · obtain ⟨h, a, x, room, n, sh, li, xs, ss, es, rfl, hh, hn, hx, xl, sp, q⟩ := h
    have hu := hu_of hr
    refine ⟨_, pss_cons (ps_set (i := 4) scSpoilt.nd rfl (.inl rfl) (pe_call GT hr rfl mT kT bT .nil pass0 (pa_cons (pv 0) (pa_cons pe_int pa_nil))))
      (pss_cons (ps_set (i := 5) scSpoilt.nd rfl (.inl rfl) (pe_callTy call_list_of (by rfl) hlist bList (pa_cons (pe_ix ix_list (pv 1) pe_int (fun _ _ => rfl)) pa_nil)))
      (pss_cons (ps_set (i := 6) scSpoilt.nd rfl (.inl rfl) (pe_callTy call_dictD (by rfl) hdict bDict (pa_cons (pe_ix ix_list (pv 1) pe_int (fun _ _ => rfl)) pa_nil)))
      (pss_cons (ps_set (i := 7) scSpoilt.nd rfl (.inl rfl) (pe_op op_mod (pe_callTy call_int1 (by rfl) B.int bInt (pa_cons (pe_call GT hr rfl mT kT bT .nil pass0 (pa_cons (pv 0) (pa_cons pe_int pa_nil))) pa_nil)) (pe_callB call_len_seq (by rfl) B.len PySem.boot_len (pa_cons (pv 5) pa_nil))))
      (pss_mid (ps_if (pt_cmpR op_eq (pv 4) pe_int (nomark _)) (pss_one (ps_asg (pe_op op_catA (pe_tup (pa_cons (pv 2) pa_nil)) (pe_slice sl_tupA (pe_ix ix_list (pv 5) (pv 7) (fun _ _ => rfl)) (po_some pe_int) po_none)) (pg_sub (pv 5) (pv 7) set_list))) pss_nil)
      (pss_mid (ps_if (pt_cmpR op_eq (pv 4) pe_int (nomark _))
        (pss_cons (ps_set (i := 8) scSpoilt.nd rfl (.inl rfl) (pe_slice sl_tupA (pe_ix ix_list (pv 5) (pv 7) (fun _ _ => rfl)) po_none (po_some (pe_callB (call_max2 rfl) (by rfl) hmax bMax (pa_cons pe_int (pa_cons (pe_op op_sub (pe_callB call_len_seq (by rfl) B.len PySem.boot_len (pa_cons (pe_ix ix_list (pv 5) (pv 7) (fun _ _ => rfl)) pa_nil)) pe_int) pa_nil))))))
        (pss_one (ps_asg (pe_ix ix_list (pe_lst (pa_cons (pv 8) (pa_cons (pe_op op_catA (pe_ix ix_list (pv 5) (pv 7) (fun _ _ => rfl)) (pe_tup (pa_cons (pv 2) pa_nil))) pa_nil))) (pe_call GT hr rfl mT kT bT .nil pass0 (pa_cons (pv 0) (pa_cons pe_int pa_nil))) (fun _ _ => rfl)) (pg_sub (pv 5) (pv 7) set_list)))) pss_nil)
      (pss_mid (ps_if (pt_cmpR op_eq (pv 4) pe_int (nomark _))
        (pss_cons (ps_set (i := 9) scSpoilt.nd rfl (.inl rfl) (pe_lst (pa_cons pe_str (pa_cons pe_str (pa_cons pe_str (pa_cons pe_str (pa_cons pe_str (pa_cons pe_str (pa_cons pe_str (pa_cons pe_str (pa_cons pe_str pa_nil)))))))))))
        (pss_cons (ps_set (i := 10) scSpoilt.nd rfl (.inl rfl) (pe_callTy call_list_of (by rfl) hlist bList (pa_cons (pe_slice sl_tupA (pe_ix ix_list (pv 5) (pv 7) (fun _ _ => rfl)) (po_some pe_int) po_none) pa_nil)))
        (pss_cons (ps_for PassesOwn.never rfl (pi_range1 rfl B.range (pa_cons (pe_callB call_len_seq (by rfl) B.len PySem.boot_len (pa_cons (pv 10) pa_nil)) pa_nil)) (pg_name (i := 11) scSpoilt.nd rfl (.inl rfl))
          (pss_one (ps_if (pt_cmpR op_eq (pe_call GT hr rfl mT kT bT .nil pass0 (pa_cons (pv 0) (pa_cons pe_int pa_nil))) pe_int (nomark _)) (pss_one (ps_asg (pe_ix ix_list (pv 9) (pe_call GT hr rfl mT kT bT .nil pass0 (pa_cons (pv 0) (pa_cons pe_int pa_nil))) (fun _ _ => rfl)) (pg_sub (pv 10) (pv 11) set_list))) pss_nil)))
        (pss_one (ps_asg (pe_callTy call_tuple_of (by rfl) htup bTuple (pa_cons (pe_op op_joinL (pe_lst (pa_cons (pe_ix ix_tup (pe_ix ix_list (pv 5) (pv 7) (fun _ _ => rfl)) pe_int (fun _ _ => rfl)) pa_nil)) (pv 10)) pa_nil)) (pg_sub (pv 5) (pv 7) set_list)))))) pss_nil)
      (pss_mid (ps_if (PW.pt (pw_and (pt_cmpR op_eq (pv 4) pe_int (nomark _)) (pw_and1 (pt_cmpR op_lt (pe_callB call_lenD (by rfl) B.len PySem.boot_len (pa_cons (pv 6) pa_nil)) (pv 3) (nomark _)))))
        (pss_one (ps_dput hu (pv 6) (pe_op op_add_str pe_str (pe_slice sl_str (pv 2) po_none (po_some (pe_op op_add (pv 7) pe_int)))) (pe_lst (pa_cons pe_str pa_nil)) rfl)) pss_nil)
      (pss_one (ps_ret (pe_lst (pa_cons (pv 5) (pa_cons (pv 6) pa_nil)))))))))))), ?_⟩
    -- the kind, the rows, the conditions, the place
    refine ⟨_, rfl, h, 5, rfl, hh, by decide, fun kind H1 k0 k7 hh1 b1 => ?_⟩
    have sp1 := sp.hand hh b1.sbut
    refine ⟨_, rfl, a, _, _, _, rfl, rfl, sp1.at_, atI_nat (j := 0) rfl, sh, xs, rfl, .inl sp1.hsh, fun R nR => ?_⟩
    have sR := same_new (o := .lst xs) nR
    have hh2 := hh1.same sR
    have sb2 : SBut h H _ := b1.sbut.trans (Same.sbut sR)
    have nR0 : H R = none := (b1.sbut.free hh1 nR).1
    have r2 : RowsI K (upd H1 R (.lst xs)) R xs ss (4 + n) := ⟨upd_same, sp1.pv.same sR, sp.l3, sp.ok⟩
    generalize upd H1 R (.lst xs) = H2 at sR hh2 sb2 r2 ⊢
    have sp2 := sp.hand hh sb2
    refine ⟨_, rfl, a, _, _, _, rfl, rfl, sp2.at_, atI_nat (j := 1) rfl, li, _, rfl, .of sp2.hli.at_, fun M nM => ?_⟩
    have sM := same_new (o := .dK (es.map fun e : Ent => (e.1, V.ref e.2.1))) nM
    have hM : LDict K (upd H2 M (.dK (es.map fun e : Ent => (e.1, V.ref e.2.1)))) M es := ⟨upd_same, sp2.hli.nd, sp2.hli.len, fun e he => ⟨(sp2.hli.all e he).1.imp (fun y => sM.seq y) (fun y => same_seqT sM y), (sp2.hli.all e he).2⟩⟩
    have nM0 := (sb2.free hh2 nM).1
    have hh3 := hh2.same sM
    have sb3 := sb2.trans (Same.sbut sM)
    have r3 := r2.same sM
    generalize upd H2 M (.dK (es.map fun e : Ent => (e.1, V.ref e.2.1))) = H3 at hM hh3 sb3 r3 ⊢
    have xl3 := sp.pv.len
    have ss1 := sp.n1
    refine ⟨_, rfl, h, 3, rfl, hh3, by decide, fun v H4 v0 v3 hh4 b4 => .inl ⟨_, rfl, ?_⟩⟩
    have r4 := r3.hand hh3 b4.sbut
    have hM4 := hM.hand hh3 b4.sbut fun u hu => by rw [sp.ev u hu]; decide
    have sb4 := sb3.trans b4.sbut
    refine ⟨_, rfl, R, xs, rfl, .inl (SqL.of r4.at_), _, _, rfl, rfl, by omega, ?_⟩
    have m0 := Int.emod_nonneg v (show (xs.length : Int) ≠ 0 by omega)
    have m1 := Int.emod_lt_of_pos v (show (0 : Int) < (xs.length : Int) by omega)
    dsimp only
    generalize v % (xs.length : Int) = pl at m0 m1 ⊢
    obtain ⟨pl, rfl⟩ := Int.eq_ofNat_of_zero_le m0
    have hpl : pl < ss.length := by omega
    clear r3 r2 sp1 sp2 hM m0 m1 v3 v0
    have hus : ss.length = ss.length := rfl
    obtain ⟨ys, us, yeq, ueq, ul, r4⟩ : ∃ ys us, ys = xs ∧ us = ss ∧ us.length = ss.length ∧ RowsI K H4 R ys us (4 + n) := ⟨xs, ss, rfl, rfl, rfl, r4⟩
    clear yeq ueq
    -- the name of no table
    refine ⟨fun σ Hc => ∃ ys us, σ = [some (.ref h), some (.ref a), some (.str x), some (.int room), some (.int kind), some (.ref R), some (.ref M), some (.int (pl : Int)), none, none, none, none] ∧ HandAt Hc h ∧ SBut h H Hc ∧ LDict K Hc M es ∧ RowsI K Hc R ys us (4 + n) ∧ us.length = ss.length, ?_, ?_⟩
    · refine ⟨_, rfl, rfl, _, rfl, ?_⟩
      refine ite2 (fun _ => ?_) (fun _ => ?_)
      · have hpl' : pl < ys.length := by have := r4.pv.len; omega
        have hx3 := List.getElem?_eq_getElem hpl'
        obtain ⟨u, hu', b, hv, hb⟩ := r4.pv.all pl _ hx3
        rw [hv] at hx3
        have pu := r4.ok u (List.mem_of_getElem? hu')
        refine ⟨_, rfl, by show 1 ≤ sizeLine; decide, fun T1 n1 => ?_⟩
        have sT := same_new (o := .tup [V.str x]) n1
        have hT1 : SqT K (upd H4 T1 (.tup [V.str x])) T1 ([x].map V.str) := SqT.of upd_same
        refine ⟨_, rfl, _, rfl, R, _, _, _, rfl, rfl, SqL.of (sT _ _ r4.at_), atI_nat (j := pl) hx3, 1, rfl, ?_⟩
        have cl := cutL_from1 u
        have neR : R ≠ h := hand_short hh4 (.inl ⟨ys, r4.at_, by rw [r4.pv.len]; have := r4.l3; omega⟩)
        have neMR : M ≠ R := (ne_of r4.at_ hM4.at_ fun z => nomatch z).symm
        dsimp only [tNoPart]
        refine slA_strs (same_seqT sT hb) (fun H5 p s4 hp => ?_)
        refine catA_strs (same_seqT s4 hT1) hp (by rw [List.length_singleton]; omega) (fun H6 p5 s5 hp5 => ?_)
        have sm := (sT.trans s4).trans s5
        have r5 := r4.same sm
        have hM5 := hM4.same sm
        refine ⟨_, rfl, _, rfl, R, ys, _, pl, rfl, rfl, r5.at_, ixN_nat hpl', ?_⟩
        refine ⟨_, _, rfl, (hh4.same sm).upd neR, (sb4.trans (Same.sbut sm)).mut nR0, hM5.lst r5.at_ neMR (fun e he => by rw [sp.ev e he]; exact r5.nostr _), r5.put hp5 (by rw [List.length_append, List.length_singleton]; omega) (by rw [List.length_append, List.length_singleton]; omega) (fun z hz => ?_), by rw [List.length_set]; exact ul⟩
        rcases List.mem_append.mp hz with h | h
        · rw [List.mem_singleton.mp h]
          exact hx
        · exact pu.2.2 z (cutL_mem h)
      · exact ⟨ys, us, rfl, hh4, sb4, hM4, r4, ul⟩
    clear r4 hM4 sb4 hh4 ul b4 sb3 hh3
    rintro σ H4 ⟨ys, us, rfl, hh4, sb4, hM4, r4, ul⟩
    -- one term more or one fewer
    refine ⟨fun σ Hc => ∃ ys us x8, σ = [some (.ref h), some (.ref a), some (.str x), some (.int room), some (.int kind), some (.ref R), some (.ref M), some (.int (pl : Int)), x8, none, none, none] ∧ HandAt Hc h ∧ SBut h H Hc ∧ LDict K Hc M es ∧ RowsI K Hc R ys us (4 + (n + 1)) ∧ us.length = ss.length, ?_, ?_⟩
    · have r3' : RowsI K H4 R ys us (4 + (n + 1)) := r4.more (by omega)
      refine ⟨_, rfl, rfl, _, rfl, ?_⟩
      refine ite2 (fun _ => ?_) (fun _ => ?_)
      · have hpl' : pl < ys.length := by have := r4.pv.len; omega
        have hx3 := List.getElem?_eq_getElem hpl'
        obtain ⟨u, hu', b, hv, hb⟩ := r4.pv.all pl _ hx3
        rw [hv] at hx3
        have pu := r4.ok u (List.mem_of_getElem? hu')
        have neR : R ≠ h := hand_short hh4 (.inl ⟨ys, r4.at_, by rw [r4.pv.len]; have := r4.l3; omega⟩)
        have neMR : M ≠ R := (ne_of r4.at_ hM4.at_ fun z => nomatch z).symm
        refine ⟨_, rfl, _, rfl, R, _, _, _, rfl, rfl, SqL.of r4.at_, atI_nat (j := pl) hx3, ?_⟩
        refine ⟨_, rfl, _, rfl, R, _, _, _, rfl, rfl, SqL.of r4.at_, atI_nat (j := pl) hx3, b, _, rfl, .inr hb, _, _, rfl, rfl, 1, _, rfl, _, rfl, ?_⟩
        refine slA_strs hb (fun H5 p s4 hp => ?_)
        have c1 : 1 ≤ (cutL u none (some (if ((u.map V.str).length : Int) - 1 > 1 then ((u.map V.str).length : Int) - 1 else 1))).length := cutL_hi pu.1 (by split <;> omega)
        have c2 := cutL_len u none (some (if ((u.map V.str).length : Int) - 1 > 1 then ((u.map V.str).length : Int) - 1 else 1))
        have c3 : ∀ z ∈ cutL u none (some (if ((u.map V.str).length : Int) - 1 > 1 then ((u.map V.str).length : Int) - 1 else 1)), SOk z := fun z hz => pu.2.2 z (cutL_mem hz)
        generalize cutL u none (some (if ((u.map V.str).length : Int) - 1 > 1 then ((u.map V.str).length : Int) - 1 else 1)) = sh1 at hp c1 c2 c3
        refine ⟨_, rfl, _, rfl, _, rfl, R, _, _, _, rfl, rfl, SqL.of (s4 _ _ r4.at_), atI_nat (j := pl) hx3, _, rfl, by show 1 ≤ sizeLine; decide, fun T1 n1 => ?_⟩
        have sT := same_new (o := .tup [V.str x]) n1
        have hT1 : SqT K (upd H5 T1 (.tup [V.str x])) T1 ([x].map V.str) := SqT.of upd_same
        refine catA_strs (same_seqT (s4.trans sT) hb) hT1 (by rw [List.length_singleton]; omega) (fun H6 p5 s5 hp5 => ?_)
        refine ⟨by show 2 ≤ sizeLine; decide, fun D nD => ?_⟩
        have sD := same_new (o := .lst [V.ref p, V.ref p5]) nD
        have sm := ((s4.trans sT).trans s5).trans sD
        have hh5 := hh4.same sm
        have neD : D ≠ h := (hh4.same ((s4.trans sT).trans s5)).ne nD
        refine ⟨_, rfl, h, 2, rfl, hh5, by decide, fun v H7 v0 v2 hh6 b6 => ?_⟩
        have hD6 : H7 D = some (.lst [V.ref p, V.ref p5]) := b6.sbut _ _ neD upd_same
        obtain ⟨v, rfl⟩ := Int.eq_ofNat_of_zero_le v0
        have v2 : v < 2 := Int.ofNat_lt.mp v2
        obtain ⟨c', s', hv6, hc6, d1, d5, dz⟩ : ∃ (c' : Addr) (s' : List Str), [V.ref p, V.ref p5][v]? = some (V.ref c') ∧ SqT K H7 c' (s'.map V.str) ∧ 1 ≤ s'.length ∧ s'.length ≤ 4 + (n + 1) ∧ ∀ z ∈ s', SOk z := by
          match v, v2 with
          | 0, _ => exact ⟨p, sh1, rfl, sqT_hand (same_seqT ((sT.trans s5).trans sD) hp) hh5 b6.sbut, c1, by omega, c3⟩
          | 1, _ => exact ⟨p5, u ++ [x], rfl, sqT_hand (same_seqT sD hp5) hh5 b6.sbut, by rw [List.length_append]; omega, by rw [List.length_append, List.length_singleton]; omega, fun z hz => by
              rcases List.mem_append.mp hz with h | h
              · exact pu.2.2 z h
              · rw [List.mem_singleton.mp h]; exact hx⟩
        refine ⟨D, _, _, _, rfl, rfl, SqL.of hD6, atI_nat (j := v) hv6, ?_⟩
        have r6 := (r3'.same sm).hand hh5 b6.sbut
        have hM6 := (hM4.same sm).hand hh5 b6.sbut fun u hu => by rw [sp.ev u hu]; decide
        refine ⟨_, rfl, _, rfl, R, ys, _, pl, rfl, rfl, r6.at_, ixN_nat hpl', ?_⟩
        exact ⟨_, _, _, rfl, hh6.upd neR, ((sb4.trans (Same.sbut sm)).trans b6.sbut).mut nR0, hM6.lst r6.at_ neMR (fun e he => by rw [sp.ev e he]; exact r6.nostr _), r6.put hc6 d1 d5 dz, by rw [List.length_set]; exact ul⟩
      · exact ⟨ys, us, none, rfl, hh4, sb4, hM4, r3', ul⟩
    clear r4 hM4 sb4 hh4 ul
    rintro σ H4 ⟨ys, us, x8, rfl, hh4, sb4, hM4, r4, ul⟩
    -- items that are no terms
    refine ⟨fun σ Hc => ∃ ys us x8 x9 x10 x11, σ = [some (.ref h), some (.ref a), some (.str x), some (.int room), some (.int kind), some (.ref R), some (.ref M), some (.int (pl : Int)), x8, x9, x10, x11] ∧ HandAt Hc h ∧ SBut h H Hc ∧ LDict K Hc M es ∧ RowsI K Hc R ys us (4 + (n + 1)) ∧ us.length = ss.length, ?_, ?_⟩
    · refine ⟨_, rfl, rfl, _, rfl, ?_⟩
      refine ite2 (fun _ => ?_) (fun _ => ?_)
      · have hpl' : pl < ys.length := by have := r4.pv.len; omega
        have hx3 := List.getElem?_eq_getElem hpl'
        obtain ⟨u, hu', b, hv, hb⟩ := r4.pv.all pl _ hx3
        rw [hv] at hx3
        have pu := r4.ok u (List.mem_of_getElem? hu')
        refine ⟨by show 9 ≤ sizeLine; decide, fun Bd nBd => ?_⟩
        have sB := same_new (o := .lst (badL.map V.str)) nBd
        have neB : Bd ≠ h := hh4.ne nBd
        refine ⟨_, rfl, _, rfl, R, _, _, _, rfl, rfl, SqL.of (sB _ _ r4.at_), atI_nat (j := pl) hx3, 1, rfl, ?_⟩
        have cl := cutL_from1 u
        have cok : ∀ z ∈ cutL u (some 1) none, SOk z := fun z hz => pu.2.2 z (cutL_mem hz)
        dsimp only [tNoPart]
        refine slA_strs (same_seqT sB hb) (fun H5 p s5 hp => ?_)
        generalize cutL u (some 1) none = it0 at cl cok hp
        have sm5 := sB.trans s5
        have hh5 := hh4.same sm5
        have hBd5 : H5 Bd = some (.lst (badL.map V.str)) := s5 _ _ upd_same
        refine ⟨p, _, rfl, .inr hp, fun I nI => ?_⟩
        have sI := same_new (o := .lst (it0.map V.str)) nI
        have neI : I ≠ h := hh5.ne nI
        have sb5 := sb4.trans (Same.sbut sm5)
        have pl4 := pu.2.1
        refine ⟨_, rfl, I, _, rfl, .inl (SqL.of upd_same), _, rfl, by omega, by rw [List.length_map]; omega, ?_⟩
        refine for_it (walk_range (lo := 0) (n := (((it0.map V.str).length : Nat) : Int).toNat)) (fun i σ Hc => ∃ (x11 : Option V) (its : List Str), σ = [some (.ref h), some (.ref a), some (.str x), some (.int room), some (.int kind), some (.ref R), some (.ref M), some (.int (pl : Int)), x8, some (.ref Bd), some (.ref I), x11] ∧ HandAt Hc h ∧ SBut h H5 Hc ∧ Hc I = some (.lst (its.map V.str)) ∧ its.length = it0.length ∧ ∀ z ∈ its, SOk z)
          ⟨none, it0, rfl, hh5.same sI, Same.sbut sI, upd_same, rfl, cok⟩ (fun _ _ _ _ _ => trivial) ?_ ?_
        · rintro i y σ Hc Hy hi ⟨x11, its, rfl, hc, sbc, hI, il, iok⟩ ⟨rfl, rfl⟩
          rw [Int.toNat_natCast, List.length_map] at hi
          refine ⟨_, rfl, h, 2, rfl, hc, by decide, fun v Ha v0 v2 hha ba => ⟨rfl, _, rfl, ?_⟩⟩
          have hIa := ba.sbut _ _ neI hI
          refine ite2 (fun _ => ?_) (fun _ => ?_)
          · refine ⟨_, rfl, _, rfl, h, 9, rfl, hha, by decide, fun t Hb t0 t9 hhb bb => ?_⟩
            have hIb := bb.sbut _ _ neI hIa
            have sbb := (sbc.trans ba.sbut).trans bb.sbut
            obtain ⟨t, rfl⟩ := Int.eq_ofNat_of_zero_le t0
            have t9 : t < badL.length := Int.ofNat_lt.mp t9
            have hz := List.getElem?_eq_getElem t9
            have zok := badL_ok _ (List.mem_of_getElem? hz)
            generalize badL[t] = z at hz zok
            refine ⟨Bd, _, _, _, rfl, rfl, SqL.of (sbb _ _ neB hBd5), atI_nat (j := t) (by rw [List.getElem?_map, hz]; rfl), ?_⟩
            refine ⟨_, rfl, _, rfl, I, _, _, i, rfl, rfl, hIb, by rw [Int.zero_add]; exact ixN_nat (by rw [List.length_map]; omega), ?_⟩
            refine ⟨_, its.set i z, rfl, hhb.upd neI, sbb.mut nI, by rw [upd_same, List.map_set], by rw [List.length_set]; exact il, fun w hw => ?_⟩
            rcases List.mem_or_eq_of_mem_set hw with h | h
            · exact iok w h
            · rw [h]; exact zok
          · exact ⟨_, its, rfl, hha, sbc.trans ba.sbut, hIa, il, iok⟩
        rintro σ H6 ⟨x11, its, rfl, hh6, sb6, hI6, il, iok⟩
        have r6 := (r4.same sm5).hand hh5 sb6
        have hM6 := (hM4.same sm5).hand hh5 sb6 fun u hu => by rw [sp.ev u hu]; decide
        have neR : R ≠ h := hand_short hh4 (.inl ⟨ys, r4.at_, by rw [r4.pv.len]; have := r4.l3; omega⟩)
        have neMR : M ≠ R := (ne_of r4.at_ hM4.at_ fun z => nomatch z).symm
        have hb6 := sqT_hand (same_seqT sm5 hb) hh5 sb6
        obtain ⟨c0, hc0⟩ : ∃ c0, u[0]? = some c0 := ⟨_, List.getElem?_eq_getElem (show 0 < u.length from pu.1)⟩
        refine ⟨_, rfl, _, rfl, R, _, _, _, rfl, rfl, SqL.of r6.at_, atI_nat (j := pl) hx3, b, _, _, _, rfl, rfl, hb6, atI_nat (j := 0) (by rw [List.getElem?_map, hc0]; rfl), by show 1 ≤ sizeLine; decide, fun L nL => ?_⟩
        have sL := same_new (o := .lst [V.str c0]) nL
        refine ⟨_, rfl, L, I, _, _, rfl, rfl, SqL.of upd_same, SqL.of (sL _ _ hI6), by rw [List.length_map]; exact Nat.le_of_lt (small1000 (by show 1 + _ ≤ 1000; omega)), fun J nJ => ⟨J, _, rfl, .inl ⟨SqL.of upd_same, fun T1 n1 => ?_⟩⟩⟩
        have sm := (sL.trans (same_new (o := .lst ([V.str c0] ++ its.map V.str)) nJ)).trans (same_new (o := .tup ([V.str c0] ++ its.map V.str)) n1)
        have r9 := r6.same sm
        refine ⟨_, rfl, _, rfl, R, ys, _, pl, rfl, rfl, r9.at_, ixN_nat hpl', ?_⟩
        refine ⟨_, _, _, _, _, _, rfl, (hh6.same sm).upd neR, ((sb5.trans sb6).trans (Same.sbut sm)).mut nR0, (hM6.same sm).lst r9.at_ neMR (fun e he => by rw [sp.ev e he]; exact r9.nostr _), r9.put (s := c0 :: its) (SqT.of upd_same) (by rw [List.length_cons]; omega) (by rw [List.length_cons]; omega) (fun y hy => ?_), by rw [List.length_set]; exact ul⟩
        rcases List.mem_cons.mp hy with h | h
        · rw [h]
          exact pu.2.2 _ (List.mem_of_getElem? hc0)
        · exact iok y h
      · exact ⟨ys, us, x8, none, none, none, rfl, hh4, sb4, hM4, r4, ul⟩
    clear r4 hM4 sb4 hh4 ul
    rintro σ H4 ⟨ys, us, x8, x9, x10, x11, rfl, hh4, sb4, hM4, r4, ul⟩
    have neM : M ≠ h := hand_short hh4 (.inr ⟨_, hM4.at_⟩)
    have el := sp.el
    have okk : ∀ e ∈ es, ∃ v, e.1 = Sum.inr v ∧ SOk v ∧ isV v = true := sp.key
    refine ⟨fun σ Hc => ∃ (es' : List Ent), σ = [some (.ref h), some (.ref a), some (.str x), some (.int room), some (.int kind), some (.ref R), some (.ref M), some (.int (pl : Int)), x8, x9, x10, x11] ∧ HandAt Hc h ∧ SBut h H Hc ∧ RowsI K Hc R ys us (4 + (n + 1)) ∧ LDict K Hc M es' ∧ (∀ e ∈ es', ∃ v, e.1 = Sum.inr v ∧ SOk v ∧ isV v = true) ∧ (∀ e ∈ es', e.2.2 = [("v1" : Str)]) ∧ es'.length ≤ n + 1, ?_, ?_⟩
    · refine ⟨_, rfl, rfl, _, rfl, ?_⟩
      refine ite2 (fun _ => ?_) (fun _ => ?_)
      · refine ⟨_, rfl, M, _, rfl, hM4.at_, _, rfl, _, _, rfl, rfl, _, rfl, ?_⟩
        refine ite2 (fun _ => ?_) (fun _ => ?_)
        · refine ⟨by show 1 ≤ sizeLine; decide, fun Lv nLv => ?_⟩
          have sL := same_new (o := .lst [V.str "v1"]) nLv
          have hM6 := hM4.same sL
          have cx := sok_cut hx none (some ((pl : Int) + 1))
          have cxl : (cutS x none (some ((pl : Int) + 1))).length ≤ 100 := Nat.le_trans (cutS_length x _ _) xl
          have lq : ("?" : Str).length + (cutS x none (some ((pl : Int) + 1))).length ≤ 1000 := by
            have : ("?" : Str).length = 1 := by decide +kernel
            omega
          refine ⟨_, rfl, _, rfl, _, rfl, _, _, rfl, rfl, _, rfl, x, rfl, Nat.le_trans xl (by decide), ?_⟩
          refine ⟨_, _, rfl, rfl, Nat.le_trans lq (by decide), M, _, rfl, .inl ⟨_, Sum.inr (("?" : Str) ++ cutS x none (some ((pl : Int) + 1))), hM6.at_, rfl, ?_, rfl⟩, ?_⟩
          · rw [List.length_map]
            exact small1000 (by omega)
          refine ⟨putE es (Sum.inr (("?" : Str) ++ cutS x none (some ((pl : Int) + 1)))) Lv ["v1"], rfl, (hh4.same sL).upd neM, (sb4.trans (Same.sbut sL)).mut nM0, (r4.same sL).dk hM6.at_, hM6.put (by omega) (SqL.of upd_same) (by decide), fun e he => ?_, fun e he => ?_, Nat.le_trans (putE_len _ _ _ _) (by omega)⟩
          · rcases putE_mem he with rfl | h
            · exact ⟨_, rfl, sok_qx cx (by omega), by rw [isV_isVar]; exact q_var _⟩
            · exact sp.key e h
          · rcases putE_mem he with rfl | h
            · rfl
            · exact sp.ev e h
        · exact ⟨es, rfl, hh4, sb4, r4, hM4, okk, sp.ev, by omega⟩
      · exact ⟨es, rfl, hh4, sb4, r4, hM4, okk, sp.ev, by omega⟩
    rintro σ H6 ⟨es', rfl, hh6, sb6, r6, hM6, key6, ev6, el6⟩
    refine ⟨_, rfl, _, rfl, by show 2 ≤ sizeLine; decide, fun Z nZ => ?_⟩
    have sZ := same_new (o := .lst [V.ref R, V.ref M]) nZ
    exact q _ Z R M ys us es' (sb6.trans (Same.sbut sZ)) (hh6.same sZ) ⟨SqL.of upd_same, SqL.of (sZ _ _ r6.at_), r6.pv.same sZ, hM6.same sZ, key6, ev6, by omega, r6.l3, r6.ok, el6⟩
end
end Sw
namespace Sw
open PySem PySem.Spec PyProof.Rows L2
theorem hand_ne {H : Hp} {h b : Addr} {o : HO} (hh : HandAt H h) (hb : H b = some o) (n : ∀ xs, o ≠ .lst xs) : b ≠ h := by
  rintro rfl
  obtain ⟨ns, e1, l1⟩ := hh
  rw [e1] at hb
  exact n _ (Option.some.inj hb).symm
theorem Lead.hand {K : PySem.W.Frag} {H H' : Hp} {h a : Addr} {rs : List V} {zs : List Str} (q : Lead K H a rs zs) (hh : HandAt H h) (e : SBut h H H') : Lead K H' a rs zs :=
  ⟨sqT_hand q.at_ hh e, q.len, q.sml, fun i v w => let ⟨z, e1, b, xs, e2, e3, e4⟩ := q.all i v w; ⟨z, e1, b, xs, e2, sqT_hand e3 hh e, e4⟩⟩
theorem SchOf.hand {K : PySem.W.Frag} {CT CS S h : Addr} {H H' : Hp} {rows : List Rw} {l : List Tb} (q : SchOf K CT CS H S rows l) (hh : HandAt H h) (e : SBut h H H') : SchOf K CT CS H' S rows l := by
  have up : ∀ {b : Addr} {o : HO}, H b = some o → (∀ xs, o ≠ .lst xs) → H' b = some o := fun hb n => e _ _ (hand_ne hh hb n) hb
  refine ⟨⟨?_, fun t ht => ?_, q.sch.nd, q.sch.len⟩, q.len, fun i t ht => ?_⟩
  · obtain ⟨dx, d, g1, g2⟩ := q.sch.ex
    exact ⟨dx, d, up g1 fun xs z => (nomatch z), up g2 fun xs z => (nomatch z)⟩
  · obtain ⟨dx, wd, kA, lA, rA, rs, g1, g2⟩ := (q.sch.tbs t ht).ex
    exact ⟨dx, wd, kA, lA, rA, rs, up g1 fun xs z => (nomatch z), g2.hand hh e⟩
  · obtain ⟨r, g1, g2, g3, ks, ts, vs, ⟨⟨dx, kA, lA, rA, t1, t2, t3, t4⟩, t5⟩, g5, g6, g7⟩ := q.all i t ht
    refine ⟨r, g1, g2, g3, ks, ts, vs, ⟨⟨dx, kA, lA, rA, up t1 fun xs z => (nomatch z), up t2 fun xs z => (nomatch z), ⟨up t3.at_ fun xs z => (nomatch z), fun r hr => ⟨up (t3.all r hr).1 fun xs z => (nomatch z), (t3.all r hr).2⟩⟩, sqT_hand t4 hh e⟩, t5⟩, g5, g6, g7.hand hh e⟩
theorem shaped_pair {k : Str} {d : PyData} (hk : SOk k) (h1 : PySem.PyData.canLay0 d = true) (h2 : PySem.PyData.depth d ≤ 2) : SeqAt.shaped (.tuple [.str k, d]) = true ∧ PySem.PyData.eqv (.tuple [.str k, d]) (.tuple [.str k, d]) = true := by
  have c : PySem.PyData.canLay0 (.tuple [.str k, d]) = true := by
    show (PySem.PyData.strOk k && (PySem.PyData.canLay0 d && true)) = true
    rw [hk.2, h1]
    rfl
  refine ⟨?_, PySem.SeqAt.eqv_refl _ c⟩
  unfold SeqAt.shaped
  have e : PySem.PyData.depth (.tuple [.str k, d]) = max 0 (max (PySem.PyData.depth d) 0) + 1 := rfl
  rw [c, e, decide_eq_true (by omega)]
  rfl
/-- what is told twice is the same -/
theorem told_dp {K : PySem.W.Frag} {xs : List V} {ss : List (List Str)} {H H' : Hp} {p p' : Addr} {o : Option Due} {Q : VK} (hp : PartsV K H xs ss) (hp' : PartsV K H' xs ss) (hok : ∀ s ∈ ss, ∀ z ∈ s, SOk z) (hdo : ∀ d, o = some d → (match d with | .table nm => SOk nm | .part s => ∀ z ∈ s, SOk z | .unb v => SOk v))
    (h : ToldAt K xs H p o) (h' : ToldAt K xs H' p' o) (sm : Same H H') (q : Q (.bl true) H') : rEqD K (.ref p) (.ref p') H' Q := by
  have pair : ∀ (k : Str) (v v' : V) (d : PyData), SOk k → PySem.PyData.canLay0 d = true → PySem.PyData.depth d ≤ 2 → SqT K H p [.str k, v] → SqT K H' p' [.str k, v'] → Dp K H' v d → Dp K H' v' d → rEqD K (.ref p) (.ref p') H' Q := fun k v v' d hk h1 h2 g g' dv dv' => by
    obtain ⟨e1, e2⟩ := shaped_pair hk h1 h2
    refine ⟨_, _, .tup (same_seqT sm g) (.cons (.str k) (.cons dv .nil)), .tup g' (.cons (.str k) (.cons dv' .nil)), e1, e1, ?_⟩
    rw [e2]
    exact q
  have txs : ∀ s : List Str, (∀ z ∈ s, SOk z) → PySem.PyData.canLay0 (.tuple (s.map .str)) = true ∧ PySem.PyData.depth (.tuple (s.map .str)) ≤ 2 := fun s hs => by
    obtain ⟨h1, h2⟩ := canStrs hs
    have e2 : PySem.PyData.depth (.tuple (s.map .str)) = PySem.PyData.depthAll (s.map .str) + 1 := rfl
    exact ⟨h1, by rw [e2, h2]; decide⟩
  cases o with
  | none =>
    obtain ⟨c, g1, g2⟩ := h
    obtain ⟨c', g1', g2'⟩ := h'
    obtain ⟨k1, k2⟩ := canShapes hok
    have e2 : PySem.PyData.depth (.tuple (shD ss)) = PySem.PyData.depthAll (shD ss) + 1 := rfl
    exact pair "good" _ _ (.tuple (shD ss)) (by unfold SOk; decide +kernel) k1 (by rw [e2]; omega) g1 g1' (.tup (same_seqT sm g2) hp'.dp) (.tup g2' hp'.dp)
  | some d =>
    have ok := hdo d rfl
    cases d with
    | table nm => exact pair "table" _ _ (.str nm) (by unfold SOk; decide +kernel) ok.2 (by decide : 0 ≤ 2) h h' (.str nm) (.str nm)
    | unb v => exact pair "unbound" _ _ (.str v) (by unfold SOk; decide +kernel) ok.2 (by decide : 0 ≤ 2) h h' (.str v) (.str v)
    | part s =>
      obtain ⟨c, g1, g2⟩ := h
      obtain ⟨c', g1', g2'⟩ := h'
      obtain ⟨k1, k2⟩ := txs s ok
      exact pair "part" _ _ (.tuple (s.map .str)) (by unfold SOk; decide +kernel) k1 k2 g1 g1' (.tup (same_seqT sm g2) (dpStrs s)) (.tup g2' (dpStrs s))
/-- what is due is of the texts of what is asked -/
theorem due_ok {rows : List Rw} {hd ks us : List Str} {ss : List (List Str)} (raw : AskRaw rows hd ss ks) (mu : ∀ z, z ∈ us ↔ z ∈ ks) : ∀ d, dueOf rows hd ss us = some d → (match d with | .table nm => SOk nm | .part s => ∀ z ∈ s, SOk z | .unb v => SOk v) := by
  intro d h
  unfold dueOf at h
  by_cases c : ss.isEmpty = true
  · rw [if_pos c] at h
    obtain rfl := Option.some.inj h
    exact fun z hz => (nomatch hz)
  · rw [if_neg c] at h
    cases hf : ss.findSome? (partFault rows) with
    | some o =>
      rw [hf] at h
      obtain rfl := Option.some.inj h
      obtain ⟨s, hs, hp⟩ := List.exists_of_findSome?_eq_some hf
      have ok := (raw.parts s hs).ok
      cases s with
      | nil => exact absurd (raw.parts [] hs).ne (by decide)
      | cons nm r =>
        cases hx : rows.find? fun x => decide (x.nm = nm) with
        | none =>
          rw [fault_none hx] at hp
          obtain rfl := Option.some.inj hp
          exact ok nm List.mem_cons_self
        | some x =>
          rw [fault_some hx] at hp
          split at hp
          · cases hp
          · obtain rfl := Option.some.inj hp
            exact ok
    | none =>
      rw [hf] at h
      cases hz : freeOf ss (hd ++ us) with
      | none => rw [hz] at h; cases h
      | some z =>
        rw [hz] at h
        obtain rfl := Option.some.inj h
        rcases List.mem_append.mp (List.mem_of_find?_eq_some hz) with h | h
        · exact raw.ho z h
        · exact raw.ko z ((mu z).mp h)
end Sw
namespace Sw
open PySem PySem.Spec PyProof.Rows L2 NdefX
abbrev sLaw08 : Stmt := topS 39
abbrev nLaw08 : List Str := ["_law_script", "_law_setup", "_law_tables", "_law_schema", "_law_hand", "_law_given", "_law_taken", "_law_extra", "_law_room", "_law_k", "_law_told", "_law_promise", "e", "_law_table", "_law_word", "_law_shape"]
theorem bVal : bootBuiltins "ValueError" = some (.type "ValueError") := by decide +kernel
theorem scLaw08 : FnScope nLaw08 ["_law_script"] (defScope sLaw08) := ⟨rfl, rfl, rfl, by decide +kernel, rfl, by decide +kernel, by decide +kernel⟩
/-- what holds of the texts that the law calls -/
structure Have08 (P : Program) (w : World) (K : PySem.W.Frag) (mg : Str → Option Value) (base : Heap) (CT CS CQ DU DB DN DW : Addr) : Prop where
  Bg : ∃ f fd, FnOk P w K mg base CX0 7 f fd ["_law_script", "_law_many"] (spBegin K) ∧ mg "_law_begin" = some (.ref f) ∧ PySem.W.keepIn K (.ref f) = true ∧ Binds K fd ["_law_script", "_law_many"] []
  Bu : ∃ f fd, FnOk P w K mg base CX0 6 f fd ["_law_tables"] (spBuild K CT CS) ∧ mg "_law_build" = some (.ref f) ∧ PySem.W.keepIn K (.ref f) = true ∧ Binds K fd ["_law_tables"] []
  D : ∃ f fd, FnOk P w K mg base CX0 1 f fd ["_law_script", "_law_k"] (spDeal K) ∧ mg "_law_deal" = some (.ref f) ∧ PySem.W.keepIn K (.ref f) = true ∧ Binds K fd ["_law_script", "_law_k"] []
  S : ∃ f fd, FnOk P w K mg base CX0 2 f fd ["_law_hand", "_law_many", "_law_signs"] spSpell ∧ mg "_law_spell" = some (.ref f) ∧ PySem.W.keepIn K (.ref f) = true ∧ Binds K fd ["_law_hand", "_law_many", "_law_signs"] []
  T : ∃ f fd, FnOk P w K mg base CX0 1 f fd ["_law_hand", "_law_many"] spTake ∧ mg "_law_take" = some (.ref f) ∧ PySem.W.keepIn K (.ref f) = true ∧ Binds K fd ["_law_hand", "_law_many"] []
  C : ∃ f fd, FnOk P w K mg base CX0 4 f fd ["_law_tables", "_law_name"] (spCost K 3) ∧ mg "_law_cost" = some (.ref f) ∧ PySem.W.keepIn K (.ref f) = true ∧ Binds K fd ["_law_tables", "_law_name"] []
  Sp : ∃ f fd, FnOk P w K mg base CX0 2 f fd pSpoilt (spSpoilt8 K) ∧ mg "_law_spoilt" = some (.ref f) ∧ PySem.W.keepIn K (.ref f) = true ∧ Binds K fd pSpoilt []
  X : ∃ f fd, FnOk P w K mg base CX0 2 f fd ["_law_tables", "_law_rows", "_law_limits"] (spLExp8 K) ∧ mg "_law_expected" = some (.ref f) ∧ PySem.W.keepIn K (.ref f) = true ∧ Binds K fd ["_law_tables", "_law_rows", "_law_limits"] []
  Qu : ∃ f fd, FnOk P w K mg base (L2.CX P w) 8 f fd ["_law_schema", "_law_pledge"] (spVowX K CT CS CQ DU DB DN) ∧ mg "_law_vow" = some (.ref f) ∧ PySem.W.keepIn K (.ref f) = true ∧ Binds K fd ["_law_schema", "_law_pledge"] []
  qC : PromC K CQ
  gU : mg "UnknownTable" = some (.ref DU)
  gB : mg "BadPart" = some (.ref DB)
  gN : mg "Unbound" = some (.ref DN)
  gW : mg "WholeError" = some (.ref DW)
  eU : ExcC K DU
  xU : XfC K DU
  nU : PySem.W.findIn K (.ref DU) "name" = some none
  eB : ExcC K DB
  xB : XfC K DB
  nB : PySem.W.findIn K (.ref DB) "part" = some none
  eN : ExcC K DN
  xN : XfC K DN
  nN : PySem.W.findIn K (.ref DN) "variable" = some none
  mUU : PySem.W.exmOne K (.ref DU) (.ref DU) = some true
  mBU : PySem.W.exmOne K (.ref DB) (.ref DU) = some false
  mBB : PySem.W.exmOne K (.ref DB) (.ref DB) = some true
  mNU : PySem.W.exmOne K (.ref DN) (.ref DU) = some false
  mNB : PySem.W.exmOne K (.ref DN) (.ref DB) = some false
  mNN : PySem.W.exmOne K (.ref DN) (.ref DN) = some true
  kUW : PySem.W.kitOne K (.ref DU) (.ref DW) = some true
  kUV : PySem.W.kitOne K (.ref DU) (.type "ValueError") = some true
  kUB : PySem.W.kitOne K (.ref DU) (.ref DB) = some false
  kBW : PySem.W.kitOne K (.ref DB) (.ref DW) = some true
  kBN : PySem.W.kitOne K (.ref DB) (.ref DN) = some false
  kNW : PySem.W.kitOne K (.ref DN) (.ref DW) = some true
  kNV : PySem.W.kitOne K (.ref DN) (.type "ValueError") = some true
  isi : mg "isinstance" = none
  val : mg "ValueError" = none
  sum : mg "sum" = none
def tSuiU (K : PySem.W.Frag) (DU DW DB : Addr) (a : Addr) (cls : Value) (d : Option Addr) : TS :=
  tIfS (tAnd (tB (tCB (rIsX K cls d DU a) (tCons (tVar 12) (tCons (tC (.ref DW)) tNil)))) (tNot (tB (tCB (rIsX K cls d DU a) (tCons (tVar 12) (tCons (tC (.ref DB)) tNil))))))
    (tAsg (tTup (tCons (tC (.str "table")) (tCons (tXf a cls d DU "name" (tVar 12)) tNil))) (gName 10)) tNext
def tSuiB (K : PySem.W.Frag) (DB DW DN : Addr) (a : Addr) (cls : Value) (d : Option Addr) : TS :=
  tIfS (tAnd (tB (tCB (rIsX K cls d DB a) (tCons (tVar 12) (tCons (tC (.ref DW)) tNil)))) (tNot (tB (tCB (rIsX K cls d DB a) (tCons (tVar 12) (tCons (tC (.ref DN)) tNil))))))
    (tAsg (tTup (tCons (tC (.str "part")) (tCons (tXf a cls d DB "part" (tVar 12)) tNil))) (gName 10)) tNext
def tSuiN (K : PySem.W.Frag) (DN DW : Addr) (a : Addr) (cls : Value) (d : Option Addr) : TS :=
  tIfS (tB (tCB (rIsX K cls d DN a) (tCons (tVar 12) (tCons (tC (.ref DW)) tNil))))
    (tAsg (tTup (tCons (tC (.str "unbound")) (tCons (tXf a cls d DN "variable" (tVar 12)) tNil))) (gName 10)) tNext
def tTry08 (K : PySem.W.Frag) (CT CS CQ DU DB DN : Addr) (W : WX) : TS :=
  tSeq (tAsg (tCallS (spVowX K CT CS CQ DU DB DN) (WE W) (tCons (tVar 3) (tCons (tLst (tCons (tOp (rIxL K) (tOp (rIxL K) (tVar 5) (tC (.int 0))) (tC (.int 0))) (tCons (tSl (rSlL K) (tOp (rIxL K) (tVar 5) (tC (.int 0))) (tPart (tC (.int 1))) tNoPart) (tCons (tOp (rIxL K) (tVar 5) (tC (.int 1))) tNil)))) tNil))) (gName 11))
    (tAsg (tTup (tCons (tC (.str "good")) (tCons (tOp (rCatA K) (tTup (tCons (tFld K (tVar 11) "part") tNil)) (tFld K (tVar 11) "partners")) tNil))) (gName 10))
/-- t + u of any tuples -/
theorem catA_any {K : PySem.W.Frag} {H : Hp} {a b : Addr} {xs ys : List V} {Q : VK} (h : SqT K H a xs) (h2 : SqT K H b ys) (l : xs.length + ys.length ≤ 1000) (q : ∀ (H' : Hp) (p : Addr), Same H H' → SqT K H' p (xs ++ ys) → Q (.ref p) H') : rCatA K (.ref a) (.ref b) H Q := by
  refine ⟨a, b, _, _, rfl, rfl, h, h2, Nat.le_trans l (by decide), fun e => ?_, fun _ e => ?_, fun _ _ p np => ?_⟩
  · obtain rfl := e
    exact q H b (Same.refl _) h2
  · obtain rfl := e
    exact q H a (Same.refl _) (by rw [List.append_nil]; exact h)
  · exact q _ p (same_new np) (SqT.of upd_same)
def spLaw (K : PySem.W.Frag) : Sp := fun vs H Q _ => ∃ (s : Addr) (ns : List Int), vs = [.ref s] ∧ SqL K H s (ns.map V.int) ∧ ns.length ≤ 63 ∧ ∀ H', Q (.bl true) H'
section
variable {P : Program} {w : World} {K : PySem.W.Frag} {mg : Str → Option Value} {base : Heap}
theorem ok_law08 {f CT CS CQ DU DB DN DW : Addr} {fd : FuncData} (F : Fun K "law" "law" sLaw08 f fd) (B : Blt mg) (Z : Have08 P w K mg base CT CS CQ DU DB DN DW) : FnOk P w K mg base CX0 9 f fd ["_law_script"] (spLaw K) := by
  obtain ⟨fG, fdG, GG, mG, kG, bG⟩ := Z.Bg
  obtain ⟨fU, fdU, GU, mU, kU, bU⟩ := Z.Bu
  obtain ⟨fD, fdD, GD, mD, kD, bD⟩ := Z.D
  obtain ⟨fS, fdS, GS, mS, kS, bS⟩ := Z.S
  obtain ⟨fT, fdT, GT, mT, kT, bT⟩ := Z.T
  obtain ⟨fC, fdC, GC, mC, kC, bC⟩ := Z.C
  obtain ⟨fP, fdP, GP, mP, kP, bP⟩ := Z.Sp
  obtain ⟨fX, fdX, GX, mX, kX, bX⟩ := Z.X
  obtain ⟨fY, fdY, GY, mY, kY, bY⟩ := Z.Qu
  refine F.ok scLaw08 (fun vs H Q E h => ?_) (fun cdv A outer s H vs Q E hr h => ?_)
  · obtain ⟨a, ns, rfl, _⟩ := h
    rfl
  · obtain ⟨a, ns, rfl, hs, hn, q⟩ := h
    have hu := hu_of hr
    have h1 : Room 1 _ := hr.mono (by decide)
    have h2 : Room 2 _ := hr.mono (by decide)
    have h4 : Room 4 _ := hr.mono (by decide)
    have h6 : Room 6 _ := hr.mono (by decide)
    have h7 : Room 7 _ := hr.mono (by decide)
    refine ⟨_, pss_cons (ps_set (i := 1) scLaw08.nd rfl (Or.inl rfl) (pe_call GG h7 rfl mG kG bG .nil pass0 (pa_cons (pv 0) (pa_cons pe_int pa_nil))))
      (pss_cons (ps_set (i := 2) scLaw08.nd rfl (Or.inr rfl) (pe_ix ix_list (pv 1) pe_int (fun _ _ => rfl)))
      (pss_cons (ps_set (i := 3) scLaw08.nd rfl (Or.inl rfl) (pe_call GU h6 rfl mU kU bU .nil pass0 (pa_cons (pv 2) pa_nil)))
      (pss_cons (ps_set (i := 4) scLaw08.nd rfl (Or.inl rfl) (pe_call GD h1 rfl mD kD bD .nil pass0 (pa_cons (pv 0) (pa_cons pe_int pa_nil))))
      (pss_cons (ps_set (i := 6) scLaw08.nd rfl (Or.inr rfl) (pe_lc (own := [("_law_table", 13)]) (g := gName 13) (tt := tYes) (te := tOp (rIxL K) (tVar 13) (tC (.int 0))) rfl scLaw08.nd (pi_list (pv 2)) (blkOk_by (N := nLaw08) (sc := defScope sLaw08) (by decide +kernel)) (fun _ _ _ _ _ => pg_name (i := 13) scLaw08.nd rfl (Or.inl rfl)) (fun _ _ _ _ _ => pts_nil)
            (fun _ _ _ _ _ => pe_ix ix_list (pv 13) pe_int (fun _ _ => rfl))))
      (pss_cons (ps_set (i := 7) scLaw08.nd rfl (Or.inl rfl) (pe_ix ix_list (pe_lc (own := [("_law_word", 14)]) (g := gName 14) (tt := tTest (tOp (rIn K true) (tVar 14) (tVar 6))) (te := tVar 14) rfl scLaw08.nd (pi_list (pe_call GS h2 rfl mS kS bS .nil pass0 (pa_cons (pv 4) (pa_cons pe_int (pa_cons pe_str pa_nil))))) (blkOk_by (N := nLaw08) (sc := defScope sLaw08) (by decide +kernel)) (fun _ _ _ _ _ => pg_name (i := 14) scLaw08.nd rfl (Or.inl rfl))
            (fun _ _ _ _ _ => pts_one (pt_cmpR op_notIn_seq (pv 14) (pv 6) (by rfl))) (fun _ _ _ _ _ => pv 14)) pe_int (fun _ _ => rfl)))
      (pss_cons (ps_set (i := 8) scLaw08.nd rfl (Or.inl rfl) (pe_op op_sub pe_int (pe_callB (cr_sum rfl) (by rfl) Z.sum PyProof.Rows.boot_sum (pa_cons (pe_lc (own := [("_law_shape", 15)]) (g := gName 15) (tt := tYes) (te := tCall (spCost K 3) [] E0 (tCons (tVar 2) (tCons (tOp (rIxT K) (tVar 15) (tC (.int 0))) tNil))) rfl scLaw08.nd (pi_list (pe_ix ix_list (pe_ix ix_list (pv 1) pe_int (fun _ _ => rfl)) pe_int (fun _ _ => rfl))) (blkOk_by (N := nLaw08) (sc := defScope sLaw08) (by decide +kernel))
          (fun _ _ _ _ _ => pg_name (i := 15) scLaw08.nd rfl (Or.inl rfl)) (fun _ _ _ _ _ => pts_nil) (fun _ _ _ _ _ => pe_call GC h4 rfl mC kC bC .nil pass0 (pa_cons (pv 2) (pa_cons (pe_ix ix_tup (pv 15) pe_int (fun _ _ => rfl)) pa_nil)))) pa_nil))))
      (pss_cons (ps_set (i := 5) scLaw08.nd rfl (Or.inl rfl) (pe_lst (pa_cons (pe_ix ix_list (pe_ix ix_list (pv 1) pe_int (fun _ _ => rfl)) pe_int (fun _ _ => rfl)) (pa_cons pe_dnewK pa_nil))))
      (pss_cons (ps_for PassesOwn.never rfl (pi_range1 rfl B.range (pa_cons (pe_call GT h1 rfl mT kT bT .nil pass0 (pa_cons (pv 4) (pa_cons pe_int pa_nil))) pa_nil)) (pg_name (i := 9) scLaw08.nd rfl (Or.inl rfl))
        (pss_one (ps_set (i := 5) scLaw08.nd rfl (Or.inl rfl) (pe_call GP h2 rfl mP kP bP .nil pass0 (pa_cons (pv 4) (pa_cons (pv 5) (pa_cons (pv 7) (pa_cons (pv 8) pa_nil))))))))
      (pss_cons (ps_set (i := 10) scLaw08.nd rfl (Or.inl rfl) (pe_tup (pa_cons pe_str (pa_cons (pe_tup pa_nil) pa_nil))))
      (pss_mid (ps_try_all (tb := tTry08 K CT CS CQ DU DB DN) (l := [⟨.ref DU, 12, tSuiU K DU DW DB⟩, ⟨.ref DB, 12, tSuiB K DB DW DN⟩, ⟨.ref DN, 12, tSuiN K DN DW⟩]) (Wo := fun _ _ _ _ => False) rfl rfl scLaw08.nd takes0
          (fun W pn xe tk _ => pss_cons (ps_set (i := 11) scLaw08.nd rfl (Or.inl rfl) (by exact pe_callS GY hr rfl mY kY bY (fun σ => passAt tk σ) (by exact pa_cons (pv 3) (pa_cons (by exact pe_lst (pa_cons (pe_ix ix_list (pe_ix ix_list (pv 5) pe_int (fun _ _ => rfl)) pe_int (fun _ _ => rfl)) (pa_cons (pe_slice sl_list (pe_ix ix_list (pv 5) pe_int (fun _ _ => rfl)) (po_some pe_int) po_none) (pa_cons (pe_ix ix_list (pv 5) pe_int (fun _ _ => rfl)) pa_nil)))) pa_nil))))
            (pss_one (ps_set (i := 10) scLaw08.nd rfl (Or.inl rfl) (by exact pe_tup (pa_cons pe_str (pa_cons (by exact pe_op op_catA (pe_tup (pa_cons (pe_fld (pv 11) rfl) pa_nil)) (pe_fld (pv 11) rfl)) pa_nil))))))
          (ClsOk.cons (by rfl) (by rfl) ⟨rfl, by decide, Or.inl Z.gU⟩ ?sU (ClsOk.cons (by rfl) (by rfl) ⟨rfl, by decide, Or.inl Z.gB⟩ ?sB (ClsOk.cons (by rfl) (by rfl) ⟨rfl, by decide, Or.inl Z.gN⟩ ?sN .nil))))
      (pss_one (ps_ret (pe_cmpR (op_eqD hr.units) (pv 10) (pe_call GX h2 rfl mX kX bX .nil pass0 (pa_cons (pv 2) (pa_cons (pe_ix ix_list (pv 5) pe_int (fun _ _ => rfl)) (pa_cons (pe_ix ix_list (pv 5) pe_int (fun _ _ => rfl)) pa_nil)))) (nomark _)))))))))))))), ?_⟩
    case sU =>
      intro a oe cls d pn hz hf
      show PSs _ _ (tSuiU K DU DW DB a cls d)
      unfold tSuiU
      refine pss_one (ps_if (PW.pt (pw_and ?c1 (pw_and1 (pt_not ?c3)))) ?dU pss_nil)
      case dU => exact pss_one (ps_set (i := 10) scLaw08.nd rfl (Or.inl rfl) (by exact pe_tup (by exact pa_cons pe_str (by exact pa_cons (by exact pe_xf Z.xU Z.nU hz hf (by exact pv 12)) pa_nil))))
      case c1 => exact pt_is (by intro _; rfl) (by exact pe_callB (call_isX Z.eU hz hf) (by rfl) Z.isi boot_isinstance (pa_cons (pv 12) (pa_cons (pe_glob (v := .ref DW) rfl Z.gW rfl) pa_nil)))
      case c3 => exact pt_is (by intro _; rfl) (by exact pe_callB (call_isX Z.eU hz hf) (by rfl) Z.isi boot_isinstance (pa_cons (pv 12) (pa_cons (pe_glob (v := .ref DB) rfl Z.gB rfl) pa_nil)))
    case sB =>
      intro a oe cls d pn hz hf
      show PSs _ _ (tSuiB K DB DW DN a cls d)
      unfold tSuiB
      refine pss_one (ps_if (PW.pt (pw_and ?k1 (pw_and1 (pt_not ?k2)))) ?dB pss_nil)
      case dB => exact pss_one (ps_set (i := 10) scLaw08.nd rfl (Or.inl rfl) (by exact pe_tup (by exact pa_cons pe_str (by exact pa_cons (by exact pe_xf Z.xB Z.nB hz hf (by exact pv 12)) pa_nil))))
      case k1 => exact pt_is (by intro _; rfl) (by exact pe_callB (call_isX Z.eB hz hf) (by rfl) Z.isi boot_isinstance (pa_cons (pv 12) (pa_cons (pe_glob (v := .ref DW) rfl Z.gW rfl) pa_nil)))
      case k2 => exact pt_is (by intro _; rfl) (by exact pe_callB (call_isX Z.eB hz hf) (by rfl) Z.isi boot_isinstance (pa_cons (pv 12) (pa_cons (pe_glob (v := .ref DN) rfl Z.gN rfl) pa_nil)))
    case sN =>
      intro a oe cls d pn hz hf
      show PSs _ _ (tSuiN K DN DW a cls d)
      unfold tSuiN
      refine pss_one (ps_if ?m1 ?dN pss_nil)
      case dN => exact pss_one (ps_set (i := 10) scLaw08.nd rfl (Or.inl rfl) (by exact pe_tup (by exact pa_cons pe_str (by exact pa_cons (by exact pe_xf Z.xN Z.nN hz hf (by exact pv 12)) pa_nil))))
      case m1 => exact pt_is (by intro _; rfl) (by exact pe_callB (call_isX Z.eN hz hf) (by rfl) Z.isi boot_isinstance (pa_cons (pv 12) (pa_cons (pe_glob (v := .ref DW) rfl Z.gW rfl) pa_nil)))
    refine ⟨_, rfl, a, ns, 3, rfl, hs, hn, by decide, by decide, fun H1 R xs rows vals tms k s1 nR b => ?_⟩
    obtain ⟨T0, Va, Tm, A0, b1, b2, b3, b4, t, sh, li, ys, a1, a2, a3, a4⟩ := b.ex
    have hy3 : ys.length ≤ 3 := by rw [a3.len]; exact b.ask.nm
    refine ⟨_, rfl, R, _, _, _, rfl, rfl, SqL.of b1, atI_nat (j := 0) rfl, ?_⟩
    refine ⟨_, rfl, T0, xs, rows, rfl, b2, b.sane, fun H2 S l s2 nS hS => ?_⟩
    refine ⟨_, rfl, a, ns, 3, rfl, (s1.trans s2).seq hs, hn, by decide, fun H3 h s3 n3 hh3 => ?_⟩
    have s23 := s2.trans s3
    have hh4 := hh3
    have okS : ∀ s ∈ k.ss, ∀ z ∈ s, SOk z := fun s hs => by
      obtain ⟨i, hi⟩ := List.mem_iff_getElem?.mp hs
      have hx := List.getElem?_eq_getElem (show i < ys.length by rw [a3.len]; exact (List.getElem?_eq_some_iff.mp hi).1)
      obtain ⟨s', h1, _, _, _, h2⟩ := a3.all i _ hx
      rw [hi] at h1
      obtain rfl := Option.some.inj h1
      exact h2
    have hS4 := hS.same s3
    have hT4 := b2.same s23
    have hR4 := s23 _ _ b1
    have hA4 := s23 _ _ a1
    have a34 := a3.same s23
    clear hh3
    -- the names taken
    have hzx : (xs.zip rows).map Prod.fst = xs := zip_fst hT4.len
    have hzy : (xs.zip rows).map Prod.snd = rows := zip_snd hT4.len
    have rl3 : rows.length ≤ 3 := b.sane.n3
    refine ⟨_, rfl, T0, rfl, ⟨_, hT4.at_⟩, fun D nD => ?_⟩
    refine lc_pure (wk_list (K := K) (a := T0) (l := xs.zip rows) (val := Prod.fst)) (out := fun u => V.str u.2.nm) (fun o => by rw [hzx]; exact (same_new nD).seq hT4.at_) (by rw [List.length_zip]; omega) (fun j u acc Q' hu q' => ?_) ?_
    · obtain ⟨g1, g2⟩ := zip_at hu
      obtain ⟨r', g3, ⟨b', kk, m, e, vs, eb, g4, _⟩, _⟩ := hT4.all j u.1 g1
      rw [g2] at g3
      obtain rfl := Option.some.inj g3
      exact ⟨_, wipe_var (by show 13 < 16; decide) _, b', _, _, _, eb, rfl, (same_new nD).seq g4, atI_nat (j := 0) rfl, q'⟩
    have eD : (xs.zip rows).map (fun u => V.str u.2.nm) = (rows.map Rw.nm).map V.str := by
      show (xs.zip rows).map ((fun r : Rw => V.str r.nm) ∘ Prod.snd) = _
      rw [← List.map_map, hzy, List.map_map]
      rfl
    rw [eD]
    have sD := same_new (o := .lst ((rows.map Rw.nm).map V.str)) nD
    have hD : SqL K (upd H3 D (.lst ((rows.map Rw.nm).map V.str))) D ((rows.map Rw.nm).map V.str) := SqL.of upd_same
    have hh5 := hh4.same sD
    have neD : D ≠ h := hh4.ne nD
    generalize upd H3 D (.lst ((rows.map Rw.nm).map V.str)) = H5 at sD hD hh5 ⊢
    -- the extra word
    refine ⟨_, rfl, h, 4, _, rfl, hh5, by decide, .inl (by decide +kernel), by decide +kernel, fun H6 N ws hh6 sb6 n6 ne6 hN hwl hnd hwd => ?_⟩
    have hD6 : SqL K H6 D ((rows.map Rw.nm).map V.str) := sqL_hand hD hh5 sb6 (by rw [List.length_map, List.length_map]; omega)
    refine ⟨N, rfl, ⟨_, SqL.of hN⟩, fun D2 nD2 => ?_⟩
    refine lc_filter (wk_list (K := K) (a := N) (l := ws) (val := V.str)) (p := fun z => !decide (z ∈ rows.map Rw.nm)) (out := V.str) (fun o => SqL.of ((same_new nD2) _ _ hN)) (by omega) (fun _ => rfl) (fun j u acc Q' hu hq => ?_) (fun j u acc Q' hu _ hq => ⟨_, rfl, hq⟩) ?_
    · refine ⟨_, rfl, _, rfl, D, _, rfl, .inl ((same_new nD2).seq hD6), rfl, flat_str _, _, rfl, ?_⟩
      rw [inV_str]
      exact hq
    obtain ⟨ex, rest, hex⟩ : ∃ ex rest, ws.filter (fun z => !decide (z ∈ rows.map Rw.nm)) = ex :: rest := by
      cases hf : ws.filter (fun z => !decide (z ∈ rows.map Rw.nm)) with
      | cons ex rest => exact ⟨ex, rest, rfl⟩
      | nil =>
        have all : ∀ z ∈ ws, z ∈ rows.map Rw.nm := fun z hz => by
          have := List.filter_eq_nil_iff.mp hf z hz
          simpa using this
        have := nodup_leA hnd all
        rw [List.length_map] at this
        omega
    have hexm : ex ∈ ws := by
      have : ex ∈ ws.filter (fun z => !decide (z ∈ rows.map Rw.nm)) := by rw [hex]; exact List.mem_cons_self
      exact (List.mem_filter.mp this).1
    have okx : SOk ex := wd_ok (hwd ex hexm) (by decide +kernel)
    have lx : ex.length ≤ 100 := by rw [len_tl]; exact Nat.le_trans (hwd ex hexm).2.1 (by decide)
    rw [hex]
    refine ⟨D2, _, _, _, rfl, rfl, SqL.of upd_same, atI_nat (j := 0) rfl, ?_⟩
    have sD2 := same_new (o := .lst ((ex :: rest).map V.str)) nD2
    have hh7 := hh6.same sD2
    have sb7 : SBut h H3 (upd H6 D2 (.lst ((ex :: rest).map V.str))) := ((Same.sbut sD).trans sb6).trans (Same.sbut sD2)
    generalize upd H6 D2 (.lst ((ex :: rest).map V.str)) = H7 at hh7 sb7 ⊢
    have hT7 := hT4.hand hh4 sb7 b.ok
    have hS7 := hS4.hand hh4 sb7
    have hR7 := sb7 _ _ (hand_short hh4 (.inl ⟨_, hR4, by show 4 ≤ 5; decide⟩)) hR4
    have hA7 := sb7 _ _ (hand_short hh4 (.inl ⟨_, hA4, by show 4 ≤ 5; decide⟩)) hA4
    have a37 := a34.hand hh4 sb7
    -- the room
    refine ⟨_, rfl, R, _, _, _, rfl, rfl, SqL.of hR7, atI_nat (j := 3) rfl, A0, _, _, _, rfl, rfl, SqL.of hA7, atI_nat (j := 1) rfl, sh, rfl, ⟨_, a37.at_⟩, fun Dn nDn => ?_⟩
    refine lc_it (walk_list (K := K) (a := sh) (xs := ys)) (fun i Hc => ∃ ns : List Int, Hc Dn = some (.lst (ns.map V.int)) ∧ ns.length = i ∧ Same H7 Hc) ⟨[], upd_same, rfl, same_new nDn⟩ (fun i Hc _ ⟨_, _, _, e⟩ => e.seq a37.at_) ?_ ?_
    · rintro i x Hc Hy hi ⟨ns, hDn, hnl, sm⟩ ⟨rfl, hx⟩
      obtain ⟨s, hs, qq, rfl, hq⟩ := a37.pv.all i x hx
      obtain ⟨r, hr1, hr2, _⟩ := b.ask.part s (List.mem_of_getElem? hs)
      have h0 : (s.map V.str)[0]? = some (.str r.nm) := by
        cases s with
        | nil => cases hr2
        | cons a l =>
          obtain rfl := Option.some.inj hr2
          rfl
      refine ⟨rfl, ?_⟩
      refine ⟨_, rfl, _, rfl, qq, _, _, _, rfl, rfl, same_seqT sm hq, atI_nat (j := 0) h0, T0, r.nm, xs, rows, rfl, hT7.same sm, by omega, b.ok.ht r hr1, fun H' c s' => ?_⟩
      refine ⟨_, s' _ _ hDn, by rw [List.length_map]; exact small1000 (by omega), ns ++ [c], ?_, ?_, same_mut (sm.trans s') nDn⟩
      · rw [upd_same, List.map_append]
        rfl
      · rw [List.length_append, hnl]
        rfl
    rintro H8 ⟨ns', hD8, hnl, sm8⟩
    refine ⟨Dn, ns', rfl, SqL.of hD8, _, _, rfl, rfl, ?_⟩
    obtain ⟨rm, hrm⟩ : ∃ rm : Int, rm = (4 : Int) - ns'.sum := ⟨_, rfl⟩
    -- the promise's parts
    refine ⟨_, rfl, R, _, _, _, rfl, rfl, SqL.of (sm8 _ _ hR7), atI_nat (j := 3) rfl, A0, _, _, _, rfl, rfl, SqL.of (sm8 _ _ hA7), atI_nat (j := 1) rfl, fun M nM => ?_⟩
    have sM := same_new (o := .dK []) nM
    refine ⟨by show 2 ≤ sizeLine; decide, fun Ak nAk => ?_⟩
    have sA := same_new (o := .lst [V.ref sh, V.ref M]) nAk
    have s78 := (sm8.trans sM).trans sA
    have hh8 := hh7.same s78
    have hT8 := hT7.same s78
    have hS8 := hS7.same s78
    have sp8 : Sp8At K (upd (upd H8 M (.dK [])) Ak (.lst [V.ref sh, V.ref M])) Ak 0 sh M ys k.ss [] := by
      refine ⟨SqL.of upd_same, s78.seq a37.at_, a37.pv.same s78, ⟨sA _ _ upd_same, .nil, Nat.zero_le _, fun e he => (nomatch he)⟩, fun e he => (nomatch he), fun e he => (nomatch he), b.ask.n1, b.ask.nm, fun s hs => ?_, Nat.zero_le _⟩
      obtain ⟨r, hr1, hr2, hr3, _⟩ := b.ask.part s hs
      have wd := (b.ok.own r hr1).wd
      refine ⟨?_, ?_, okS s hs⟩
      · cases s with
        | nil => cases hr2
        | cons _ _ => exact Nat.le_add_left 1 _
      · rw [List.length_tail] at hr3
        omega
    generalize upd (upd H8 M (.dK [])) Ak (.lst [V.ref sh, V.ref M]) = H8' at hh8 hT8 hS8 sp8 ⊢
    -- spoilt 0 to 3 times
    refine ⟨_, rfl, h, 4, rfl, hh8, by decide, fun cnt H9 c0 c4 hh9 b9 => ⟨cnt, rfl, by omega, by omega, ?_⟩⟩
    refine for_it (walk_range (lo := 0) (n := cnt.toNat)) (fun i σ Hc => ∃ (x9 : Option V) (Ai sh li : Addr) (zs : List V) (ss : List (List Str)) (es : List Ent), σ = [some (.ref a), some (.ref R), some (.ref T0), some (.ref S), some (.ref h), some (.ref Ai), some (.ref D), some (.str ex), some (.int rm), x9, none, none, none, none, none, none] ∧ HandAt Hc h ∧ SBut h H8' Hc ∧ Sp8At K Hc Ai i sh li zs ss es)
      ⟨none, Ak, sh, M, ys, k.ss, [], by rw [hrm]; rfl, hh9, b9.sbut, sp8.hand hh8 b9.sbut⟩ (fun _ _ _ _ _ => trivial) ?_ ?_
    · rintro i x σ Hc Hy hi ⟨x9, Ai, sh, li, zs, ss, es, rfl, hh, sb, sp⟩ ⟨rfl, rfl⟩
      refine ⟨_, rfl, _, rfl, _, rfl, _, rfl, h, Ai, ex, rm, i, sh, li, zs, ss, es, rfl, hh, by omega, okx, lx, sp, fun H' a' sh' li' xs' ss' es' sb' hh' sp' => ?_⟩
      exact ⟨_, a', sh', li', xs', ss', es', rfl, hh', sb.trans sb', sp'⟩
    rintro σ Hc ⟨x9, Ai, sh, li, zs, ss, es, rfl, hhc, sbc, sp⟩
    have hTc := hT8.hand hh8 sbc b.ok
    have hSc := hS8.hand hh8 sbc
    refine ⟨by show 0 ≤ sizeLine; decide, fun Ta nTa => ⟨by show 2 ≤ sizeLine; decide, fun Tb nTb => ?_⟩⟩
    have sTa := (same_new (o := .tup []) nTa).trans (same_new (o := .tup [V.str "none", V.ref Ta]) nTb)
    generalize upd (upd Hc Ta (.tup [])) Tb (.tup [V.str "none", V.ref Ta]) = Hx at sTa ⊢
    have spx : Sp8At K Hx Ai cnt.toNat sh li zs ss es := { sp with at_ := sTa.seq sp.at_, hsh := sTa.seq sp.hsh, pv := sp.pv.same sTa, hli := sp.hli.same sTa }
    have hTx := hTc.same sTa
    have hSx := hSc.same sTa
    obtain ⟨us, as, mu⟩ := asc_exists (keysOf es)
    have keq := keysOf_eq (es := es) fun e he => let ⟨v, hv, _⟩ := sp.key e he; ⟨v, hv⟩
    have klen : (keysOf es).length = es.length := by
      have := congrArg List.length keq
      rw [List.length_map, List.length_map] at this
      exact this.symm
    have kvar : ∀ z ∈ keysOf es, SOk z ∧ isV z = true := fun z hz => by
      have hm : (Sum.inr z : Key) ∈ es.map (·.1) := by rw [keq]; exact List.mem_map.mpr ⟨z, hz, rfl⟩
      obtain ⟨e, he, e1⟩ := List.mem_map.mp hm
      obtain ⟨v, hv1, hv2, hv3⟩ := sp.key e he
      rw [hv1] at e1
      obtain rfl := Sum.inr.inj e1
      exact ⟨hv2, hv3⟩
    have raw : AskRaw rows [] ss (keysOf es) := by
      have el := sp.el
      exact ⟨Nat.le_trans sp.l3 (by decide), fun s hs => ⟨(sp.ok s hs).1, by have := (sp.ok s hs).2.1; omega, (sp.ok s hs).2.2⟩, by decide, by omega, fun z hz => (nomatch hz), fun z hz => (kvar z hz).1, fun r hr => (b.ok.own r hr).wd.1⟩
    have dok := due_ok (us := us) raw mu
    refine ⟨fun σ Hz => ∃ (x11 : Option V) (Tt : Addr), σ = [some (.ref a), some (.ref R), some (.ref T0), some (.ref S), some (.ref h), some (.ref Ai), some (.ref D), some (.str ex), some (.int rm), x9, some (.ref Tt), x11, none, none, none, none] ∧ Same Hx Hz ∧ ToldAt K zs Hz Tt (dueOf rows [] ss us), ?_, ?_⟩
    · generalize hD0 : ({ nx := _, rt := _, bk := _, ct := _ } : Ends) = D0
      have caught : ∀ (T : Addr) (H' : Hp) (x11 : Option V), Same Hx H' → ToldAt K zs H' T (dueOf rows [] ss us) → D0.nx [some (.ref a), some (.ref R), some (.ref T0), some (.ref S), some (.ref h), some (.ref Ai), some (.ref D), some (.str ex), some (.int rm), x9, some (.ref T), x11, none, none, none, none] H' :=
        fun T H' x11 s' hT => by
          rw [← hD0]
          exact ⟨x11, T, rfl, s', hT⟩
      have errs : ∀ o, dueOf rows [] ss us = some o → EOut K DU DB DN (WE (wAll K (fun _ _ _ _ => False) D0 [⟨.ref DU, 12, tSuiU K DU DW DB⟩, ⟨.ref DB, 12, tSuiB K DB DW DN⟩, ⟨.ref DN, 12, tSuiN K DN DW⟩]) [some (.ref a), some (.ref R), some (.ref T0), some (.ref S), some (.ref h), some (.ref Ai), some (.ref D), some (.str ex), some (.int rm), x9, some (.ref Tb), none, none, none, none, none]) Hx o := by
        intro o ho
        cases o with
        | table nm =>
          intro H1 dd s1 n1
          have smd := s1.trans (same_new (o := .xd [("name", .str nm)]) n1)
          have hd9 : upd H1 dd (.xd [("name", .str nm)]) dd = some (.xd [("name", .str nm)]) := upd_same
          refine ⟨true, Z.mUU, fun _ ae hae => ?_, fun q => Bool.noConfusion q⟩
          refine ⟨_, rfl, rfl, dd, _, _, _, true, rfl, hd9, rfl, fun u hu => hu, Z.kUW, true, rfl, iteT ?_⟩
          refine ⟨_, rfl, rfl, dd, _, _, _, false, rfl, hd9, rfl, fun u hu => hu, Z.kUB, false, rfl, iteT ?_⟩
          refine ⟨_, rfl, rfl, rfl, dd, _, _, rfl, hd9, rfl, by show 2 ≤ sizeLine; decide, fun T nT => ?_⟩
          refine caught T _ none (smd.trans (same_new nT)) ?_
          rw [ho]
          exact SqT.of upd_same
        | part s =>
          intro H1 dd qq s1 n1 hq
          have sd := same_new (o := .xd [("part", .ref qq)]) n1
          have smd := s1.trans sd
          have hd9 : upd H1 dd (.xd [("part", .ref qq)]) dd = some (.xd [("part", .ref qq)]) := upd_same
          refine ⟨false, Z.mBU, fun q => Bool.noConfusion q, fun _ => ⟨true, Z.mBB, fun _ ae hae => ?_, fun q => Bool.noConfusion q⟩⟩
          refine ⟨_, rfl, rfl, dd, _, _, _, true, rfl, hd9, rfl, fun u hu => hu, Z.kBW, true, rfl, iteT ?_⟩
          refine ⟨_, rfl, rfl, dd, _, _, _, false, rfl, hd9, rfl, fun u hu => hu, Z.kBN, false, rfl, iteT ?_⟩
          refine ⟨_, rfl, rfl, rfl, dd, _, _, rfl, hd9, rfl, by show 2 ≤ sizeLine; decide, fun T nT => ?_⟩
          refine caught T _ none (smd.trans (same_new nT)) ?_
          rw [ho]
          exact ⟨qq, SqT.of upd_same, same_seqT (sd.trans (same_new nT)) hq⟩
        | unb v =>
          intro H1 dd s1 n1
          have smd := s1.trans (same_new (o := .xd [("variable", .str v)]) n1)
          have hd9 : upd H1 dd (.xd [("variable", .str v)]) dd = some (.xd [("variable", .str v)]) := upd_same
          refine ⟨false, Z.mNU, fun q => Bool.noConfusion q, fun _ => ⟨false, Z.mNB, fun q => Bool.noConfusion q, fun _ => ⟨true, Z.mNN, fun _ ae hae => ?_, fun q => Bool.noConfusion q⟩⟩⟩
          refine ⟨_, rfl, rfl, dd, _, _, _, true, rfl, hd9, rfl, fun u hu => hu, Z.kNW, true, rfl, iteT ?_⟩
          refine ⟨_, rfl, rfl, rfl, dd, _, _, rfl, hd9, rfl, by show 2 ≤ sizeLine; decide, fun T nT => ?_⟩
          refine caught T _ none (smd.trans (same_new nT)) ?_
          rw [ho]
          exact SqT.of upd_same
      -- the part and the partners
      obtain ⟨s0, sr, rfl⟩ : ∃ s0 sr, ss = s0 :: sr := by
        have := sp.n1
        cases ss with
        | nil => cases this
        | cons s0 sr => exact ⟨s0, sr, rfl⟩
      obtain ⟨v0, zr, rfl⟩ : ∃ v0 zr, zs = v0 :: zr := by
        have := sp.pv.len
        cases zs with
        | nil => cases this
        | cons v0 zr => exact ⟨v0, zr, rfl⟩
      obtain ⟨s0', es0, p0, rfl, hp0⟩ := spx.pv.all 0 v0 rfl
      obtain rfl := Option.some.inj es0
      have zl : zr.length = sr.length := Nat.succ.inj sp.pv.len
      have l3 := sp.l3
      rw [List.length_cons] at l3
      have good : ∀ (x : Addr) (H' : Hp) (qA lA : Addr) (ts : List Ent), Same Hx H' → PromAt K CQ H' x p0 qA lA s0 zr sr ts → dueOf rows [] (s0 :: sr) us = none →
          tAsg (tTup (tCons (tC (.str "good")) (tCons (tOp (rCatA K) (tTup (tCons (tFld K (tVar 11) "part") tNil)) (tFld K (tVar 11) "partners")) tNil))) (gName 10) D0 [some (.ref a), some (.ref R), some (.ref T0), some (.ref S), some (.ref h), some (.ref Ai), some (.ref D), some (.str ex), some (.int rm), x9, some (.ref Tb), some (.ref x), none, none, none, none] H' := by
        intro x H' qA lA ts s' pa hdue
        obtain ⟨dx, hx⟩ := pa.ex
        refine ⟨_, rfl, x, CQ, dx, _, _, rfl, hx, Z.qC.cl, Z.qC.n1, rfl, by show 1 ≤ sizeLine; decide, fun U nU => ?_⟩
        have sU := same_new (o := .tup [V.ref p0]) nU
        refine ⟨_, rfl, x, CQ, dx, _, _, rfl, sU _ _ hx, Z.qC.cl, Z.qC.n2, rfl, ?_⟩
        refine catA_any (SqT.of upd_same) (same_seqT sU pa.hq) (by rw [List.length_singleton]; omega) (fun H2 p2 s2 h2 => ?_)
        refine ⟨by show 2 ≤ sizeLine; decide, fun T nT => ?_⟩
        refine caught T _ (some (.ref x)) (((s'.trans sU).trans s2).trans (same_new nT)) ?_
        rw [hdue]
        exact ⟨p2, SqT.of upd_same, same_seqT (same_new nT) h2⟩
      unfold tTry08
      refine ⟨_, rfl, _, rfl, Ai, _, _, _, rfl, rfl, spx.at_, atI_nat (j := 0) rfl, sh, _, _, _, rfl, rfl, spx.hsh, atI_nat (j := 0) rfl, ?_⟩
      refine ⟨_, rfl, Ai, _, _, _, rfl, rfl, spx.at_, atI_nat (j := 0) rfl, _, rfl, sh, _, rfl, spx.hsh, fun U nU => ?_⟩
      rw [cutV_one]
      have sU := same_new (o := .lst zr) nU
      refine ⟨_, rfl, Ai, _, _, _, rfl, rfl, sU.seq spx.at_, atI_nat (j := 1) rfl, by show 3 ≤ sizeLine; decide, fun L nL => ?_⟩
      have sL := same_new (o := .lst [V.ref p0, V.ref U, V.ref li]) nL
      have sUL := sU.trans sL
      refine ⟨S, L, p0, U, li, s0, zr, sr, keysOf es, es, rows, l, rfl, SqL.of upd_same, sL.seq (SqL.of upd_same), by omega, ⟨hSx.same sUL, same_seqT sUL hp0, (spx.pv.tail).same sUL, raw⟩, spx.hli.same sUL, keq, ?_⟩
      intro us' as' mu'
      obtain rfl : us' = us := ascS_unique as' as fun z => by rw [mu' z, mu z]
      exact ⟨fun hd0 H' x lA qA ts s' nx nl pa al => good x H' qA lA ts (sUL.trans s') pa hd0, fun o ho => (errs o ho).same sUL⟩
    rintro σ Hz ⟨x11, Tt, rfl, smz, told⟩
    refine ⟨_, rfl, _, rfl, _, rfl, Ai, _, _, _, rfl, rfl, smz.seq spx.at_, atI_nat (j := 0) rfl, _, rfl, Ai, _, _, _, rfl, rfl, smz.seq spx.at_, atI_nat (j := 1) rfl, ?_⟩
    refine ⟨T0, sh, li, xs, rows, zs, ss, keysOf es, _, rfl, hTx.same smz, by omega, smz.seq spx.hsh, spx.pv.same smz, smz _ _ spx.hli.at_, ?_, raw, fun s hs => ?_, b.sane.nd, sp.n1, fun z hz => (kvar z hz).2, fun us' as' mu' H' p' s' told' => ?_⟩
    · rw [List.map_map]
      exact keq
    · have := (sp.ok s hs).2.1
      omega
    · obtain rfl : us' = us := ascS_unique as' as fun z => by rw [mu' z, mu z]
      exact told_dp (spx.pv.same smz) ((spx.pv.same smz).same s') (fun s hs => (sp.ok s hs).2.2) dok told told' s' (q _)
end
end Sw
namespace Sw
open PySem PySem.Spec PyProof.Rows L2 NdefX
theorem all08 {P : Program} {w : World} {K : PySem.W.Frag} {h : Heap} {mg : Str → Option Value} {fa fDe fTa fSp fLa fRi fFi fDt fCo fVr fPt fAk fBg fBu fOn fAs fWa CT fTb KD T0 T1 CS fSi fSt fSr DU fDU ccDU caDU DR fDR ccDR caDR fIv fIt fCp fCk CQ fQi QD fQu fLt fLx fLs DB fDB ccDB caDB DN fDN ccDN caDN DW : Addr} (X : K.In h) (G : h.Ns mainGlobals mg) (hfa : mg "law" = some (.ref fa))
    {odDe anDe : Option Addr} {slDe : Array (Option Value)} {ocDe kVDe dcDe pmDe cdDe ctDe : Value}
    {odTa anTa : Option Addr} {slTa : Array (Option Value)} {ocTa kVTa dcTa pmTa cdTa ctTa : Value}
    {odSp anSp : Option Addr} {slSp : Array (Option Value)} {ocSp kVSp dcSp pmSp cdSp ctSp : Value}
    {odLa anLa : Option Addr} {slLa : Array (Option Value)} {ocLa kVLa dcLa pmLa cdLa ctLa : Value}
    {odRi anRi : Option Addr} {slRi : Array (Option Value)} {ocRi kVRi dcRi pmRi cdRi ctRi : Value}
    {odFi anFi : Option Addr} {slFi : Array (Option Value)} {ocFi kVFi dcFi pmFi cdFi ctFi : Value}
    {odDt anDt : Option Addr} {slDt : Array (Option Value)} {ocDt kVDt dcDt pmDt cdDt ctDt : Value}
    {odCo anCo : Option Addr} {slCo : Array (Option Value)} {ocCo kVCo dcCo pmCo cdCo ctCo : Value}
    {odVr anVr : Option Addr} {slVr : Array (Option Value)} {ocVr kVVr dcVr pmVr cdVr ctVr : Value}
    {odPt anPt : Option Addr} {slPt : Array (Option Value)} {ocPt kVPt dcPt pmPt cdPt ctPt : Value}
    {odAk anAk : Option Addr} {slAk : Array (Option Value)} {ocAk kVAk dcAk pmAk cdAk ctAk : Value}
    {odBg anBg : Option Addr} {slBg : Array (Option Value)} {ocBg kVBg dcBg pmBg cdBg ctBg : Value}
    {odBu anBu : Option Addr} {slBu : Array (Option Value)} {ocBu kVBu dcBu pmBu cdBu ctBu : Value}
    {odOn anOn : Option Addr} {slOn : Array (Option Value)} {ocOn kVOn dcOn pmOn cdOn ctOn : Value}
    {odAs anAs : Option Addr} {slAs : Array (Option Value)} {ocAs kVAs dcAs pmAs cdAs ctAs : Value}
    {odWa anWa : Option Addr} {slWa : Array (Option Value)} {ocWa kVWa dcWa pmWa cdWa ctWa : Value}
    {odTb anTb : Option Addr} {slTb : Array (Option Value)} {ocTb dcTb pmTb cdTb ctTb : Value}
    {n0 n1 : Nat}
    {q0 : Option Addr} {r0 : Array (Option Value)}
    {q1 : Option Addr} {r1 : Array (Option Value)}
    {odSi anSi : Option Addr} {slSi : Array (Option Value)} {ocSi kVSi dcSi pmSi cdSi ctSi : Value}
    {odSt anSt : Option Addr} {slSt : Array (Option Value)} {ocSt kVSt dcSt pmSt cdSt ctSt : Value}
    {odSr anSr : Option Addr} {slSr : Array (Option Value)} {ocSr kVSr dcSr pmSr cdSr ctSr : Value}
    {nmDU qDU : Str} {NDU : Addr} {bsDU bmDU : List Value} {snDU : List Str} {subDU : List Value} {abDU : Bool} {colDU : Option Bool} {ddDU : Option Addr} {k0DU k1DU k2DU k3DU k5DU : Option Value}
    {ocDU dcDU pmDU ctDU c1DU c1cDU : Value} {odDU anDU c2DU c2cDU : Option Addr} {slDU c3DU c3cDU : Array (Option Value)} {vaDU : Array Value} {flDU : Str} {tfDU : Tok}
    {nmDR qDR : Str} {NDR : Addr} {bsDR bmDR : List Value} {snDR : List Str} {subDR : List Value} {abDR : Bool} {colDR : Option Bool} {ddDR : Option Addr} {k0DR k1DR k2DR k3DR k5DR : Option Value}
    {ocDR dcDR pmDR ctDR c1DR c1cDR : Value} {odDR anDR c2DR c2cDR : Option Addr} {slDR c3DR c3cDR : Array (Option Value)} {vaDR : Array Value} {flDR : Str} {tfDR : Tok}
    {odIv anIv : Option Addr} {slIv : Array (Option Value)} {ocIv kVIv dcIv pmIv cdIv ctIv : Value}
    {odIt anIt : Option Addr} {slIt : Array (Option Value)} {ocIt kVIt dcIt pmIt cdIt ctIt : Value}
    {odCp anCp : Option Addr} {slCp : Array (Option Value)} {ocCp kVCp dcCp pmCp cdCp ctCp : Value}
    {odCk anCk : Option Addr} {slCk : Array (Option Value)} {ocCk kVCk dcCk pmCk cdCk ctCk : Value}
    {odQi anQi : Option Addr} {slQi : Array (Option Value)} {ocQi dcQi pmQi cdQi ctQi : Value}
    {odQu anQu : Option Addr} {slQu : Array (Option Value)} {ocQu kVQu dcQu pmQu cdQu ctQu : Value}
    {odLt anLt : Option Addr} {slLt : Array (Option Value)} {ocLt kVLt dcLt pmLt cdLt ctLt : Value}
    {odLx anLx : Option Addr} {slLx : Array (Option Value)} {ocLx kVLx dcLx pmLx cdLx ctLx : Value}
    {odLs anLs : Option Addr} {slLs : Array (Option Value)} {ocLs kVLs dcLs pmLs cdLs ctLs : Value}
    {nmDB qDB : Str} {NDB : Addr} {bsDB bmDB : List Value} {snDB : List Str} {subDB : List Value} {abDB : Bool} {colDB : Option Bool} {ddDB : Option Addr} {k0DB k1DB k2DB k3DB k5DB : Option Value}
    {ocDB dcDB pmDB ctDB c1DB c1cDB : Value} {odDB anDB c2DB c2cDB : Option Addr} {slDB c3DB c3cDB : Array (Option Value)} {vaDB : Array Value} {flDB : Str} {tfDB : Tok}
    {nmDN qDN : Str} {NDN : Addr} {bsDN bmDN : List Value} {snDN : List Str} {subDN : List Value} {abDN : Bool} {colDN : Option Bool} {ddDN : Option Addr} {k0DN k1DN k2DN k3DN k5DN : Option Value}
    {ocDN dcDN pmDN ctDN c1DN c1cDN : Value} {odDN anDN c2DN c2cDN : Option Addr} {slDN c3DN c3cDN : Array (Option Value)} {vaDN : Array Value} {flDN : Str} {tfDN : Tok}
    {tkS tkL : Tok}
    (aDe : PySem.W.nsIn K mainGlobals "_law_deal" = some (some (.ref fDe)))
    (lDe : K.lookup fDe = some ⟨ocDe, odDe, .func (PySem.W.fnOf "_law_deal" "_law_deal" (defArgs sDeal) (defBody sDeal) (defScope sDeal) .none kVDe dcDe pmDe anDe cdDe ctDe), slDe⟩)
    (cDe : PySem.W.codeIn K cdDe "_law_deal" = true)
    (kDe : PySem.W.keepIn K (.ref fDe) = true)
    (aTa : PySem.W.nsIn K mainGlobals "_law_take" = some (some (.ref fTa)))
    (lTa : K.lookup fTa = some ⟨ocTa, odTa, .func (PySem.W.fnOf "_law_take" "_law_take" (defArgs sTake) (defBody sTake) (defScope sTake) .none kVTa dcTa pmTa anTa cdTa ctTa), slTa⟩)
    (cTa : PySem.W.codeIn K cdTa "_law_take" = true)
    (kTa : PySem.W.keepIn K (.ref fTa) = true)
    (aSp : PySem.W.nsIn K mainGlobals "_law_spell" = some (some (.ref fSp)))
    (lSp : K.lookup fSp = some ⟨ocSp, odSp, .func (PySem.W.fnOf "_law_spell" "_law_spell" (defArgs sSpell) (defBody sSpell) (defScope sSpell) .none kVSp dcSp pmSp anSp cdSp ctSp), slSp⟩)
    (cSp : PySem.W.codeIn K cdSp "_law_spell" = true)
    (kSp : PySem.W.keepIn K (.ref fSp) = true)
    (aLa : PySem.W.nsIn K mainGlobals "law" = some (some (.ref fLa)))
    (lLa : K.lookup fLa = some ⟨ocLa, odLa, .func (PySem.W.fnOf "law" "law" (defArgs sLaw08) (defBody sLaw08) (defScope sLaw08) .none kVLa dcLa pmLa anLa cdLa ctLa), slLa⟩)
    (cLa : PySem.W.codeIn K cdLa "law" = true)
    (kLa : PySem.W.keepIn K (.ref fLa) = true)
    (aRi : PySem.W.nsIn K mainGlobals "_law_rising" = some (some (.ref fRi)))
    (lRi : K.lookup fRi = some ⟨ocRi, odRi, .func (PySem.W.fnOf "_law_rising" "_law_rising" (defArgs sRise) (defBody sRise) (defScope sRise) .none kVRi dcRi pmRi anRi cdRi ctRi), slRi⟩)
    (cRi : PySem.W.codeIn K cdRi "_law_rising" = true)
    (kRi : PySem.W.keepIn K (.ref fRi) = true)
    (aFi : PySem.W.nsIn K mainGlobals "_law_find" = some (some (.ref fFi)))
    (lFi : K.lookup fFi = some ⟨ocFi, odFi, .func (PySem.W.fnOf "_law_find" "_law_find" (defArgs sFind) (defBody sFind) (defScope sFind) .none kVFi dcFi pmFi anFi cdFi ctFi), slFi⟩)
    (cFi : PySem.W.codeIn K cdFi "_law_find" = true)
    (kFi : PySem.W.keepIn K (.ref fFi) = true)
    (aDt : PySem.W.nsIn K mainGlobals "_law_deal_tables" = some (some (.ref fDt)))
    (lDt : K.lookup fDt = some ⟨ocDt, odDt, .func (PySem.W.fnOf "_law_deal_tables" "_law_deal_tables" (defArgs sDealT) (defBody sDealT) (defScope sDealT) .none kVDt dcDt pmDt anDt cdDt ctDt), slDt⟩)
    (cDt : PySem.W.codeIn K cdDt "_law_deal_tables" = true)
    (kDt : PySem.W.keepIn K (.ref fDt) = true)
    (aCo : PySem.W.nsIn K mainGlobals "_law_cost" = some (some (.ref fCo)))
    (lCo : K.lookup fCo = some ⟨ocCo, odCo, .func (PySem.W.fnOf "_law_cost" "_law_cost" (defArgs sCost) (defBody sCost) (defScope sCost) .none kVCo dcCo pmCo anCo cdCo ctCo), slCo⟩)
    (cCo : PySem.W.codeIn K cdCo "_law_cost" = true)
    (kCo : PySem.W.keepIn K (.ref fCo) = true)
    (aVr : PySem.W.nsIn K mainGlobals "_law_vars" = some (some (.ref fVr)))
    (lVr : K.lookup fVr = some ⟨ocVr, odVr, .func (PySem.W.fnOf "_law_vars" "_law_vars" (defArgs sVars) (defBody sVars) (defScope sVars) .none kVVr dcVr pmVr anVr cdVr ctVr), slVr⟩)
    (cVr : PySem.W.codeIn K cdVr "_law_vars" = true)
    (kVr : PySem.W.keepIn K (.ref fVr) = true)
    (aPt : PySem.W.nsIn K mainGlobals "_law_parts" = some (some (.ref fPt)))
    (lPt : K.lookup fPt = some ⟨ocPt, odPt, .func (PySem.W.fnOf "_law_parts" "_law_parts" (defArgs sParts) (defBody sParts) (defScope sParts) .none kVPt dcPt pmPt anPt cdPt ctPt), slPt⟩)
    (cPt : PySem.W.codeIn K cdPt "_law_parts" = true)
    (kPt : PySem.W.keepIn K (.ref fPt) = true)
    (aAk : PySem.W.nsIn K mainGlobals "_law_deal_ask" = some (some (.ref fAk)))
    (lAk : K.lookup fAk = some ⟨ocAk, odAk, .func (PySem.W.fnOf "_law_deal_ask" "_law_deal_ask" (defArgs sAsk) (defBody sAsk) (defScope sAsk) .none kVAk dcAk pmAk anAk cdAk ctAk), slAk⟩)
    (cAk : PySem.W.codeIn K cdAk "_law_deal_ask" = true)
    (kAk : PySem.W.keepIn K (.ref fAk) = true)
    (aBg : PySem.W.nsIn K mainGlobals "_law_begin" = some (some (.ref fBg)))
    (lBg : K.lookup fBg = some ⟨ocBg, odBg, .func (PySem.W.fnOf "_law_begin" "_law_begin" (defArgs sBegin) (defBody sBegin) (defScope sBegin) .none kVBg dcBg pmBg anBg cdBg ctBg), slBg⟩)
    (cBg : PySem.W.codeIn K cdBg "_law_begin" = true)
    (kBg : PySem.W.keepIn K (.ref fBg) = true)
    (aBu : PySem.W.nsIn K mainGlobals "_law_build" = some (some (.ref fBu)))
    (lBu : K.lookup fBu = some ⟨ocBu, odBu, .func (PySem.W.fnOf "_law_build" "_law_build" (defArgs sBuild) (defBody sBuild) (defScope sBuild) .none kVBu dcBu pmBu anBu cdBu ctBu), slBu⟩)
    (cBu : PySem.W.codeIn K cdBu "_law_build" = true)
    (kBu : PySem.W.keepIn K (.ref fBu) = true)
    (aOn : PySem.W.nsIn K mainGlobals "once" = some (some (.ref fOn)))
    (lOn : K.lookup fOn = some ⟨ocOn, odOn, .func (PySem.W.fnOf "once" "once" (defArgs sOnce) (defBody sOnce) (defScope sOnce) .none kVOn dcOn pmOn anOn cdOn ctOn), slOn⟩)
    (cOn : PySem.W.codeIn K cdOn "once" = true)
    (kOn : PySem.W.keepIn K (.ref fOn) = true)
    (aAs : PySem.W.nsIn K mainGlobals "ascending" = some (some (.ref fAs)))
    (lAs : K.lookup fAs = some ⟨ocAs, odAs, .func (PySem.W.fnOf "ascending" "ascending" (defArgs sAsc) (defBody sAsc) (defScope sAsc) .none kVAs dcAs pmAs anAs cdAs ctAs), slAs⟩)
    (cAs : PySem.W.codeIn K cdAs "ascending" = true)
    (kAs : PySem.W.keepIn K (.ref fAs) = true)
    (aWa : PySem.W.nsIn K mainGlobals "with_ascending" = some (some (.ref fWa)))
    (lWa : K.lookup fWa = some ⟨ocWa, odWa, .func (PySem.W.fnOf "with_ascending" "with_ascending" (defArgs sWA) (defBody sWA) (defScope sWA) .none kVWa dcWa pmWa anWa cdWa ctWa), slWa⟩)
    (cWa : PySem.W.codeIn K cdWa "with_ascending" = true)
    (kWa : PySem.W.keepIn K (.ref fWa) = true)
    (gCT : PySem.W.nsIn K mainGlobals "Table" = some (some (.ref CT)))
    (pgCT : PySem.W.plainGet K CT Str.empty = true)
    (hdCT : PySem.W.hasDictIn K CT = true)
    (poCT : PySem.W.plainOver K CT = true)
    (saCT : PySem.W.findIn K (.ref CT) "__setattr__" = some (some (.builtin "object.__setattr__")))
    (mkCT : PySem.W.makesIn K CT = true)
    (kcCT : PySem.W.keepIn K (.ref CT) = true)
    (nCTname : PySem.W.findIn K (.ref CT) "name" = some none)
    (nCTwidth : PySem.W.findIn K (.ref CT) "width" = some none)
    (nCTkey : PySem.W.findIn K (.ref CT) "key" = some none)
    (nCTlists : PySem.W.findIn K (.ref CT) "lists" = some none)
    (nCTrefers : PySem.W.findIn K (.ref CT) "refers" = some none)
    (aTb : PySem.W.findIn K (.ref CT) "__init__" = some (some (.ref fTb)))
    (iTb : PySem.W.isFn K (.ref fTb) = true)
    (lTb : K.lookup fTb = some ⟨ocTb, odTb, .func (PySem.W.fnOf "__init__" "Table.__init__" (defArgs sTab) (defBody sTab) (defScope sTab) .none (.ref KD) dcTb pmTb anTb cdTb ctTb), slTb⟩)
    (cTb : PySem.W.codeIn K cdTb "Table.__init__" = true)
    (kTb : PySem.W.keepIn K (.ref fTb) = true)
    (d0 : PySem.W.nsIn K KD "key" = some (some (.ref T0)))
    (d1 : PySem.W.nsIn K KD "lists" = some (some .none))
    (d2 : PySem.W.nsIn K KD "refers" = some (some (.ref T1)))
    (t0 : K.lookup T0 = some ⟨.type "tuple", q0, .seq #[] n0, r0⟩)
    (t1 : K.lookup T1 = some ⟨.type "tuple", q1, .seq #[] n1, r1⟩)
    (gCS : PySem.W.nsIn K mainGlobals "Schema" = some (some (.ref CS)))
    (pgCS : PySem.W.plainGet K CS Str.empty = true)
    (hdCS : PySem.W.hasDictIn K CS = true)
    (poCS : PySem.W.plainOver K CS = true)
    (saCS : PySem.W.findIn K (.ref CS) "__setattr__" = some (some (.builtin "object.__setattr__")))
    (mkCS : PySem.W.makesIn K CS = true)
    (kcCS : PySem.W.keepIn K (.ref CS) = true)
    (nCSnamed : PySem.W.findIn K (.ref CS) "named" = some none)
    (aSi : PySem.W.findIn K (.ref CS) "__init__" = some (some (.ref fSi)))
    (iSi : PySem.W.isFn K (.ref fSi) = true)
    (lSi : K.lookup fSi = some ⟨ocSi, odSi, .func (PySem.W.fnOf "__init__" "Schema.__init__" (defArgs sSch) (defBody sSch) (defScope sSch) .none kVSi dcSi pmSi anSi cdSi ctSi), slSi⟩)
    (cSi : PySem.W.codeIn K cdSi "Schema.__init__" = true)
    (kSi : PySem.W.keepIn K (.ref fSi) = true)
    (aSt : PySem.W.findIn K (.ref CS) "table" = some (some (.ref fSt)))
    (iSt : PySem.W.isFn K (.ref fSt) = true)
    (lSt : K.lookup fSt = some ⟨ocSt, odSt, .func (PySem.W.fnOf "table" "Schema.table" (defArgs sTable) (defBody sTable) (defScope sTable) .none kVSt dcSt pmSt anSt cdSt ctSt), slSt⟩)
    (cSt : PySem.W.codeIn K cdSt "Schema.table" = true)
    (kSt : PySem.W.keepIn K (.ref fSt) = true)
    (aSr : PySem.W.findIn K (.ref CS) "reached" = some (some (.ref fSr)))
    (iSr : PySem.W.isFn K (.ref fSr) = true)
    (lSr : K.lookup fSr = some ⟨ocSr, odSr, .func (PySem.W.fnOf "reached" "Schema.reached" (defArgs sReach) (defBody sReach) (defScope sReach) .none kVSr dcSr pmSr anSr cdSr ctSr), slSr⟩)
    (cSr : PySem.W.codeIn K cdSr "Schema.reached" = true)
    (kSr : PySem.W.keepIn K (.ref fSr) = true)
    (gDU : PySem.W.nsIn K mainGlobals "UnknownTable" = some (some (.ref DU)))
    (xCDU : K.lookup DU = some (excClassObj nmDU qDU DU NDU bsDU bmDU true snDU subDU abDU colDU ddDU k0DU k1DU k2DU k3DU k5DU "ValueError.__new__"))
    (xVDU : PySem.HandSPX.refsVE bmDU = true)
    (saDU : PySem.W.findIn K (.ref DU) "__setattr__" = some (some (.builtin "object.__setattr__")))
    (gaDU : PySem.W.findIn K (.ref DU) "__getattribute__" = some (some (.builtin "BaseException.__getattribute__")))
    (ggDU : PySem.W.findIn K (.ref DU) "__getattr__" = some none)
    (eCDU : PySem.W.subIn K (.ref DU) (.type "BaseException") = some true)
    (tCDU : PySem.W.typeIn K (.ref DU) = some (.type "type"))
    (kCDU : PySem.W.keepIn K (.ref DU) = true)
    (hdDU : PySem.W.hasDictIn K DU = true)
    (haDU : PySem.W.findIn K (.ref DU) "__class__" = some (some (.builtin "object.__class__")))
    (hnO : PySem.W.specialIn K (.builtin "object.__class__") "__get__" = some (some (.builtin "getset_descriptor.__get__")))
    (htO : PySem.W.takesIn K (.builtin "object.__class__") = some true)
    (hmDU : PySem.W.mroIn K DU (.type "object") = some true)
    (nfDU : PySem.W.findIn K (.ref DU) "name" = some none)
    (iDU : PySem.W.findIn K (.ref DU) "__init__" = some (some (.ref fDU)))
    (tDU : PySem.W.typeIn K (.ref fDU) = some (.type "function"))
    (lDU : K.lookup fDU = some ⟨ocDU, odDU, .func (PySem.W.fnX "__init__" "UnknownTable.__init__" (defArgs sUnk) (defBody sUnk) (defScope sUnk) [("__class__", ccDU)] .none .none dcDU pmDU anDU (.ref caDU) ctDU), slDU⟩)
    (cDU : PySem.W.codeIn K (.ref caDU) "UnknownTable.__init__" = true)
    (yDU : K.lookup caDU = some ⟨c1DU, c2DU, .fields vaDU, c3DU⟩)
    (yvDU : vaDU[2]? = some (.str flDU tfDU))
    (yfDU : ((P.main.file : Str) == flDU) = true)
    (wDU : K.lookup ccDU = some ⟨c1cDU, c2cDU, .cell (some (.ref DU)), c3cDU⟩)
    (clDU : (PySem.W.clsIn K DU).isSome = true)
    (mrDU : PySem.W.mroIn K DU (.ref DU) = some true)
    (inDU : (PySem.W.clsIn K DU).bind (fun cd => PySem.W.alongIn K "__init__" ((cd.mro.dropWhile (· != .ref DU)).drop 1)) = some (some (.builtin "ValueError.__init__")))
    (veDU : PySem.W.subIn K (.ref DU) (.type "ValueError") = some true)
    (opq : PySem.W.nsIn K cStatics "thirdparty.any" = some none)
    (msc : (P.main.scope.names.lookup ("super" : Str)).isSome = false)
    (zsuper : PySem.W.nsIn K mainGlobals "super" = some none)
    (gDR : PySem.W.nsIn K mainGlobals "Ring" = some (some (.ref DR)))
    (xCDR : K.lookup DR = some (excClassObj nmDR qDR DR NDR bsDR bmDR true snDR subDR abDR colDR ddDR k0DR k1DR k2DR k3DR k5DR "ValueError.__new__"))
    (xVDR : PySem.HandSPX.refsVE bmDR = true)
    (saDR : PySem.W.findIn K (.ref DR) "__setattr__" = some (some (.builtin "object.__setattr__")))
    (gaDR : PySem.W.findIn K (.ref DR) "__getattribute__" = some (some (.builtin "BaseException.__getattribute__")))
    (ggDR : PySem.W.findIn K (.ref DR) "__getattr__" = some none)
    (eCDR : PySem.W.subIn K (.ref DR) (.type "BaseException") = some true)
    (tCDR : PySem.W.typeIn K (.ref DR) = some (.type "type"))
    (kCDR : PySem.W.keepIn K (.ref DR) = true)
    (hdDR : PySem.W.hasDictIn K DR = true)
    (haDR : PySem.W.findIn K (.ref DR) "__class__" = some (some (.builtin "object.__class__")))
    (hmDR : PySem.W.mroIn K DR (.type "object") = some true)
    (nfDR : PySem.W.findIn K (.ref DR) "name" = some none)
    (iDR : PySem.W.findIn K (.ref DR) "__init__" = some (some (.ref fDR)))
    (tDR : PySem.W.typeIn K (.ref fDR) = some (.type "function"))
    (lDR : K.lookup fDR = some ⟨ocDR, odDR, .func (PySem.W.fnX "__init__" "Ring.__init__" (defArgs sRing) (defBody sRing) (defScope sRing) [("__class__", ccDR)] .none .none dcDR pmDR anDR (.ref caDR) ctDR), slDR⟩)
    (cDR : PySem.W.codeIn K (.ref caDR) "Ring.__init__" = true)
    (yDR : K.lookup caDR = some ⟨c1DR, c2DR, .fields vaDR, c3DR⟩)
    (yvDR : vaDR[2]? = some (.str flDR tfDR))
    (yfDR : ((P.main.file : Str) == flDR) = true)
    (wDR : K.lookup ccDR = some ⟨c1cDR, c2cDR, .cell (some (.ref DR)), c3cDR⟩)
    (clDR : (PySem.W.clsIn K DR).isSome = true)
    (mrDR : PySem.W.mroIn K DR (.ref DR) = some true)
    (inDR : (PySem.W.clsIn K DR).bind (fun cd => PySem.W.alongIn K "__init__" ((cd.mro.dropWhile (· != .ref DR)).drop 1)) = some (some (.builtin "ValueError.__init__")))
    (veDR : PySem.W.subIn K (.ref DR) (.type "ValueError") = some true)
    (zint : PySem.W.nsIn K mainGlobals "int" = some none)
    (zrange : PySem.W.nsIn K mainGlobals "range" = some none)
    (zlen : PySem.W.nsIn K mainGlobals "len" = some none)
    (zisinstance : PySem.W.nsIn K mainGlobals "isinstance" = some none)
    (ztuple : PySem.W.nsIn K mainGlobals "tuple" = some none)
    (zsorted : PySem.W.nsIn K mainGlobals "sorted" = some none)
    (zstr : PySem.W.nsIn K mainGlobals "str" = some none)
    (zlist : PySem.W.nsIn K mainGlobals "list" = some none)
    (zsum : PySem.W.nsIn K mainGlobals "sum" = some none)
    (zmin : PySem.W.nsIn K mainGlobals "min" = some none)
    (aIv : PySem.W.nsIn K mainGlobals "is_variable" = some (some (.ref fIv)))
    (lIv : K.lookup fIv = some ⟨ocIv, odIv, .func (PySem.W.fnOf "is_variable" "is_variable" (defArgs sIsVar) (defBody sIsVar) (defScope sIsVar) .none kVIv dcIv pmIv anIv cdIv ctIv), slIv⟩)
    (cIv : PySem.W.codeIn K cdIv "is_variable" = true)
    (kIv : PySem.W.keepIn K (.ref fIv) = true)
    (aIt : PySem.W.nsIn K mainGlobals "is_term" = some (some (.ref fIt)))
    (lIt : K.lookup fIt = some ⟨ocIt, odIt, .func (PySem.W.fnOf "is_term" "is_term" (defArgs sIsTerm) (defBody sIsTerm) (defScope sIsTerm) .none kVIt dcIt pmIt anIt cdIt ctIt), slIt⟩)
    (cIt : PySem.W.codeIn K cdIt "is_term" = true)
    (kIt : PySem.W.keepIn K (.ref fIt) = true)
    (aCp : PySem.W.nsIn K mainGlobals "check_part" = some (some (.ref fCp)))
    (lCp : K.lookup fCp = some ⟨ocCp, odCp, .func (PySem.W.fnOf "check_part" "check_part" (defArgs sCPart) (defBody sCPart) (defScope sCPart) .none kVCp dcCp pmCp anCp cdCp ctCp), slCp⟩)
    (cCp : PySem.W.codeIn K cdCp "check_part" = true)
    (kCp : PySem.W.keepIn K (.ref fCp) = true)
    (aCk : PySem.W.nsIn K mainGlobals "check" = some (some (.ref fCk)))
    (lCk : K.lookup fCk = some ⟨ocCk, odCk, .func (PySem.W.fnOf "check" "check" (defArgs sCheck) (defBody sCheck) (defScope sCheck) .none kVCk dcCk pmCk anCk cdCk ctCk), slCk⟩)
    (cCk : PySem.W.codeIn K cdCk "check" = true)
    (kCk : PySem.W.keepIn K (.ref fCk) = true)
    (gCQ : PySem.W.nsIn K mainGlobals "Promise" = some (some (.ref CQ)))
    (pgCQ : PySem.W.plainGet K CQ Str.empty = true)
    (hdCQ : PySem.W.hasDictIn K CQ = true)
    (poCQ : PySem.W.plainOver K CQ = true)
    (saCQ : PySem.W.findIn K (.ref CQ) "__setattr__" = some (some (.builtin "object.__setattr__")))
    (mkCQ : PySem.W.makesIn K CQ = true)
    (kcCQ : PySem.W.keepIn K (.ref CQ) = true)
    (nCQpart : PySem.W.findIn K (.ref CQ) "part" = some none)
    (nCQpartners : PySem.W.findIn K (.ref CQ) "partners" = some none)
    (nCQamong : PySem.W.findIn K (.ref CQ) "among" = some none)
    (aQi : PySem.W.findIn K (.ref CQ) "__init__" = some (some (.ref fQi)))
    (iQi : PySem.W.isFn K (.ref fQi) = true)
    (lQi : K.lookup fQi = some ⟨ocQi, odQi, .func (PySem.W.fnOf "__init__" "Promise.__init__" (defArgs sProm) (defBody sProm) (defScope sProm) .none (.ref QD) dcQi pmQi anQi cdQi ctQi), slQi⟩)
    (cQi : PySem.W.codeIn K cdQi "Promise.__init__" = true)
    (kQi : PySem.W.keepIn K (.ref fQi) = true)
    (e0 : PySem.W.nsIn K QD "among" = some (some .none))
    (aQu : PySem.W.nsIn K mainGlobals "_law_vow" = some (some (.ref fQu)))
    (lQu : K.lookup fQu = some ⟨ocQu, odQu, .func (PySem.W.fnOf "_law_vow" "_law_vow" (defArgs sVow) (defBody sVow) (defScope sVow) .none kVQu dcQu pmQu anQu cdQu ctQu), slQu⟩)
    (cQu : PySem.W.codeIn K cdQu "_law_vow" = true)
    (kQu : PySem.W.keepIn K (.ref fQu) = true)
    (aLt : PySem.W.nsIn K mainGlobals "_law_is_term" = some (some (.ref fLt)))
    (lLt : K.lookup fLt = some ⟨ocLt, odLt, .func (PySem.W.fnOf "_law_is_term" "_law_is_term" (defArgs sLTerm) (defBody sLTerm) (defScope sLTerm) .none kVLt dcLt pmLt anLt cdLt ctLt), slLt⟩)
    (cLt : PySem.W.codeIn K cdLt "_law_is_term" = true)
    (kLt : PySem.W.keepIn K (.ref fLt) = true)
    (aLx : PySem.W.nsIn K mainGlobals "_law_expected" = some (some (.ref fLx)))
    (lLx : K.lookup fLx = some ⟨ocLx, odLx, .func (PySem.W.fnOf "_law_expected" "_law_expected" (defArgs sLExp) (defBody sLExp) (defScope sLExp) .none kVLx dcLx pmLx anLx cdLx ctLx), slLx⟩)
    (cLx : PySem.W.codeIn K cdLx "_law_expected" = true)
    (kLx : PySem.W.keepIn K (.ref fLx) = true)
    (aLs : PySem.W.nsIn K mainGlobals "_law_spoilt" = some (some (.ref fLs)))
    (lLs : K.lookup fLs = some ⟨ocLs, odLs, .func (PySem.W.fnOf "_law_spoilt" "_law_spoilt" (defArgs sSpoilt) (defBody sSpoilt) (defScope sSpoilt) .none kVLs dcLs pmLs anLs cdLs ctLs), slLs⟩)
    (cLs : PySem.W.codeIn K cdLs "_law_spoilt" = true)
    (kLs : PySem.W.keepIn K (.ref fLs) = true)
    (gDB : PySem.W.nsIn K mainGlobals "BadPart" = some (some (.ref DB)))
    (xCDB : K.lookup DB = some (excClassObj nmDB qDB DB NDB bsDB bmDB true snDB subDB abDB colDB ddDB k0DB k1DB k2DB k3DB k5DB "ValueError.__new__"))
    (xVDB : PySem.HandSPX.refsVE bmDB = true)
    (saDB : PySem.W.findIn K (.ref DB) "__setattr__" = some (some (.builtin "object.__setattr__")))
    (gaDB : PySem.W.findIn K (.ref DB) "__getattribute__" = some (some (.builtin "BaseException.__getattribute__")))
    (ggDB : PySem.W.findIn K (.ref DB) "__getattr__" = some none)
    (eCDB : PySem.W.subIn K (.ref DB) (.type "BaseException") = some true)
    (tCDB : PySem.W.typeIn K (.ref DB) = some (.type "type"))
    (kCDB : PySem.W.keepIn K (.ref DB) = true)
    (hdDB : PySem.W.hasDictIn K DB = true)
    (haDB : PySem.W.findIn K (.ref DB) "__class__" = some (some (.builtin "object.__class__")))
    (hmDB : PySem.W.mroIn K DB (.type "object") = some true)
    (nfDB : PySem.W.findIn K (.ref DB) "part" = some none)
    (iDB : PySem.W.findIn K (.ref DB) "__init__" = some (some (.ref fDB)))
    (tDB : PySem.W.typeIn K (.ref fDB) = some (.type "function"))
    (lDB : K.lookup fDB = some ⟨ocDB, odDB, .func (PySem.W.fnX "__init__" "BadPart.__init__" (defArgs sBad) (defBody sBad) (defScope sBad) [("__class__", ccDB)] .none .none dcDB pmDB anDB (.ref caDB) ctDB), slDB⟩)
    (cDB : PySem.W.codeIn K (.ref caDB) "BadPart.__init__" = true)
    (yDB : K.lookup caDB = some ⟨c1DB, c2DB, .fields vaDB, c3DB⟩)
    (yvDB : vaDB[2]? = some (.str flDB tfDB))
    (yfDB : ((P.main.file : Str) == flDB) = true)
    (wDB : K.lookup ccDB = some ⟨c1cDB, c2cDB, .cell (some (.ref DB)), c3cDB⟩)
    (clDB : (PySem.W.clsIn K DB).isSome = true)
    (mrDB : PySem.W.mroIn K DB (.ref DB) = some true)
    (inDB : (PySem.W.clsIn K DB).bind (fun cd => PySem.W.alongIn K "__init__" ((cd.mro.dropWhile (· != .ref DB)).drop 1)) = some (some (.builtin "ValueError.__init__")))
    (veDB : PySem.W.subIn K (.ref DB) (.type "ValueError") = some true)
    (gDN : PySem.W.nsIn K mainGlobals "Unbound" = some (some (.ref DN)))
    (xCDN : K.lookup DN = some (excClassObj nmDN qDN DN NDN bsDN bmDN true snDN subDN abDN colDN ddDN k0DN k1DN k2DN k3DN k5DN "ValueError.__new__"))
    (xVDN : PySem.HandSPX.refsVE bmDN = true)
    (saDN : PySem.W.findIn K (.ref DN) "__setattr__" = some (some (.builtin "object.__setattr__")))
    (gaDN : PySem.W.findIn K (.ref DN) "__getattribute__" = some (some (.builtin "BaseException.__getattribute__")))
    (ggDN : PySem.W.findIn K (.ref DN) "__getattr__" = some none)
    (eCDN : PySem.W.subIn K (.ref DN) (.type "BaseException") = some true)
    (tCDN : PySem.W.typeIn K (.ref DN) = some (.type "type"))
    (kCDN : PySem.W.keepIn K (.ref DN) = true)
    (hdDN : PySem.W.hasDictIn K DN = true)
    (haDN : PySem.W.findIn K (.ref DN) "__class__" = some (some (.builtin "object.__class__")))
    (hmDN : PySem.W.mroIn K DN (.type "object") = some true)
    (nfDN : PySem.W.findIn K (.ref DN) "variable" = some none)
    (iDN : PySem.W.findIn K (.ref DN) "__init__" = some (some (.ref fDN)))
    (tDN : PySem.W.typeIn K (.ref fDN) = some (.type "function"))
    (lDN : K.lookup fDN = some ⟨ocDN, odDN, .func (PySem.W.fnX "__init__" "Unbound.__init__" (defArgs sUnb) (defBody sUnb) (defScope sUnb) [("__class__", ccDN)] .none .none dcDN pmDN anDN (.ref caDN) ctDN), slDN⟩)
    (cDN : PySem.W.codeIn K (.ref caDN) "Unbound.__init__" = true)
    (yDN : K.lookup caDN = some ⟨c1DN, c2DN, .fields vaDN, c3DN⟩)
    (yvDN : vaDN[2]? = some (.str flDN tfDN))
    (yfDN : ((P.main.file : Str) == flDN) = true)
    (wDN : K.lookup ccDN = some ⟨c1cDN, c2cDN, .cell (some (.ref DN)), c3cDN⟩)
    (clDN : (PySem.W.clsIn K DN).isSome = true)
    (mrDN : PySem.W.mroIn K DN (.ref DN) = some true)
    (inDN : (PySem.W.clsIn K DN).bind (fun cd => PySem.W.alongIn K "__init__" ((cd.mro.dropWhile (· != .ref DN)).drop 1)) = some (some (.builtin "ValueError.__init__")))
    (veDN : PySem.W.subIn K (.ref DN) (.type "ValueError") = some true)
    (gDW : PySem.W.nsIn K mainGlobals "WholeError" = some (some (.ref DW)))
    (sUU : PySem.W.subIn K (.ref DU) (.ref DU) = some true)
    (sBU : PySem.W.subIn K (.ref DB) (.ref DU) = some false)
    (sBB : PySem.W.subIn K (.ref DB) (.ref DB) = some true)
    (sNU : PySem.W.subIn K (.ref DN) (.ref DU) = some false)
    (sNB : PySem.W.subIn K (.ref DN) (.ref DB) = some false)
    (sNN : PySem.W.subIn K (.ref DN) (.ref DN) = some true)
    (kUW : PySem.W.kitOne K (.ref DU) (.ref DW) = some true)
    (kUV : PySem.W.kitOne K (.ref DU) (.type "ValueError") = some true)
    (kUB : PySem.W.kitOne K (.ref DU) (.ref DB) = some false)
    (kBW : PySem.W.kitOne K (.ref DB) (.ref DW) = some true)
    (kBN : PySem.W.kitOne K (.ref DB) (.ref DN) = some false)
    (kNW : PySem.W.kitOne K (.ref DN) (.ref DW) = some true)
    (kNV : PySem.W.kitOne K (.ref DN) (.type "ValueError") = some true)
    (gSG : PySem.W.nsIn K mainGlobals "SIGNS" = some (some (.str sgn tkS)))
    (gLG : PySem.W.nsIn K mainGlobals "LONGEST" = some (some (.int 8 tkL)))
    (kss : PySem.W.kitOne K (.type "str") (.type "str") = some true)
    (zall : PySem.W.nsIn K mainGlobals "all" = some none)
    (zmax : PySem.W.nsIn K mainGlobals "max" = some none)
    (zdict : PySem.W.nsIn K mainGlobals "dict" = some none)
    (zValueError : PySem.W.nsIn K mainGlobals "ValueError" = some none) :
    ∃ fd : FuncData, (∀ (s : Shared) (v : Value), BindsTo s fd ⟨[v], []⟩ [("_law_script", v)]) ∧ ∀ base : Heap, K.In base → base.Ns mainGlobals mg → FnOk P w K mg base CX0 9 fa fd ["_law_script"] (spLaw K) := by
  have FDe := fun_mk (st := sDeal) lDe cDe kDe
  have bDe := FDe.binds (ps := ["_law_script", "_law_k"]) fun _ _ _ _ _ _ us hl => match us, hl with | [_, _], _ => rfl
  have mDe := PySem.W.mg_of X G aDe
  have FTa := fun_mk (st := sTake) lTa cTa kTa
  have bTa := FTa.binds (ps := ["_law_hand", "_law_many"]) fun _ _ _ _ _ _ us hl => match us, hl with | [_, _], _ => rfl
  have mTa := PySem.W.mg_of X G aTa
  have FSp := fun_mk (st := sSpell) lSp cSp kSp
  have bSp := FSp.binds (ps := ["_law_hand", "_law_many", "_law_signs"]) fun _ _ _ _ _ _ us hl => match us, hl with | [_, _, _], _ => rfl
  have mSp := PySem.W.mg_of X G aSp
  have FLa := fun_mk (st := sLaw08) lLa cLa kLa
  have mLa := PySem.W.mg_of X G aLa
  have FRi := fun_mk (st := sRise) lRi cRi kRi
  have bRi := FRi.binds (ps := ["_law_items"]) fun _ _ _ _ _ _ us hl => match us, hl with | [_], _ => rfl
  have mRi := PySem.W.mg_of X G aRi
  have FFi := fun_mk (st := sFind) lFi cFi kFi
  have bFi := FFi.binds (ps := ["_law_tables", "_law_name"]) fun _ _ _ _ _ _ us hl => match us, hl with | [_, _], _ => rfl
  have mFi := PySem.W.mg_of X G aFi
  have FDt := fun_mk (st := sDealT) lDt cDt kDt
  have bDt := FDt.binds (ps := ["_law_hand", "_law_names", "_law_values"]) fun _ _ _ _ _ _ us hl => match us, hl with | [_, _, _], _ => rfl
  have mDt := PySem.W.mg_of X G aDt
  have FCo := fun_mk (st := sCost) lCo cCo kCo
  have bCo := FCo.binds (ps := ["_law_tables", "_law_name"]) fun _ _ _ _ _ _ us hl => match us, hl with | [_, _], _ => rfl
  have mCo := PySem.W.mg_of X G aCo
  have FVr := fun_mk (st := sVars) lVr cVr kVr
  have bVr := FVr.binds (ps := ["_law_shapes"]) fun _ _ _ _ _ _ us hl => match us, hl with | [_], _ => rfl
  have mVr := PySem.W.mg_of X G aVr
  have FPt := fun_mk (st := sParts) lPt cPt kPt
  have bPt := FPt.binds (ps := ["_law_hand", "_law_tables", "_law_terms", "_law_many", "_law_room"]) fun _ _ _ _ _ _ us hl => match us, hl with | [_, _, _, _, _], _ => rfl
  have mPt := PySem.W.mg_of X G aPt
  have FAk := fun_mk (st := sAsk) lAk cAk kAk
  have bAk := FAk.binds (ps := ["_law_hand", "_law_tables", "_law_values", "_law_terms", "_law_many"]) fun _ _ _ _ _ _ us hl => match us, hl with | [_, _, _, _, _], _ => rfl
  have mAk := PySem.W.mg_of X G aAk
  have FBg := fun_mk (st := sBegin) lBg cBg kBg
  have bBg := FBg.binds (ps := ["_law_script", "_law_many"]) fun _ _ _ _ _ _ us hl => match us, hl with | [_, _], _ => rfl
  have mBg := PySem.W.mg_of X G aBg
  have FBu := fun_mk (st := sBuild) lBu cBu kBu
  have bBu := FBu.binds (ps := ["_law_tables"]) fun _ _ _ _ _ _ us hl => match us, hl with | [_], _ => rfl
  have mBu := PySem.W.mg_of X G aBu
  have FOn := fun_mk (st := sOnce) lOn cOn kOn
  have bOn := FOn.binds (ps := ["things"]) fun _ _ _ _ _ _ us hl => match us, hl with | [_], _ => rfl
  have mOn := PySem.W.mg_of X G aOn
  have FAs := fun_mk (st := sAsc) lAs cAs kAs
  have bAs := FAs.binds (ps := ["words"]) fun _ _ _ _ _ _ us hl => match us, hl with | [_], _ => rfl
  have mAs := PySem.W.mg_of X G aAs
  have FWa := fun_mk (st := sWA) lWa cWa kWa
  have bWa := FWa.binds (ps := ["values"]) fun _ _ _ _ _ _ us hl => match us, hl with | [_], _ => rfl
  have mWa := PySem.W.mg_of X G aWa
  have cCT : Cls K CT := ⟨pgCT, hdCT, poCT, saCT⟩
  have mgCT := PySem.W.mg_of X G gCT
  have cCS : Cls K CS := ⟨pgCS, hdCS, poCS, saCS⟩
  have mgCS := PySem.W.mg_of X G gCS
  have FSi := fun_mk (st := sSch) lSi cSi kSi
  have FSt := fun_mk (st := sTable) lSt cSt kSt
  have bSt := FSt.binds (ps := ["self", "name"]) fun _ _ _ _ _ _ us hl => match us, hl with | [_, _], _ => rfl
  have FSr := fun_mk (st := sReach) lSr cSr kSr
  have bSr := FSr.binds (ps := ["self", "name"]) fun _ _ _ _ _ _ us hl => match us, hl with | [_, _], _ => rfl
  have b_super := PySem.W.mg_none_of X G zsuper
  have EDU : ErrTxt P K mg "UnknownTable" "UnknownTable.__init__" sUnk DU fDU ccDU caDU (PySem.W.fnX "__init__" "UnknownTable.__init__" (defArgs sUnk) (defBody sUnk) (defScope sUnk) [("__class__", ccDU)] .none .none dcDU pmDU anDU (.ref caDU) ctDU) "name" :=
    { sup := { fn := ⟨_, _, _, _, _, _, _, rfl, lDU⟩, code := cDU, file := ⟨_, _, _, _, _, _, yDU, yvDU, yfDU⟩, cell := ⟨_, _, _, wDU⟩, cls := clDU, mro := mrDU, ini := inDU, ve := veDU, opq := opq, msup := b_super, msc := msc }
      oex := { cls := ⟨_, _, _, _, _, _, _, _, _, _, _, _, _, _, _, xCDU, xVDU⟩, sa := saDU, exC := eCDU, tyC := tCDU, kC := kCDU }
      nf := nfDU, gC := PySem.W.mg_of X G gDU, iC := iDU, tI := tDU, bd := .all fun us hl => match us, hl with | [_, _], _ => rfl }
  have XDU : ExcC K DU := ⟨gaDU, ggDU, eCDU, hdDU, haDU, hnO, htO, hmDU⟩
  have YDU : XfC K DU := ⟨gaDU, ggDU, eCDU, hdDU⟩
  have EDR : ErrTxt P K mg "Ring" "Ring.__init__" sRing DR fDR ccDR caDR (PySem.W.fnX "__init__" "Ring.__init__" (defArgs sRing) (defBody sRing) (defScope sRing) [("__class__", ccDR)] .none .none dcDR pmDR anDR (.ref caDR) ctDR) "name" :=
    { sup := { fn := ⟨_, _, _, _, _, _, _, rfl, lDR⟩, code := cDR, file := ⟨_, _, _, _, _, _, yDR, yvDR, yfDR⟩, cell := ⟨_, _, _, wDR⟩, cls := clDR, mro := mrDR, ini := inDR, ve := veDR, opq := opq, msup := b_super, msc := msc }
      oex := { cls := ⟨_, _, _, _, _, _, _, _, _, _, _, _, _, _, _, xCDR, xVDR⟩, sa := saDR, exC := eCDR, tyC := tCDR, kC := kCDR }
      nf := nfDR, gC := PySem.W.mg_of X G gDR, iC := iDR, tI := tDR, bd := .all fun us hl => match us, hl with | [_, _], _ => rfl }
  have XDR : ExcC K DR := ⟨gaDR, ggDR, eCDR, hdDR, haDR, hnO, htO, hmDR⟩
  have YDR : XfC K DR := ⟨gaDR, ggDR, eCDR, hdDR⟩
  have b_int := PySem.W.mg_none_of X G zint
  have b_range := PySem.W.mg_none_of X G zrange
  have b_len := PySem.W.mg_none_of X G zlen
  have b_isinstance := PySem.W.mg_none_of X G zisinstance
  have b_tuple := PySem.W.mg_none_of X G ztuple
  have b_sorted := PySem.W.mg_none_of X G zsorted
  have b_str := PySem.W.mg_none_of X G zstr
  have b_list := PySem.W.mg_none_of X G zlist
  have b_sum := PySem.W.mg_none_of X G zsum
  have b_min := PySem.W.mg_none_of X G zmin
  have FIv := fun_mk (st := sIsVar) lIv cIv kIv
  have bIv := FIv.binds (ps := ["term"]) fun _ _ _ _ _ _ us hl => match us, hl with | [_], _ => rfl
  have mIv := PySem.W.mg_of X G aIv
  have FIt := fun_mk (st := sIsTerm) lIt cIt kIt
  have bIt := FIt.binds (ps := ["item"]) fun _ _ _ _ _ _ us hl => match us, hl with | [_], _ => rfl
  have mIt := PySem.W.mg_of X G aIt
  have FCp := fun_mk (st := sCPart) lCp cCp kCp
  have bCp := FCp.binds (ps := ["schema", "part"]) fun _ _ _ _ _ _ us hl => match us, hl with | [_, _], _ => rfl
  have mCp := PySem.W.mg_of X G aCp
  have FCk := fun_mk (st := sCheck) lCk cCk kCk
  have bCk := FCk.binds (ps := ["schema", "head", "parts", "among"]) fun _ _ _ _ _ _ us hl => match us, hl with | [_, _, _, _], _ => rfl
  have mCk := PySem.W.mg_of X G aCk
  have cCQ : Cls K CQ := ⟨pgCQ, hdCQ, poCQ, saCQ⟩
  have mgCQ := PySem.W.mg_of X G gCQ
  have FQu := fun_mk (st := sVow) lQu cQu kQu
  have bQu := FQu.binds (ps := ["_law_schema", "_law_pledge"]) fun _ _ _ _ _ _ us hl => match us, hl with | [_, _], _ => rfl
  have mQu := PySem.W.mg_of X G aQu
  have FLt := fun_mk (st := sLTerm) lLt cLt kLt
  have bLt := FLt.binds (ps := ["_law_x"]) fun _ _ _ _ _ _ us hl => match us, hl with | [_], _ => rfl
  have mLt := PySem.W.mg_of X G aLt
  have FLx := fun_mk (st := sLExp) lLx cLx kLx
  have bLx := FLx.binds (ps := ["_law_tables", "_law_rows", "_law_limits"]) fun _ _ _ _ _ _ us hl => match us, hl with | [_, _, _], _ => rfl
  have mLx := PySem.W.mg_of X G aLx
  have FLs := fun_mk (st := sSpoilt) lLs cLs kLs
  have bLs := FLs.binds (ps := ["_law_hand", "_law_given", "_law_extra", "_law_room"]) fun _ _ _ _ _ _ us hl => match us, hl with | [_, _, _, _], _ => rfl
  have mLs := PySem.W.mg_of X G aLs
  have EDB : ErrTxt P K mg "BadPart" "BadPart.__init__" sBad DB fDB ccDB caDB (PySem.W.fnX "__init__" "BadPart.__init__" (defArgs sBad) (defBody sBad) (defScope sBad) [("__class__", ccDB)] .none .none dcDB pmDB anDB (.ref caDB) ctDB) "part" :=
    { sup := { fn := ⟨_, _, _, _, _, _, _, rfl, lDB⟩, code := cDB, file := ⟨_, _, _, _, _, _, yDB, yvDB, yfDB⟩, cell := ⟨_, _, _, wDB⟩, cls := clDB, mro := mrDB, ini := inDB, ve := veDB, opq := opq, msup := b_super, msc := msc }
      oex := { cls := ⟨_, _, _, _, _, _, _, _, _, _, _, _, _, _, _, xCDB, xVDB⟩, sa := saDB, exC := eCDB, tyC := tCDB, kC := kCDB }
      nf := nfDB, gC := PySem.W.mg_of X G gDB, iC := iDB, tI := tDB, bd := .all fun us hl => match us, hl with | [_, _], _ => rfl }
  have XDB : ExcC K DB := ⟨gaDB, ggDB, eCDB, hdDB, haDB, hnO, htO, hmDB⟩
  have YDB : XfC K DB := ⟨gaDB, ggDB, eCDB, hdDB⟩
  have EDN : ErrTxt P K mg "Unbound" "Unbound.__init__" sUnb DN fDN ccDN caDN (PySem.W.fnX "__init__" "Unbound.__init__" (defArgs sUnb) (defBody sUnb) (defScope sUnb) [("__class__", ccDN)] .none .none dcDN pmDN anDN (.ref caDN) ctDN) "variable" :=
    { sup := { fn := ⟨_, _, _, _, _, _, _, rfl, lDN⟩, code := cDN, file := ⟨_, _, _, _, _, _, yDN, yvDN, yfDN⟩, cell := ⟨_, _, _, wDN⟩, cls := clDN, mro := mrDN, ini := inDN, ve := veDN, opq := opq, msup := b_super, msc := msc }
      oex := { cls := ⟨_, _, _, _, _, _, _, _, _, _, _, _, _, _, _, xCDN, xVDN⟩, sa := saDN, exC := eCDN, tyC := tCDN, kC := kCDN }
      nf := nfDN, gC := PySem.W.mg_of X G gDN, iC := iDN, tI := tDN, bd := .all fun us hl => match us, hl with | [_, _], _ => rfl }
  have XDN : ExcC K DN := ⟨gaDN, ggDN, eCDN, hdDN, haDN, hnO, htO, hmDN⟩
  have YDN : XfC K DN := ⟨gaDN, ggDN, eCDN, hdDN⟩
  have b_all := PySem.W.mg_none_of X G zall
  have b_max := PySem.W.mg_none_of X G zmax
  have b_dict := PySem.W.mg_none_of X G zdict
  have b_ValueError := PySem.W.mg_none_of X G zValueError
  have e := hfa.symm.trans mLa
  cases e
  have B : Blt mg := ⟨b_int, b_range, b_len⟩
  have B2 : Blt2 mg := ⟨b_tuple, b_sorted, b_str, b_int⟩
  have FTb : FunTab K T0 T1 fTb (PySem.W.fnOf "__init__" "Table.__init__" (defArgs sTab) (defBody sTab) (defScope sTab) .none (.ref KD) dcTb pmTb anTb cdTb ctTb) :=
    ⟨⟨_, _, _, _, _, _, _, _, _, _, rfl, lTb, cTb, .inl ⟨rfl, rfl⟩, .inr ⟨KD, rfl, fun q hq => by
      rcases List.mem_cons.mp hq with rfl | hq
      · exact ⟨_, d0, rfl⟩
      rcases List.mem_cons.mp hq with rfl | hq
      · exact ⟨_, d1, rfl⟩
      rcases List.mem_cons.mp hq with rfl | hq
      · exact ⟨_, d2, rfl⟩
      · cases hq⟩⟩, kTb⟩
  obtain ⟨mv, bTk⟩ := FTb.kbinds0 (ps := pTab) 3 ["key", "lists", "refers"] [] (fun us _ ws => us ++ ws) (by simp) (fun q hq => nomatch hq)
    (fun r1 _ r3 => r1.append r3) fun D doc pm an cdv ct us mv ws hu hm hw => match us, mv, ws, hu, hm, hw with | [_, _, _], [], [_, _, _], _, _, _ => rfl
  have TC : TabC K CT := ⟨cCT, nCTname, nCTwidth, nCTkey, nCTlists, nCTrefers⟩
  have mR : Meth K CS "reached" fSr := ⟨aSr, iSr, kSr⟩
  refine ⟨PySem.W.fnOf "law" "law" (defArgs sLaw08) (defBody sLaw08) (defScope sLaw08) .none kVLa dcLa pmLa anLa cdLa ctLa, fun s v => .of_eq rfl, fun base _ _ => ?_⟩
  have GTa := ok_take (P := P) (w := w) (mg := mg) (base := base) FTa B
  have GDe := ok_deal (P := P) (w := w) (mg := mg) (base := base) FDe B
  have GSp := ok_spell (P := P) (w := w) (mg := mg) (base := base) FSp B FTa bTa mTa
  have GRi := ok_riseS (P := P) (w := w) (mg := mg) (base := base) FRi b_len
  have GFi := ok_find (P := P) (w := w) (mg := mg) (base := base) FFi
  have GDt := ok_dealt (P := P) (w := w) (mg := mg) (base := base) FDt B GTa mTa kTa bTa GRi mRi kRi bRi
  have GCo := ok_cost (P := P) (w := w) (mg := mg) (base := base) FCo bCo mCo b_len b_sum GFi mFi kFi bFi 3
  have GVr := ok_vars (P := P) (w := w) (mg := mg) (base := base) FVr B
  have GPt := ok_parts (P := P) (w := w) (mg := mg) (base := base) FPt B b_tuple GTa mTa kTa bTa GCo mCo kCo bCo
  have GAk := ok_ask (P := P) (w := w) (mg := mg) (base := base) FAk B b_tuple b_sum b_min GTa mTa kTa bTa GRi mRi kRi bRi GVr mVr kVr bVr GCo mCo kCo bCo GPt mPt kPt bPt
  have GBg := ok_begin (P := P) (w := w) (mg := mg) (base := base) FBg GTa mTa kTa bTa GDe mDe kDe bDe GSp mSp kSp bSp GDt mDt kDt bDt GAk mAk kAk bAk
  have GAs := ok_asc (P := P) (w := w) (mg := mg) (base := base) FAs B2 (ok_once FOn b_list) mOn kOn bOn
  have GWa := ok_wa (P := P) (w := w) (mg := mg) (base := base) FWa GAs kAs bAs mAs
  have GTb := ok_tab (P := P) (w := w) (mg := mg) (base := base) FTb B2 TC GWa kWa bWa mWa
  have GSi := ok_schema (P := P) (w := w) (mg := mg) (base := base) FSi FSr bSr mR cCS nCSnamed cCT nCTrefers nCTname EDU EDR
  have GSt := ok_table (P := P) (w := w) (mg := mg) (base := base) FSt cCS nCSnamed EDU
  have GBu := ok_build (P := P) (w := w) (mg := mg) (base := base) FBu b_len b_tuple GTb ⟨mkCT, aTb, iTb, kcCT⟩ bTk mgCT GSi ⟨mkCS, aSi, iSi, kcCS⟩ mgCS
  have QC : PromC K CQ := ⟨cCQ, nCQpart, nCQpartners, nCQamong⟩
  have FQi : FunProm K fQi (PySem.W.fnOf "__init__" "Promise.__init__" (defArgs sProm) (defBody sProm) (defScope sProm) .none (.ref QD) dcQi pmQi anQi cdQi ctQi) :=
    ⟨⟨_, _, _, _, _, _, _, _, _, _, rfl, lQi, cQi, .inl ⟨rfl, rfl⟩, .inr ⟨QD, rfl, fun q hq => by
      rcases List.mem_cons.mp hq with rfl | hq
      · exact ⟨_, e0, rfl⟩
      · cases hq⟩⟩, kQi⟩
  have TG : TermG K mg := ⟨⟨_, PySem.W.mg_of X G gSG⟩, ⟨_, PySem.W.mg_of X G gLG⟩, b_isinstance, b_str, b_len, b_all, kss⟩
  have GIv := ok_isvar (P := P) (w := w) (mg := mg) (base := base) FIv
  have GIt := ok_isterm (P := P) (w := w) (mg := mg) (base := base) FIt TG
  have GCp := ok_cpx (P := P) (w := w) (mg := mg) (base := base) (DN := DN) FCp b_len b_all GIt mIt kIt bIt GSt ⟨aSt, iSt, kSt⟩ bSt cCS cCT nCTwidth EDB
  have GCk := ok_ckx (P := P) (w := w) (mg := mg) (base := base) FCk GCp mCp kCp bCp GAs mAs kAs bAs GIv mIv kIv bIv EDB EDN
  have GQ1 := ok_promX (P := P) (w := w) (mg := mg) (base := base) FQi QC GWa mWa kWa bWa GCk mCk kCk bCk
  have MQ : Mk K CQ fQi := ⟨mkCQ, aQi, iQi, kcCQ⟩
  have GLt := ok_lterm (P := P) (w := w) (mg := mg) (base := base) FLt B b_isinstance b_str kss
  have GLx := ok_lexp (P := P) (w := w) (mg := mg) (base := base) FLx B b_tuple b_list GLt mLt kLt bLt GFi mFi kFi bFi GVr mVr kVr bVr GRi mRi kRi bRi
  have GLs := ok_spoilt8 (P := P) (w := w) (mg := mg) (base := base) FLs B b_tuple b_list b_max b_dict GTa mTa kTa bTa
  refine ok_law08 (CT := CT) (CS := CS) (CQ := CQ) (DU := DU) (DB := DB) (DN := DN) (DW := DW) FLa B ?_
  exact { Bg := ⟨_, _, GBg, mBg, kBg, bBg⟩, Bu := ⟨_, _, GBu, mBu, kBu, bBu⟩, D := ⟨_, _, GDe, mDe, kDe, bDe⟩, S := ⟨_, _, GSp, mSp, kSp, bSp⟩, T := ⟨_, _, GTa, mTa, kTa, bTa⟩, C := ⟨_, _, GCo, mCo, kCo, bCo⟩
          Sp := ⟨_, _, GLs, mLs, kLs, bLs⟩, X := ⟨_, _, GLx, mLx, kLx, bLx⟩
          Qu := ⟨_, _, ok_vowX FQu b_len GQ1 MQ mgCQ, mQu, kQu, bQu⟩, qC := QC
          gU := EDU.gC, gB := EDB.gC, gN := EDN.gC, gW := PySem.W.mg_of X G gDW, eU := XDU, xU := YDU, nU := nfDU, eB := XDB, xB := YDB, nB := nfDB, eN := XDN, xN := YDN, nN := nfDN
          mUU := PySem.W.exm_ref eCDU hdDU tCDU sUU, mBU := PySem.W.exm_ref eCDU hdDU tCDU sBU, mBB := PySem.W.exm_ref eCDB hdDB tCDB sBB, mNU := PySem.W.exm_ref eCDU hdDU tCDU sNU, mNB := PySem.W.exm_ref eCDB hdDB tCDB sNB, mNN := PySem.W.exm_ref eCDN hdDN tCDN sNN
          kUW := kUW, kUV := kUV, kUB := kUB, kBW := kBW, kBN := kBN, kNW := kNW, kNV := kNV, isi := b_isinstance, val := b_ValueError, sum := b_sum }
end Sw
open PySem PySem.W PyProof.Rows
set_option maxRecDepth 100000 in
set_option maxHeartbeats 0 in
theorem PySem.Challenge.cw_surelywhole_k08_promise_refuses_holds : PySem.Challenge.rw_surelywhole_k08_promise_refuses.Holds := by
  w_on; o_law; k_head; (case hw => w_witness2)
  k_fill
  refine L2.walk_of (l := PySem.Challenge.rw_surelywhole_k08_promise_refuses) (n := 63) (k := 9) (x := "_law_script") (CX := fun _ => L2.CX0) (sp := fun w => Sw.spLaw _) rfl (by decide) rfl ⟨rfl, by decide, by decide⟩ (fun w h Y => PySem.W.kIn_of Y) ?F (fun _ _ a ns hl _ hS => ⟨a, ns, rfl, hS, hl, fun _ => rfl⟩) (fun _ _ _ _ _ z => z)
  case F =>
    intro w mg fa h KX G hmg
    refine' Sw.all08 KX G hmg ?aDe ?lDe ?cDe ?kDe ?aTa ?lTa ?cTa ?kTa ?aSp ?lSp ?cSp ?kSp ?aLa ?lLa ?cLa ?kLa ?aRi ?lRi ?cRi ?kRi ?aFi ?lFi ?cFi ?kFi ?aDt ?lDt ?cDt ?kDt ?aCo ?lCo ?cCo ?kCo ?aVr ?lVr ?cVr ?kVr ?aPt ?lPt ?cPt ?kPt ?aAk ?lAk ?cAk ?kAk ?aBg ?lBg ?cBg ?kBg ?aBu ?lBu ?cBu ?kBu ?aOn ?lOn ?cOn ?kOn ?aAs ?lAs ?cAs ?kAs ?aWa ?lWa ?cWa ?kWa ?gCT ?pgCT ?hdCT ?poCT ?saCT ?mkCT ?kcCT ?nCTname ?nCTwidth ?nCTkey ?nCTlists ?nCTrefers ?aTb ?iTb ?lTb ?cTb ?kTb ?d0 ?d1 ?d2 ?t0 ?t1 ?gCS ?pgCS ?hdCS ?poCS ?saCS ?mkCS ?kcCS ?nCSnamed ?aSi ?iSi ?lSi ?cSi ?kSi ?aSt ?iSt ?lSt ?cSt ?kSt ?aSr ?iSr ?lSr ?cSr ?kSr ?gDU ?xCDU ?xVDU ?saDU ?gaDU ?ggDU ?eCDU ?tCDU ?kCDU ?hdDU ?haDU ?hnO ?htO ?hmDU ?nfDU ?iDU ?tDU ?lDU ?cDU ?yDU ?yvDU ?yfDU ?wDU ?clDU ?mrDU ?inDU ?veDU ?opq ?msc ?zsuper ?gDR ?xCDR ?xVDR ?saDR ?gaDR ?ggDR ?eCDR ?tCDR ?kCDR ?hdDR ?haDR ?hmDR ?nfDR ?iDR ?tDR ?lDR ?cDR ?yDR ?yvDR ?yfDR ?wDR ?clDR ?mrDR ?inDR ?veDR ?zint ?zrange ?zlen ?zisinstance ?ztuple ?zsorted ?zstr ?zlist ?zsum ?zmin ?aIv ?lIv ?cIv ?kIv ?aIt ?lIt ?cIt ?kIt ?aCp ?lCp ?cCp ?kCp ?aCk ?lCk ?cCk ?kCk ?gCQ ?pgCQ ?hdCQ ?poCQ ?saCQ ?mkCQ ?kcCQ ?nCQpart ?nCQpartners ?nCQamong ?aQi ?iQi ?lQi ?cQi ?kQi ?e0 ?aQu ?lQu ?cQu ?kQu ?aLt ?lLt ?cLt ?kLt ?aLx ?lLx ?cLx ?kLx ?aLs ?lLs ?cLs ?kLs ?gDB ?xCDB ?xVDB ?saDB ?gaDB ?ggDB ?eCDB ?tCDB ?kCDB ?hdDB ?haDB ?hmDB ?nfDB ?iDB ?tDB ?lDB ?cDB ?yDB ?yvDB ?yfDB ?wDB ?clDB ?mrDB ?inDB ?veDB ?gDN ?xCDN ?xVDN ?saDN ?gaDN ?ggDN ?eCDN ?tCDN ?kCDN ?hdDN ?haDN ?hmDN ?nfDN ?iDN ?tDN ?lDN ?cDN ?yDN ?yvDN ?yfDN ?wDN ?clDN ?mrDN ?inDN ?veDN ?gDW ?sUU ?sBU ?sBB ?sNU ?sNB ?sNN ?kUW ?kUV ?kUB ?kBW ?kBN ?kNW ?kNV ?gSG ?gLG ?kss ?zall ?zmax ?zdict ?zValueError
    (case aDe => first | rfl | k_is)
    (case lDe => first | rfl | k_is)
    (case cDe => first | rfl | k_is)
    (case kDe => first | rfl | k_is)
    (case aTa => first | rfl | k_is)
    (case lTa => first | rfl | k_is)
    (case cTa => first | rfl | k_is)
    (case kTa => first | rfl | k_is)
    (case aSp => first | rfl | k_is)
    (case lSp => first | rfl | k_is)
    (case cSp => first | rfl | k_is)
    (case kSp => first | rfl | k_is)
    (case aLa => first | rfl | k_is)
    (case lLa => first | rfl | k_is)
    (case cLa => first | rfl | k_is)
    (case kLa => first | rfl | k_is)
    (case aRi => first | rfl | k_is)
    (case lRi => first | rfl | k_is)
    (case cRi => first | rfl | k_is)
    (case kRi => first | rfl | k_is)
    (case aFi => first | rfl | k_is)
    (case lFi => first | rfl | k_is)
    (case cFi => first | rfl | k_is)
    (case kFi => first | rfl | k_is)
    (case aDt => first | rfl | k_is)
    (case lDt => first | rfl | k_is)
    (case cDt => first | rfl | k_is)
    (case kDt => first | rfl | k_is)
    (case aCo => first | rfl | k_is)
    (case lCo => first | rfl | k_is)
    (case cCo => first | rfl | k_is)
    (case kCo => first | rfl | k_is)
    (case aVr => first | rfl | k_is)
    (case lVr => first | rfl | k_is)
    (case cVr => first | rfl | k_is)
    (case kVr => first | rfl | k_is)
    (case aPt => first | rfl | k_is)
    (case lPt => first | rfl | k_is)
    (case cPt => first | rfl | k_is)
    (case kPt => first | rfl | k_is)
    (case aAk => first | rfl | k_is)
    (case lAk => first | rfl | k_is)
    (case cAk => first | rfl | k_is)
    (case kAk => first | rfl | k_is)
    (case aBg => first | rfl | k_is)
    (case lBg => first | rfl | k_is)
    (case cBg => first | rfl | k_is)
    (case kBg => first | rfl | k_is)
    (case aBu => first | rfl | k_is)
    (case lBu => first | rfl | k_is)
    (case cBu => first | rfl | k_is)
    (case kBu => first | rfl | k_is)
    (case aOn => first | rfl | k_is)
    (case lOn => first | rfl | k_is)
    (case cOn => first | rfl | k_is)
    (case kOn => first | rfl | k_is)
    (case aAs => first | rfl | k_is)
    (case lAs => first | rfl | k_is)
    (case cAs => first | rfl | k_is)
    (case kAs => first | rfl | k_is)
    (case aWa => first | rfl | k_is)
    (case lWa => first | rfl | k_is)
    (case cWa => first | rfl | k_is)
    (case kWa => first | rfl | k_is)
    (case gCT => first | rfl | k_is)
    (case pgCT => first | rfl | k_is)
    (case hdCT => first | rfl | k_is)
    (case poCT => first | rfl | k_is)
    (case saCT => first | rfl | k_is)
    (case mkCT => first | rfl | k_is)
    (case kcCT => first | rfl | k_is)
    (case nCTname => first | rfl | k_is)
    (case nCTwidth => first | rfl | k_is)
    (case nCTkey => first | rfl | k_is)
    (case nCTlists => first | rfl | k_is)
    (case nCTrefers => first | rfl | k_is)
    (case aTb => first | rfl | k_is)
    (case iTb => first | rfl | k_is)
    (case lTb => first | rfl | k_is)
    (case cTb => first | rfl | k_is)
    (case kTb => first | rfl | k_is)
    (case d0 => first | rfl | k_is)
    (case d1 => first | rfl | k_is)
    (case d2 => first | rfl | k_is)
    (case t0 => first | rfl | k_is)
    (case t1 => first | rfl | k_is)
    (case gCS => first | rfl | k_is)
    (case pgCS => first | rfl | k_is)
    (case hdCS => first | rfl | k_is)
    (case poCS => first | rfl | k_is)
    (case saCS => first | rfl | k_is)
    (case mkCS => first | rfl | k_is)
    (case kcCS => first | rfl | k_is)
    (case nCSnamed => first | rfl | k_is)
    (case aSi => first | rfl | k_is)
    (case iSi => first | rfl | k_is)
    (case lSi => first | rfl | k_is)
    (case cSi => first | rfl | k_is)
    (case kSi => first | rfl | k_is)
    (case aSt => first | rfl | k_is)
    (case iSt => first | rfl | k_is)
    (case lSt => first | rfl | k_is)
    (case cSt => first | rfl | k_is)
    (case kSt => first | rfl | k_is)
    (case aSr => first | rfl | k_is)
    (case iSr => first | rfl | k_is)
    (case lSr => first | rfl | k_is)
    (case cSr => first | rfl | k_is)
    (case kSr => first | rfl | k_is)
    (case gDU => first | rfl | k_is)
    (case xCDU => first | rfl | k_is)
    (case xVDU => first | rfl | k_is)
    (case saDU => first | rfl | k_is)
    (case gaDU => first | rfl | k_is)
    (case ggDU => first | rfl | k_is)
    (case eCDU => first | rfl | k_is)
    (case tCDU => first | rfl | k_is)
    (case kCDU => first | rfl | k_is)
    (case hdDU => first | rfl | k_is)
    (case haDU => first | rfl | k_is)
    (case hnO => first | rfl | k_is)
    (case htO => first | rfl | k_is)
    (case hmDU => first | rfl | k_is)
    (case nfDU => first | rfl | k_is)
    (case iDU => first | rfl | k_is)
    (case tDU => first | rfl | k_is)
    (case lDU => first | rfl | k_is)
    (case cDU => first | rfl | k_is)
    (case yDU => first | rfl | k_is)
    (case yvDU => first | rfl | k_is)
    (case yfDU => first | rfl | k_is)
    (case wDU => first | rfl | k_is)
    (case clDU => first | rfl | k_is)
    (case mrDU => first | rfl | k_is)
    (case inDU => first | rfl | k_is)
    (case veDU => first | rfl | k_is)
    (case opq => first | rfl | k_is)
    (case msc => first | rfl | k_is)
    (case zsuper => first | rfl | k_is)
    (case gDR => first | rfl | k_is)
    (case xCDR => first | rfl | k_is)
    (case xVDR => first | rfl | k_is)
    (case saDR => first | rfl | k_is)
    (case gaDR => first | rfl | k_is)
    (case ggDR => first | rfl | k_is)
    (case eCDR => first | rfl | k_is)
    (case tCDR => first | rfl | k_is)
    (case kCDR => first | rfl | k_is)
    (case hdDR => first | rfl | k_is)
    (case haDR => first | rfl | k_is)
    (case hmDR => first | rfl | k_is)
    (case nfDR => first | rfl | k_is)
    (case iDR => first | rfl | k_is)
    (case tDR => first | rfl | k_is)
    (case lDR => first | rfl | k_is)
    (case cDR => first | rfl | k_is)
    (case yDR => first | rfl | k_is)
    (case yvDR => first | rfl | k_is)
    (case yfDR => first | rfl | k_is)
    (case wDR => first | rfl | k_is)
    (case clDR => first | rfl | k_is)
    (case mrDR => first | rfl | k_is)
    (case inDR => first | rfl | k_is)
    (case veDR => first | rfl | k_is)
    (case zint => first | rfl | k_is)
    (case zrange => first | rfl | k_is)
    (case zlen => first | rfl | k_is)
    (case zisinstance => first | rfl | k_is)
    (case ztuple => first | rfl | k_is)
    (case zsorted => first | rfl | k_is)
    (case zstr => first | rfl | k_is)
    (case zlist => first | rfl | k_is)
    (case zsum => first | rfl | k_is)
    (case zmin => first | rfl | k_is)
    (case aIv => first | rfl | k_is)
    (case lIv => first | rfl | k_is)
    (case cIv => first | rfl | k_is)
    (case kIv => first | rfl | k_is)
    (case aIt => first | rfl | k_is)
    (case lIt => first | rfl | k_is)
    (case cIt => first | rfl | k_is)
    (case kIt => first | rfl | k_is)
    (case aCp => first | rfl | k_is)
    (case lCp => first | rfl | k_is)
    (case cCp => first | rfl | k_is)
    (case kCp => first | rfl | k_is)
    (case aCk => first | rfl | k_is)
    (case lCk => first | rfl | k_is)
    (case cCk => first | rfl | k_is)
    (case kCk => first | rfl | k_is)
    (case gCQ => first | rfl | k_is)
    (case pgCQ => first | rfl | k_is)
    (case hdCQ => first | rfl | k_is)
    (case poCQ => first | rfl | k_is)
    (case saCQ => first | rfl | k_is)
    (case mkCQ => first | rfl | k_is)
    (case kcCQ => first | rfl | k_is)
    (case nCQpart => first | rfl | k_is)
    (case nCQpartners => first | rfl | k_is)
    (case nCQamong => first | rfl | k_is)
    (case aQi => first | rfl | k_is)
    (case iQi => first | rfl | k_is)
    (case lQi => first | rfl | k_is)
    (case cQi => first | rfl | k_is)
    (case kQi => first | rfl | k_is)
    (case e0 => first | rfl | k_is)
    (case aQu => first | rfl | k_is)
    (case lQu => first | rfl | k_is)
    (case cQu => first | rfl | k_is)
    (case kQu => first | rfl | k_is)
    (case aLt => first | rfl | k_is)
    (case lLt => first | rfl | k_is)
    (case cLt => first | rfl | k_is)
    (case kLt => first | rfl | k_is)
    (case aLx => first | rfl | k_is)
    (case lLx => first | rfl | k_is)
    (case cLx => first | rfl | k_is)
    (case kLx => first | rfl | k_is)
    (case aLs => first | rfl | k_is)
    (case lLs => first | rfl | k_is)
    (case cLs => first | rfl | k_is)
    (case kLs => first | rfl | k_is)
    (case gDB => first | rfl | k_is)
    (case xCDB => first | rfl | k_is)
    (case xVDB => first | rfl | k_is)
    (case saDB => first | rfl | k_is)
    (case gaDB => first | rfl | k_is)
    (case ggDB => first | rfl | k_is)
    (case eCDB => first | rfl | k_is)
    (case tCDB => first | rfl | k_is)
    (case kCDB => first | rfl | k_is)
    (case hdDB => first | rfl | k_is)
    (case haDB => first | rfl | k_is)
    (case hmDB => first | rfl | k_is)
    (case nfDB => first | rfl | k_is)
    (case iDB => first | rfl | k_is)
    (case tDB => first | rfl | k_is)
    (case lDB => first | rfl | k_is)
    (case cDB => first | rfl | k_is)
    (case yDB => first | rfl | k_is)
    (case yvDB => first | rfl | k_is)
    (case yfDB => first | rfl | k_is)
    (case wDB => first | rfl | k_is)
    (case clDB => first | rfl | k_is)
    (case mrDB => first | rfl | k_is)
    (case inDB => first | rfl | k_is)
    (case veDB => first | rfl | k_is)
    (case gDN => first | rfl | k_is)
    (case xCDN => first | rfl | k_is)
    (case xVDN => first | rfl | k_is)
    (case saDN => first | rfl | k_is)
    (case gaDN => first | rfl | k_is)
    (case ggDN => first | rfl | k_is)
    (case eCDN => first | rfl | k_is)
    (case tCDN => first | rfl | k_is)
    (case kCDN => first | rfl | k_is)
    (case hdDN => first | rfl | k_is)
    (case haDN => first | rfl | k_is)
    (case hmDN => first | rfl | k_is)
    (case nfDN => first | rfl | k_is)
    (case iDN => first | rfl | k_is)
    (case tDN => first | rfl | k_is)
    (case lDN => first | rfl | k_is)
    (case cDN => first | rfl | k_is)
    (case yDN => first | rfl | k_is)
    (case yvDN => first | rfl | k_is)
    (case yfDN => first | rfl | k_is)
    (case wDN => first | rfl | k_is)
    (case clDN => first | rfl | k_is)
    (case mrDN => first | rfl | k_is)
    (case inDN => first | rfl | k_is)
    (case veDN => first | rfl | k_is)
    (case gDW => first | rfl | k_is)
    (case sUU => first | rfl | k_is)
    (case sBU => first | rfl | k_is)
    (case sBB => first | rfl | k_is)
    (case sNU => first | rfl | k_is)
    (case sNB => first | rfl | k_is)
    (case sNN => first | rfl | k_is)
    (case kUW => first | rfl | k_is)
    (case kUV => first | rfl | k_is)
    (case kUB => first | rfl | k_is)
    (case kBW => first | rfl | k_is)
    (case kBN => first | rfl | k_is)
    (case kNW => first | rfl | k_is)
    (case kNV => first | rfl | k_is)
    (case gSG => first | rfl | k_is)
    (case gLG => first | rfl | k_is)
    (case kss => first | rfl | k_is)
    (case zall => first | rfl | k_is)
    (case zmax => first | rfl | k_is)
    (case zdict => first | rfl | k_is)
    (case zValueError => first | rfl | k_is)
