import PyProof.Rows.All
import Wide.All
import OpenK.AllK
import Wide.FinOn
import HandS.ForMost
import HandS.ForExc
import HandS.Nested
import HandS.ExcInit
import HandS.ExcSuper
import HandS.ExcField
import HandS.ExcIs
import HandS.IsInst
import HandS.StrMore
import HandS.Style
import HandS.FStr
import HandS.FStrTup
import HandS.Star
import HandS.MakeKwOnly
import HandS.DictComp
import HandS.SetKeys
import HandS.Zip
import HandS.OwnEq
import HandS.IterVal
import HandS.RaiseMore
import HandS.Walk
import HandS.SortInts
import HandS.TryMany
import HandS.TupAny
import HandS.TupLe
import HandS.Deep
import HandS.Flow
import KE.GoesMore
import KE.KExcSuper
import KE.KExcIs
import KE.KEqNest
import KE.OsRunLaw
import KE.KOpsOwn
import KE.KStar
import PySem.Challenge.RW_surelywhole_k15_question_and_option
set_option Elab.async false
set_option linter.all false
set_option maxRecDepth 100000
set_option maxHeartbeats 4000000
/-! # What every law of the set begins with: the dealt hand, a draw from it, the spelt words -/
namespace Sw
open PySem PySem.Spec PyProof.Rows L2
/-! ## two operators -/
section
variable {X : Cx}
/-- list + list, where the left one may be the script -/
def rJoinL (K : PySem.W.Frag) : R2 := fun x y H Q => ∃ (l b : Addr) (xs zs : List V), x = .ref l ∧ y = .ref b ∧ SqL K H l xs ∧ SqL K H b zs ∧ xs.length + zs.length ≤ sizeLine ∧
  ∀ p, H p = none → Q (.ref p) (upd H p (.lst (xs ++ zs)))
theorem op_joinL : OpR X (binaryOp .Add) (rJoinL X.K) := by
  intro pins s σ H x y v u Q I rx ry h
  obtain ⟨l, b, xs, zs, rfl, rfl, hl, hb, hz, q⟩ := h
  cases rx
  cases ry
  obtain ⟨vs, r1, p1, _⟩ := I.list hl
  obtain ⟨ws, r2, p2, _⟩ := I.list hb
  obtain ⟨⟨c1, d1, a1, s1⟩, n1, g1, e1, f1, k1⟩ := p1
  obtain ⟨⟨c2, d2, a2, s2⟩, n2, g2, e2, f2, k2⟩ := p2
  simp only at e1 f1 k1 e2 f2 k2
  subst e1 f1 k1 e2 f2 k2
  have len1 := r1.length
  have len2 := r2.length
  refine concat_meets ⟨_, g1, rfl⟩ ⟨_, g2, rfl⟩ noFill_list_add seq_list_add PySem.F.slot_list_add PySem.F.entry_list_add (PySem.F.args_list_add_2 _ _)
    (list_addW l b vs.toArray ws.toArray n1 n2 none none s1 s2 (by rw [List.size_toArray, List.size_toArray]; omega)) ⟨g1, g2, ?_⟩
  have ea : vs.toArray ++ ws.toArray = (vs ++ ws).toArray := by simp
  rw [ea]
  exact ⟨.ref _, _, I.lnew (t' := s.toks) (r1.append r2) (by rw [List.length_append]; omega), rfl, q _ I.fresh⟩
/-- a text times nought or one -/
def rStr01 : R2 := fun x y H Q => ∃ (z : Str) (n : Int), x = .str z ∧ y = .int n ∧ 0 ≤ n ∧ n < 2 ∧ Q (.str (if n = 0 then Str.empty else z)) H
theorem op_str01 : OpR X (binaryOp .Mult) rStr01 := by
  intro pins s σ H x y v u Q I rx ry h
  obtain ⟨z, n, rfl, rfl, h0, h2, q⟩ := h
  obtain ⟨t, rfl⟩ := rx
  obtain ⟨t', rfl⟩ := ry
  have hn : n = 0 ∨ n = 1 := by omega
  rcases hn with rfl | rfl
  · rw [if_pos rfl] at q
    exact PySem.P.mul_str_none (by decide) (by decide) ⟨.str Str.empty, H, I.tok _, ⟨_, rfl⟩, q⟩
  · rw [if_neg (by decide)] at q
    refine PySem.P.mul_str (by decide) (fun _ e => absurd e (by simp)) (fun _ e => absurd e (by simp)) ?_
    rw [if_neg (by decide), if_pos (by simp)]
    exact ⟨.str z, H, I, ⟨_, rfl⟩, q⟩
end
end Sw
/-! ## the hand -/
namespace Sw
open PySem PySem.Spec PyProof.Rows L2
/-- at a: a hand, sixty-one ints -/
def HandAt (H : Hp) (a : Addr) : Prop := ∃ ns : List Int, H a = some (.lst (ns.map V.int)) ∧ ns.length = 61
/-- all but a is as it was -/
def But (a : Addr) (H H' : Hp) : Prop := ∀ b, b ≠ a → H' b = H b
/-- _law_deal(script, k): a new hand -/
def spDeal (K : PySem.W.Frag) : Sp := fun vs H Q _ => ∃ (s : Addr) (ns : List Int) (k : Nat), vs = [.ref s, .int (k : Int)] ∧ SqL K H s (ns.map V.int) ∧ ns.length ≤ 63 ∧ k < 7 ∧
  ∀ (H' : Hp) (p : Addr), Same H H' → H p = none → HandAt H' p → Q (.ref p) H'
/-- _law_take(hand, many): some number below many; the hand stays a hand -/
def spTake : Sp := fun vs H Q _ => ∃ (a : Addr) (m : Int), vs = [.ref a, .int m] ∧ HandAt H a ∧ 0 < m ∧ ∀ (v : Int) (H' : Hp), 0 ≤ v → v < m → HandAt H' a → But a H H' → Q (.int v) H'
/-- the names of built-ins that stay built-ins -/
structure Blt (mg : Str → Option Value) : Prop where
  int : mg "int" = none
  range : mg "range" = none
  len : mg "len" = none
theorem bInt : bootBuiltins "int" = some (.type "int") := by decide +kernel
/-- the script's cell, or nought -/
theorem cell_at {ns : List Int} {k : Nat} (hk : k < 7) : ∃ c : Int, ((ns.map V.int) ++ [V.int 0, V.int 0, V.int 0, V.int 0, V.int 0, V.int 0, V.int 0])[k]? = some (V.int c) := by
  by_cases h : k < ns.length
  · refine ⟨ns[k], ?_⟩
    rw [List.getElem?_append_left (by rw [List.length_map]; exact h), List.getElem?_map, List.getElem?_eq_getElem h]
    rfl
  · refine ⟨0, ?_⟩
    rw [List.getElem?_append_right (by rw [List.length_map]; omega), List.length_map]
    generalize hj : k - ns.length = j
    have hj7 : j < 7 := by omega
    match j, hj7 with
    | 0, _ => rfl
    | 1, _ => rfl
    | 2, _ => rfl
    | 3, _ => rfl
    | 4, _ => rfl
    | 5, _ => rfl
    | 6, _ => rfl
theorem intV_get {ns : List Int} {i : Nat} (h : i < ns.length) : (ns.map V.int)[i]? = some (V.int ns[i]) := by
  rw [List.getElem?_map, List.getElem?_eq_getElem h]
  rfl
theorem atI_int {ns : List Int} {z : Int} (h0 : 0 ≤ z) (h : z < ns.length) : ∃ c : Int, atI (ns.map V.int) z = some (V.int c) := by
  obtain ⟨k, rfl⟩ := Int.eq_ofNat_of_zero_le h0
  have hk : k < ns.length := by omega
  exact ⟨ns[k], atI_nat (intV_get hk)⟩
theorem pick2 (u r : Int) : atI [V.int u, V.int r] (if decide (0 < r) = true then 1 else 0) = some (V.int (if 0 < r then r else u)) := by
  by_cases h : 0 < r
  · rw [decide_eq_true h, if_pos rfl, if_pos h]
    exact atI_nat (j := 1) rfl
  · rw [decide_eq_false h, if_neg (by decide), if_neg h]
    exact atI_nat (j := 0) rfl
theorem mod_small (z : Int) : -(2 ^ 64) < z % 2147483647 ∧ z % 2147483647 < 2 ^ 64 := by
  have m0 := Int.emod_nonneg z (show (2147483647 : Int) ≠ 0 by decide)
  have m1 := Int.emod_lt_of_pos z (show (0 : Int) < 2147483647 by decide)
  constructor <;> omega
theorem same_new {H : Hp} {p : Addr} {o : HO} (h : H p = none) : Same H (upd H p o) := fun b x e => by
  rw [upd_ne (ne_of_none e h)]
  exact e
/-- an object that H doesn't know may change -/
theorem same_mut {H H' : Hp} {p : Addr} {o : HO} (e : Same H H') (h : H p = none) : Same H (upd H' p o) := fun b x hb => by
  rw [upd_ne (ne_of_none hb h)]
  exact e b x hb
theorem but_refl (a : Addr) (H : Hp) : But a H H := fun _ _ => rfl
theorem but_upd {a : Addr} {H H' : Hp} {o : HO} (h : But a H H') : But a H (upd H' a o) := fun b hb => by
  rw [upd_ne hb]
  exact h b hb
end Sw
/-! ## the spelt words -/
namespace Sw
open PySem PySem.Spec PyProof.Rows L2
open TL (tl)
/-- a word over the signs, one to eight of them -/
def Wd (sg w : Str) : Prop := 1 ≤ (tl w).length ∧ (tl w).length ≤ 8 ∧ ∀ c ∈ tl w, c ∈ tl sg
/-- all that H knows, but a, is as it was -/
def SBut (a : Addr) (H H' : Hp) : Prop := ∀ b o, b ≠ a → H b = some o → H' b = some o
theorem SBut.refl (a : Addr) (H : Hp) : SBut a H H := fun _ _ _ e => e
theorem SBut.trans {a : Addr} {H H1 H2 : Hp} (x : SBut a H H1) (y : SBut a H1 H2) : SBut a H H2 := fun b o hb e => y b o hb (x b o hb e)
theorem Same.sbut {a : Addr} {H H1 : Hp} (x : Same H H1) : SBut a H H1 := fun b o _ e => x b o e
theorem But.sbut {a : Addr} {H H1 : Hp} (x : But a H H1) : SBut a H H1 := fun b o hb e => by
  rw [x b hb]
  exact e
theorem HandAt.some {H : Hp} {a : Addr} (h : HandAt H a) : ∃ o, H a = some o := by
  obtain ⟨ns, e, _⟩ := h
  exact ⟨_, e⟩
theorem HandAt.same {H H' : Hp} {a : Addr} (h : HandAt H a) (s : Same H H') : HandAt H' a := by
  obtain ⟨ns, e, hl⟩ := h
  exact ⟨ns, s _ _ e, hl⟩
theorem HandAt.ne {H : Hp} {a p : Addr} (h : HandAt H a) (n : H p = none) : p ≠ a := by
  obtain ⟨ns, e, _⟩ := h
  exact (ne_of_none e n).symm
/-- an object that is none of H's may change, but for the hand -/
theorem SBut.mut {a : Addr} {H H' : Hp} {p : Addr} {o : HO} (e : SBut a H H') (h : H p = none) : SBut a H (upd H' p o) := fun b x hb hx => by
  rw [upd_ne (ne_of_none hx h)]
  exact e b x hb hx
theorem SBut.free {a : Addr} {H H' : Hp} {p : Addr} (e : SBut a H H') (h : HandAt H' a) (n : H' p = none) : H p = none ∧ p ≠ a := by
  have ne := h.ne n
  refine ⟨?_, ne⟩
  cases q : H p with
  | none => rfl
  | some o =>
    rw [e p o ne q] at n
    cases n
theorem HandAt.upd {H : Hp} {a p : Addr} {o : HO} (h : HandAt H a) (ne : p ≠ a) : HandAt (upd H p o) a := by
  obtain ⟨ns, e, hl⟩ := h
  exact ⟨ns, by rw [upd_ne ne.symm]; exact e, hl⟩
/-- a sign at a place that is drawn -/
theorem sign_at {sg : Str} {z : Int} (h0 : 0 ≤ z) (h : z < (tl sg).length) : ∃ c : Nat, atI sg.cps.toList z = some c ∧ c ∈ tl sg := by
  obtain ⟨k, rfl⟩ := Int.eq_ofNat_of_zero_le h0
  have hk : k < (tl sg).length := by omega
  exact ⟨(tl sg)[k], atI_nat (List.getElem?_eq_getElem hk), List.getElem_mem hk⟩
theorem len_tl (z : Str) : z.length = (tl z).length := by
  show z.cps.size = z.cps.toList.length
  rw [Array.length_toList]
theorem sign_ix {sg : Str} {sh i : Nat} (pos : 0 < (tl sg).length) : atI sg.cps.toList (((sh : Int) + 5 * (0 + (i : Int))) % ((sg.length : Nat) : Int)) = some ((tl sg).getD ((sh + 5 * i) % (tl sg).length) 0) := by
  have e : ((sh : Int) + 5 * (0 + (i : Int))) % ((sg.length : Nat) : Int) = (((sh + 5 * i) % (tl sg).length : Nat) : Int) := by
    rw [len_tl, Int.natCast_emod, Int.natCast_add, Int.natCast_mul, Int.zero_add]
    rfl
  have lj : (sh + 5 * i) % (tl sg).length < (tl sg).length := Nat.mod_lt _ pos
  rw [e, List.getD_eq_getElem?_getD, List.getElem?_eq_getElem lj]
  exact atI_nat (List.getElem?_eq_getElem lj)
theorem tail_ix {t0 t1 : Str} {i : Nat} : atI [V.str t0, V.str t1] ((0 + (i : Int)) % 2) = some (V.str (if i % 2 = 0 then t0 else t1)) := by
  have e : (0 + (i : Int)) % 2 = ((i % 2 : Nat) : Int) := by omega
  rw [e]
  by_cases h : i % 2 = 0
  · rw [h, if_pos rfl]
    exact atI_nat (j := 0) rfl
  · have h1 : i % 2 = 1 := by omega
    rw [h1, if_neg (by decide)]
    exact atI_nat (j := 1) rfl
theorem sum_ones : ∀ cs : List Nat, (cs.map fun _ => 1).sum = cs.length
  | [] => rfl
  | c :: r => by
    show 1 + (r.map fun _ => 1).sum = r.length + 1
    rw [sum_ones r, Nat.add_comm]
def spSpell : Sp := fun vs H Q _ => ∃ (a : Addr) (m : Nat) (sg : Str), vs = [.ref a, .int (m : Int), .str sg] ∧ HandAt H a ∧ m ≤ 5 ∧ ((tl sg).length = 26 ∨ (tl sg).length = 36) ∧ (tl sg).Nodup ∧
  ∀ (H' : Hp) (p : Addr) (ws : List Str), HandAt H' a → SBut a H H' → H p = none → p ≠ a → H' p = some (.lst (ws.map V.str)) → ws.length = m → ws.Nodup → (∀ w ∈ ws, Wd sg w) → Q (.ref p) H'
theorem joinL_nil : ∀ ps : List (List Nat), TL.joinL [] ps = ps.flatten
  | [] => rfl
  | [p] => by
    show p = p ++ []
    rw [List.append_nil]
  | p :: q :: r => by
    show p ++ ([] ++ TL.joinL [] (q :: r)) = p ++ (q :: r).flatten
    rw [joinL_nil (q :: r)]
    rfl
theorem flat_singles : ∀ cs : List Nat, (cs.map fun c => [c]).flatten = cs
  | [] => rfl
  | c :: r => by
    show [c] ++ (r.map fun c => [c]).flatten = c :: r
    rw [flat_singles r]
    rfl
/-- the signs drawn, as one text -/
def baseOf (cs : List Nat) : Str := Txt.join Str.empty (cs.map fun c => (⟨#[c]⟩ : Str))
theorem tl_base (cs : List Nat) : tl (baseOf cs) = cs := by
  unfold baseOf
  rw [TL.join_eq, TL.tl_join]
  show TL.joinL [] ((cs.map fun c => (⟨#[c]⟩ : Str)).map tl) = cs
  rw [joinL_nil, List.map_map]
  exact flat_singles cs
theorem tl_cut_from (z : Str) (k : Nat) (h : k ≤ (tl z).length) : tl (cutS z (some (k : Int)) none) = (tl z).drop k := by
  unfold cutS
  show (((tl z).drop (HT.sIx z.length 0 (some (k : Int)))).take (HT.sIx z.length z.length none - HT.sIx z.length 0 (some (k : Int)))).toArray.toList = _
  rw [HT.sIx_nat, HT.sIx_none, len_tl, Nat.min_eq_left h, List.toList_toArray, List.take_of_length_le (by rw [List.length_drop]; omega)]
theorem tl_cut_to (z : Str) (k : Nat) (h : k ≤ (tl z).length) : tl (cutS z none (some (k : Int))) = (tl z).take k := by
  unfold cutS
  show (((tl z).drop (HT.sIx z.length 0 none)).take (HT.sIx z.length z.length (some (k : Int)) - HT.sIx z.length 0 none)).toArray.toList = _
  rw [HT.sIx_nat, HT.sIx_none, len_tl, Nat.min_eq_left h, List.toList_toArray, List.drop_zero, Nat.sub_zero]
/-- the j-th word -/
def wordAt (b sg : Str) (pl sh : Nat) (t0 t1 : Str) (j : Nat) : Str := cutS b none (some (pl : Int)) ++ (⟨#[(tl sg).getD ((sh + 5 * j) % (tl sg).length) 0]⟩ : Str) ++ (if j % 2 = 0 then t0 else t1)
theorem tl_one (c : Nat) : tl (⟨#[c]⟩ : Str) = [c] := rfl
theorem tl_word {b sg t0 t1 : Str} {pl sh j : Nat} (hp : pl ≤ (tl b).length) : tl (wordAt b sg pl sh t0 t1 j) = (tl b).take pl ++ ([(tl sg).getD ((sh + 5 * j) % (tl sg).length) 0] ++ tl (if j % 2 = 0 then t0 else t1)) := by
  unfold wordAt
  rw [TL.tl_append, TL.tl_append, tl_cut_to _ _ hp, tl_one, List.append_assoc]
theorem word_inj {b sg t0 t1 : Str} {pl sh j k : Nat} (hp : pl ≤ (tl b).length) (hm : (tl sg).length = 26 ∨ (tl sg).length = 36) (nd : (tl sg).Nodup) (hj : j < 5) (hk : k < 5) (e : wordAt b sg pl sh t0 t1 j = wordAt b sg pl sh t0 t1 k) : j = k := by
  have e2 := congrArg tl e
  rw [tl_word hp, tl_word hp] at e2
  have e3 := List.append_cancel_left e2
  have e4 : (tl sg).getD ((sh + 5 * j) % (tl sg).length) 0 = (tl sg).getD ((sh + 5 * k) % (tl sg).length) 0 := (List.cons.inj e3).1
  have pos : 0 < (tl sg).length := by omega
  have lj : (sh + 5 * j) % (tl sg).length < (tl sg).length := Nat.mod_lt _ pos
  have lk : (sh + 5 * k) % (tl sg).length < (tl sg).length := Nat.mod_lt _ pos
  rw [List.getD_eq_getElem?_getD, List.getD_eq_getElem?_getD, List.getElem?_eq_getElem lj, List.getElem?_eq_getElem lk] at e4
  have e5 : (sh + 5 * j) % (tl sg).length = (sh + 5 * k) % (tl sg).length := (List.getElem_inj nd).mp e4
  rcases hm with hm | hm
  · rw [hm] at e5
    omega
  · rw [hm] at e5
    omega
theorem words_nodup {b sg t0 t1 : Str} {pl sh m : Nat} (hp : pl ≤ (tl b).length) (hm : (tl sg).length = 26 ∨ (tl sg).length = 36) (nd : (tl sg).Nodup) (h5 : m ≤ 5) : ((List.range m).map (wordAt b sg pl sh t0 t1)).Nodup := by
  rw [List.nodup_iff_pairwise_ne, List.pairwise_map]
  refine List.Pairwise.imp_of_mem ?_ (List.nodup_range (n := m))
  intro j k hj hk ne e
  exact ne (word_inj hp hm nd (Nat.lt_of_lt_of_le (List.mem_range.mp hj) h5) (Nat.lt_of_lt_of_le (List.mem_range.mp hk) h5) e)
theorem word_wd {b sg t0 t1 : Str} {pl sh j : Nat} (hp : pl ≤ (tl b).length) (hb : (tl b).length ≤ 7) (hs : ∀ c ∈ tl b, c ∈ tl sg) (pos : 0 < (tl sg).length) (h0 : tl t0 = (tl b).drop pl) (h1 : tl t1 = [] ∨ tl t1 = (tl b).drop pl) : Wd sg (wordAt b sg pl sh t0 t1 j) := by
  have ht : tl (if j % 2 = 0 then t0 else t1) = [] ∨ tl (if j % 2 = 0 then t0 else t1) = (tl b).drop pl := by
    split
    · exact .inr h0
    · exact h1
  have lj : (sh + 5 * j) % (tl sg).length < (tl sg).length := Nat.mod_lt _ pos
  have l2 : (tl (if j % 2 = 0 then t0 else t1)).length ≤ (tl b).length - pl := by
    rcases ht with e | e
    · rw [e]
      exact Nat.zero_le _
    · rw [e, List.length_drop]
      exact Nat.le_refl _
  unfold Wd
  rw [tl_word hp]
  refine ⟨?_, ?_, fun c hc => ?_⟩
  · simp only [List.length_append, List.length_cons, List.length_nil]
    omega
  · simp only [List.length_append, List.length_cons, List.length_nil, List.length_take]
    omega
  · rcases List.mem_append.mp hc with h | h
    · exact hs c (List.mem_of_mem_take h)
    · rcases List.mem_append.mp h with h | h
      · have e := List.mem_singleton.mp h
        rw [e, List.getD_eq_getElem?_getD, List.getElem?_eq_getElem lj]
        exact List.getElem_mem lj
      · rcases ht with e | e
        · rw [e] at h
          cases h
        · rw [e] at h
          exact hs c (List.mem_of_mem_drop h)
end Sw
/-! ## own errors whose __init__ says super().__init__(..) -/
namespace Sw
open PySem PySem.Spec PyProof.Rows L2 NdefX
section
variable {prog : Program} {w : World} {A : Around} {E : Value → Shared → Prop} {h : Heap} {g : Array GenState} {d : Drawn} {t : Nat} {os : OsState}
variable {nm q : Str} {C N : Addr} {bs bm : List Value} {hdct : Bool} {sn : List Str} {sub : List Value} {ab : Bool} {col : Option Bool} {dd : Option Addr} {k0 k1 k2 k3 k5 : Option Value}
/-- ValueError's own __init__, bound to the error e, is called -/
theorem call_mw {u e t0 : Addr} {rest : List Value} {Q : Value → Shared → Prop}
    (hC : h.get? C = some (excClassObj nm q C N bs bm hdct sn sub ab col dd k0 k1 k2 k3 k5 "ValueError.__new__")) (he : h.get? e = some (PySem.HandSPX.excO C t0)) (hu : h.get? u = some (PySem.W.kxs_mw "ValueError.__init__" e)) (hrest : rest.length ≤ sizeLine)
    (hq : ∀ (h' : Heap) (t1 : Addr), (∀ b o, b ≠ e → h.get? b = some o → h'.get? b = some o) → h'.get? e = some (PySem.HandSPX.excO C t1) → Q .none ⟨h', g, d, t, os⟩) :
    wpAny (model prog w) A (call (.ref u) rest) Q E ⟨h, g, d, t, os⟩ := by
  have F := PySem.F.excBase_ValueError
  refine wpAny_call (codeAny_of_tree ?_)
  simp only [callAny]
  refine wpAny_bind (wpAny_load hu ?_)
  have b1 : (Value.type "method-wrapper" == Value.type "method" || Value.type "method-wrapper" == Value.type "builtin_function_or_method" || Value.type "method-wrapper" == Value.type "method-wrapper") = true := by decide
  simp only [PySem.W.kxs_mw, b1, if_true]
  refine PySem.W.KFB.if_so (by decide) ?_
  refine wpAny_bind (PySem.ESX.check_bound F hC he rfl (wpAny_bind (wpAny_pure (wpAny_pure ?_))))
  refine ⟨Code.quiet_builtin _ (by decide +kernel), codeAny_builtin F.initEntry ?_⟩
  rw [Around.under_plainId F.init.plain _]
  wp_walk
  refine hq _ h.objs.size (fun b o hb ho => ?_) ?_
  · exact (Heap.get?_update_other _ _ (Ne.symm hb)).trans (Heap.get?_push_of_some _ ho)
  · exact Heap.get?_update_self _ (Heap.get?_push_of_some _ he) rfl
end
end Sw
namespace Sw
open PySem PySem.Spec PyProof.Rows L2 NdefX
theorem look1 {α : Type} (x y : Str) (c : α) : List.lookup y [(x, c)] = if y = x then some c else none := by
  by_cases h : y = x
  · subst h
    simp [List.lookup]
  · have e : (y == x) = false := by simpa using h
    rw [if_neg h]
    simp [List.lookup, e]
/-- what the written part says of an __init__ at f of a class at D that says super() -/
structure SupTxt (P : Program) (K : PySem.W.Frag) (mg : Str → Option Value) (qual : Str) (st : Stmt) (D f cc cda : Addr) (fd : FuncData) : Prop where
  fn : ∃ (oc : Value) (od : Option Addr) (doc pm : Value) (an : Option Addr) (ct : Value) (osl : Array (Option Value)),
    fd = PySem.W.fnX "__init__" qual (defArgs st) (defBody st) (defScope st) [("__class__", cc)] .none .none doc pm an (.ref cda) ct ∧ K.lookup f = some ⟨oc, od, .func fd, osl⟩
  code : PySem.W.codeIn K (.ref cda) qual = true
  file : ∃ (c1 : Value) (c2 : Option Addr) (vs : Array Value) (c3 : Array (Option Value)) (fl : Str) (tf : Tok), K.lookup cda = some ⟨c1, c2, .fields vs, c3⟩ ∧ vs[2]? = some (.str fl tf) ∧ ((P.main.file : Str) == fl) = true
  cell : ∃ (c1 : Value) (c2 : Option Addr) (c3 : Array (Option Value)), K.lookup cc = some ⟨c1, c2, .cell (some (.ref D)), c3⟩
  cls : (PySem.W.clsIn K D).isSome = true
  mro : PySem.W.mroIn K D (.ref D) = some true
  ini : (PySem.W.clsIn K D).bind (fun cd => PySem.W.alongIn K "__init__" ((cd.mro.dropWhile (· != .ref D)).drop 1)) = some (some (.builtin "ValueError.__init__"))
  ve : PySem.W.subIn K (.ref D) (.type "ValueError") = some true
  opq : PySem.W.nsIn K cStatics "thirdparty.any" = some none
  msup : mg "super" = none
  msc : (P.main.scope.names.lookup ("super" : Str)).isSome = false
/-- the context of such an __init__ -/
abbrev sF (qual : Str) (st : Stmt) (cc cda : Addr) : NF := ⟨"__init__", qual, defArgs st, defBody st, defScope st, [("__class__", cc)], cda⟩
section
variable {P : Program} {w : World} {K : PySem.W.Frag} {mg : Str → Option Value} {base : Heap} {qual : Str} {st : Stmt} {D f cc cda : Addr} {fd : FuncData}
theorem fn_super {N ps : List Str} {k : Nat} {sp : Sp} {p0 p1 p2 p3 p4 : Pos} {e : Expr} {rest : List Stmt} {ar : Arg} (T : SupTxt P K mg qual st D f cc cda fd) (O : OexC K D) (S : NScope N ps ["__class__"] (defScope st)) (len : ∀ vs H Q E, sp vs H Q E → vs.length = ps.length)
    (hst : defBody st = .Expr (.Call (.Attribute (.Call (.Name "super" p0) [] [] p1) "__init__" p2) [e] [] p3) p4 :: rest)
    (har : ((defArgs st).posonlyargs ++ (defArgs st).args).head? = some ar) (hp0 : ps[0]? = some ar.arg)
    (hks : (defScope st).names.lookup ("super" : Str) = some .globalImplicit) (hkc : (defScope st).names.lookup ("__class__" : Str) = some .free)
    (hsw : ∀ env : Env, swapsWith (.Call (.Attribute (.Call (.Name "super" p0) [] [] p1) "__init__" p2) [e] [] p3) none p4.line env = pure false)
    (hev : ∀ env : Env, ∃ pl : Sem Bool, eval (.Call (.Attribute (.Call (.Name "super" p0) [] [] p1) "__init__" p2) [e] [] p3) env = (do
      let ov ← attributeBase (.Call (.Name "super" p0) [] [] p1) "__init__" env (eval (.Call (.Name "super" p0) [] [] p1) env)
      standAt p2.atName
      let (f, first) ← holding [ov] (getMethod ov "__init__" pl)
      callWith p3 f first (backTo p3 (starEach [e] env)) []))
    (hse : ∀ env : Env, starEach [e] env = [(false, eval e env)])
    (hbody : ∀ (A : Around) (outer : List Env) (s : Shared) (H : Hp) (vs : List V) (Q : VK) (E : XK), Room k (A.deeper (envF (sF qual st cc cda) f s.heap.objs.size)) → sp vs H Q E →
      ∃ (te : TE) (t : TS) (a : Addr), vs[0]? = some (.ref a) ∧ H a = some (exo a D none) ∧ PE (ncx CX0 P w K mg base N (sF qual st cc cda) f A outer s H E).nox e te ∧ PSs (ncx CX0 P w K mg base N (sF qual st cc cda) f A outer s H E).nox rest t ∧
        te (startF N vs [some (.ref D)]) H (fun y H1 => [y].length = 1 ∧ H1 a = some (exo a D none) ∧ t { nx := fun _ H' => Q .non H', rt := Q } (startF N vs [some (.ref D)]) H1)) :
    FnOk P w K mg base CX0 (k + 1) f fd ps sp := by
  obtain ⟨oc, od, doc, pm, an, ct, osl, rfl, lk⟩ := T.fn
  obtain ⟨f1, f2, vsf, f3, fl, tf, hcda, hvs2, hfl⟩ := T.file
  obtain ⟨c1, c2, c3, hcc⟩ := T.cell
  obtain ⟨nm, q, Nn, bs, bm, sn, sub, ab, col, dd, k0, k1, k2, k3, k5, hD, hbm⟩ := O.cls
  have hcl : PySem.W.clsIn K D = some { name := nm, bases := bs, mro := .ref D :: bm, ns := Nn, qualname := q, hasDict := true, slotNames := sn, subclasses := sub, abstract := ab, collection := col, hasDel := false } := by unfold PySem.W.clsIn; rw [hD] <;> rfl
  refine ⟨len, fun A outer s H args us vs Q E hr e0 hb r hsp => ?_⟩
  have hl := len _ _ _ _ hsp
  have KX : K.In s.heap := e0.mod.kin.keeps fun b o e => (e0.bs b o e).1
  have lim : s.heap.NoLimit := e0.mod.nolimit.keeps fun b o e => (e0.bs b o e).1
  have kb : ∀ (b : Addr) (o : Obj), K.lookup b = some o → H b = none := fun b o e => (e0.bs b o (e0.mod.kin _ _ e)).2
  refine codeAny_call_function hr.depth (KX _ _ lk) rfl S.co S.gen rfl (PySem.W.codeRec_of KX T.code) (hb _ _ _ _ ?_)
  refine wpAny_newFunctionEnv S.nocell (fun ⟨n, _⟩ hy => S.par n (List.of_mem_zip hy).1) (fun h₁ hns hsb => ⟨lim.fresh _ hsb, ?_⟩) S.kind
  show codeAny _ _ (.func (defBody st) (envF (sF qual st cc cda) f s.heap.objs.size)) _ _
  refine PySem.ks_codeAny_funcAt ?_
  have kp : ∀ b o, s.heap.get? b = some o → h₁.get? b = some o := fun b o e => hsb.extBut b o (Nat.ne_of_lt (Heap.lt_size e)) (Heap.get?_push_of_some _ e)
  have clk : ∀ (y : Str) (c : Addr), (sF qual st cc cda).cl.lookup y = some c → y = "__class__" ∧ c = cc := fun y c e => by
    have e : List.lookup y [(("__class__" : Str), cc)] = some c := e
    rw [look1] at e
    split at e
    · rename_i hy
      exact ⟨hy, (Option.some.inj e).symm⟩
    · cases e
  have C : CellsAt (sF qual st cc cda).cl ["__class__"] [some (.ref D)] s.heap H := by
    refine ⟨rfl, fun y c e => ?_, fun x y c e1 e2 => ?_, fun i y hi => ?_⟩
    · obtain ⟨_, rfl⟩ := clk y c e
      exact ⟨kb _ _ hcc, _, ⟨_, KX _ _ hcc, rfl⟩⟩
    · exact (clk x c e1).1.trans (clk y c e2).1.symm
    · match i, hi with
      | 0, hi =>
        have ey : ("__class__" : Str) = y := Option.some.inj hi
        subst ey
        refine ⟨cc, by show List.lookup ("__class__" : Str) [(("__class__" : Str), cc)] = some cc; rw [look1, if_pos rfl], fun v hv => ?_⟩
        have ev : V.ref D = v := Option.some.inj (Option.some.inj hv)
        subst ev
        exact ⟨.ref D, rfl, ⟨_, KX _ _ hcc, rfl⟩⟩
      | i + 1, hi => simp at hi
  have I : Inv (ncx CX0 P w K mg base N (sF qual st cc cda) f A outer s H E) [] (startF N vs [some (.ref D)]) H { s with heap := h₁, toks := s.toks + (ps.zip us).length } := inv_startN S hr.hd e0 hl r C hns kp
  obtain ⟨te, tt, a, hva, hHa, pe, pss, hq⟩ := hbody A outer s H vs Q E (hr.deeper _) hsp
  rw [hst]
  obtain ⟨pl, hev⟩ := hev (envF (sF qual st cc cda) f s.heap.objs.size)
  refine PySem.ks_wpAt_execs_cons (PySem.ks_wpAt_Expr_any (PySem.ks_wpAt_MethodCall ?_ hev) I.quiet (hsw _))
  have KI : K.In h₁ := I.kIn
  refine PySem.ks_wpAt_super_base hks hkc (by decide) rfl (KI _ _ lk) rfl har rfl (KI _ _ hcda) rfl hvs2 hfl T.msc ?_
  obtain ⟨mb, hb1, hb2⟩ := I.mod.blt
  refine PySem.W.ks_loadName_global S.kind hks (Calls.loadGlobal_builtin (I.mod.glob.keeps I.bk) T.msup (hb1.keeps I.bk) ((hb2 _ (by decide)).trans (by decide +kernel)) ⟨rfl, ?_⟩)
  refine wpAny_loadName_free S.kind hkc rfl ⟨_, KI _ _ hcc, rfl⟩ ?_
  have hN0 : N[0]? = some ar.arg := by
    have z : (N.take (ps.length + 1))[0]? = some ar.arg := by
      have y : N.take (ps.length + 1) = ps ++ ([("__class__" : Str)] : List Str) := S.pre
      rw [y, List.getElem?_append_left (List.getElem?_eq_some_iff.mp hp0).1]
      exact hp0
    rw [List.getElem?_take_of_lt (Nat.succ_pos _)] at z
    exact z
  have hka : (defScope st).names.lookup ar.arg = some .local := S.par _ (List.mem_of_getElem? hp0)
  have hs0 : (startF N vs [some (V.ref D)])[0]? = some (some (V.ref a)) := by
    unfold startF
    have lv : 0 < vs.length := (List.getElem?_eq_some_iff.mp hva).1
    rw [List.getElem?_append_left (by rw [List.length_map]; exact lv), List.getElem?_map, hva]
    rfl
  obtain ⟨m, hnl, hm⟩ := I.loc
  obtain ⟨u, hu, hlook⟩ := hm 0 ar.arg (.ref a) hN0 hs0 (.inl hka)
  obtain rfl : u = Value.ref a := hu
  have hmx : m ar.arg = some (.ref a) := by
    rcases hlook with ⟨_, z⟩ | ⟨z, _⟩
    · exact z
    · have z : (defScope st).names.lookup ar.arg = some .cell ∨ (defScope st).names.lookup ar.arg = some .free := z
      rw [hka] at z
      rcases z with z | z <;> cases z
  refine wpAny_loadName_local S.kind hka hnl hmx ?_
  have hD1 := KI _ _ hD
  refine PySem.ks_wpAny_isType_cls hD1 rfl ⟨rfl, ?_⟩
  obtain ⟨t0, hexo⟩ := exo_at I.hok hHa
  refine PySem.ks_wpAny_call_super hD1 rfl hexo rfl (fun c e => by cases e) (PySem.W.looks_mroIn KI T.mro) (fun h2 hso k2 => ?_)
  have I2 : Inv (ncx CX0 P w K mg base N (sF qual st cc cda) f A outer s H E) [] (startF N vs [some (.ref D)]) H { s with heap := h2, toks := s.toks + (ps.zip us).length } := I.kept (t' := s.toks + (ps.zip us).length) k2
  have K2 : K.In h2 := I2.kIn
  have J2 : PySem.W.InstAt h2 a (PySem.HandSPX.excO D t0) D none := ⟨k2 _ _ hexo, rfl, rfl, trivial⟩
  have hini : PySem.W.alongIn K "__init__" (((Value.ref D :: bm).dropWhile (· != .ref D)).drop 1) = some (some (.builtin "ValueError.__init__")) := by
    have z := T.ini
    rw [hcl] at z
    exact z
  refine PySem.W.kxs_getMethod PySem.W.kxs_ValueError hso (PySem.W.looks_opaque K2 T.opq) (l₀ := .ref D :: bm) (fun A Q E s k q => wpAny_bind ((PySem.W.looks_clsIn K2 hcl) A _ E s k (wpAny_pure q))) rfl K2 hini (J2.type.andThen (PySem.W.looks_subIn K2 T.ve)) (PySem.W.ks_ne K2 J2 hcl) (by decide) ?_
  -- the bound __init__, pinned
  have kp3 : ∀ b o, h2.get? b = some o → (h2.push (PySem.W.kxs_mw "ValueError.__init__" a)).get? b = some o := fun b o e => Heap.get?_push_of_some _ e
  have hu3 : (h2.push (PySem.W.kxs_mw "ValueError.__init__" a)).get? h2.objs.size = some (PySem.W.kxs_mw "ValueError.__init__" a) := Heap.get?_push_size _ rfl
  have fp : FpOk (ncx CX0 P w K mg base N (sF qual st cc cda) f A outer s H E) [] H h2.objs.size := I2.fpOk (Nat.le_refl _) (I2.hok.fresh (Nat.le_refl _))
  have I3 := (I2.kept (t' := s.toks + (ps.zip us).length + 1) kp3).pinned (fp := [h2.objs.size]) (fun b hb => by rw [List.mem_singleton.mp hb]; exact fp) (fun b hb => by rw [List.mem_singleton.mp hb]; exact ⟨_, hu3, fun v e => by cases e⟩)
  rw [hse]
  refine PySem.W.kxs_callWith (i := "ValueError.__init__") (x := a) rfl (Calls.evalArgs_plain ?_)
  have pa : PA (ncx CX0 P w K mg base N (sF qual st cc cda) f A outer s H E).nox [e] (tCons te tNil) := pa_cons pe pa_nil (hse _)
  have run := pa.run p3 _ _ _ _ (fun vs1 H1 => vs1.length = 1 ∧ H1 a = some (exo a D none) ∧ tt { nx := fun _ H' => Q .non H', rt := Q } (startF N vs [some (.ref D)]) H1) (I3.wish fun _ _ => False) hq
  rw [hse] at run
  refine wpAny_mono run (fun us1 s1 hh => ?_) fun _ _ z => z.elim
  obtain ⟨vs1, H1, I4, r4, l4, hH1a, hq4⟩ := hh
  have hpin := I4.pin (h2.objs.size, PySem.W.kxs_mw "ValueError.__init__" a) (List.mem_append_right _ (List.mem_append_right _ (mem_pinsAt (List.mem_singleton.mpr rfl) hu3)))
  refine ⟨hpin.1, ?_⟩
  obtain ⟨t1, hexo1⟩ := exo_at I4.hok hH1a
  have lus : ([] ++ us1 : List Value).length ≤ sizeLine := by
    have z := r4.length
    rw [List.nil_append, ← z, l4]
    decide
  obtain ⟨hp4, g4, d4, tk4, os4⟩ := s1
  refine call_mw (I4.kIn _ _ hD) hexo1 hpin.1 lus fun h5 t5 k5 hx5 => ?_
  have J := I4.write (t' := tk4) (x := a) (e := a) (o := exo a D none) (by rw [hH1a]; exact True.intro) (.inl rfl) k5 ⟨_, hx5⟩ (exo_ok hx5)
  have eu : upd H1 a (exo a D none) = H1 := by
    funext b
    by_cases hb : b = a
    · rw [hb, upd_same, hH1a]
    · rw [upd_ne hb]
  rw [eu] at J
  show _root_.PySem.wpAt _ _ _ (execs rest _) _ _ _
  refine wpAt_of_wpAny (wpAny_mono (pss.run [] _ _ _ _ J.unpinned hq4) (fun fl s' hs => ?_) fun _ _ z => z.elim)
  have fin : ∀ {σ' : L2.St} {H' : Hp} {v : V} {u : Value}, Inv (ncx CX0 P w K mg base N (sF qual st cc cda) f A outer s H E).nox [] σ' H' s' → L2.RelV v u → Q v H' → CE outer P w H s Q u s' :=
    fun {σ' H' v u} J rv q => ⟨v, H', J.os, J.bare, J.base, J.hok, rv, q⟩
  cases fl with
  | ret u =>
    obtain ⟨v, σ', H', J, rv, q⟩ := hs
    exact fin J rv q
  | next =>
    obtain ⟨σ', H', J, q⟩ := hs
    exact fin (v := V.non) (u := Value.none) J rfl q
  | brk =>
    obtain ⟨_, _, _, q⟩ := hs
    exact False.elim q
  | cont =>
    obtain ⟨_, _, _, q⟩ := hs
    exact False.elim q
end
end Sw
namespace Sw
open PySem PySem.Spec PyProof.Rows L2 NdefX
/-- __init__ of an own error with one field: the field lies in the error's own dict, new -/
def spErr (D : Addr) (fld : Str) (Pv : V → Hp → Prop) : Sp := fun vs H Q _ => ∃ (a : Addr) (v : V), vs = [.ref a, v] ∧ H a = some (exo a D none) ∧ Pv v H ∧
  ∀ dx, H dx = none → dx ≠ a → Q .non (upd (upd H dx (exd dx [(fld, v)])) a (exo a D (some dx)))
/-- the value is a short text -/
def PStr (v : V) (_ : Hp) : Prop := ∃ z : Str, v = .str z ∧ z.length ≤ 1000
theorem room_len {a b : Nat} (h : a + b ≤ 2000) : a + b ≤ sizeLine := Nat.le_trans h (by decide)
theorem str_app_len (x y : Str) : (x ++ y).length = x.length + y.length := by
  rw [len_tl, len_tl, len_tl, TL.tl_append, List.length_append]
end Sw
namespace Sw
open PySem PySem.Spec PyProof.Rows L2 NdefX
/-- an own error with one field is made: what is left to show behind its argument -/
theorem mk_err {D : Addr} {fld : Str} {Pv : V → Hp → Prop} {v : V} {H1 : Hp} {Q : XK} (hp : ∀ a, H1 a = none → Pv v (upd H1 a (exo a D none))) (q : ∀ dd, H1 dd = none → Q (.ref D) (some dd) (upd H1 dd (.xd [(fld, v)]))) :
    [v].length ≤ 1000 ∧ ∀ a, H1 a = none → spErr D fld Pv (.ref a :: ([v] ++ [])) (upd H1 a (exo a D none)) (fun u H2 => u = .non ∧ ∃ (d : Addr) (fs : List (Str × V)), H2 a = some (exo a D (some d)) ∧ H2 d = some (exd d fs) ∧ H1 d = none ∧ Q (.ref D) (some d) (upd (del H2 a) d (.xd fs))) (fun _ _ _ => False) := by
  refine ⟨by show 1 ≤ 1000; decide, fun a ha => ⟨a, v, rfl, upd_same, hp a ha, fun dx h1 h2 => ⟨rfl, dx, [(fld, v)], upd_same, ?_, ?_, ?_⟩⟩⟩
  · rw [upd_ne h2, upd_same]
  · rw [upd_ne h2] at h1
    exact h1
  · have h3 : H1 dx = none := by
      rw [upd_ne h2] at h1
      exact h1
    have e : upd (del (upd (upd (upd H1 a (exo a D none)) dx (exd dx [(fld, v)])) a (exo a D (some dx))) a) dx (.xd [(fld, v)]) = upd H1 dx (.xd [(fld, v)]) := by
      funext b
      by_cases hb : b = dx
      · rw [hb, upd_same, upd_same]
      · rw [upd_ne hb, upd_ne hb]
        by_cases hba : b = a
        · rw [hba, del_same, ha]
        · rw [del_ne hba, upd_ne hba, upd_ne hb, upd_ne hba]
    rw [e]
    exact q dx h3
/-- what the text says of an own error class with one field -/
structure ErrTxt (P : Program) (K : PySem.W.Frag) (mg : Str → Option Value) (x qual : Str) (st : Stmt) (D f cc cda : Addr) (fd : FuncData) (fld : Str) : Prop where
  sup : SupTxt P K mg qual st D f cc cda fd
  oex : OexC K D
  nf : PySem.W.findIn K (.ref D) fld = some none
  gC : mg x = some (.ref D)
  iC : PySem.W.findIn K (.ref D) "__init__" = some (some (.ref f))
  tI : PySem.W.typeIn K (.ref f) = some (.type "function")
  bd : Binds K fd ["self", fld] []
end Sw
/-! ## dicts of what occurs, strictly ascending lists -/
namespace Sw
open PySem PySem.Spec PyProof.Rows L2
section
variable {X : Cx}
theorem PE.or {e : Expr} {t1 t2 : TE} (h1 : PE X e t1) (h2 : PE X e t2) : PE X e (fun σ H Q => t1 σ H Q ∨ t2 σ H Q) := ⟨fun pins s σ H Q I h => h.elim (h1.run pins s σ H Q I) (h2.run pins s σ H Q I)⟩
theorem PS.or {st : Stmt} {t1 t2 : TS} (h1 : PS X st t1) (h2 : PS X st t2) : PS X st (fun D σ H => t1 D σ H ∨ t2 D σ H) := ⟨fun pins s σ H D I h => h.elim (h1.run pins s σ H D I) (h2.run pins s σ H D I)⟩
theorem PI.or {tg e : Expr} {t1 t2 : TI} (h1 : PI X tg e t1) (h2 : PI X tg e t2) : PI X tg e (fun σ H R => t1 σ H R ∨ t2 σ H R) := ⟨fun pins s σ H R I h => h.elim (h1.run pins s σ H R I) (h2.run pins s σ H R I)⟩
end
/-- a dict whose keys are the us, each with True -/
def onceK {α : Type} (f : α → Key) (us : List α) : List (Key × V) := us.map fun u => (f u, V.bl true)
theorem onceK_val {α : Type} {f : α → Key} (inj : ∀ a b, f a = f b → a = b) : ∀ (us : List α) (u : α), (u ∈ us → valV (onceK f us) (f u) = some (V.bl true)) ∧ (u ∉ us → valV (onceK f us) (f u) = none)
  | [], u => ⟨fun h => (nomatch h), fun _ => rfl⟩
  | x :: r, u => by
    have ih := onceK_val inj r u
    by_cases e : f x = f u
    · refine ⟨fun _ => valV_pos (p := (f x, V.bl true)) e, fun h => absurd (List.mem_cons.mpr (.inl (inj _ _ e).symm)) h⟩
    · have e2 : valV (onceK f (x :: r)) (f u) = valV (onceK f r) (f u) := valV_neg (p := (f x, V.bl true)) e
      rw [e2]
      refine ⟨fun h => ih.1 ?_, fun h => ih.2 fun z => h (List.mem_cons_of_mem _ z)⟩
      rcases List.mem_cons.mp h with h | h
      · exact absurd (congrArg f h.symm) e
      · exact h
theorem onceK_put {α : Type} [DecidableEq α] {f : α → Key} (inj : ∀ a b, f a = f b → a = b) (us : List α) (u : α) : putK (onceK f us) (f u) (V.bl true) = onceK f (if u ∈ us then us else us ++ [u]) := by
  by_cases h : u ∈ us
  · rw [if_pos h]
    have hv := (onceK_val inj us u).1 h
    unfold putK
    rw [valV_any, hv]
    show (onceK f us).map _ = _
    have e : ∀ kv ∈ onceK f us, (if kv.1 = f u then (kv.1, V.bl true) else kv) = kv := by
      intro kv hk
      obtain ⟨x, _, rfl⟩ := List.mem_map.mp hk
      split <;> rfl
    exact (List.map_congr_left e).trans (List.map_id _)
  · rw [if_neg h, putK_new _ ((onceK_val inj us u).2 h)]
    unfold onceK
    rw [List.map_append]
    rfl
/-- the different ones of l, as far as they were met -/
structure Once {α : Type} (us l : List α) : Prop where
  nd : us.Nodup
  mem : ∀ x, x ∈ us ↔ x ∈ l
  len : us.length ≤ l.length
theorem Once.nil {α : Type} : Once ([] : List α) [] := ⟨List.nodup_nil, fun _ => Iff.rfl, Nat.le_refl _⟩
theorem Once.snoc {α : Type} [DecidableEq α] {us l : List α} (o : Once us l) (u : α) : Once (if u ∈ us then us else us ++ [u]) (l ++ [u]) := by
  by_cases h : u ∈ us
  · rw [if_pos h]
    refine ⟨o.nd, fun x => ?_, by rw [List.length_append]; exact Nat.le_trans o.len (Nat.le_add_right _ _)⟩
    rw [List.mem_append, o.mem, List.mem_singleton]
    refine ⟨.inl, fun z => z.elim id fun e => ?_⟩
    rw [e]
    exact (o.mem u).mp h
  · rw [if_neg h]
    refine ⟨nd_snoc o.nd h, fun x => ?_, by rw [List.length_append, List.length_append]; exact Nat.add_le_add_right o.len 1⟩
    rw [List.mem_append, List.mem_append, o.mem]
theorem take_snoc {α : Type} : ∀ {l : List α} {i : Nat} {x : α}, l[i]? = some x → l.take (i + 1) = l.take i ++ [x]
  | [], i, x, h => by simp at h
  | a :: l, 0, x, h => by
    have e : a = x := Option.some.inj h
    rw [← e]
    rfl
  | a :: l, i + 1, x, h => by
    show a :: l.take (i + 1) = a :: (l.take i ++ [x])
    rw [take_snoc (l := l) (i := i) (x := x) h]
/-- strictly ascending texts: by their signs -/
def SLt (x y : Str) : Prop := x.cps.toList < y.cps.toList
def AscS (ws : List Str) : Prop := ws.Pairwise SLt
def AscI (ns : List Int) : Prop := ns.Pairwise (· < ·)
theorem tl_inj {x y : Str} (h : x.cps.toList = y.cps.toList) : x = y := by
  obtain ⟨⟨a⟩⟩ := x
  obtain ⟨⟨b⟩⟩ := y
  have h : a = b := h
  rw [h]
theorem SLt.trans {x y z : Str} (h1 : SLt x y) (h2 : SLt y z) : SLt x z := List.lt_trans h1 h2
theorem SLt.irrefl (x : Str) : ¬ SLt x x := List.lt_irrefl _
theorem SLt.tri (x y : Str) (h1 : ¬ SLt y x) (ne : x ≠ y) : SLt x y := by
  have h2 : x.cps.toList ≤ y.cps.toList := h1
  rcases List.le_iff_lt_or_eq.mp h2 with h | h
  · exact h
  · exact absurd (tl_inj h) ne
theorem asc_of_rising : ∀ (l : List Str) (p : Str), PyProof.Rows.risingS p l = true → (p :: l).Nodup → AscS (p :: l)
  | [], p, _, _ => List.pairwise_singleton ..
  | x :: r, p, h, nd => by
    have h : (!PySem.Spec.ltCps x.cps.toList p.cps.toList && PyProof.Rows.risingS x r) = true := h
    obtain ⟨h1, h2⟩ := Bool.and_eq_true_iff.mp h
    obtain ⟨n1, n2⟩ := List.nodup_cons.mp nd
    have ih := asc_of_rising r x h2 n2
    have hpx : SLt p x := by
      refine SLt.tri p x (fun z => ?_) (fun e => n1 (by rw [e]; exact List.mem_cons_self))
      rw [ltCps_eq, decide_eq_true (show x.cps.toList < p.cps.toList from z)] at h1
      cases h1
    refine List.pairwise_cons.mpr ⟨fun y hy => ?_, ih⟩
    rcases List.mem_cons.mp hy with e | hy
    · rw [e]
      exact hpx
    · exact hpx.trans ((List.pairwise_cons.mp ih).1 y hy)
theorem asc_of_sorted {l : List Str} (h : sortedS l = true) (nd : l.Nodup) : AscS l := by
  cases l with
  | nil => exact List.Pairwise.nil
  | cons x r => exact asc_of_rising r x h nd
theorem ascI_of {l : List Int} (h : l.Pairwise (· ≤ ·)) (nd : l.Nodup) : AscI l := by
  have nd2 : l.Pairwise (· ≠ ·) := nd
  exact (List.pairwise_and_iff.mpr ⟨h, nd2⟩).imp fun ⟨a, b⟩ => by omega
/-- what is strictly ascending is told by its members -/
theorem asc_unique {α : Type} {R : α → α → Prop} (irr : ∀ x, ¬ R x x) (tr : ∀ x y z, R x y → R y z → R x z) : ∀ (a b : List α), a.Pairwise R → b.Pairwise R → (∀ x, x ∈ a ↔ x ∈ b) → a = b
  | [], [], _, _, _ => rfl
  | [], y :: b, _, _, h => absurd ((h y).mpr List.mem_cons_self) (by simp)
  | x :: a, [], _, _, h => absurd ((h x).mp List.mem_cons_self) (by simp)
  | x :: a, y :: b, pa, pb, h => by
    obtain ⟨ha, pa'⟩ := List.pairwise_cons.mp pa
    obtain ⟨hb, pb'⟩ := List.pairwise_cons.mp pb
    have exy : x = y := by
      rcases List.mem_cons.mp ((h x).mp List.mem_cons_self) with e | hx
      · exact e
      · rcases List.mem_cons.mp ((h y).mpr List.mem_cons_self) with e | hy
        · exact e.symm
        · exact absurd (tr _ _ _ (hb x hx) (ha y hy)) (irr y)
    subst exy
    have hm : ∀ z, z ∈ a ↔ z ∈ b := fun z => by
      constructor
      · intro hz
        rcases List.mem_cons.mp ((h z).mp (List.mem_cons_of_mem _ hz)) with e | q
        · rw [e] at hz
          exact absurd (ha x hz) (irr x)
        · exact q
      · intro hz
        rcases List.mem_cons.mp ((h z).mpr (List.mem_cons_of_mem _ hz)) with e | q
        · rw [e] at hz
          exact absurd (hb x hz) (irr x)
        · exact q
    rw [asc_unique irr tr a b pa' pb' hm]
theorem ascS_unique {a b : List Str} (ha : AscS a) (hb : AscS b) (h : ∀ x, x ∈ a ↔ x ∈ b) : a = b := asc_unique SLt.irrefl (fun _ _ _ => SLt.trans) a b ha hb h
theorem ascI_unique {a b : List Int} (ha : AscI a) (hb : AscI b) (h : ∀ x, x ∈ a ↔ x ∈ b) : a = b := asc_unique (fun x => Int.lt_irrefl x) (fun _ _ _ => Int.lt_trans) a b ha hb h
end Sw
namespace Sw
open PySem PySem.Spec PyProof.Rows L2
structure Blt2 (mg : Str → Option Value) : Prop where
  tuple : mg "tuple" = none
  sorted : mg "sorted" = none
  str : mg "str" = none
  int : mg "int" = none
theorem bTuple : bootBuiltins "tuple" = some (.type "tuple") := by decide +kernel
theorem bSorted : bootBuiltins "sorted" = some (.builtin "sorted") := by decide +kernel
theorem bStr : bootBuiltins "str" = some (.type "str") := by decide +kernel
/-- words to be had at a: a list, a tuple, a dict's keys -/
def Words (K : PySem.W.Frag) (H : Hp) (a : Addr) (ws : List Str) : Prop :=
  (SqL K H a (ws.map V.str) ∨ SqT K H a (ws.map V.str)) ∨ ∃ kvs : List (Key × V), H a = some (.dK kvs) ∧ kvs.map (·.1) = ws.map Sum.inr
/-- ascending(words) -/
def spAsc (K : PySem.W.Frag) : Sp := fun vs H Q _ => ∃ (a : Addr) (ws : List Str), vs = [.ref a] ∧ Words K H a ws ∧ ws.length < 64 ∧
  ∀ (H' : Hp) (p : Addr) (us : List Str), Same H H' → H p = none → H' p = some (.tup (us.map V.str)) → AscS us → (∀ x, x ∈ us ↔ x ∈ ws) → Q (.ref p) H'
theorem bList : bootBuiltins "list" = some (.type "list") := by decide +kernel
/-- once(things) over texts -/
def spOnce (K : PySem.W.Frag) : Sp := fun vs H Q _ => ∃ (a : Addr) (ws : List Str), vs = [.ref a] ∧ Words K H a ws ∧ ws.length < 64 ∧
  ∀ (H' : Hp) (p : Addr) (us : List Str), Same H H' → H p = none → H' p = some (.lst (us.map V.str)) → Once us ws → Q (.ref p) H'
/-- a value of a dict of values: its key, where it stands, its words -/
abbrev Ent := Key × Addr × List Str
/-- at a: a dict of lists or tuples of words -/
structure LDict (K : PySem.W.Frag) (H : Hp) (a : Addr) (es : List Ent) : Prop where
  at_ : H a = some (.dK (es.map fun e => (e.1, V.ref e.2.1)))
  nd : (es.map (·.1)).Nodup
  len : es.length ≤ 100
  all : ∀ e ∈ es, (SqL K H e.2.1 (e.2.2.map V.str) ∨ SqT K H e.2.1 (e.2.2.map V.str)) ∧ e.2.2.length < 64
/-- at a: a dict of ascending tuples of words -/
structure TDict (H : Hp) (a : Addr) (rs : List Ent) : Prop where
  at_ : H a = some (.dK (rs.map fun e => (e.1, V.ref e.2.1)))
  all : ∀ r ∈ rs, H r.2.1 = some (.tup (r.2.2.map V.str)) ∧ AscS r.2.2
/-- with the same keys, and the same words -/
def Alike (es rs : List Ent) : Prop := Paired (fun (e r : Ent) => r.1 = e.1 ∧ ∀ x, x ∈ r.2.2 ↔ x ∈ e.2.2) es rs
/-- with_ascending(values) -/
def spWA (K : PySem.W.Frag) : Sp := fun vs H Q _ => ∃ (v : V) (es : List Ent), vs = [v] ∧ ((v = .non ∧ es = []) ∨ ∃ a, v = .ref a ∧ LDict K H a es) ∧
  ∀ (H' : Hp) (d : Addr) (rs : List Ent), Same H H' → H d = none → TDict H' d rs → Alike es rs → Q (.ref d) H'
theorem TDict.same {H H' : Hp} {a : Addr} {rs : List Ent} (t : TDict H a rs) (s : Same H H') : TDict H' a rs := ⟨s _ _ t.at_, fun r hr => ⟨s _ _ (t.all r hr).1, (t.all r hr).2⟩⟩
theorem Alike.keys {es rs : List Ent} (h : Alike es rs) : rs.map (·.1) = es.map (·.1) := by
  unfold Alike at h
  induction h with
  | nil => rfl
  | cons h _ ih => rw [List.map_cons, List.map_cons, ih, h.1]
theorem Alike.snoc {es rs : List Ent} {e r : Ent} (h : Alike es rs) (h1 : r.1 = e.1) (h2 : ∀ x, x ∈ r.2.2 ↔ x ∈ e.2.2) : Alike (es ++ [e]) (rs ++ [r]) := by
  unfold Alike at h ⊢
  induction h with
  | nil => exact .cons ⟨h1, h2⟩ .nil
  | cons a _ ih => exact .cons a ih
theorem valV_of_nd {κ : Type} [DecidableEq κ] : ∀ {kvs : List (κ × V)} {k : κ} {v : V}, (kvs.map (·.1)).Nodup → (k, v) ∈ kvs → valV kvs k = some v
  | [], _, _, _, h => (nomatch h)
  | p :: r, k, v, nd, h => by
    have nd : (p.1 :: r.map (·.1)).Nodup := nd
    obtain ⟨n1, n2⟩ := List.nodup_cons.mp nd
    rcases List.mem_cons.mp h with e | h
    · rw [← e]
      exact valV_pos (p := (k, v)) rfl
    · rw [valV_neg fun e => n1 (by rw [e]; exact List.mem_map.mpr ⟨_, h, rfl⟩)]
      exact valV_of_nd n2 h
theorem sqL_lock {K : PySem.W.Frag} {H : Hp} {a la : Addr} {o : HO} {kvs : List (Key × V)} {xs : List V} (ha : H a = some (.dK kvs)) (h : SqL K H la xs) : SqL K (upd H a o) la xs := by
  rcases h with (h | ⟨u, h⟩) | h
  · exact .inl (.inl (by rw [upd_ne (ne_of h ha (fun z => nomatch z))]; exact h))
  · exact .inl (.inr ⟨u, by rw [upd_ne (ne_of h ha (fun z => nomatch z))]; exact h⟩)
  · exact .inr h
theorem sqT_lock {K : PySem.W.Frag} {H : Hp} {a la : Addr} {o : HO} {kvs : List (Key × V)} {xs : List V} (ha : H a = some (.dK kvs)) (h : SqT K H la xs) : SqT K (upd H a o) la xs := by
  rcases h with (h | ⟨u, h⟩) | h
  · exact .inl (.inl (by rw [upd_ne (ne_of h ha (fun z => nomatch z))]; exact h))
  · exact .inl (.inr ⟨u, by rw [upd_ne (ne_of h ha (fun z => nomatch z))]; exact h⟩)
  · exact .inr h
/-- behind the lock all is as it was, and what came new -/
theorem unlock_same {H H' : Hp} {a : Addr} {u w : HO} (ha : H a = some u) (s : Same (upd H a w) H') : Same H (upd H' a u) := fun b o e => by
  by_cases hb : b = a
  · rw [hb, upd_same]
    rw [hb, ha] at e
    exact e
  · rw [upd_ne hb]
    exact s b o (by rw [upd_ne hb]; exact e)
end Sw
namespace Sw
open PySem PySem.Spec PyProof.Rows L2
section
variable {X : Cx}
/-- y = {k: v for .. in ..} on one row, y a local name -/
theorem ps_setDc {i : Nat} {y : Str} {py : Pos} {kx vx tg iter : Expr} {ifs : List Expr} {scope : Scope} {own : List (Str × Nat)} {pos spos : Pos} {wi : TI} {g : TG} {tt : TT} {tk tv : TE} (hc : X.calm = true) (hN : X.N.Nodup) (hy : X.N[i]? = some y) (hyl : X.env.scope.names.lookup y = some .local)
    (hsw : swapsWith (.DictComp kx vx [⟨tg, iter, ifs, 0⟩] scope pos) (some (.Name y py)) spos.line X.env = pure true) (hi : PI X tg iter wi) (ok : BlkOk X.N X.env.scope scope own)
    (hg : ∀ (s : Shared) (H : Hp) (C : Addr) (cl : List (Str × Addr)) (fp : List Addr), PG (X.blk s H scope (compEnvC scope cl C X.env) fp) tg g) (ht : ∀ (s : Shared) (H : Hp) (C : Addr) (cl : List (Str × Addr)) (fp : List Addr), PTs (X.blk s H scope (compEnvC scope cl C X.env) fp) ifs tt) (hk : ∀ (s : Shared) (H : Hp) (C : Addr) (cl : List (Str × Addr)) (fp : List Addr), PE (X.blk s H scope (compEnvC scope cl C X.env) fp) kx tk)
    (he : ∀ (s : Shared) (H : Hp) (C : Addr) (cl : List (Str × Addr)) (fp : List Addr), PE (X.blk s H scope (compEnvC scope cl C X.env) fp) vx tv) (hs : ∀ x, foldedSetIterable iter X.env x = pure x := by intro _; rfl) :
    PS X (.Assign [.Name y py] (.DictComp kx vx [⟨tg, iter, ifs, 0⟩] scope pos) spos) (tAsg (tDc wi g tt tk tv (own.map (·.2))) (gName i)) := by
  refine ⟨fun pins s σ H D I h => ?_⟩
  have hw : tDc wi g tt tk tv (own.map (·.2)) σ H (fun x H1 => gName i x σ H1 D.nx) := h
  rw [exec_Assign_Name_used _ _ _ _ hsw]
  refine wpAny_bind (wpAny_standAt (wpAny_bind (?_ : wpAny _ X.A (do let _ ← comprehension (.DictComp kx vx [⟨tg, iter, ifs, 0⟩] scope pos) scope X.env (firstIterPos [⟨tg, iter, ifs, 0⟩] pos) newDict false (eval iter X.env) (some (assign (.Name y py) X.env))) _ _ s)))
  refine wpAny_bind (thn (dc_core (Qf := fun _ s' => SP X pins D .next s') hc hN I hi ok hg ht hk he hs hw fun L C s' m H' I' q hn f => ?_) fun _ s' hq => wpAny_pure (wpAny_pure hq))
  refine (wpAny_assign_Name (store_ok2 (v := V.ref L) I' hN hy (.inl hyl) rfl (fun s2 I2 ⟨a, sb, ha⟩ => ?_) (.inr hyl)) : wpAny _ _ (assign (.Name y py) X.env (.ref L)) _ _ _)
  obtain ⟨f0, f1, f2, f3, f4, f5⟩ := f
  have hCa : C ≠ a := ha.elim (fun z => by rw [z]; exact f1) fun z e => f4 y a z e.symm
  exact ⟨m, hn.sameBut sb hCa, fun h3 sb3 => ⟨_, H', I2.turned (t' := s2.toks) (fun b o hb e => (sb3.2 b hb).trans e) f0 f1 f3 f4 f5, q⟩⟩
theorem sw_dict {kx vx : Expr} {gs : List Comprehension} {scope : Scope} {pos py : Pos} {y : Str} {l : Nat} {env : Env} (hk : env.scope.kind = .function) (hy : env.scope.names.lookup y = some .local) (hl : (py.line == pos.line) = true)
    (ha : (scope.names.any fun (n, k) => n == y && (k == .local || k == .cell)) = false) : swapsWith (.DictComp kx vx gs scope pos) (some (.Name y py)) l env = pure true := by
  have hky : env.kindOf y = some .local := hy
  have hbk : env.blockKind = .function := by
    unfold Env.blockKind
    rw [hk] <;> rfl
  unfold swapsWith
  simp only [hbk, hky, ha, Expr.pos, hl] <;> rfl
end
end Sw
/-! ## comprehensions of one name -/
namespace Sw
open PySem PySem.Spec PyProof.Rows L2
theorem same_seqT {K : PySem.W.Frag} {H H' : Hp} {a : Addr} {xs : List V} (e : Same H H') (h : SqT K H a xs) : SqT K H' a xs := by
  rcases h with (h | ⟨o, h⟩) | h
  · exact .inl (.inl (e _ _ h))
  · exact .inl (.inr ⟨o, e _ _ h⟩)
  · exact .inr h
theorem wipe_set (σ : L2.St) (j : Nat) (x : Option V) : wipe ((wipe σ [j]).set j x) [j] = wipe σ [j] := by
  show (((σ.set j none).set j x).set j none) = σ.set j none
  rw [List.set_set, List.set_set]
theorem wipe_var {σ : L2.St} {j : Nat} (h : j < σ.length) (x : V) : ((wipe σ [j]).set j (some x))[j]? = some (some x) := by
  rw [List.getElem?_set_self]
  show j < (σ.set j none).length
  rw [List.length_set]
  exact h
/-- {x: True for x in ..} -/
theorem dc_once {J : It} {α : Type} [DecidableEq α] {f : α → Key} (inj : ∀ a b, f a = f b → a = b) {l : List α} {G : Hp → Prop} (w : Walk J l.length G (fun i H x H' => H' = H ∧ ∃ u, l[i]? = some u ∧ x = kV (f u))) {j : Nat} {σ : L2.St} (hj : j < σ.length)
    {H1 : Hp} {D : Addr} {Qd : Hp → Prop} (hG : ∀ o, G (upd H1 D o)) (hl : l.length ≤ 1000) (hd : ∀ us, Once us l → Qd (upd H1 D (.dK (onceK f us)))) :
    ∃ W : Nat → Nat → Hp → Prop, (∃ m, W 0 m (upd H1 D (.dK []))) ∧ ∀ i m H, W i m H →
      (J.stop i H ∧ Qd H) ∨ (J.go i H ∧ ∃ Nx : Hp → Prop, (∀ H', Nx H' → ∃ m', m' < m ∧ W (i + 1) m' H') ∧ ∀ x H', J.yld i H x H' → gName j x (wipe σ [j]) H' fun σ2 H2 => wipe σ2 [j] = wipe σ [j] ∧ tYes σ2 H2 fun b H3 =>
        if b = true then tVar j σ2 H3 fun y H4 => tC (.bl true) σ2 H4 fun z H5 => ∃ kvs k, y = kV k ∧ H5 D = some (.dK kvs) ∧ kvs.length < sizeLine ∧ Nx (upd H5 D (.dK (putK kvs k z))) else Nx H3) := by
  refine ⟨fun i m H => m = l.length - i ∧ i ≤ l.length ∧ ∃ us, Once us (l.take i) ∧ H = upd H1 D (.dK (onceK f us)), ⟨l.length, rfl, Nat.zero_le _, [], Once.nil, rfl⟩, ?_⟩
  rintro i m H ⟨rfl, hi, us, o, rfl⟩
  by_cases hlt : i < l.length
  · refine .inr ⟨w.goes i _ hlt (hG _), fun H' => ∃ us, Once us (l.take (i + 1)) ∧ H' = upd H1 D (.dK (onceK f us)), fun H' ⟨us', o', e⟩ => ⟨l.length - (i + 1), by omega, rfl, hlt, us', o', e⟩, fun x H' y => ?_⟩
    obtain ⟨rfl, u, hu, rfl⟩ := w.yields i _ _ _ hlt (hG _) y
    refine ⟨wipe_set σ j _, ?_⟩
    refine ⟨kV (f u), wipe_var hj _, onceK f us, f u, rfl, upd_same, ?_, if u ∈ us then us else us ++ [u], ?_, ?_⟩
    · unfold onceK
      rw [List.length_map]
      refine Nat.lt_of_le_of_lt o.len ?_
      rw [List.length_take]
      exact Nat.lt_of_le_of_lt (Nat.min_le_right _ _) (small1000 hl)
    · rw [take_snoc hu]
      exact o.snoc u
    · rw [onceK_put inj, upd_upd]
  · have e : i = l.length := by omega
    subst e
    rw [List.take_length] at o
    exact .inl ⟨w.stops _ (hG _), hd us o⟩
/-- {k: v for x in ..}: what holds by the turn and the heap, the new dict at D within -/
theorem dc_it {J : It} {n : Nat} {G : Hp → Prop} {Y : Nat → Hp → V → Hp → Prop} (w : Walk J n G Y) {g : TG} {tt : TT} {tk tv : TE} {vs : List Nat} {σ : L2.St} {H1 : Hp} {D : Addr} {Qd : Hp → Prop} (Pv : Nat → Hp → Prop) (h0 : Pv 0 (upd H1 D (.dK []))) (hG : ∀ i H, i ≤ n → Pv i H → G H)
    (hs : ∀ i x H H', i < n → Pv i H → Y i H x H' → g x (wipe σ vs) H' fun σ2 H2 => wipe σ2 vs = wipe σ vs ∧ tt σ2 H2 fun b H3 =>
      if b = true then tk σ2 H3 fun y H4 => tv σ2 H4 fun z H5 => ∃ kvs k, y = kV k ∧ H5 D = some (.dK kvs) ∧ kvs.length < sizeLine ∧ Pv (i + 1) (upd H5 D (.dK (putK kvs k z))) else Pv (i + 1) H3) (hd : ∀ H, Pv n H → Qd H) :
    ∃ W : Nat → Nat → Hp → Prop, (∃ m, W 0 m (upd H1 D (.dK []))) ∧ ∀ i m H, W i m H →
      (J.stop i H ∧ Qd H) ∨ (J.go i H ∧ ∃ Nx : Hp → Prop, (∀ H', Nx H' → ∃ m', m' < m ∧ W (i + 1) m' H') ∧ ∀ x H', J.yld i H x H' → g x (wipe σ vs) H' fun σ2 H2 => wipe σ2 vs = wipe σ vs ∧ tt σ2 H2 fun b H3 =>
        if b = true then tk σ2 H3 fun y H4 => tv σ2 H4 fun z H5 => ∃ kvs k, y = kV k ∧ H5 D = some (.dK kvs) ∧ kvs.length < sizeLine ∧ Nx (upd H5 D (.dK (putK kvs k z))) else Nx H3) := by
  refine ⟨fun i m H => m = n - i ∧ i ≤ n ∧ Pv i H, ⟨n, rfl, Nat.zero_le _, h0⟩, ?_⟩
  rintro i m H ⟨rfl, hi, p⟩
  by_cases hlt : i < n
  · exact .inr ⟨w.goes i H hlt (hG i H hi p), Pv (i + 1), fun H' p' => ⟨n - (i + 1), by omega, rfl, hlt, p'⟩, fun x H' y => hs i x H H' hlt p (w.yields i H x H' hlt (hG i H hi p) y)⟩
  · obtain rfl : i = n := by omega
    exact .inl ⟨w.stops H (hG i H hi p), hd H p⟩
/-- [out(x) for x in ..], where out reads alone -/
theorem lc_pure {J : It} {α : Type} {val out : α → V} {l : List α} {G : Hp → Prop} (w : Walk J l.length G (fun i H x H' => H' = H ∧ ∃ u, l[i]? = some u ∧ x = val u)) {te : TE} {j : Nat} {σ : L2.St}
    {H1 : Hp} {D : Addr} {Qd : Hp → Prop} (hG : ∀ o, G (upd H1 D o)) (hl : l.length ≤ 1000)
    (ht : ∀ (i : Nat) (u : α) (acc : List V) (Q : VK), l[i]? = some u → Q (out u) (upd H1 D (.lst acc)) → te ((wipe σ [j]).set j (some (val u))) (upd H1 D (.lst acc)) Q) (hd : Qd (upd H1 D (.lst (l.map out)))) :
    ∃ W : Nat → Nat → Hp → Prop, (∃ m, W 0 m (upd H1 D (.lst []))) ∧ ∀ i m H, W i m H →
      (J.stop i H ∧ Qd H) ∨ (J.go i H ∧ ∃ Nx : Hp → Prop, (∀ H', Nx H' → ∃ m', m' < m ∧ W (i + 1) m' H') ∧ ∀ x H', J.yld i H x H' → gName j x (wipe σ [j]) H' fun σ2 H2 => wipe σ2 [j] = wipe σ [j] ∧ tYes σ2 H2 fun b H3 =>
        if b = true then te σ2 H3 fun y H4 => ∃ acc, H4 D = some (.lst acc) ∧ acc.length < sizeLine ∧ Nx (upd H4 D (.lst (acc ++ [y]))) else Nx H3) := by
  refine ⟨fun i m H => m = l.length - i ∧ i ≤ l.length ∧ H = upd H1 D (.lst ((l.take i).map out)), ⟨l.length, rfl, Nat.zero_le _, rfl⟩, ?_⟩
  rintro i m H ⟨rfl, hi, rfl⟩
  by_cases hlt : i < l.length
  · refine .inr ⟨w.goes i _ hlt (hG _), fun H' => H' = upd H1 D (.lst ((l.take (i + 1)).map out)), fun H' e => ⟨l.length - (i + 1), by omega, rfl, hlt, e⟩, fun x H' y => ?_⟩
    obtain ⟨rfl, u, hu, rfl⟩ := w.yields i _ _ _ hlt (hG _) y
    refine ⟨wipe_set σ j _, ?_⟩
    refine ht i u _ _ hu ⟨_, upd_same, ?_, ?_⟩
    · rw [List.length_map, List.length_take]
      exact Nat.lt_of_le_of_lt (Nat.min_le_right _ _) (small1000 hl)
    · rw [take_snoc hu, List.map_append, upd_upd]
      rfl
  · have e : i = l.length := by omega
    subst e
    rw [List.take_length]
    exact .inl ⟨w.stops _ (hG _), hd⟩
/-- walks that give what a list of data stands for -/
theorem YAt.of {α : Type} {val : α → V} {l : List α} {xs : List V} (e : xs = l.map val) : ∀ (i : Nat) (H : Hp) (x : V) (H' : Hp), YAt xs i H x H' → H' = H ∧ ∃ u, l[i]? = some u ∧ x = val u := by
  rintro i H x H' ⟨h1, h2⟩
  rw [e, List.getElem?_map] at h2
  cases hu : l[i]? with
  | none => rw [hu] at h2; cases h2
  | some u =>
    rw [hu] at h2
    exact ⟨h1, u, rfl, (Option.some.inj h2).symm⟩
section
variable {K : PySem.W.Frag} {a d : Addr} {o : Obj} {α : Type} {l : List α}
theorem wk_list {val : α → V} : Walk (Itl K a) l.length (fun H => SqL K H a (l.map val)) (fun i H x H' => H' = H ∧ ∃ u, l[i]? = some u ∧ x = val u) := by
  have w := walk_list (K := K) (a := a) (xs := l.map val)
  rw [List.length_map] at w
  exact w.mono (fun _ h => h) fun i H x H' _ _ y => YAt.of rfl i H x H' y
theorem wk_tup {val : α → V} : Walk (Itt K a) l.length (fun H => SqT K H a (l.map val)) (fun i H x H' => H' = H ∧ ∃ u, l[i]? = some u ∧ x = val u) := by
  have w := walk_tup (K := K) (a := a) (xs := l.map val)
  rw [List.length_map] at w
  exact w.mono (fun _ h => h) fun i H x H' _ _ y => YAt.of rfl i H x H' y
theorem wk_keys {f : α → Key} {kvs : List (Key × V)} (e : kvs.map (·.1) = l.map f) : Walk (Itk d o kvs) l.length (fun H => H d = some (.frz o (.dK kvs))) (fun i H x H' => H' = H ∧ ∃ u, l[i]? = some u ∧ x = kV (f u)) := by
  have w := walk_keys (d := d) (o := o) (kvs := kvs)
  have hl : kvs.length = l.length := by
    have z := congrArg List.length e
    rw [List.length_map, List.length_map] at z
    exact z
  rw [hl] at w
  refine w.mono (fun _ h => h) fun i H x H' _ _ y => ?_
  obtain ⟨h1, k, v, h2, rfl⟩ := y
  have h3 : (kvs.map (·.1))[i]? = some k := by
    rw [List.getElem?_map, h2]
    rfl
  rw [e, List.getElem?_map] at h3
  cases hu : l[i]? with
  | none => rw [hu] at h3; cases h3
  | some u =>
    rw [hu] at h3
    exact ⟨h1, u, rfl, by rw [← Option.some.inj h3]⟩
end
end Sw
namespace Sw
open PySem PySem.Spec PyProof.Rows L2
/-- what is known between two statements is said once -/
def tMid (t u : TS) : TS := fun D σ H => ∃ Mid : L2.St → Hp → Prop, t { D with nx := Mid } σ H ∧ ∀ σ' H', Mid σ' H' → u D σ' H'
theorem pss_mid {X : Cx} {st : Stmt} {rest : List Stmt} {t u : TS} (h1 : PS X st t) (h2 : PSs X rest u) : PSs X (st :: rest) (tMid t u) := by
  refine ⟨fun pins s σ H D I hw => ?_⟩
  obtain ⟨Mid, ht, hu⟩ := hw
  refine wpAny_execs_cons (thn (h1.run pins s σ H { D with nx := Mid } I ht) fun f s1 q => ?_)
  cases f with
  | next => exact q.elim fun σ' q => q.elim fun H' q => h2.run pins s1 σ' H' D q.1 (hu σ' H' q.2)
  | ret _ => exact q
  | brk => exact q
  | cont => exact q
/-- a thing that was locked while something new was made -/
theorem unlock_new {H : Hp} {a D : Addr} {u w o : HO} (ha : H a = some u) (hD : upd H a w D = none) : upd (upd (upd H a w) D o) a u = upd H D o := by
  have ne : a ≠ D := ne_of_none upd_same hD
  funext b
  by_cases hb : b = a
  · rw [hb, upd_same, upd_ne ne, ha]
  · rw [upd_ne hb]
    by_cases hd : b = D
    · rw [hd, upd_same, upd_same]
    · rw [upd_ne hd, upd_ne hd, upd_ne hb]
theorem free_lock {H : Hp} {a D : Addr} {u w : HO} (ha : H a = some u) (hD : upd H a w D = none) : H D = none := by
  have ne : a ≠ D := ne_of_none upd_same hD
  rw [upd_ne ne.symm] at hD
  exact hD
end Sw
namespace Sw
open PySem PySem.Spec PyProof.Rows L2
/-- a table's fields -/
def tabF (nm : Str) (wd : Int) (k l r : Addr) : List (Str × V) := [("name", .str nm), ("width", .int wd), ("key", .ref k), ("lists", .ref l), ("refers", .ref r)]
/-- at x: a table; its key, its lists, its references -/
structure TabAt (K : PySem.W.Frag) (CT : Addr) (H : Hp) (x : Addr) (nm : Str) (wd : Int) (ks : List Int) (ts : List Ent) (rs : List V) : Prop where
  ex : ∃ dx kA lA rA, H x = some (.ins CT dx (tabF nm wd kA lA rA)) ∧ H kA = some (.tup (ks.map V.int)) ∧ TDict H lA ts ∧ SqT K H rA rs
  ks : AscI ks
/-- what the class Table is -/
structure TabC (K : PySem.W.Frag) (CT : Addr) : Prop where
  cl : Cls K CT
  n1 : NoAttr K CT "name"
  n2 : NoAttr K CT "width"
  n3 : NoAttr K CT "key"
  n4 : NoAttr K CT "lists"
  n5 : NoAttr K CT "refers"
/-- all that H knows, but x, is as it was; an empty instance turned into a table -/
def spTab (K : PySem.W.Frag) (CT : Addr) : Sp := fun vs H Q _ => ∃ (x dx kA rA : Addr) (nm : Str) (wd : Int) (ks : List Int) (lv : V) (es : List Ent) (rs : List V), vs = [.ref x, .str nm, .int wd, .ref kA, lv, .ref rA] ∧
  H x = some (.ins CT dx []) ∧ SqT K H kA (ks.map V.int) ∧ ks.length ≤ 100 ∧ ((lv = .non ∧ es = []) ∨ ∃ a, lv = .ref a ∧ LDict K H a es) ∧ SqT K H rA rs ∧
  ∀ (H' : Hp) (ks' : List Int) (ts : List Ent), SBut x H H' → TabAt K CT H' x nm wd ks' ts rs → (∀ z, z ∈ ks' ↔ z ∈ ks) → Alike es ts → Q .non H'
/-- the same, and its dict of lists is new -/
def spTabN (K : PySem.W.Frag) (CT : Addr) : Sp := fun vs H Q _ => ∃ (x dx kA rA : Addr) (nm : Str) (wd : Int) (ks : List Int) (lv : V) (es : List Ent) (rs : List V), vs = [.ref x, .str nm, .int wd, .ref kA, lv, .ref rA] ∧
  H x = some (.ins CT dx []) ∧ SqT K H kA (ks.map V.int) ∧ ks.length ≤ 100 ∧ ((lv = .non ∧ es = []) ∨ ∃ a, lv = .ref a ∧ LDict K H a es) ∧ SqT K H rA rs ∧
  ∀ (H' : Hp) (ks' : List Int) (ts : List Ent), SBut x H H' → TabAt K CT H' x nm wd ks' ts rs → (∀ z, z ∈ ks' ↔ z ∈ ks) → Alike es ts → (∀ dy kB lB rB, H' x = some (.ins CT dy (tabF nm wd kB lB rB)) → H lB = none) → Q .non H'
theorem spTabN_of {K : PySem.W.Frag} {CT : Addr} {vs : List V} {H : Hp} {Q : VK} {E : XK} (h : spTab K CT vs H Q E) : spTabN K CT vs H Q E :=
  let ⟨x, dx, kA, rA, nm, wd, ks, lv, es, rs, h1, h2, h3, h4, h5, h6, q⟩ := h
  ⟨x, dx, kA, rA, nm, wd, ks, lv, es, rs, h1, h2, h3, h4, h5, h6, fun H' ks' ts a b c d _ => q H' ks' ts a b c d⟩
theorem SqT.but {K : PySem.W.Frag} {H H' : Hp} {x a : Addr} {xs : List V} (e : SBut x H H') (h : SqT K H a xs) (hx : ∀ o : HO, H x = some o → (∀ ys, o ≠ .tup ys) ∧ ∀ u ys, o ≠ .frz u (.tup ys)) : SqT K H' a xs := by
  rcases h with (h | ⟨o, h⟩) | h
  · exact .inl (.inl (e _ _ (fun z => (hx _ (by rw [← z]; exact h)).1 _ rfl) h))
  · exact .inl (.inr ⟨o, e _ _ (fun z => (hx _ (by rw [← z]; exact h)).2 _ _ rfl) h⟩)
  · exact .inr h
theorem SqL.but {K : PySem.W.Frag} {H H' : Hp} {x a : Addr} {xs : List V} (e : SBut x H H') (h : SqL K H a xs) (hx : ∀ o : HO, H x = some o → (∀ ys, o ≠ .lst ys) ∧ ∀ u ys, o ≠ .frz u (.lst ys)) : SqL K H' a xs := by
  rcases h with (h | ⟨o, h⟩) | h
  · exact .inl (.inl (e _ _ (fun z => (hx _ (by rw [← z]; exact h)).1 _ rfl) h))
  · exact .inl (.inr ⟨o, e _ _ (fun z => (hx _ (by rw [← z]; exact h)).2 _ _ rfl) h⟩)
  · exact .inr h
theorem LDict.but {K : PySem.W.Frag} {H H' : Hp} {x a C dx : Addr} {fs : List (Str × V)} {es : List Ent} (h : LDict K H a es) (e : SBut x H H') (hx : H x = some (.ins C dx fs)) : LDict K H' a es := by
  refine ⟨e _ _ (ne_of h.at_ hx (fun z => nomatch z)) h.at_, h.nd, h.len, fun r hr => ⟨?_, (h.all r hr).2⟩⟩
  rcases (h.all r hr).1 with z | z
  · exact .inl (SqL.but e z fun o ho => by rw [hx] at ho; cases ho; exact ⟨fun _ y => (nomatch y), fun _ _ y => (nomatch y)⟩)
  · exact .inr (SqT.but e z fun o ho => by rw [hx] at ho; cases ho; exact ⟨fun _ y => (nomatch y), fun _ _ y => (nomatch y)⟩)
theorem sqT_ins {K : PySem.W.Frag} {H H' : Hp} {x a C dx : Addr} {fs : List (Str × V)} {xs : List V} (h : SqT K H a xs) (e : SBut x H H') (hx : H x = some (.ins C dx fs)) : SqT K H' a xs :=
  SqT.but e h fun o ho => by rw [hx] at ho; cases ho; exact ⟨fun _ y => (nomatch y), fun _ _ y => (nomatch y)⟩
theorem SBut.step {x : Addr} {H H1 : Hp} {o : HO} (h : SBut x H H1) : SBut x H (upd H1 x o) := fun b u hb e => by
  rw [upd_ne hb]
  exact h b u hb e
theorem SBut.same {x : Addr} {H H1 H2 : Hp} (h : SBut x H H1) (s : Same H1 H2) : SBut x H H2 := fun b u hb e => s _ _ (h b u hb e)
theorem putF_new {f : Str} {v : V} : ∀ {fs : List (Str × V)}, (∀ p ∈ fs, p.1 ≠ f) → putF f v fs = fs ++ [(f, v)]
  | [], _ => rfl
  | p :: r, h => by
    show (if p.1 = f then _ else p :: putF f v r) = _
    rw [if_neg (h p List.mem_cons_self), putF_new fun q hq => h q (List.mem_cons_of_mem _ hq)]
    rfl
end Sw
namespace Sw
open PySem PySem.Spec PyProof.Rows L2
/-- a table as a schema sees it: its place, its name, where its references lead -/
structure Tb where
  x : Addr
  nm : Str
  zs : List Str
def leads (l : List Tb) (y : Str) : List Str := ((l.find? fun t => decide (t.nm = y)).map Tb.zs).getD []
inductive Rch (l : List Tb) (a : Str) : Str → Prop
  | one {b : Str} : b ∈ leads l a → Rch l a b
  | snoc {b c : Str} : Rch l a b → c ∈ leads l b → Rch l a c
def RefTo (K : PySem.W.Frag) (H : Hp) (v : V) (z : Str) : Prop := ∃ a xs, v = .ref a ∧ SqT K H a xs ∧ xs[1]? = some (.str z)
/-- references that lead to zs -/
structure Lead (K : PySem.W.Frag) (H : Hp) (a : Addr) (rs : List V) (zs : List Str) : Prop where
  at_ : SqT K H a rs
  len : rs.length = zs.length
  sml : zs.length ≤ 100
  all : ∀ (i : Nat) (v : V), rs[i]? = some v → ∃ z, zs[i]? = some z ∧ RefTo K H v z
structure TbAt (K : PySem.W.Frag) (CT : Addr) (H : Hp) (t : Tb) : Prop where
  ex : ∃ dx wd kA lA rA rs, H t.x = some (.ins CT dx (tabF t.nm wd kA lA rA)) ∧ Lead K H rA rs t.zs
def kvT (l : List Tb) : List (Key × V) := l.map fun t => (Sum.inr t.nm, .ref t.x)
/-- at s: a schema whose dict holds kvs, by names -/
def SchemaAt (CS : Addr) (H : Hp) (s : Addr) (kvs : List (Key × V)) : Prop := ∃ dx d, H s = some (.ins CS dx [("named", .ref d)]) ∧ H d = some (.dK kvs)
structure SchAt (K : PySem.W.Frag) (CT CS : Addr) (H : Hp) (S : Addr) (l : List Tb) : Prop where
  ex : SchemaAt CS H S (kvT l)
  tbs : ∀ t ∈ l, TbAt K CT H t
  nd : (l.map Tb.nm).Nodup
  len : l.length ≤ 100
theorem Lead.same {K : PySem.W.Frag} {H H' : Hp} {a : Addr} {rs : List V} {zs : List Str} (h : Lead K H a rs zs) (e : Same H H') : Lead K H' a rs zs :=
  ⟨same_seqT e h.at_, h.len, h.sml, fun i v q => let ⟨z, e1, b, xs, e2, e3, e4⟩ := h.all i v q; ⟨z, e1, b, xs, e2, same_seqT e e3, e4⟩⟩
theorem Lead.but {K : PySem.W.Frag} {H H' : Hp} {a S C dx : Addr} {fs : List (Str × V)} {rs : List V} {zs : List Str} (h : Lead K H a rs zs) (e : SBut S H H') (hx : H S = some (.ins C dx fs)) : Lead K H' a rs zs :=
  ⟨sqT_ins h.at_ e hx, h.len, h.sml, fun i v q => let ⟨z, e1, b, xs, e2, e3, e4⟩ := h.all i v q; ⟨z, e1, b, xs, e2, sqT_ins e3 e hx, e4⟩⟩
theorem TbAt.same {K : PySem.W.Frag} {CT : Addr} {H H' : Hp} {t : Tb} (h : TbAt K CT H t) (e : Same H H') : TbAt K CT H' t := by
  obtain ⟨dx, wd, kA, lA, rA, rs, h1, h2⟩ := h.ex
  exact ⟨dx, wd, kA, lA, rA, rs, e _ _ h1, h2.same e⟩
/-- beside an instance that is no table of this name -/
theorem TbAt.but {K : PySem.W.Frag} {CT S C dS : Addr} {fs : List (Str × V)} {H H' : Hp} {t : Tb} (h : TbAt K CT H t) (e : SBut S H H') (hx : H S = some (.ins C dS fs)) (hl : fs.length ≤ 1) : TbAt K CT H' t := by
  obtain ⟨dx, wd, kA, lA, rA, rs, h1, h2⟩ := h.ex
  refine ⟨dx, wd, kA, lA, rA, rs, e _ _ (fun z => ?_) h1, h2.but e hx⟩
  rw [z, hx] at h1
  have q := congrArg (fun o : Option HO => match o with | some (.ins _ _ f) => f.length | _ => 0) h1
  have q : fs.length = 5 := q
  omega
theorem SchemaAt.same {CS S : Addr} {H H' : Hp} {kvs : List (Key × V)} (h : SchemaAt CS H S kvs) (e : Same H H') : SchemaAt CS H' S kvs := let ⟨a, b, x, y⟩ := h; ⟨a, b, e _ _ x, e _ _ y⟩
theorem SchAt.same {K : PySem.W.Frag} {CT CS S : Addr} {H H' : Hp} {l : List Tb} (h : SchAt K CT CS H S l) (e : Same H H') : SchAt K CT CS H' S l := ⟨h.ex.same e, fun t m => (h.tbs t m).same e, h.nd, h.len⟩
theorem find_nm : ∀ {l : List Tb} {t : Tb}, (l.map Tb.nm).Nodup → t ∈ l → l.find? (fun u => decide (u.nm = t.nm)) = some t
  | [], _, _, h => nomatch h
  | u :: r, t, nd, h => by
    rw [List.find?_cons]
    rcases List.mem_cons.mp h with e | e
    · subst e
      simp
    · have n : u.nm ≠ t.nm := fun z => (List.nodup_cons.mp nd).1 (by rw [z]; exact List.mem_map.mpr ⟨t, e, rfl⟩)
      simp only [n, decide_false]
      exact find_nm (List.nodup_cons.mp nd).2 e
theorem leads_of {l : List Tb} {t : Tb} (nd : (l.map Tb.nm).Nodup) (h : t ∈ l) : leads l t.nm = t.zs := by
  unfold leads
  rw [find_nm nd h]
  rfl
theorem kvT_keys (l : List Tb) : (kvT l).map (·.1) = (l.map Tb.nm).map Sum.inr := by
  unfold kvT
  rw [List.map_map, List.map_map]
  rfl
theorem valV_kvT : ∀ (l : List Tb) (z : Str), valV (kvT l) (Sum.inr z : Key) = (l.find? fun t => decide (t.nm = z)).map fun t => V.ref t.x
  | [], _ => rfl
  | u :: r, z => by
    show valV ((Sum.inr u.nm, V.ref u.x) :: kvT r) (Sum.inr z : Key) = _
    rw [List.find?_cons]
    by_cases e : u.nm = z
    · rw [valV_pos (by rw [e])]
      simp [e]
    · rw [valV_neg (fun q => e (Sum.inr.inj q))]
      simp only [e, decide_false]
      exact valV_kvT r z
theorem valV_tb {l : List Tb} {t : Tb} (nd : (l.map Tb.nm).Nodup) (h : t ∈ l) : valV (kvT l) (Sum.inr t.nm : Key) = some (.ref t.x) := by
  rw [valV_kvT, find_nm nd h]
  rfl
theorem valV_no {l : List Tb} {z : Str} (h : ¬ z ∈ l.map Tb.nm) : valV (kvT l) (Sum.inr z : Key) = none := by
  rw [valV_kvT]
  cases e : l.find? fun t => decide (t.nm = z) with
  | none => rfl
  | some t => exact absurd (List.mem_map.mpr ⟨t, List.mem_of_find?_eq_some e, by have q := List.find?_some e; simpa using q⟩) h
theorem inV_str (z : Str) : ∀ fs : List Str, inV (.str z) (fs.map V.str) = decide (z ∈ fs)
  | [] => by simp [inV]
  | f :: r => by
    have ih : (r.map V.str).any (fun y => eqV y (.str z)) = decide (z ∈ r) := inV_str z r
    show (eqV (.str f) (.str z) || (r.map V.str).any (fun y => eqV y (.str z))) = _
    rw [ih]
    have e : eqV (.str f) (.str z) = (f == z) := rfl
    rw [e]
    by_cases q : f = z
    · simp [q]
    · have q2 : ¬ z = f := fun y => q y.symm
      simp [q, q2]
theorem flat_str : ∀ fs : List Str, (fs.map V.str).all flatV = true
  | [] => rfl
  | _ :: r => by
    show (true && (r.map V.str).all flatV) = true
    rw [flat_str r]
    rfl
theorem nodup_le : ∀ {fs ns : List Str}, fs.Nodup → (∀ z ∈ fs, z ∈ ns) → fs.length ≤ ns.length
  | [], _, _, _ => Nat.zero_le _
  | f :: r, ns, nd, h => by
    have h1 : f ∈ ns := h f List.mem_cons_self
    have ih := nodup_le (fs := r) (ns := ns.erase f) (List.nodup_cons.mp nd).2 fun z hz => (List.mem_erase_of_ne (fun e => (List.nodup_cons.mp nd).1 (by rw [← e]; exact hz))).mpr (h z (List.mem_cons_of_mem _ hz))
    rw [List.length_erase_of_mem h1] at ih
    have : 0 < ns.length := List.length_pos_of_mem h1
    show r.length + 1 ≤ ns.length
    omega
/-- all references lead to tables -/
def Known (l : List Tb) : Prop := ∀ t ∈ l, ∀ z ∈ t.zs, z ∈ l.map Tb.nm
theorem leads_known {l : List Tb} (k : Known l) {y z : Str} (h : z ∈ leads l y) : z ∈ l.map Tb.nm := by
  unfold leads at h
  cases e : l.find? fun t => decide (t.nm = y) with
  | none => rw [e] at h; exact nomatch h
  | some t =>
    rw [e] at h
    exact k t (List.mem_of_find?_eq_some e) z h
theorem Rch.known {l : List Tb} {a b : Str} (h : Rch l a b) (k : Known l) : b ∈ l.map Tb.nm := by
  cases h with
  | one h => exact leads_known k h
  | snoc _ h => exact leads_known k h
theorem nil_or_snoc {α : Type} (l : List α) : l = [] ∨ ∃ a b, l = a ++ [b] := by
  cases h : l with
  | nil => exact .inl rfl
  | cons x r => exact .inr ⟨(x :: r).dropLast, (x :: r).getLast (by simp), (List.dropLast_concat_getLast _).symm⟩
def lenAt (H : Hp) (a : Addr) : Nat := match H a with | some (.lst xs) => xs.length | _ => 0
theorem lenAt_of {H : Hp} {a : Addr} {xs : List V} (h : H a = some (.lst xs)) : lenAt H a = xs.length := by
  unfold lenAt
  rw [h]
/-- schema.reached(name) -/
def spReach (K : PySem.W.Frag) (CT CS : Addr) : Sp := fun vs H Q _ => ∃ (S : Addr) (nm : Str) (l : List Tb), vs = [.ref S, .str nm] ∧ SchAt K CT CS H S l ∧ Known l ∧ nm ∈ l.map Tb.nm ∧
  ∀ (H' : Hp) (F : Addr) (R : List Str), Same H H' → H F = none → H' F = some (.lst (R.map V.str)) → (∀ z, z ∈ R ↔ Rch l nm z) → Q (.ref F) H'
end Sw
namespace Sw
open PySem PySem.Spec PyProof.Rows L2
theorem seq_way {t u : TS} {D : Ends} {σ : L2.St} {H : Hp} (h : t { D with nx := u D } σ H) : tSeq t u D σ H := h
theorem name_way {i : Nat} {v : V} {σ : L2.St} {H : Hp} {Q : L2.St → Hp → Prop} (h : Q (σ.set i (some v)) H) : gName i v σ H Q := h
end Sw
namespace Sw
open PySem PySem.Spec PyProof.Rows L2
/-- the first reference that leads to no table -/
def unkOf (l : List Tb) : Option Str := (l.flatMap Tb.zs).find? fun z => decide (¬ z ∈ l.map Tb.nm)
theorem known_of {l : List Tb} (h : ∀ z ∈ l.flatMap Tb.zs, z ∈ l.map Tb.nm) : Known l := fun t ht z hz => h z (List.mem_flatMap.mpr ⟨t, ht, hz⟩)
theorem find_first {α : Type} {p : α → Bool} : ∀ {l : List α} {i : Nat} {z : α}, (∀ x ∈ l.take i, p x = false) → l[i]? = some z → p z = true → l.find? p = some z
  | [], _, _, _, h, _ => nomatch h
  | x :: r, 0, z, _, h, q => by
    obtain rfl : x = z := Option.some.inj h
    rw [List.find?_cons, q]
  | x :: r, i + 1, z, ha, h, q => by
    rw [List.find?_cons, ha x List.mem_cons_self]
    exact find_first (fun y hy => ha y (List.mem_cons_of_mem _ hy)) h q
theorem kvT_snoc {l : List Tb} {i : Nat} {t : Tb} (nd : (l.map Tb.nm).Nodup) (h : l[i]? = some t) : putK (kvT (l.take i)) (Sum.inr t.nm) (.ref t.x) = kvT (l.take (i + 1)) := by
  have nd2 : ((l.take (i + 1)).map Tb.nm).Nodup := nd.sublist ((List.take_sublist _ _).map _)
  rw [take_snoc h, List.map_append] at nd2
  rw [putK_new, take_snoc h]
  · unfold kvT
    rw [List.map_append]
    rfl
  · exact valV_no fun m => (List.nodup_append.mp nd2).2.2 t.nm m t.nm List.mem_cons_self rfl
/-- [.. for u in .. for v in ..], where out u is what the inner walk gives -/
theorem lc2_pure {J : It} {α : Type} {val : α → V} {Pin : α → Nat → V → Prop} {out : α → List V} {l : List α} {G : Hp → Prop} (w : Walk J l.length G (fun i H x H' => H' = H ∧ ∃ u, l[i]? = some u ∧ x = val u)) {wi1 : TI} {te : TE} {j j1 : Nat} {vs vs1 : List Nat} {σ : L2.St}
    {H1 : Hp} {D : Addr} {Qd : Hp → Prop} (hG : ∀ o, G (upd H1 D o)) (hl : (l.flatMap out).length ≤ 1000)
    (e1 : ∀ v, wipe ((wipe σ vs).set j (some v)) vs = wipe σ vs) (e2 : ∀ v v', wipe ((wipe ((wipe σ vs).set j (some v)) vs1).set j1 (some v')) vs1 = wipe ((wipe σ vs).set j (some v)) vs1)
    (hw : ∀ (u : α) (acc : List V) (R : It → Hp → Prop), u ∈ l → (∀ (J1 : It) (G1 : Hp → Prop), Walk J1 (out u).length G1 (fun k H x H' => H' = H ∧ Pin u k x) → (∀ o, G1 (upd H1 D o)) → R J1 (upd H1 D (.lst acc))) → wi1 ((wipe σ vs).set j (some (val u))) (upd H1 D (.lst acc)) R)
    (ht : ∀ (u : α) (k : Nat) (v y : V) (acc : List V) (Q : VK), u ∈ l → Pin u k v → (out u)[k]? = some y → Q y (upd H1 D (.lst acc)) → te ((wipe ((wipe σ vs).set j (some (val u))) vs1).set j1 (some v)) (upd H1 D (.lst acc)) Q) (hd : Qd (upd H1 D (.lst (l.flatMap out)))) :
    ∃ W : Nat → Nat → Hp → Prop, (∃ m, W 0 m (upd H1 D (.lst []))) ∧ ∀ i m H, W i m H →
      (J.stop i H ∧ Qd H) ∨ (J.go i H ∧ ∃ Nx : Hp → Prop, (∀ H', Nx H' → ∃ m', m' < m ∧ W (i + 1) m' H') ∧ ∀ x H', J.yld i H x H' → gName j x (wipe σ vs) H' fun σ2 H2 => wipe σ2 vs = wipe σ vs ∧ tYes σ2 H2 fun b H3 =>
        if b = true then wi1 σ2 H3 fun J1 H4 => ∃ W1 : Nat → Nat → Hp → Prop, (∃ m, W1 0 m H4) ∧ ∀ j k H, W1 j k H →
          (J1.stop j H ∧ Nx H) ∨ (J1.go j H ∧ ∃ Nx1 : Hp → Prop, (∀ H', Nx1 H' → ∃ k', k' < k ∧ W1 (j + 1) k' H') ∧ ∀ x H', J1.yld j H x H' → gName j1 x (wipe σ2 vs1) H' fun σ3 H5 => wipe σ3 vs1 = wipe σ2 vs1 ∧ tYes σ3 H5 fun b H6 =>
            if b = true then te σ3 H6 fun y H7 => ∃ acc, H7 D = some (.lst acc) ∧ acc.length < sizeLine ∧ Nx1 (upd H7 D (.lst (acc ++ [y]))) else Nx1 H6)
        else Nx H3) := by
  refine ⟨fun i m H => m = l.length - i ∧ i ≤ l.length ∧ H = upd H1 D (.lst ((l.take i).flatMap out)), ⟨l.length, rfl, Nat.zero_le _, rfl⟩, ?_⟩
  rintro i m H ⟨rfl, hi, rfl⟩
  by_cases hlt : i < l.length
  · refine .inr ⟨w.goes i _ hlt (hG _), fun H' => H' = upd H1 D (.lst ((l.take (i + 1)).flatMap out)), fun H' e => ⟨l.length - (i + 1), by omega, rfl, hlt, e⟩, fun x H' y => ?_⟩
    obtain ⟨rfl, u, hu, rfl⟩ := w.yields i _ _ _ hlt (hG _) y
    have hm := List.mem_of_getElem? hu
    refine ⟨e1 _, ?_⟩
    refine hw u _ _ hm fun J1 G1 w1 hG1 => ⟨fun k m H => m = (out u).length - k ∧ k ≤ (out u).length ∧ H = upd H1 D (.lst ((l.take i).flatMap out ++ (out u).take k)), ⟨(out u).length, rfl, Nat.zero_le _, by rw [List.take_zero, List.append_nil]⟩, ?_⟩
    rintro k m H ⟨rfl, hk, rfl⟩
    by_cases hlk : k < (out u).length
    · refine .inr ⟨w1.goes k _ hlk (hG1 _), fun H' => H' = upd H1 D (.lst ((l.take i).flatMap out ++ (out u).take (k + 1))), fun H' e => ⟨(out u).length - (k + 1), by omega, rfl, hlk, e⟩, fun x H' y => ?_⟩
      obtain ⟨rfl, hx⟩ := w1.yields k _ _ _ hlk (hG1 _) y
      have ho : (out u)[k]? = some ((out u)[k]'hlk) := List.getElem?_eq_getElem _
      refine ⟨e2 _ _, ?_⟩
      refine ht u k x _ _ _ hm hx ho ⟨_, upd_same, ?_, ?_⟩
      · refine Nat.lt_of_le_of_lt ?_ (small1000 hl)
        have h2 : l.flatMap out = (l.take i).flatMap out ++ (l.drop i).flatMap out := by rw [← List.flatMap_append, List.take_append_drop]
        have h3 : (l.drop i).flatMap out = out u ++ (l.drop (i + 1)).flatMap out := by
          rw [List.drop_eq_getElem_cons hlt, List.flatMap_cons, (List.getElem?_eq_some_iff.mp hu).2]
        rw [h2, h3]
        simp only [List.length_append, List.length_take]
        omega
      · rw [take_snoc ho, upd_upd, List.append_assoc]
    · have e : k = (out u).length := by omega
      subst e
      refine .inl ⟨w1.stops _ (hG1 _), ?_⟩
      show _ = _
      rw [List.take_length, take_snoc hu, List.flatMap_append]
      simp
  · have e : i = l.length := by omega
    subst e
    rw [List.take_length]
    exact .inl ⟨w.stops _ (hG _), hd⟩
/-- Schema(*tables) -/
def spSchema (K : PySem.W.Frag) (CT CS DU DR : Addr) : Sp := fun vs H Q E => ∃ (S dS : Addr) (l : List Tb), vs = .ref S :: l.map (fun t => V.ref t.x) ∧ H S = some (.ins CS dS []) ∧ (∀ t ∈ l, TbAt K CT H t) ∧ (l.map Tb.nm).Nodup ∧ l.length ≤ 100 ∧ (l.flatMap Tb.zs).length ≤ 1000 ∧
  (∀ u, unkOf l = some u → u.length ≤ 1000 ∧ ∀ (H1 : Hp) (dd : Addr), SBut S H H1 → H1 dd = none → E (.ref DU) (some dd) (upd H1 dd (.xd [("name", .str u)]))) ∧
  (unkOf l = none → (∀ i t, l[i]? = some t → (∀ u ∈ l.take i, ¬ Rch l u.nm u.nm) → Rch l t.nm t.nm → t.nm.length ≤ 1000 ∧ ∀ (H1 : Hp) (dd : Addr), SBut S H H1 → H1 dd = none → E (.ref DR) (some dd) (upd H1 dd (.xd [("name", .str t.nm)]))) ∧
    ((∀ u ∈ l, ¬ Rch l u.nm u.nm) → ∀ H1 : Hp, SBut S H H1 → SchAt K CT CS H1 S l → Q .non H1))
end Sw
namespace Sw
open PySem PySem.Spec PyProof.Rows L2
/-- the j-th of the made tables without references: its name, its width -/
structure TbW (K : PySem.W.Frag) (CT : Addr) (ws : List Str) (wds : List Int) (H : Hp) (j : Nat) (t : Tb) : Prop where
  zs : t.zs = []
  nm : ws[j]? = some t.nm
  at_ : ∃ wd, wds[j]? = some wd ∧ ∃ dx kA lA rA, H t.x = some (.ins CT dx (tabF t.nm wd kA lA rA)) ∧ SqT K H rA []
theorem TbW.same {K : PySem.W.Frag} {CT : Addr} {ws : List Str} {wds : List Int} {H H' : Hp} {j : Nat} {t : Tb} (h : TbW K CT ws wds H j t) (e : Same H H') : TbW K CT ws wds H' j t :=
  ⟨h.zs, h.nm, let ⟨wd, h1, dx, kA, lA, rA, h2, h3⟩ := h.at_; ⟨wd, h1, dx, kA, lA, rA, e _ _ h2, same_seqT e h3⟩⟩
theorem TbW.tb {K : PySem.W.Frag} {CT : Addr} {ws : List Str} {wds : List Int} {H : Hp} {j : Nat} {t : Tb} (h : TbW K CT ws wds H j t) : TbAt K CT H t :=
  ⟨let ⟨wd, _, dx, kA, lA, rA, h2, h3⟩ := h.at_; ⟨dx, wd, kA, lA, rA, [], h2, ⟨h3, by rw [h.zs] <;> rfl, by rw [h.zs]; exact Nat.zero_le _, fun i v e => (nomatch e)⟩⟩⟩
theorem leads_none {l : List Tb} (h : ∀ t ∈ l, t.zs = []) (y : Str) : leads l y = [] := by
  unfold leads
  cases e : l.find? fun t => decide (t.nm = y) with
  | none => rfl
  | some t => exact h t (List.mem_of_find?_eq_some e)
theorem rch_none {l : List Tb} (h : ∀ t ∈ l, t.zs = []) {a b : Str} (r : Rch l a b) : False := by
  cases r with
  | one m => rw [leads_none h] at m; exact nomatch m
  | snoc _ m => rw [leads_none h] at m; exact nomatch m
/-- Schema of tables without references -/
theorem sch_plain {K : PySem.W.Frag} {CT CS DU DR : Addr} {H : Hp} {l : List Tb} {E : XK} {Q : VK} (hz : ∀ t ∈ l, t.zs = []) (htb : ∀ t ∈ l, TbAt K CT H t) (nd : (l.map Tb.nm).Nodup) (hl : l.length ≤ 100) {x dx : Addr} (nx : H x = none) (ndx : H dx = none) (ne : dx ≠ x)
    (q : ∀ H', Same H H' → SchAt K CT CS H' x l → Q .non H') : spSchema K CT CS DU DR (V.ref x :: l.map fun t => V.ref t.x) (upd (upd H dx (.own x)) x (.ins CS dx [])) Q E := by
  have s1 : Same H (upd (upd H dx (.own x)) x (.ins CS dx [])) := (same_new ndx).trans (same_new (by rw [upd_ne ne.symm]; exact nx))
  have hf : l.flatMap Tb.zs = [] := List.flatMap_eq_nil_iff.mpr hz
  have hu : unkOf l = none := by
    unfold unkOf
    rw [hf]
    rfl
  refine ⟨x, dx, l, rfl, upd_same, fun t ht => (htb t ht).same s1, nd, hl, by rw [hf]; exact Nat.zero_le _, fun u h => ?_, fun _ => ⟨fun i t _ _ r => (rch_none hz r).elim, fun _ H1 sb sc => q H1 (fun b o e => sb b o (ne_of_none e nx) (s1 b o e)) sc⟩⟩
  rw [hu] at h
  exact nomatch h
end Sw
namespace Sw
open PySem PySem.Spec PyProof.Rows L2
theorem spSchema_imp {K : PySem.W.Frag} {CT CS DU DR : Addr} {vs : List V} {H : Hp} {E : XK} {Q Q' : VK} (h : spSchema K CT CS DU DR vs H Q E) (hq : ∀ v H', Q v H' → Q' v H') : spSchema K CT CS DU DR vs H Q' E := by
  obtain ⟨S, dS, l, e1, e2, e3, e4, e5, e6, e7, e8⟩ := h
  exact ⟨S, dS, l, e1, e2, e3, e4, e5, e6, e7, fun hn => ⟨(e8 hn).1, fun h1 H1 sb sc => hq _ _ ((e8 hn).2 h1 H1 sb sc)⟩⟩
end Sw
namespace Sw
open PySem PySem.Spec PyProof.Rows L2
theorem not_take {α : Type} {l : List α} {i m : Nat} {x : α} (nd : l.Nodup) (h : l[i]? = some x) (hm : m ≤ i) : ¬ x ∈ l.take m := fun e => by
  have hd : x ∈ l.drop m := by
    refine List.mem_of_getElem? (i := i - m) ?_
    rw [List.getElem?_drop, show m + (i - m) = i by omega]
    exact h
  have nd2 : (l.take m ++ l.drop m).Nodup := by rw [List.take_append_drop]; exact nd
  exact (List.nodup_append.mp nd2).2.2 x e x hd rfl
end Sw
namespace Sw
open PySem PySem.Spec PyProof.Rows L2
/-- isinstance(e, c), e the exception that the suite holds, its class an own one, its fields in its dict -/
def rIsX (K : PySem.W.Frag) (cls : Value) (d : Option Addr) (D a : Addr) : List V → Hp → VK → Prop := fun xs H Q => cls = .ref D ∧ ∃ (dd : Addr) (fs : List (Str × V)) (c : V) (cv : Value) (b : Bool), d = some dd ∧ H dd = some (.xd fs) ∧ xs = [.ref a, c] ∧
  (∀ u, RelV c u → u = cv) ∧ PySem.W.kitOne K (.ref D) cv = some b ∧ Q (.bl b) H
theorem call_isX {X : Cx} {a D : Addr} {cls : Value} {d : Option Addr} {oe : Obj} {pn : List (Addr × Obj)} (C : ExcC X.K D) (hz : Zc cls d oe) (hf : ∃ vs, oe.data = .fields vs) : CallR (X.suite a ((a, oe) :: pn)) (.builtin "isinstance") (rIsX X.K cls d D a) := by
  intro pins s σ H xs us Q I r h
  obtain ⟨ec, dd, fs, c, cv, b, ed, hdd, rfl, hcv, e, q⟩ := h
  obtain ⟨u, w', rfl, ru, rw'⟩ := vals2 r
  cases ru
  have ew := hcv _ rw'
  subst ew
  obtain ⟨mA, hns, -⟩ : ObjOk X.prog X.w H s.heap dd (.xd fs) := I.hok dd _ hdd
  obtain ⟨od, ho, -⟩ := lookIn_ns hns
  have hget := (I.pin (a, oe) (List.mem_append.mpr (.inl List.mem_cons_self))).1
  have J : PySem.W.InstAt s.heap a oe D (some od) := by
    refine ⟨hget, by rw [hz.1, ec], ?_, by rw [hz.2, ed]; exact ho⟩
    obtain ⟨vs, hv⟩ := hf
    unfold PySem.W.notCls
    rw [hv] <;> rfl
  have hcl : (PySem.W.clsIn X.K D).isSome = true := by
    obtain ⟨cd, hc, _⟩ := PySem.W.any_some C.hd
    rw [hc] <;> rfl
  refine PySem.W.kia_one (PySem.W.kitx_exc (x := a) (ox := oe) (od := some od) hcl C.hg C.hk C.hs C.ha C.hn C.ht C.hm) I.kIn J e (fun z => nomatch z) fun tk => ?_
  exact ⟨.bl b, H, I.kept (t' := tk) fun _ _ z => z, rfl, q⟩
end Sw
namespace Sw
open PySem PySem.Spec PyProof.Rows L2
/-- o.m(e, ..) in a try: what it lets out is told by the slots -/
def tMethE (C : Addr) (m : Str) (sp : Sp) (Ex : L2.St → XK) (to : TE) (t : TA) : TE := fun σ H Q =>
  to σ H fun y Ha => ∃ q dq gs, y = .ref q ∧ Ha q = some (.ins C dq gs) ∧ gs.lookup m = none ∧ t σ Ha fun ws Hb => sp (y :: ws) Hb Q (Ex σ)
theorem pe_methE {X : Cx} {CX : CXT} {k : Nat} {f C : Addr} {fd : FuncData} {ps : List Str} {sp : Sp} {Ex : L2.St → XK} {m : Str} {pos apos : Pos} {o e : Expr} {es : List Expr} {to : TE} {t : TA} {look : Sem Bool}
    (ho : PE X o to) (c : Cls X.K C) (hm : Meth X.K C m f) (F : FnOk X.prog X.w X.K X.mg X.base CX k f fd ps sp) (hr : Room k X.A) (hb : Binds X.K fd ps []) (hx : ∀ σ, PassesAt CX X σ (Ex σ)) (ha : PA X (e :: es) t)
    (h1 : starEach (e :: es) X.env = (false, eval e X.env) :: starEach es X.env := by rfl) (h2 : (backTo pos (starEach es X.env)).any (·.1) = false := by rfl)
    (h3 : eval (.Call (.Attribute o m apos) (e :: es) [] pos) X.env = (do
        let whole ← eval o X.env
        standAt apos.atName
        let pair ← holding [whole] (getMethod whole m look)
        callWith pos pair.1 pair.2 (backTo pos (starEach (e :: es) X.env)) (backToKw pos (keywordEach [] X.env))) := by rfl) :
    PE X (.Call (.Attribute o m apos) (e :: es) [] pos) (tMethE C m sp Ex to t) := by
  refine ⟨fun pins s σ H Q I h => ?_⟩
  refine PySem.W.methodCall_KW (pl := look) (thn (ho.run pins s σ H _ I h) fun u sa hu => ?_) h3
  obtain ⟨y, Ha, Ia, ry, q, dq, gs, rfl, eq_, lq, hq⟩ := hu
  obtain rfl : u = Value.ref q := ry
  refine getmeth_ok Ia eq_ c hm lq (PySem.W.callWith_K (first := [.ref q]) (h₀ := X.base) I.ok.mod.kin hm.kp (thn (ha.run pos pins sa σ Ha _ Ia hq) fun us sb hv => ?_) h1 h2)
  obtain ⟨ws, Hb, Ib, rw_, hs⟩ := hv
  exact ⟨Ib.kIn, run_fnS (us := .ref q :: us) (vs := .ref q :: ws) F hr hb (hx σ) Ib (.cons rfl rw_) hs⟩
end Sw
namespace Sw
open PySem PySem.Spec PyProof.Rows L2
/-- a list that stood before the hand at p was dealt -/
theorem sqL_past {K : PySem.W.Frag} {H H1 H2 : Hp} {a p : Addr} {xs : List V} (h : SqL K H a xs) (s : Same H H1) (n : H p = none) (e : SBut p H1 H2) : SqL K H2 a xs := by
  rcases h with (h | ⟨o, h⟩) | h
  · exact .inl (.inl (e _ _ (ne_of_none h n) (s _ _ h)))
  · exact .inl (.inr ⟨o, e _ _ (ne_of_none h n) (s _ _ h)⟩)
  · exact .inr h
end Sw
namespace Sw
open PySem PySem.Spec PyProof.Rows L2
/-- a tuple beside a list that grew -/
theorem sqT_upd {K : PySem.W.Frag} {H : Hp} {a p : Addr} {xs : List V} {o o' : HO} (h : SqT K H a xs) (hp : H p = some o) (n : ∀ ys, o ≠ .tup ys ∧ ∀ u, o ≠ .frz u (.tup ys)) : SqT K (upd H p o') a xs := by
  have go : ∀ w, H a = some w → w ≠ o → upd H p o' a = some w := fun w e z => by
    rw [upd_ne (ne_of e hp z)]
    exact e
  rcases h with (h | ⟨u, h⟩) | h
  · exact .inl (.inl (go _ h fun z => (n xs).1 z.symm))
  · exact .inl (.inr ⟨u, go _ h fun z => (n xs).2 u z.symm⟩)
  · exact .inr h
end Sw
namespace Sw
open PySem PySem.Spec PyProof.Rows L2
/-- a new item put before the first that is not smaller -/
theorem ins_asc {α : Type} {lt : α → α → Prop} [DecidableRel lt] (irr : ∀ x, ¬ lt x x) (tr : ∀ x y z, lt x y → lt y z → lt x z) (tri : ∀ x y, ¬ lt y x → x ≠ y → lt x y) : ∀ (us : List α) (z : α), us.Pairwise lt → ¬ z ∈ us →
    (us.take (us.filter fun u => decide (lt u z)).length ++ [z] ++ us.drop (us.filter fun u => decide (lt u z)).length).Pairwise lt ∧ ∀ x, x ∈ us.take (us.filter fun u => decide (lt u z)).length ++ [z] ++ us.drop (us.filter fun u => decide (lt u z)).length ↔ x ∈ us ∨ x = z
  | [], z, _, _ => by simp
  | u :: r, z, h, n => by
    have n1 : z ≠ u := fun e => n (by rw [e]; exact List.mem_cons_self)
    have n2 : ¬ z ∈ r := fun e => n (List.mem_cons_of_mem _ e)
    obtain ⟨hu, hr⟩ := List.pairwise_cons.mp h
    by_cases c : lt u z
    · have ih := ins_asc irr tr tri r z hr n2
      have e : ((u :: r).filter fun u => decide (lt u z)).length = (r.filter fun u => decide (lt u z)).length + 1 := by
        rw [List.filter_cons_of_pos (by simp [c])]
        rfl
      rw [e]
      refine ⟨List.pairwise_cons.mpr ⟨fun x hx => ?_, ih.1⟩, fun x => ?_⟩
      · rcases (ih.2 x).mp hx with q | q
        · exact hu x q
        · rw [q]
          exact c
      · show x ∈ u :: (r.take _ ++ [z] ++ r.drop _) ↔ _
        rw [List.mem_cons, ih.2 x, List.mem_cons]
        constructor
        · rintro (q | q | q)
          · exact .inl (.inl q)
          · exact .inl (.inr q)
          · exact .inr q
        · rintro ((q | q) | q)
          · exact .inl q
          · exact .inr (.inl q)
          · exact .inr (.inr q)
    · have hz : lt z u := tri z u c n1
      have e : ((u :: r).filter fun u => decide (lt u z)).length = 0 := by
        rw [List.filter_cons_of_neg (by simp [c])]
        rw [List.length_eq_zero_iff, List.filter_eq_nil_iff]
        intro v hv q
        have q : lt v z := of_decide_eq_true q
        exact irr z (tr z u z hz (tr u v z (hu v hv) q))
      rw [e]
      show (z :: (u :: r)).Pairwise lt ∧ ∀ x, x ∈ z :: (u :: r) ↔ _
      refine ⟨List.pairwise_cons.mpr ⟨fun x hx => ?_, h⟩, fun x => ?_⟩
      · rcases List.mem_cons.mp hx with q | q
        · rw [q]
          exact hz
        · exact tr z u x hz (hu x q)
      · rw [List.mem_cons]
        exact ⟨fun q => q.symm, fun q => q.symm⟩
/-- [out(x) for x in .. if p(x)], where p and out read alone -/
theorem lc_filter {J : It} {α : Type} {val out : α → V} {p : α → Bool} {l : List α} {G : Hp → Prop} (w : Walk J l.length G (fun i H x H' => H' = H ∧ ∃ u, l[i]? = some u ∧ x = val u)) {tt : TT} {te : TE} {j : Nat} {vs : List Nat} {σ : L2.St}
    {H1 : Hp} {D : Addr} {Qd : Hp → Prop} (hG : ∀ o, G (upd H1 D o)) (hl : l.length ≤ 1000) (e1 : ∀ v, wipe ((wipe σ vs).set j (some v)) vs = wipe σ vs)
    (hp : ∀ (i : Nat) (u : α) (acc : List V) (Q : Bool → Hp → Prop), l[i]? = some u → Q (p u) (upd H1 D (.lst acc)) → tt ((wipe σ vs).set j (some (val u))) (upd H1 D (.lst acc)) Q)
    (ht : ∀ (i : Nat) (u : α) (acc : List V) (Q : VK), l[i]? = some u → p u = true → Q (out u) (upd H1 D (.lst acc)) → te ((wipe σ vs).set j (some (val u))) (upd H1 D (.lst acc)) Q) (hd : Qd (upd H1 D (.lst ((l.filter p).map out)))) :
    ∃ W : Nat → Nat → Hp → Prop, (∃ m, W 0 m (upd H1 D (.lst []))) ∧ ∀ i m H, W i m H →
      (J.stop i H ∧ Qd H) ∨ (J.go i H ∧ ∃ Nx : Hp → Prop, (∀ H', Nx H' → ∃ m', m' < m ∧ W (i + 1) m' H') ∧ ∀ x H', J.yld i H x H' → gName j x (wipe σ vs) H' fun σ2 H2 => wipe σ2 vs = wipe σ vs ∧ tt σ2 H2 fun b H3 =>
        if b = true then te σ2 H3 fun y H4 => ∃ acc, H4 D = some (.lst acc) ∧ acc.length < sizeLine ∧ Nx (upd H4 D (.lst (acc ++ [y]))) else Nx H3) := by
  refine ⟨fun i m H => m = l.length - i ∧ i ≤ l.length ∧ H = upd H1 D (.lst (((l.take i).filter p).map out)), ⟨l.length, rfl, Nat.zero_le _, rfl⟩, ?_⟩
  rintro i m H ⟨rfl, hi, rfl⟩
  by_cases hlt : i < l.length
  · refine .inr ⟨w.goes i _ hlt (hG _), fun H' => H' = upd H1 D (.lst (((l.take (i + 1)).filter p).map out)), fun H' e => ⟨l.length - (i + 1), by omega, rfl, hlt, e⟩, fun x H' y => ?_⟩
    obtain ⟨rfl, u, hu, rfl⟩ := w.yields i _ _ _ hlt (hG _) y
    refine ⟨e1 _, ?_⟩
    refine hp i u _ _ hu ?_
    cases q : p u with
    | true =>
      refine iteT ?_
      refine ht i u _ _ hu q ⟨_, upd_same, ?_, ?_⟩
      · rw [List.length_map]
        refine Nat.lt_of_le_of_lt (List.length_filter_le _ _) ?_
        rw [List.length_take]
        exact Nat.lt_of_le_of_lt (Nat.min_le_right _ _) (small1000 hl)
      · rw [take_snoc hu, List.filter_append, List.map_append, upd_upd]
        simp [q]
    | false =>
      refine iteF ?_
      rw [take_snoc hu, List.filter_append]
      simp [q]
  · have e : i = l.length := by omega
    subst e
    rw [List.take_length]
    exact .inl ⟨w.stops _ (hG _), hd⟩
instance : DecidableRel SLt := fun x y => inferInstanceAs (Decidable (x.cps.toList < y.cps.toList))
def ILt (x y : Int) : Prop := x < y
instance : DecidableRel ILt := fun x y => inferInstanceAs (Decidable (x < y))
/-- _law_rising(items), of texts, of whole numbers -/
def spRiseS (K : PySem.W.Frag) : Sp := fun vs H Q _ => ∃ (a : Addr) (l : List Str), vs = [.ref a] ∧ SqL K H a (l.map V.str) ∧ l.length ≤ 100 ∧
  ∀ (H' : Hp) (R : Addr) (us : List Str), Same H H' → H R = none → H' R = some (.lst (us.map V.str)) → AscS us → (∀ z, z ∈ us ↔ z ∈ l) → Q (.ref R) H'
def spRiseI (K : PySem.W.Frag) : Sp := fun vs H Q _ => ∃ (a : Addr) (l : List Int), vs = [.ref a] ∧ SqL K H a (l.map V.int) ∧ l.length ≤ 100 ∧
  ∀ (H' : Hp) (R : Addr) (us : List Int), Same H H' → H R = none → H' R = some (.lst (us.map V.int)) → AscI us → (∀ z, z ∈ us ↔ z ∈ l) → Q (.ref R) H'
theorem inV_int (z : Int) : ∀ fs : List Int, inV (.int z) (fs.map V.int) = decide (z ∈ fs)
  | [] => by simp [inV]
  | f :: r => by
    have ih : (r.map V.int).any (fun y => eqV y (.int z)) = decide (z ∈ r) := inV_int z r
    show (eqV (.int f) (.int z) || (r.map V.int).any (fun y => eqV y (.int z))) = _
    rw [ih]
    have e : eqV (.int f) (.int z) = (f == z) := rfl
    rw [e]
    by_cases q : f = z
    · simp [q]
    · have q2 : ¬ z = f := fun y => q y.symm
      simp [q, q2]
theorem flat_int : ∀ fs : List Int, (fs.map V.int).all flatV = true
  | [] => rfl
  | _ :: r => by
    show (true && (r.map V.int).all flatV) = true
    rw [flat_int r]
    rfl
end Sw
namespace Sw
open PySem PySem.Spec PyProof.Rows L2
theorem LDict.same {K : PySem.W.Frag} {H H' : Hp} {a : Addr} {es : List Ent} (h : LDict K H a es) (e : Same H H') : LDict K H' a es :=
  ⟨e _ _ h.at_, h.nd, h.len, fun r hr => ⟨(h.all r hr).1.imp (fun z => e.seq z) (fun z => same_seqT e z), (h.all r hr).2⟩⟩
theorem TabAt.same {K : PySem.W.Frag} {CT : Addr} {H H' : Hp} {x : Addr} {nm : Str} {wd : Int} {ks : List Int} {ts : List Ent} {rs : List V} (h : TabAt K CT H x nm wd ks ts rs) (e : Same H H') : TabAt K CT H' x nm wd ks ts rs :=
  ⟨let ⟨dx, kA, lA, rA, h1, h2, h3, h4⟩ := h.ex; ⟨dx, kA, lA, rA, e _ _ h1, e _ _ h2, h3.same e, same_seqT e h4⟩, h.ks⟩
/-- a dealt table: name, width, key, menus, references -/
structure Rw where
  nm : Str
  wd : Int
  ks : List Int
  es : List Ent
  ls : List (Int × Str × Int)
/-- tuples (column, name, column) -/
structure LeadsV (K : PySem.W.Frag) (H : Hp) (vs : List V) (ls : List (Int × Str × Int)) : Prop where
  len : vs.length = ls.length
  sml : ls.length ≤ 100
  all : ∀ (i : Nat) (v : V), vs[i]? = some v → ∃ e, ls[i]? = some e ∧ ∃ q, v = .ref q ∧ SqT K H q [.int e.1, .str e.2.1, .int e.2.2]
theorem LeadsV.same {K : PySem.W.Frag} {H H' : Hp} {vs : List V} {ls : List (Int × Str × Int)} (h : LeadsV K H vs ls) (e : Same H H') : LeadsV K H' vs ls :=
  ⟨h.len, h.sml, fun i v q => let ⟨z, e1, b, e2, e3⟩ := h.all i v q; ⟨z, e1, b, e2, same_seqT e e3⟩⟩
theorem LeadsV.lead {K : PySem.W.Frag} {H : Hp} {a : Addr} {vs : List V} {ls : List (Int × Str × Int)} (h : LeadsV K H vs ls) (ha : SqT K H a vs) : Lead K H a vs (ls.map fun e => e.2.1) :=
  ⟨ha, by rw [List.length_map]; exact h.len, by rw [List.length_map]; exact h.sml, fun i v q => by
    obtain ⟨z, e1, b, e2, e3⟩ := h.all i v q
    exact ⟨z.2.1, by rw [List.getElem?_map, e1]; rfl, b, _, e2, e3, rfl⟩⟩
structure RwAt (K : PySem.W.Frag) (H : Hp) (v : V) (r : Rw) : Prop where
  ex : ∃ a k m e vs, v = .ref a ∧ SqL K H a [.str r.nm, .int r.wd, .ref k, .ref m, .ref e] ∧ SqL K H k (r.ks.map V.int) ∧ LDict K H m r.es ∧ SqL K H e vs ∧ LeadsV K H vs r.ls
  kl : r.ks.length ≤ 100
  ml : ∀ e ∈ r.es, SqL K H e.2.1 (e.2.2.map V.str)
theorem RwAt.same {K : PySem.W.Frag} {H H' : Hp} {v : V} {r : Rw} (h : RwAt K H v r) (s : Same H H') : RwAt K H' v r :=
  ⟨let ⟨a, k, m, e, vs, h1, h2, h3, h4, h5, h6⟩ := h.ex; ⟨a, k, m, e, vs, h1, s.seq h2, s.seq h3, h4.same s, s.seq h5, h6.same s⟩, h.kl, fun e he => s.seq (h.ml e he)⟩
/-- the list of the dealt tables -/
structure RowsAt (K : PySem.W.Frag) (H : Hp) (a : Addr) (vs : List V) (rows : List Rw) : Prop where
  at_ : SqL K H a vs
  len : vs.length = rows.length
  all : ∀ (i : Nat) (v : V), vs[i]? = some v → ∃ r, rows[i]? = some r ∧ RwAt K H v r
theorem RowsAt.same {K : PySem.W.Frag} {H H' : Hp} {a : Addr} {vs : List V} {rows : List Rw} (h : RowsAt K H a vs rows) (s : Same H H') : RowsAt K H' a vs rows :=
  ⟨s.seq h.at_, h.len, fun i v q => let ⟨r, h1, h2⟩ := h.all i v q; ⟨r, h1, h2.same s⟩⟩
/-- the table that was made of a dealt one -/
structure TbOf (K : PySem.W.Frag) (CT : Addr) (H : Hp) (t : Tb) (r : Rw) : Prop where
  nm : t.nm = r.nm
  zs : t.zs = r.ls.map fun e => e.2.1
  tab : ∃ ks ts vs, TabAt K CT H t.x r.nm r.wd ks ts vs ∧ (∀ z, z ∈ ks ↔ z ∈ r.ks) ∧ Alike r.es ts ∧ LeadsV K H vs r.ls
theorem TbOf.same {K : PySem.W.Frag} {CT : Addr} {H H' : Hp} {t : Tb} {r : Rw} (h : TbOf K CT H t r) (s : Same H H') : TbOf K CT H' t r :=
  ⟨h.nm, h.zs, let ⟨ks, ts, vs, h1, h2, h3, h4⟩ := h.tab; ⟨ks, ts, vs, h1.same s, h2, h3, h4.same s⟩⟩
theorem TbOf.tb {K : PySem.W.Frag} {CT : Addr} {H : Hp} {t : Tb} {r : Rw} (h : TbOf K CT H t r) : TbAt K CT H t := by
  obtain ⟨ks, ts, vs, ⟨⟨dx, kA, lA, rA, h1, h2, h3, h4⟩, _⟩, _, _, h5⟩ := h.tab
  refine ⟨dx, r.wd, kA, lA, rA, vs, by rw [h.nm]; exact h1, ?_⟩
  rw [h.zs]
  exact h5.lead h4
/-- the tables keep the rules of a schema -/
structure Sane (rows : List Rw) : Prop where
  nd : (rows.map Rw.nm).Nodup
  ok : ∀ l : List Tb, l.length = rows.length → (∀ (i : Nat) (t : Tb), l[i]? = some t → ∃ r : Rw, rows[i]? = some r ∧ t.nm = r.nm ∧ t.zs = r.ls.map fun e => e.2.1) → Known l ∧ ∀ u ∈ l, ¬ Rch l u.nm u.nm
  n1 : 1 ≤ rows.length
  n3 : rows.length ≤ 3
  ls : ∀ r ∈ rows, r.ls.length ≤ 100
/-- the schema that was made of the dealt tables -/
structure SchOf (K : PySem.W.Frag) (CT CS : Addr) (H : Hp) (S : Addr) (rows : List Rw) (l : List Tb) : Prop where
  sch : SchAt K CT CS H S l
  len : l.length = rows.length
  all : ∀ (i : Nat) (t : Tb), l[i]? = some t → ∃ r, rows[i]? = some r ∧ TbOf K CT H t r
theorem SchOf.same {K : PySem.W.Frag} {CT CS S : Addr} {H H' : Hp} {rows : List Rw} {l : List Tb} (h : SchOf K CT CS H S rows l) (s : Same H H') : SchOf K CT CS H' S rows l :=
  ⟨h.sch.same s, h.len, fun i t q => let ⟨r, h1, h2⟩ := h.all i t q; ⟨r, h1, h2.same s⟩⟩
/-- _law_build(tables) -/
def spBuild (K : PySem.W.Frag) (CT CS : Addr) : Sp := fun vs H Q _ => ∃ (a : Addr) (xs : List V) (rows : List Rw), vs = [.ref a] ∧ RowsAt K H a xs rows ∧ Sane rows ∧
  ∀ (H' : Hp) (S : Addr) (l : List Tb), Same H H' → H S = none → SchOf K CT CS H' S rows l → Q (.ref S) H'
/-- Schema of tables that keep the rules -/
theorem sch_sane {K : PySem.W.Frag} {CT CS DU DR : Addr} {H : Hp} {l : List Tb} {E : XK} {Q : VK} (kn : Known l) (nr : ∀ u ∈ l, ¬ Rch l u.nm u.nm) (htb : ∀ t ∈ l, TbAt K CT H t) (nd : (l.map Tb.nm).Nodup) (hl : l.length ≤ 100) (hz : (l.flatMap Tb.zs).length ≤ 1000) {x dx : Addr} (nx : H x = none) (ndx : H dx = none) (ne : dx ≠ x)
    (q : ∀ H', Same H H' → SchAt K CT CS H' x l → Q .non H') : spSchema K CT CS DU DR (V.ref x :: l.map fun t => V.ref t.x) (upd (upd H dx (.own x)) x (.ins CS dx [])) Q E := by
  have s1 : Same H (upd (upd H dx (.own x)) x (.ins CS dx [])) := (same_new ndx).trans (same_new (by rw [upd_ne ne.symm]; exact nx))
  have hu : unkOf l = none := List.find?_eq_none.mpr fun z hz => by
    obtain ⟨t, ht, hzt⟩ := List.mem_flatMap.mp hz
    simp [kn t ht z hzt]
  refine ⟨x, dx, l, rfl, upd_same, fun t ht => (htb t ht).same s1, nd, hl, hz, fun u h => ?_, fun _ => ⟨fun i t hi _ r => absurd r (nr t (List.mem_of_getElem? hi)), fun _ H1 sb sc => q H1 (fun b o e => sb b o (ne_of_none e nx) (s1 b o e)) sc⟩⟩
  rw [hu] at h
  exact nomatch h
end Sw
namespace Sw
open PySem PySem.Spec PyProof.Rows L2
theorem flat_len : ∀ {l : List Tb}, (∀ t ∈ l, t.zs.length ≤ 100) → (l.flatMap Tb.zs).length ≤ l.length * 100
  | [], _ => Nat.zero_le _
  | t :: r, h => by
    rw [List.flatMap_cons, List.length_append, List.length_cons]
    have h1 := h t List.mem_cons_self
    have h2 := flat_len (l := r) fun u hu => h u (List.mem_cons_of_mem _ hu)
    omega
theorem len2 {α : Type} {l : List α} (h : l.length = 2) : ∃ a b, l = [a, b] := by
  match l, h with
  | [a, b], _ => exact ⟨a, b, rfl⟩
theorem len3 {α : Type} {l : List α} (h : l.length = 3) : ∃ a b c, l = [a, b, c] := by
  match l, h with
  | [a, b, c], _ => exact ⟨a, b, c, rfl⟩
/-- all but lists is as it was -/
def NotL (H H' : Hp) : Prop := ∀ b o, H b = some o → (∀ ys, o ≠ .lst ys) → H' b = some o
theorem notL_upd {H : Hp} {M : Addr} {ys : List V} {o : HO} (h : H M = some (.lst ys)) : NotL H (upd H M o) := fun b u e n => by
  rw [upd_ne fun z => ?_]
  · exact e
  · rw [z, h] at e
    exact n ys (Option.some.inj e).symm
theorem NotL.tup {K : PySem.W.Frag} {H H' : Hp} {a : Addr} {xs : List V} (e : NotL H H') (h : SqT K H a xs) : SqT K H' a xs := by
  rcases h with (h | ⟨o, h⟩) | h
  · exact .inl (.inl (e _ _ h fun ys z => nomatch z))
  · exact .inl (.inr ⟨o, e _ _ h fun ys z => nomatch z⟩)
  · exact .inr h
theorem LeadsV.notL {K : PySem.W.Frag} {H H' : Hp} {vs : List V} {ls : List (Int × Str × Int)} (h : LeadsV K H vs ls) (e : NotL H H') : LeadsV K H' vs ls :=
  ⟨h.len, h.sml, fun i v q => let ⟨z, e1, b, e2, e3⟩ := h.all i v q; ⟨z, e1, b, e2, e.tup e3⟩⟩
theorem TabAt.notL {K : PySem.W.Frag} {CT : Addr} {H H' : Hp} {x : Addr} {nm : Str} {wd : Int} {ks : List Int} {ts : List Ent} {rs : List V} (h : TabAt K CT H x nm wd ks ts rs) (e : NotL H H') : TabAt K CT H' x nm wd ks ts rs :=
  ⟨let ⟨dx, kA, lA, rA, h1, h2, h3, h4⟩ := h.ex; ⟨dx, kA, lA, rA, e _ _ h1 (fun ys z => nomatch z), e _ _ h2 (fun ys z => nomatch z), ⟨e _ _ h3.at_ (fun ys z => nomatch z), fun r hr => ⟨e _ _ (h3.all r hr).1 (fun ys z => nomatch z), (h3.all r hr).2⟩⟩, e.tup h4⟩, h.ks⟩
theorem TbOf.notL {K : PySem.W.Frag} {CT : Addr} {H H' : Hp} {t : Tb} {r : Rw} (h : TbOf K CT H t r) (s : NotL H H') : TbOf K CT H' t r :=
  ⟨h.nm, h.zs, let ⟨ks, ts, vs, h1, h2, h3, h4⟩ := h.tab; ⟨ks, ts, vs, h1.notL s, h2, h3, h4.notL s⟩⟩
end Sw
namespace Sw
open PySem PySem.Spec PyProof.Rows L2
theorem pick_one (its : List Value) : slicePick its.toArray none none (some 1) = its.toArray := by
  have e : slicePick its.toArray none none (some 1) = slicePick its.toArray none none none := rfl
  rw [e, slicePick_cut]
  have h0 : HT.sIx its.length 0 none = 0 := rfl
  have h1 : HT.sIx its.length its.length none = its.length := rfl
  simp [h0, h1]
/-- xs[::s], s one or minus one -/
def tStep (K : PySem.W.Frag) (te ts : TE) : TE := fun σ H Q => te σ H fun x H1 => ts σ H1 fun y H2 => ∃ s : Int, y = .int s ∧ ∃ (a : Addr) (xs : List V), x = .ref a ∧ SqL K H2 a xs ∧
  ((s = 1 ∧ ∀ p, H2 p = none → Q (.ref p) (upd H2 p (.lst xs))) ∨ (s = -1 ∧ ∀ p, H2 p = none → Q (.ref p) (upd H2 p (.lst xs.reverse))))
theorem pe_step {X : Cx} {e st : Expr} {te ts : TE} {p3 pos : Pos} (he : PE X e te) (hst : PE X st ts) : PE X (.Subscript e (.Slice none none (some st) p3) pos) (tStep X.K te ts) := by
  refine ⟨fun pins s σ H Q I h => ?_⟩
  refine Subscript_ (thn (he.run pins s σ H _ I h) fun v sa ⟨x, Ha, Ia, ra, qa⟩ => ?_)
  refine wpAny_Slice (thn (po_none.run pins sa σ Ha (fun o H2 => o = none ∧ H2 = Ha) Ia ⟨rfl, rfl⟩) fun vl sb ⟨l, Hb, Ib, pl, el, eb⟩ => ?_)
  subst el eb
  refine thn (po_none.run pins sb σ Hb (fun o H3 => o = none ∧ H3 = Hb) Ib ⟨rfl, rfl⟩) fun vu sc ⟨u, Hc, Ic, pu, eu, ec⟩ => ?_
  subst eu ec
  have part : PO X (some st) (tPart ts) := po_some hst
  refine thn (part.run pins sc σ Hc (fun o Hd => match o with | some k => (∃ (a : Addr) (xs : List V), x = .ref a ∧ SqL X.K Hd a xs ∧ ((k = 1 ∧ ∀ p, Hd p = none → Q (.ref p) (upd Hd p (.lst xs))) ∨ (k = -1 ∧ ∀ p, Hd p = none → Q (.ref p) (upd Hd p (.lst xs.reverse))))) | none => False) Ic qa) fun vs sd ⟨o, Hd, Id, ps, w⟩ => ?_
  cases o with
  | none => exact w.elim
  | some k =>
  obtain ⟨a, xs, ex, hx, hq⟩ := w
  subst ex
  cases ra
  have I5 : Inv X pins σ Hd { sd with heap := sd.heap.push { cls := .type "slice", data := .fields #[vl, vu, vs] } } := Id.kept (t' := sd.toks) fun b ob q => Heap.get?_push_of_some _ q
  obtain ⟨its, r, ht, hz⟩ := I5.list hx
  have hlen := r.length
  refine (tail_any (ops := [.ref a, .ref sd.heap.objs.size]) ht.isList.typeIs (PySem.slot_list_getitem.lookup) ?_ (by with_unfolding_all rfl) : wpAny (model X.prog X.w) X.A (subscriptTail e (.Slice none none (some st) p3) (.ref a) (.ref sd.heap.objs.size)) (EP X pins σ Q) X.xe { sd with heap := sd.heap.push { cls := .type "slice", data := .fields #[vl, vu, vs] } })
  refine wpAny_getItem_list_slice ht.isList (Heap.IsSliceOf.new _ vl vu vs) pl pu ps ?_ ?_ (by rw [List.size_toArray]; omega)
  · rcases hq with ⟨rfl, _⟩ | ⟨rfl, _⟩ <;> decide
  rcases hq with ⟨rfl, q⟩ | ⟨rfl, q⟩
  · rw [pick_one]
    exact ⟨.ref _, _, I5.laid (t' := sd.toks) (o := .lst xs) (fun b ob z => Heap.get?_push_of_some _ z) (Nat.le_refl _) ⟨hz, _, 0, r, Heap.get?_push_size _ rfl⟩, rfl, q _ (I5.hok.fresh (Nat.le_refl _))⟩
  · rw [PySem.W.krv_pick]
    exact ⟨.ref _, _, I5.laid (t' := sd.toks) (o := .lst xs.reverse) (fun b ob z => Heap.get?_push_of_some _ z) (Nat.le_refl _) ⟨by rw [List.length_reverse]; exact hz, _, 0, r.reverse, Heap.get?_push_size _ rfl⟩, rfl, q _ (I5.hok.fresh (Nat.le_refl _))⟩
end Sw
namespace Sw
open PySem PySem.Spec PyProof.Rows L2
/-- what holds of every dealt table: of its own -/
structure RwOwn (vals : List Str) (r : Rw) : Prop where
  wd : 1 ≤ r.wd ∧ r.wd ≤ 3
  ks : r.ks.length ≤ 3 ∧ ∀ k ∈ r.ks, 0 ≤ k ∧ k < r.wd
  es : ∀ e ∈ r.es, (∃ c : Int, e.1 = Sum.inl c ∧ 0 ≤ c ∧ c < r.wd) ∧ AscS e.2.2 ∧ e.2.2 ≠ [] ∧ e.2.2.length ≤ 3 ∧ ∀ z ∈ e.2.2, z ∈ vals
/-- a reference from the i-th to a later table -/
def LdOk (ws : List Str) (wds : List Int) (i : Nat) (e : Int × Str × Int) : Prop := ∃ (j : Nat) (v v' : Int), i < j ∧ wds[i]? = some v ∧ wds[j]? = some v' ∧ ws[j]? = some e.2.1 ∧ 0 ≤ e.1 ∧ e.1 < v ∧ 0 ≤ e.2.2 ∧ e.2.2 < v'
/-- the dealt tables, in the order of their names -/
structure Dealt (ws vals : List Str) (rows : List Rw) : Prop where
  nm : rows.map Rw.nm = ws
  own : ∀ r ∈ rows, RwOwn vals r
  ld : ∀ (i : Nat) (r : Rw), rows[i]? = some r → ∀ e ∈ r.ls, LdOk ws (rows.map Rw.wd) i e
  ne : (rows.map fun r => r.es.length).sum ≤ 2
  nl : (rows.map fun r => r.ls.length).sum ≤ 2
/-- _law_deal_tables(hand, names, values) -/
def spDealT (K : PySem.W.Frag) : Sp := fun vs H Q _ => ∃ (h N Va : Addr) (ws vals : List Str), vs = [.ref h, .ref N, .ref Va] ∧ HandAt H h ∧ H N = some (.lst (ws.map V.str)) ∧ H Va = some (.lst (vals.map V.str)) ∧ ws.Nodup ∧ 1 ≤ ws.length ∧ ws.length ≤ 3 ∧ vals.length = 5 ∧
  ∀ (H' : Hp) (T : Addr) (xs : List V) (rows : List Rw), HandAt H' h → SBut h H H' → H T = none → T ≠ h → H' T = some (.lst xs) → (RowsAt K H' T xs rows ∧ Dealt ws vals rows ∨ RowsAt K H' T xs rows.reverse ∧ Dealt ws vals rows) → Q (.ref T) H'
end Sw
namespace Sw
open PySem PySem.Spec PyProof.Rows L2
structure Cell where
  a : Addr
  k : Addr
  m : Addr
  e : Addr
/-- the places of a dealt table -/
structure CellAt (K : PySem.W.Frag) (H : Hp) (c : Cell) (r : Rw) : Prop where
  a : H c.a = some (.lst [.str r.nm, .int r.wd, .ref c.k, .ref c.m, .ref c.e])
  k : H c.k = some (.lst (r.ks.map V.int))
  m : H c.m = some (.dK (r.es.map fun e => (e.1, V.ref e.2.1)))
  mn : (r.es.map (·.1)).Nodup
  me : ∀ e ∈ r.es, H e.2.1 = some (.lst (e.2.2.map V.str)) ∧ e.2.2 ≠ [] ∧ e.2.2.length ≤ 3
  e : ∃ vs, H c.e = some (.lst vs) ∧ LeadsV K H vs r.ls
  kl : r.ks.length ≤ 3
  el : r.es.length ≤ 2
  ll : r.ls.length ≤ 2
def Mine (c : Cell) (r : Rw) (b : Addr) : Prop := b = c.a ∨ b = c.k ∨ b = c.m ∨ b = c.e ∨ ∃ e ∈ r.es, b = e.2.1
theorem SBut.seqT {K : PySem.W.Frag} {H H' : Hp} {x a : Addr} {xs : List V} (e : SBut x H H') (h : SqT K H a xs) (hx : ∃ o, H x = some o ∧ (∀ ys, o ≠ .tup ys) ∧ ∀ u ys, o ≠ .frz u (.tup ys)) : SqT K H' a xs := by
  obtain ⟨o, h1, h2⟩ := hx
  exact SqT.but e h fun o' h' => by rw [h1] at h'; cases h'; exact h2
theorem LeadsV.sbut {K : PySem.W.Frag} {H H' : Hp} {x : Addr} {vs : List V} {ls : List (Int × Str × Int)} (h : LeadsV K H vs ls) (e : SBut x H H') (hx : ∃ o, H x = some o ∧ (∀ ys, o ≠ .tup ys) ∧ ∀ u ys, o ≠ .frz u (.tup ys)) : LeadsV K H' vs ls :=
  ⟨h.len, h.sml, fun i v q => let ⟨z, e1, b, e2, e3⟩ := h.all i v q; ⟨z, e1, b, e2, e.seqT e3 hx⟩⟩
theorem CellAt.sbut {K : PySem.W.Frag} {H H' : Hp} {x : Addr} {c : Cell} {r : Rw} (h : CellAt K H c r) (e : SBut x H H') (n : ∀ b, Mine c r b → b ≠ x) (hx : ∃ o, H x = some o ∧ (∀ ys, o ≠ .tup ys) ∧ ∀ u ys, o ≠ .frz u (.tup ys)) : CellAt K H' c r :=
  ⟨e _ _ (n _ (.inl rfl)) h.a, e _ _ (n _ (.inr (.inl rfl))) h.k, e _ _ (n _ (.inr (.inr (.inl rfl)))) h.m, h.mn, fun u hu => ⟨e _ _ (n _ (.inr (.inr (.inr (.inr ⟨u, hu, rfl⟩))))) (h.me u hu).1, (h.me u hu).2⟩,
    let ⟨vs, h1, h2⟩ := h.e; ⟨vs, e _ _ (n _ (.inr (.inr (.inr (.inl rfl))))) h1, h2.sbut e hx⟩, h.kl, h.el, h.ll⟩
theorem CellAt.same {K : PySem.W.Frag} {H H' : Hp} {c : Cell} {r : Rw} (h : CellAt K H c r) (e : Same H H') : CellAt K H' c r :=
  ⟨e _ _ h.a, e _ _ h.k, e _ _ h.m, h.mn, fun u hu => ⟨e _ _ (h.me u hu).1, (h.me u hu).2⟩, let ⟨vs, h1, h2⟩ := h.e; ⟨vs, e _ _ h1, h2.same e⟩, h.kl, h.el, h.ll⟩
/-- what is mine is a short list or a dict -/
theorem CellAt.mine {K : PySem.W.Frag} {H : Hp} {c : Cell} {r : Rw} {b : Addr} (h : CellAt K H c r) (m : Mine c r b) : (∃ xs, H b = some (.lst xs) ∧ xs.length ≤ 5) ∨ ∃ kvs, H b = some (.dK kvs) := by
  rcases m with rfl | rfl | rfl | rfl | ⟨e, he, rfl⟩
  · exact .inl ⟨_, h.a, Nat.le_refl _⟩
  · exact .inl ⟨_, h.k, by rw [List.length_map]; exact Nat.le_trans h.kl (by decide)⟩
  · exact .inr ⟨_, h.m⟩
  · obtain ⟨vs, h1, h2⟩ := h.e
    exact .inl ⟨vs, h1, by rw [h2.len]; exact Nat.le_trans h.ll (by decide)⟩
  · exact .inl ⟨_, (h.me e he).1, by rw [List.length_map]; exact Nat.le_trans (h.me e he).2.2 (by decide)⟩
/-- short lists and dicts are not the hand -/
theorem hand_short {H : Hp} {h b : Addr} (hh : HandAt H h) (hb : (∃ xs, H b = some (.lst xs) ∧ xs.length ≤ 5) ∨ ∃ kvs, H b = some (.dK kvs)) : b ≠ h := by
  obtain ⟨ns, e, l⟩ := hh
  rintro rfl
  rcases hb with ⟨xs, h1, h2⟩ | ⟨kvs, h1⟩
  · rw [e] at h1
    have := HO.lst.inj (Option.some.inj h1)
    rw [← this, List.length_map] at h2
    omega
  · rw [e] at h1
    cases h1
theorem hand_noTup {H : Hp} {h : Addr} (hh : HandAt H h) : ∃ o, H h = some o ∧ (∀ ys, o ≠ .tup ys) ∧ ∀ u ys, o ≠ .frz u (.tup ys) := by
  obtain ⟨ns, e, l⟩ := hh
  exact ⟨_, e, fun ys z => (nomatch z), fun u ys z => (nomatch z)⟩
/-- the dealt tables at T -/
structure Grid (K : PySem.W.Frag) (H : Hp) (T : Addr) (cs : List Cell) (rows : List Rw) : Prop where
  tb : H T = some (.lst (cs.map fun c => V.ref c.a))
  len : cs.length = rows.length
  sml : cs.length ≤ 3
  all : ∀ (i : Nat) (c : Cell) (r : Rw), cs[i]? = some c → rows[i]? = some r → CellAt K H c r
  ke : ∀ c ∈ cs, ∀ c' ∈ cs, c.k ≠ c'.e
  nE : (cs.map Cell.e).Nodup
  nM : (cs.map Cell.m).Nodup
  nT : ∀ c ∈ cs, T ≠ c.e
theorem Grid.same {K : PySem.W.Frag} {H H' : Hp} {T : Addr} {cs : List Cell} {rows : List Rw} (g : Grid K H T cs rows) (e : Same H H') : Grid K H' T cs rows :=
  ⟨e _ _ g.tb, g.len, g.sml, fun i c r h1 h2 => (g.all i c r h1 h2).same e, g.ke, g.nE, g.nM, g.nT⟩
theorem Grid.hand {K : PySem.W.Frag} {H H' : Hp} {h T : Addr} {cs : List Cell} {rows : List Rw} (g : Grid K H T cs rows) (hh : HandAt H h) (e : SBut h H H') : Grid K H' T cs rows :=
  ⟨e _ _ (hand_short hh (.inl ⟨_, g.tb, by rw [List.length_map]; exact Nat.le_trans g.sml (by decide)⟩)) g.tb, g.len, g.sml, fun i c r h1 h2 => (g.all i c r h1 h2).sbut e (fun b m => hand_short hh ((g.all i c r h1 h2).mine m)) (hand_noTup hh), g.ke, g.nE, g.nM, g.nT⟩
/-- the list of the tables grew by a new one -/
theorem Grid.more {K : PySem.W.Frag} {H H' : Hp} {T : Addr} {cs : List Cell} {rows : List Rw} {c : Cell} {r : Rw} (g : Grid K H T cs rows) (hl : cs.length < 3) (e : Same H H') (hc : CellAt K H' c r) (ne : H c.e = none) (nm : H c.m = none) (nk : c.k ≠ c.e) (nke : ∀ c' ∈ cs, c.k ≠ c'.e)
    (na : c.a ≠ T) (nkT : c.k ≠ T) (nem : ∀ u ∈ r.es, u.2.1 ≠ T) (old : rows = [] ∨ ∀ (i : Nat) (c' : Cell) (r' : Rw), cs[i]? = some c' → rows[i]? = some r' → ∀ b, Mine c' r' b → b ≠ T) : Grid K (upd H' T (.lst (cs.map (fun c => V.ref c.a) ++ [.ref c.a]))) T (cs ++ [c]) (rows ++ [r]) := by
  have hT' := e _ _ g.tb
  have sb : SBut T H' (upd H' T (.lst (cs.map (fun c => V.ref c.a) ++ [.ref c.a]))) := fun b o hb h => by rw [upd_ne hb]; exact h
  have tx : ∃ o, H' T = some o ∧ (∀ ys, o ≠ .tup ys) ∧ ∀ u ys, o ≠ .frz u (.tup ys) := ⟨_, hT', fun ys z => (nomatch z), fun u ys z => (nomatch z)⟩
  have neT : c.e ≠ T := fun z => by rw [z, g.tb] at ne; cases ne
  have nmT : c.m ≠ T := fun z => by rw [z, g.tb] at nm; cases nm
  have inH : ∀ c' ∈ cs, (∃ o, H c'.e = some o) ∧ ∃ o, H c'.m = some o := fun c' h => by
    obtain ⟨i, hi⟩ := List.mem_iff_getElem?.mp h
    have hi2 := (List.getElem?_eq_some_iff.mp hi).1
    have hr := List.getElem?_eq_getElem (show i < rows.length by rw [← g.len]; exact hi2)
    have x := g.all i c' _ hi hr
    obtain ⟨vs, h1, _⟩ := x.e
    exact ⟨⟨_, h1⟩, ⟨_, x.m⟩⟩
  refine ⟨?_, ?_, ?_, ?_, ?_, ?_, ?_, ?_⟩
  · rw [upd_same, List.map_append]
    rfl
  · rw [List.length_append, List.length_append, g.len]
    rfl
  · rw [List.length_append]
    exact hl
  · intro i c' r' h1 h2
    by_cases hi : i < cs.length
    · rw [List.getElem?_append_left hi] at h1
      rw [List.getElem?_append_left (by rw [← g.len]; exact hi)] at h2
      refine ((g.all i c' r' h1 h2).same e).sbut sb ?_ tx
      rcases old with q | q
      · have hl2 := g.len
        rw [q] at hl2
        simp at hl2
        rw [hl2] at hi
        exact absurd hi (Nat.not_lt_zero _)
      · exact q i c' r' h1 h2
    · have ei : i = cs.length := by
        have := (List.getElem?_eq_some_iff.mp h1).1
        rw [List.length_append] at this
        simp at this
        omega
      subst ei
      rw [List.getElem?_append_right (Nat.le_refl _), Nat.sub_self] at h1
      rw [List.getElem?_append_right (by rw [g.len]; exact Nat.le_refl _), g.len, Nat.sub_self] at h2
      obtain rfl : c = c' := Option.some.inj h1
      obtain rfl : r = r' := Option.some.inj h2
      refine hc.sbut sb ?_ tx
      rintro b (rfl | rfl | rfl | rfl | ⟨u, hu, rfl⟩)
      · exact na
      · exact nkT
      · exact nmT
      · exact neT
      · exact nem u hu
  · intro x hx y hy
    rcases List.mem_append.mp hx with hx | hx <;> rcases List.mem_append.mp hy with hy | hy
    · exact g.ke x hx y hy
    · rw [List.mem_singleton.mp hy]
      intro z
      obtain ⟨i, hi⟩ := List.mem_iff_getElem?.mp hx
      have hr := List.getElem?_eq_getElem (show i < rows.length by rw [← g.len]; exact (List.getElem?_eq_some_iff.mp hi).1)
      have x1 := (g.all i x _ hi hr).k
      rw [z, ne] at x1
      cases x1
    · rw [List.mem_singleton.mp hx]
      exact nke y hy
    · rw [List.mem_singleton.mp hx, List.mem_singleton.mp hy]
      exact nk
  · rw [List.map_append, List.nodup_append]
    refine ⟨g.nE, by simp, fun x hx y hy z => ?_⟩
    obtain ⟨c', h1, h2⟩ := List.mem_map.mp hx
    obtain ⟨o, ho⟩ := (inH c' h1).1
    have hy : y = c.e := by simpa using hy
    rw [h2, z, hy, ne] at ho
    cases ho
  · rw [List.map_append, List.nodup_append]
    refine ⟨g.nM, by simp, fun x hx y hy z => ?_⟩
    obtain ⟨c', h1, h2⟩ := List.mem_map.mp hx
    obtain ⟨o, ho⟩ := (inH c' h1).2
    have hy : y = c.m := by simpa using hy
    rw [h2, z, hy, nm] at ho
    cases ho
  · intro x hx
    rcases List.mem_append.mp hx with hx | hx
    · exact g.nT x hx
    · rw [List.mem_singleton.mp hx]
      exact neT.symm
end Sw
namespace Sw
open PySem PySem.Spec PyProof.Rows L2
theorem mine_T {K : PySem.W.Frag} {H : Hp} {c : Cell} {r : Rw} {T x : Addr} {xs : List V} (h : CellAt K H c r) (hT : H T = some (.lst (V.ref x :: xs))) (he : T ≠ c.e) (hes : r.es = []) : ∀ b, Mine c r b → b ≠ T := by
  rintro b (rfl | rfl | rfl | rfl | ⟨u, hu, rfl⟩) z
  · have e := h.a
    rw [z, hT] at e
    have := HO.lst.inj (Option.some.inj e)
    cases this
  · have e := h.k
    rw [z, hT] at e
    have := HO.lst.inj (Option.some.inj e)
    cases hk : r.ks with
    | nil => rw [hk] at this; cases this
    | cons a b => rw [hk] at this; cases this
  · have e := h.m
    rw [z, hT] at e
    cases e
  · exact he z.symm
  · rw [hes] at hu
    cases hu
theorem width_of {v : Int} (h0 : 0 ≤ v) (h5 : v < 5) : ∃ wd : Int, atI [V.int 1, V.int 2, V.int 2, V.int 3, V.int 3] v = some (.int wd) ∧ 1 ≤ wd ∧ wd ≤ 3 := by
  obtain ⟨n, rfl⟩ := Int.eq_ofNat_of_zero_le h0
  have : n = 0 ∨ n = 1 ∨ n = 2 ∨ n = 3 ∨ n = 4 := by omega
  rcases this with rfl | rfl | rfl | rfl | rfl
  · exact ⟨1, atI_nat (j := 0) rfl, by decide, by decide⟩
  · exact ⟨2, atI_nat (j := 1) rfl, by decide, by decide⟩
  · exact ⟨2, atI_nat (j := 2) rfl, by decide, by decide⟩
  · exact ⟨3, atI_nat (j := 3) rfl, by decide, by decide⟩
  · exact ⟨3, atI_nat (j := 4) rfl, by decide, by decide⟩
theorem at4 {α : Type} {a b c d : α} {v : Int} (h0 : 0 ≤ v) (h4 : v < 4) : (v = 0 ∧ atI [a, b, c, d] v = some a) ∨ (v = 1 ∧ atI [a, b, c, d] v = some b) ∨ (v = 2 ∧ atI [a, b, c, d] v = some c) ∨ (v = 3 ∧ atI [a, b, c, d] v = some d) := by
  obtain ⟨n, rfl⟩ := Int.eq_ofNat_of_zero_le h0
  have : n = 0 ∨ n = 1 ∨ n = 2 ∨ n = 3 := by omega
  rcases this with rfl | rfl | rfl | rfl
  · exact .inl ⟨rfl, atI_nat (j := 0) rfl⟩
  · exact .inr (.inl ⟨rfl, atI_nat (j := 1) rfl⟩)
  · exact .inr (.inr (.inl ⟨rfl, atI_nat (j := 2) rfl⟩))
  · exact .inr (.inr (.inr ⟨rfl, atI_nat (j := 3) rfl⟩))
theorem cut01 {wd : Int} (h1 : 1 ≤ wd) (h3 : wd ≤ 3) : ∃ ns : List Int, cutV [V.int 0, V.int 1] none (some (wd - 1)) = ns.map V.int ∧ ns.length ≤ 3 ∧ ∀ k ∈ ns, 0 ≤ k ∧ k < wd := by
  have : wd = 1 ∨ wd = 2 ∨ wd = 3 := by omega
  rcases this with rfl | rfl | rfl
  · exact ⟨[], rfl, by decide, by decide⟩
  · exact ⟨[0], rfl, by decide, by decide⟩
  · exact ⟨[0, 1], rfl, by decide, by decide⟩
end Sw
namespace Sw
open PySem PySem.Spec PyProof.Rows L2
/-- one table changed, at x -/
theorem Grid.chg {K : PySem.W.Frag} {H H' : Hp} {T x : Addr} {cs : List Cell} {rows : List Rw} {i : Nat} {c : Cell} {r' : Rw} (g : Grid K H T cs rows) (hi : cs[i]? = some c) (e : SBut x H H') (hc : CellAt K H' c r') (nT : T ≠ x)
    (hx : ∃ o, H x = some o ∧ (∀ ys, o ≠ .tup ys) ∧ ∀ u ys, o ≠ .frz u (.tup ys)) (old : ∀ (j : Nat) (c1 : Cell) (r1 : Rw), j ≠ i → cs[j]? = some c1 → rows[j]? = some r1 → ∀ b, Mine c1 r1 b → b ≠ x) : Grid K H' T cs (rows.set i r') := by
  refine ⟨e _ _ nT g.tb, by rw [List.length_set]; exact g.len, g.sml, fun j c1 r1 h1 h2 => ?_, g.ke, g.nE, g.nM, g.nT⟩
  by_cases hj : j = i
  · subst hj
    rw [hi] at h1
    obtain rfl : c = c1 := Option.some.inj h1
    have hl : j < rows.length := by
      rw [← g.len]
      exact (List.getElem?_eq_some_iff.mp hi).1
    rw [List.getElem?_set_self hl] at h2
    obtain rfl : r' = r1 := Option.some.inj h2
    exact hc
  · rw [List.getElem?_set_ne (fun z => hj z.symm)] at h2
    exact (g.all j c1 r1 h1 h2).sbut e (old j c1 r1 hj h1 h2) hx
/-- an entry put into a menu's dict -/
def putE (es : List Ent) (k : Key) (R : Addr) (us : List Str) : List Ent := if (es.any fun e => decide (e.1 = k)) = true then es.map (fun e => if e.1 = k then (k, R, us) else e) else es ++ [(k, R, us)]
theorem putE_kv (es : List Ent) (k : Key) (R : Addr) (us : List Str) : putK (es.map fun e => (e.1, V.ref e.2.1)) k (.ref R) = (putE es k R us).map fun e => (e.1, V.ref e.2.1) := by
  have e : ((es.map fun e => (e.1, V.ref e.2.1)).any fun kv => decide (kv.1 = k)) = es.any fun e => decide (e.1 = k) := by
    rw [List.any_map]
    rfl
  unfold putE putK
  rw [e]
  cases es.any fun e => decide (e.1 = k) with
  | true =>
    rw [if_pos rfl, if_pos rfl, List.map_map, List.map_map]
    refine List.map_congr_left fun u _ => ?_
    by_cases q : u.1 = k
    · simp [q]
    · simp [q]
  | false =>
    rw [if_neg Bool.false_ne_true, if_neg Bool.false_ne_true, List.map_append]
    rfl
theorem putE_mem {es : List Ent} {k : Key} {R : Addr} {us : List Str} {u : Ent} (h : u ∈ putE es k R us) : u = (k, R, us) ∨ u ∈ es := by
  unfold putE at h
  split at h
  · obtain ⟨w, h1, h2⟩ := List.mem_map.mp h
    by_cases q : w.1 = k
    · rw [if_pos q] at h2
      exact .inl h2.symm
    · rw [if_neg q] at h2
      rw [← h2]
      exact .inr h1
  · rcases List.mem_append.mp h with q | q
    · exact .inr q
    · exact .inl (List.mem_singleton.mp q)
theorem putE_len (es : List Ent) (k : Key) (R : Addr) (us : List Str) : (putE es k R us).length ≤ es.length + 1 := by
  unfold putE
  split
  · rw [List.length_map]
    exact Nat.le_succ _
  · rw [List.length_append]
    exact Nat.le_refl _
theorem putE_nd {es : List Ent} (nd : (es.map (·.1)).Nodup) (k : Key) (R : Addr) (us : List Str) : ((putE es k R us).map (·.1)).Nodup := by
  unfold putE
  split
  · have e : (es.map fun e => if e.1 = k then (k, R, us) else e).map (·.1) = es.map (·.1) := by
      rw [List.map_map]
      refine List.map_congr_left fun u _ => ?_
      by_cases q : u.1 = k
      · simp [q]
      · simp [q]
    rw [e]
    exact nd
  · rename_i h
    rw [List.map_append, List.nodup_append]
    refine ⟨nd, by simp, fun x hx y hy z => h ?_⟩
    have hy : y = k := by simpa using hy
    obtain ⟨u, h1, h2⟩ := List.mem_map.mp hx
    exact List.any_eq_true.mpr ⟨u, h1, decide_eq_true (by rw [h2, z, hy])⟩
theorem sum_set {α : Type} (f : α → Nat) : ∀ {l : List α} {i : Nat} {a b : α}, l[i]? = some a → f b ≤ f a + 1 → ((l.set i b).map f).sum ≤ (l.map f).sum + 1
  | [], _, _, _, h, _ => nomatch h
  | x :: r, 0, a, b, h, q => by
    obtain rfl : x = a := Option.some.inj h
    show f b + (r.map f).sum ≤ f x + (r.map f).sum + 1
    omega
  | x :: r, i + 1, a, b, h, q => by
    have := sum_set f (l := r) (i := i) (a := a) (b := b) h q
    show f x + ((r.set i b).map f).sum ≤ f x + (r.map f).sum + 1
    omega
theorem le_sum {α : Type} (f : α → Nat) : ∀ {l : List α} {a : α}, a ∈ l → f a ≤ (l.map f).sum
  | x :: r, a, h => by
    rcases List.mem_cons.mp h with rfl | h
    · exact Nat.le_add_right _ _
    · exact Nat.le_trans (le_sum f h) (Nat.le_add_left _ _)
theorem map_set {α β : Type} (f : α → β) {l : List α} {i : Nat} {a b : α} (h : l[i]? = some a) (e : f b = f a) : (l.set i b).map f = l.map f := by
  refine List.ext_getElem? fun j => ?_
  rw [List.getElem?_map, List.getElem?_map]
  by_cases hj : i = j
  · subst hj
    rw [List.getElem?_set_self (List.getElem?_eq_some_iff.mp h).1, h]
    exact congrArg some e
  · rw [List.getElem?_set_ne hj]
theorem mem_set {α : Type} {l : List α} {i : Nat} {b x : α} (h : x ∈ l.set i b) : x = b ∨ x ∈ l := by
  rcases List.mem_or_eq_of_mem_set h with q | q
  · exact .inr q
  · exact .inl q
theorem cut_menu {vals : List Str} (h5 : vals.length = 5) {s u : Int} (s0 : 0 ≤ s) (s3 : s < 3) (u0 : 0 ≤ u) (u3 : u < 3) : ∃ ms : List Str, cutV (vals.map V.str) (some s) (some (s + 1 + u)) = ms.map V.str ∧ ms ≠ [] ∧ ms.length ≤ 3 ∧ ∀ z ∈ ms, z ∈ vals := by
  obtain ⟨n, rfl⟩ := Int.eq_ofNat_of_zero_le s0
  obtain ⟨m, rfl⟩ := Int.eq_ofNat_of_zero_le u0
  have e : (n : Int) + 1 + (m : Int) = ((n + 1 + m : Nat) : Int) := rfl
  have hn : n < 3 := by omega
  have hm : m < 3 := by omega
  refine ⟨(vals.drop n).take (n + 1 + m - n - (n + 1 + m - 5)), ?_, ?_, ?_, ?_⟩
  · unfold cutV
    rw [List.length_map, h5]
    have h1 : HT.sIx 5 0 (some (n : Int)) = n := by
      have := HT.sIx_nat 5 0 n
      have q : min n 5 = n := by omega
      rw [q] at this
      exact this
    have h2 : HT.sIx 5 5 (some ((n : Int) + 1 + (m : Int))) = min (n + 1 + m) 5 := HT.sIx_nat 5 5 (n + 1 + m)
    rw [h1, h2, List.map_take, List.map_drop]
    congr 1
    omega
  · intro z
    have := congrArg List.length z
    rw [List.length_take, List.length_drop, h5] at this
    simp at this
    omega
  · rw [List.length_take]
    omega
  · intro z hz
    exact List.mem_of_mem_drop (List.mem_of_mem_take hz)
end Sw
namespace Sw
open PySem PySem.Spec PyProof.Rows L2
theorem asc_nd : ∀ {us : List Str}, AscS us → us.Nodup
  | [], _ => .nil
  | u :: r, h => List.nodup_cons.mpr ⟨fun m => SLt.irrefl u ((List.pairwise_cons.mp h).1 u m), asc_nd (List.pairwise_cons.mp h).2⟩
theorem asc_sub {us ms : List Str} (as : AscS us) (hm : ∀ z, z ∈ us ↔ z ∈ ms) (h : ms.length ≤ 3) : us.length ≤ 3 := Nat.le_trans (nodup_le (asc_nd as) fun z hz => (hm z).mp hz) h
theorem asc_ne {us ms : List Str} (hm : ∀ z, z ∈ us ↔ z ∈ ms) (h : ms ≠ []) : us ≠ [] := fun e => by
  cases hms : ms with
  | nil => exact h hms
  | cons m r =>
    have : m ∈ us := (hm m).mpr (by rw [hms]; exact List.mem_cons_self)
    rw [e] at this
    cases this
end Sw
namespace Sw
open PySem PySem.Spec PyProof.Rows L2
theorem idx_inj {α β : Type} {f : α → β} : ∀ {l : List α} {i j : Nat} {a b : α}, (l.map f).Nodup → l[i]? = some a → l[j]? = some b → f a = f b → i = j
  | [], _, _, _, _, _, h, _, _ => nomatch h
  | x :: r, 0, 0, _, _, _, _, _, _ => rfl
  | x :: r, 0, j + 1, a, b, nd, h1, h2, e => by
    obtain rfl : x = a := Option.some.inj h1
    have h2 : r[j]? = some b := h2
    exact absurd (List.mem_map.mpr ⟨b, List.mem_of_getElem? h2, e.symm⟩) (List.nodup_cons.mp nd).1
  | x :: r, i + 1, 0, a, b, nd, h1, h2, e => by
    obtain rfl : x = b := Option.some.inj h2
    have h1 : r[i]? = some a := h1
    exact absurd (List.mem_map.mpr ⟨a, List.mem_of_getElem? h1, e⟩) (List.nodup_cons.mp nd).1
  | x :: r, i + 1, j + 1, a, b, nd, h1, h2, e => congrArg (· + 1) (idx_inj (l := r) (List.nodup_cons.mp nd).2 h1 h2 e)
end Sw
namespace Sw
open PySem PySem.Spec PyProof.Rows L2
/-- a list that begins with a text is no list of references -/
theorem lead_ne {K : PySem.W.Frag} {H : Hp} {vs : List V} {ls : List (Int × Str × Int)} {b e : Addr} {xs : List V} {z : Str} (h : LeadsV K H vs ls) (hb : H b = some (.lst xs)) (he : H e = some (.lst vs)) (hx : xs[0]? = some (.str z)) : b ≠ e := by
  rintro rfl
  rw [hb] at he
  have e1 := HO.lst.inj (Option.some.inj he)
  rw [e1] at hx
  obtain ⟨_, _, q, e2, _⟩ := h.all 0 _ hx
  cases e2
theorem LeadsV.snoc {K : PySem.W.Frag} {H : Hp} {vs : List V} {ls : List (Int × Str × Int)} {q : Addr} {e : Int × Str × Int} (h : LeadsV K H vs ls) (hq : SqT K H q [.int e.1, .str e.2.1, .int e.2.2]) (hl : ls.length + 1 ≤ 100) : LeadsV K H (vs ++ [.ref q]) (ls ++ [e]) := by
  refine ⟨by rw [List.length_append, List.length_append, h.len]; rfl, by rw [List.length_append]; exact hl, fun i v hv => ?_⟩
  by_cases hi : i < vs.length
  · rw [List.getElem?_append_left hi] at hv
    obtain ⟨e1, h1, h2⟩ := h.all i v hv
    exact ⟨e1, by rw [List.getElem?_append_left (by rw [← h.len]; exact hi)]; exact h1, h2⟩
  · have ei : i = vs.length := by
      have := (List.getElem?_eq_some_iff.mp hv).1
      rw [List.length_append] at this
      simp at this
      omega
    subst ei
    rw [List.getElem?_append_right (Nat.le_refl _), Nat.sub_self] at hv
    obtain rfl : V.ref q = v := Option.some.inj hv
    exact ⟨e, by rw [h.len, List.getElem?_append_right (Nat.le_refl _), Nat.sub_self]; rfl, q, rfl, hq⟩
theorem strs_head {ms : List Str} (h : ms ≠ []) : ∃ z, (ms.map V.str)[0]? = some (.str z) := by
  cases ms with
  | nil => exact absurd rfl h
  | cons z r => exact ⟨z, rfl⟩
end Sw
namespace Sw
open PySem PySem.Spec PyProof.Rows L2
theorem CellAt.rw {K : PySem.W.Frag} {H : Hp} {c : Cell} {r : Rw} (h : CellAt K H c r) : RwAt K H (.ref c.a) r := by
  obtain ⟨vs, e1, e2⟩ := h.e
  refine ⟨⟨c.a, c.k, c.m, c.e, vs, rfl, SqL.of h.a, SqL.of h.k, ⟨h.m, h.mn, Nat.le_trans h.el (by decide), fun e he => ⟨.inl (SqL.of (h.me e he).1), Nat.lt_of_le_of_lt (h.me e he).2.2 (by decide)⟩⟩, SqL.of e1, e2⟩, Nat.le_trans h.kl (by decide), fun e he => SqL.of (h.me e he).1⟩
theorem Grid.rows {K : PySem.W.Frag} {H : Hp} {T p : Addr} {cs : List Cell} {rows : List Rw} (g : Grid K H T cs rows) (hp : SqL K H p (cs.map fun c => V.ref c.a)) : RowsAt K H p (cs.map fun c => V.ref c.a) rows := by
  refine ⟨hp, by rw [List.length_map]; exact g.len, fun i v hv => ?_⟩
  rw [List.getElem?_map] at hv
  cases hc : cs[i]? with
  | none => rw [hc] at hv; cases hv
  | some c =>
    rw [hc] at hv
    obtain rfl : V.ref c.a = v := Option.some.inj hv
    have hr := List.getElem?_eq_getElem (show i < rows.length by rw [← g.len]; exact (List.getElem?_eq_some_iff.mp hc).1)
    exact ⟨_, hr, (g.all i c _ hc hr).rw⟩
theorem RowsAt.rev {K : PySem.W.Frag} {H : Hp} {T p : Addr} {xs : List V} {rows : List Rw} (h : RowsAt K H T xs rows) (hp : SqL K H p xs.reverse) : RowsAt K H p xs.reverse rows.reverse := by
  refine ⟨hp, by rw [List.length_reverse, List.length_reverse]; exact h.len, fun i v hv => ?_⟩
  have hi : i < xs.length := by
    have := (List.getElem?_eq_some_iff.mp hv).1
    rw [List.length_reverse] at this
    exact this
  rw [List.getElem?_reverse hi] at hv
  obtain ⟨r, h1, h2⟩ := h.all _ v hv
  exact ⟨r, by rw [List.getElem?_reverse (by rw [← h.len]; exact hi), ← h.len]; exact h1, h2⟩
end Sw
namespace Sw
open PySem PySem.Spec PyProof.Rows L2
theorem Dealt.nth {ws vals : List Str} {rows : List Rw} (D : Dealt ws vals rows) {i : Nat} {r : Rw} (h : rows[i]? = some r) : ws[i]? = some r.nm := by
  rw [← D.nm, List.getElem?_map, h]
  rfl
/-- references lead to later names alone -/
theorem Dealt.up {ws vals : List Str} {rows rows' : List Rw} (D : Dealt ws vals rows) (hm : ∀ r ∈ rows', r ∈ rows) {l : List Tb} (hl : ∀ (i : Nat) (t : Tb), l[i]? = some t → ∃ r : Rw, rows'[i]? = some r ∧ t.nm = r.nm ∧ t.zs = r.ls.map fun e => e.2.1) {t : Tb} (ht : t ∈ l) {z : Str} (hz : z ∈ t.zs) :
    ∃ i j : Nat, ws[i]? = some t.nm ∧ ws[j]? = some z ∧ i < j := by
  obtain ⟨k, hk⟩ := List.mem_iff_getElem?.mp ht
  obtain ⟨r, h1, h2, h3⟩ := hl k t hk
  obtain ⟨i, hi⟩ := List.mem_iff_getElem?.mp (hm r (List.mem_of_getElem? h1))
  rw [h3] at hz
  obtain ⟨e, he, rfl⟩ := List.mem_map.mp hz
  obtain ⟨j, v, v', hij, _, _, hj, _⟩ := D.ld i r hi e he
  exact ⟨i, j, by rw [h2]; exact D.nth hi, hj, hij⟩
theorem nd_idx {ws : List Str} (nd : ws.Nodup) {i j : Nat} {a : Str} (h1 : ws[i]? = some a) (h2 : ws[j]? = some a) : i = j := idx_inj (f := id) (by rw [List.map_id]; exact nd) h1 h2 rfl
theorem Dealt.sane {ws vals : List Str} {rows rows' : List Rw} (D : Dealt ws vals rows) (nd : ws.Nodup) (n1 : 1 ≤ ws.length) (n3 : ws.length ≤ 3) (hm : ∀ r, r ∈ rows' ↔ r ∈ rows) (hn : (rows'.map Rw.nm).Nodup) (hlen : rows'.length = rows.length) : Sane rows' := by
  have hwl : rows.length = ws.length := by rw [← D.nm, List.length_map]
  refine ⟨hn, fun l hl ha => ?_, by omega, by omega, fun r hr => ?_⟩
  · have up : ∀ {a b : Str}, b ∈ leads l a → ∃ i j : Nat, ws[i]? = some a ∧ ws[j]? = some b ∧ i < j := fun {a b} h => by
      unfold leads at h
      cases e : l.find? fun t => decide (t.nm = a) with
      | none => rw [e] at h; exact nomatch h
      | some t =>
        rw [e] at h
        have q := List.find?_some e
        have q : t.nm = a := of_decide_eq_true q
        have z := D.up (fun r hr => (hm r).mp hr) ha (List.mem_of_find?_eq_some e) (z := b) h
        rw [q] at z
        exact z
    have names : ∀ z, z ∈ ws → z ∈ l.map Tb.nm := fun z hz => by
      rw [← D.nm] at hz
      obtain ⟨r, hr, rfl⟩ := List.mem_map.mp hz
      obtain ⟨k, hk⟩ := List.mem_iff_getElem?.mp ((hm r).mpr hr)
      have hk2 := (List.getElem?_eq_some_iff.mp hk).1
      have ht := List.getElem?_eq_getElem (show k < l.length by omega)
      obtain ⟨r', h1, h2, _⟩ := ha k _ ht
      rw [hk] at h1
      obtain rfl := Option.some.inj h1
      exact List.mem_map.mpr ⟨_, List.mem_of_getElem? ht, h2⟩
    refine ⟨fun t ht z hz => ?_, fun u hu r => ?_⟩
    · obtain ⟨i, j, _, h2, _⟩ := D.up (fun r hr => (hm r).mp hr) ha ht hz
      exact names z (List.mem_of_getElem? h2)
    · have rk : ∀ {a b : Str}, Rch l a b → ∃ i j : Nat, ws[i]? = some a ∧ ws[j]? = some b ∧ i < j := by
        intro a b r
        induction r with
        | one h => exact up h
        | snoc _ h ih =>
          obtain ⟨i, j, h1, h2, h3⟩ := ih
          obtain ⟨i', k, h4, h5, h6⟩ := up h
          have := nd_idx nd h2 h4
          exact ⟨i, k, h1, h5, by omega⟩
      obtain ⟨i, j, h1, h2, h3⟩ := rk r
      have := nd_idx nd h1 h2
      omega
  · have h1 := le_sum (fun r : Rw => r.ls.length) ((hm r).mp hr)
    have h2 : r.ls.length ≤ (rows.map fun r => r.ls.length).sum := h1
    have := D.nl
    omega
theorem nd_rev {α : Type} {l : List α} (h : l.Nodup) : l.reverse.Nodup := List.pairwise_reverse.mpr (List.Pairwise.imp (fun n z => n z.symm) h)
theorem Dealt.sane0 {ws vals : List Str} {rows : List Rw} (D : Dealt ws vals rows) (nd : ws.Nodup) (n1 : 1 ≤ ws.length) (n3 : ws.length ≤ 3) : Sane rows := D.sane nd n1 n3 (fun _ => .rfl) (by rw [D.nm]; exact nd) rfl
theorem Dealt.saneR {ws vals : List Str} {rows : List Rw} (D : Dealt ws vals rows) (nd : ws.Nodup) (n1 : 1 ≤ ws.length) (n3 : ws.length ≤ 3) : Sane rows.reverse :=
  D.sane nd n1 n3 (fun _ => List.mem_reverse) (by rw [List.map_reverse, D.nm]; exact nd_rev nd) (by rw [List.length_reverse])
end Sw
namespace Sw
open PySem PySem.Spec PyProof.Rows L2
/-- _law_find(tables, name): the dealt table of this name -/
def spFind (K : PySem.W.Frag) : Sp := fun vs H Q _ => ∃ (a : Addr) (z : Str) (xs : List V) (rows : List Rw), vs = [.ref a, .str z] ∧ RowsAt K H a xs rows ∧ rows.length ≤ 100 ∧ z ∈ rows.map Rw.nm ∧
  ∀ (H' : Hp) (i : Nat) (v : V) (r : Rw), Same H H' → xs[i]? = some v → rows[i]? = some r → r.nm = z → Q v H'
/-- the name's references lead down no deeper than d -/
def Ht (rows : List Rw) : Nat → Str → Prop
  | 0, _ => False
  | d + 1, z => z ∈ rows.map Rw.nm ∧ ∀ r ∈ rows, r.nm = z → ∀ e ∈ r.ls, Ht rows d e.2.1
/-- _law_cost(tables, name): some number -/
def spCost (K : PySem.W.Frag) (d : Nat) : Sp := fun vs H Q _ => ∃ (a : Addr) (z : Str) (xs : List V) (rows : List Rw), vs = [.ref a, .str z] ∧ RowsAt K H a xs rows ∧ rows.length ≤ 100 ∧ Ht rows d z ∧ ∀ (H' : Hp) (c : Int), Same H H' → Q (.int c) H'
theorem zip_fst {α β : Type} : ∀ {xs : List α} {ys : List β}, xs.length = ys.length → (xs.zip ys).map Prod.fst = xs
  | [], [], _ => rfl
  | x :: r, y :: s, h => by
    show x :: (r.zip s).map Prod.fst = _
    rw [zip_fst (Nat.succ.inj h)]
theorem zip_at {α β : Type} {xs : List α} {ys : List β} {i : Nat} {u : α × β} (h : (xs.zip ys)[i]? = some u) : xs[i]? = some u.1 ∧ ys[i]? = some u.2 := by
  rw [List.getElem?_zip_eq_some] at h
  exact h
theorem Dealt.ht {ws vals : List Str} {rows rows' : List Rw} (D : Dealt ws vals rows) (nd : ws.Nodup) (hm : ∀ r, r ∈ rows' ↔ r ∈ rows) : ∀ (d i : Nat) (z : Str), ws[i]? = some z → ws.length ≤ i + d → Ht rows' d z
  | 0, i, z, h, hd => by
    have := (List.getElem?_eq_some_iff.mp h).1
    omega
  | d + 1, i, z, h, hd => by
    refine ⟨?_, fun r hr hn e he => ?_⟩
    · have : z ∈ rows.map Rw.nm := by rw [D.nm]; exact List.mem_of_getElem? h
      obtain ⟨r, h1, h2⟩ := List.mem_map.mp this
      exact List.mem_map.mpr ⟨r, (hm r).mpr h1, h2⟩
    · obtain ⟨k, hk⟩ := List.mem_iff_getElem?.mp ((hm r).mp hr)
      have hkn := D.nth hk
      rw [hn] at hkn
      obtain rfl := nd_idx nd hkn h
      obtain ⟨j, v, v', hij, _, _, hj, _⟩ := D.ld k r hk e he
      exact D.ht nd hm d j e.2.1 hj (by omega)
end Sw
namespace Sw
open PySem PySem.Spec PyProof.Rows L2
/-- a list that is not as long as the hand -/
theorem sqL_hand {K : PySem.W.Frag} {H H' : Hp} {h a : Addr} {xs : List V} (q : SqL K H a xs) (hh : HandAt H h) (e : SBut h H H') (l : xs.length ≤ 60) : SqL K H' a xs := by
  obtain ⟨ns, e1, l1⟩ := hh
  rcases q with (q | ⟨o, q⟩) | q
  · refine .inl (.inl (e _ _ (fun z => ?_) q))
    rw [z, e1] at q
    have := HO.lst.inj (Option.some.inj q)
    rw [← this, List.length_map] at l
    omega
  · refine .inl (.inr ⟨o, e _ _ (fun z => ?_) q⟩)
    rw [z, e1] at q
    cases q
  · exact .inr q
theorem sqT_hand {K : PySem.W.Frag} {H H' : Hp} {h a : Addr} {xs : List V} (q : SqT K H a xs) (hh : HandAt H h) (e : SBut h H H') : SqT K H' a xs := e.seqT q (hand_noTup hh)
/-- a short text of real signs -/
def SOk (z : Str) : Prop := z.length ≤ 1000 ∧ PySem.PyData.strOk z = true
/-- begins with the sign of a variable -/
def isV (z : Str) : Bool := decide (V.str (cutS z none (some 1)) = V.str "?")
/-- a list of tuples of short texts -/
structure ShapesAt (K : PySem.W.Frag) (H : Hp) (a : Addr) (xs : List V) (ss : List (List Str)) : Prop where
  at_ : SqL K H a xs
  len : xs.length = ss.length
  sml : ss.length ≤ 10
  all : ∀ (i : Nat) (v : V), xs[i]? = some v → ∃ s, ss[i]? = some s ∧ (∃ q, v = .ref q ∧ SqT K H q (s.map V.str)) ∧ 2 ≤ s.length ∧ s.length ≤ 10 ∧ ∀ z ∈ s, SOk z
theorem ShapesAt.same {K : PySem.W.Frag} {H H' : Hp} {a : Addr} {xs : List V} {ss : List (List Str)} (h : ShapesAt K H a xs ss) (e : Same H H') : ShapesAt K H' a xs ss :=
  ⟨e.seq h.at_, h.len, h.sml, fun i v q => let ⟨s, h1, ⟨b, h2, h3⟩, h4⟩ := h.all i v q; ⟨s, h1, ⟨b, h2, same_seqT e h3⟩, h4⟩⟩
theorem ShapesAt.hand {K : PySem.W.Frag} {H H' : Hp} {h a : Addr} {xs : List V} {ss : List (List Str)} (q : ShapesAt K H a xs ss) (hh : HandAt H h) (e : SBut h H H') : ShapesAt K H' a xs ss :=
  ⟨sqL_hand q.at_ hh e (by rw [q.len]; have := q.sml; omega), q.len, q.sml, fun i v hv => let ⟨s, h1, ⟨b, h2, h3⟩, h4⟩ := q.all i v hv; ⟨s, h1, ⟨b, h2, sqT_hand h3 hh e⟩, h4⟩⟩
def shD (ss : List (List Str)) : List PyData := ss.map fun s => .tuple (s.map .str)
theorem dpStrs {K : PySem.W.Frag} {H : Hp} : ∀ s : List Str, DpAll K H (s.map V.str) (s.map .str)
  | [] => .nil
  | z :: r => .cons (.str z) (dpStrs r)
theorem ShapesAt.dp {K : PySem.W.Frag} {H : Hp} : ∀ {xs : List V} {ss : List (List Str)}, xs.length = ss.length → (∀ (i : Nat) (v : V), xs[i]? = some v → ∃ s, ss[i]? = some s ∧ (∃ q, v = .ref q ∧ SqT K H q (s.map V.str)) ∧ 2 ≤ s.length ∧ s.length ≤ 10 ∧ ∀ z ∈ s, SOk z) → DpAll K H xs (shD ss)
  | [], [], _, _ => .nil
  | x :: xs, s :: ss, hl, h => by
    obtain ⟨s', h1, ⟨q, rfl, h2⟩, _⟩ := h 0 x rfl
    obtain rfl : s = s' := Option.some.inj h1
    exact .cons (.tup h2 (dpStrs s)) (ShapesAt.dp (Nat.succ.inj hl) fun i v hv => h (i + 1) v hv)
theorem canStrs : ∀ {s : List Str}, (∀ z ∈ s, SOk z) → PySem.PyData.canLayAll0 (s.map .str) = true ∧ PySem.PyData.depthAll (s.map .str) = 0
  | [], _ => ⟨rfl, rfl⟩
  | z :: r, h => by
    obtain ⟨h1, h2⟩ := canStrs (s := r) fun x hx => h x (List.mem_cons_of_mem _ hx)
    constructor
    · show (PySem.PyData.strOk z && PySem.PyData.canLayAll0 (r.map .str)) = true
      rw [h1, (h z List.mem_cons_self).2]
      rfl
    · show max 0 (PySem.PyData.depthAll (r.map .str)) = 0
      rw [h2]
      rfl
theorem canShapes : ∀ {ss : List (List Str)}, (∀ s ∈ ss, ∀ z ∈ s, SOk z) → PySem.PyData.canLayAll0 (shD ss) = true ∧ PySem.PyData.depthAll (shD ss) ≤ 1
  | [], _ => ⟨rfl, Nat.zero_le _⟩
  | s :: r, h => by
    obtain ⟨h1, h2⟩ := canShapes (ss := r) fun x hx => h x (List.mem_cons_of_mem _ hx)
    obtain ⟨h3, h4⟩ := canStrs (h s List.mem_cons_self)
    constructor
    · show (PySem.PyData.canLayAll0 (s.map .str) && PySem.PyData.canLayAll0 (shD r)) = true
      rw [h1, h3]
      rfl
    · show max (PySem.PyData.depthAll (s.map .str) + 1) (PySem.PyData.depthAll (shD r)) ≤ 1
      rw [h4]
      omega
theorem shapedShapes {ss : List (List Str)} (h : ∀ s ∈ ss, ∀ z ∈ s, SOk z) : SeqAt.shaped (.list (shD ss)) = true := by
  obtain ⟨h1, h2⟩ := canShapes h
  unfold SeqAt.shaped
  have e1 : PySem.PyData.canLay0 (.list (shD ss)) = true := h1
  have e2 : PySem.PyData.depth (.list (shD ss)) = PySem.PyData.depthAll (shD ss) + 1 := rfl
  rw [e1, e2, decide_eq_true (by omega)]
  rfl
theorem eqvNil (ss : List (List Str)) : PySem.PyData.eqv (.list (shD ss)) (.list []) = ss.isEmpty := by
  cases ss with
  | nil => rfl
  | cons s r => rfl
/-- all variables, in their order, as often as they stand -/
def allVars (ss : List (List Str)) : List Str := ss.flatMap fun s => s.tail.filter isV
/-- _law_vars(shapes): the different variables -/
def spVars (K : PySem.W.Frag) : Sp := fun vs H Q _ => ∃ (a : Addr) (xs : List V) (ss : List (List Str)), vs = [.ref a] ∧ ShapesAt K H a xs ss ∧
  ∀ (H' : Hp) (D : Addr) (us : List Str), Same H H' → H D = none → H' D = some (.lst (us.map V.str)) → us.Nodup → (∀ z, z ∈ us ↔ z ∈ allVars ss) → us.length ≤ 100 → Q (.ref D) H'
theorem cut_tail (s : List Str) (h : 1 ≤ s.length) : cutV (s.map V.str) (some 1) none = s.tail.map V.str := by
  unfold cutV
  have h1 : HT.sIx (s.map V.str).length 0 (some 1) = 1 := by
    have := HT.sIx_nat (s.map V.str).length 0 1
    rw [List.length_map] at this ⊢
    have q : min 1 s.length = 1 := by omega
    rw [q] at this
    exact this
  rw [h1, HT.sIx_none]
  cases s with
  | nil => rfl
  | cons z r =>
    show ((r.map V.str)).take _ = r.map V.str
    rw [List.take_of_length_le]
    simp
theorem cut_upto (xs : List V) (k : Nat) : cutV xs none (some (k : Int)) = xs.take k := by
  unfold cutV
  rw [HT.sIx_none, HT.sIx_nat, List.drop_zero, Nat.sub_zero]
  by_cases h : k ≤ xs.length
  · rw [Nat.min_eq_left h]
  · rw [Nat.min_eq_right (by omega), List.take_length, List.take_of_length_le (by omega)]
theorem allVars_len : ∀ {ss : List (List Str)}, (∀ s ∈ ss, s.length ≤ 10) → (allVars ss).length ≤ ss.length * 10
  | [], _ => Nat.zero_le _
  | s :: r, h => by
    unfold allVars
    rw [List.flatMap_cons, List.length_append, List.length_cons]
    have h1 := h s List.mem_cons_self
    have h2 := List.length_filter_le isV s.tail
    have h3 := allVars_len (ss := r) fun u hu => h u (List.mem_cons_of_mem _ hu)
    unfold allVars at h3
    rw [List.length_tail] at h2
    omega
end Sw
namespace Sw
open PySem PySem.Spec PyProof.Rows L2
/-- a part of a dealt table: its name, then a term for each column -/
def PartOk (rows : List Rw) (tms : List Str) (s : List Str) : Prop := ∃ r ∈ rows, s.head? = some r.nm ∧ (s.tail.length : Int) = r.wd ∧ ∀ z ∈ s.tail, z ∈ tms ∨ ∃ e ∈ r.es, z ∈ e.2.2
/-- what the laws know of dealt tables -/
structure RowsOk (vals : List Str) (rows : List Rw) : Prop where
  own : ∀ r ∈ rows, RwOwn vals r
  ls : ∀ r ∈ rows, r.ls.length ≤ 2
  ht : ∀ r ∈ rows, Ht rows 3 r.nm
  n1 : 1 ≤ rows.length
  n3 : rows.length ≤ 3
  ld : ∀ r ∈ rows, ∀ e ∈ r.ls, 0 ≤ e.1 ∧ e.1 < r.wd ∧ ∃ r' ∈ rows, r'.nm = e.2.1 ∧ 0 ≤ e.2.2 ∧ e.2.2 < r'.wd
/-- _law_parts(hand, tables, terms, many, room) -/
def spParts (K : PySem.W.Frag) : Sp := fun vs H Q _ => ∃ (h T Tm : Addr) (many : Nat) (room : Int) (xs : List V) (rows : List Rw) (vals tms : List Str), vs = [.ref h, .ref T, .ref Tm, .int (many : Int), .int room] ∧ HandAt H h ∧ RowsAt K H T xs rows ∧ RowsOk vals rows ∧ (∀ r ∈ rows, SOk r.nm) ∧ (∀ z ∈ vals, SOk z) ∧
  SqL K H Tm (tms.map V.str) ∧ 1 ≤ tms.length ∧ tms.length ≤ 60 ∧ (∀ z ∈ tms, SOk z) ∧ 1 ≤ many ∧ many ≤ 10 ∧
  ∀ (H' : Hp) (a : Addr) (ys : List V) (ss : List (List Str)), HandAt H' h → SBut h H H' → H a = none → a ≠ h → H' a = some (.lst ys) → ShapesAt K H' a ys ss → 1 ≤ ss.length → ss.length ≤ many → (∀ s ∈ ss, PartOk rows tms s) → Q (.ref a) H'
theorem LeadsV.hand {K : PySem.W.Frag} {H H' : Hp} {h : Addr} {vs : List V} {ls : List (Int × Str × Int)} (q : LeadsV K H vs ls) (hh : HandAt H h) (e : SBut h H H') : LeadsV K H' vs ls := q.sbut e (hand_noTup hh)
theorem RwAt.hand {K : PySem.W.Frag} {H H' : Hp} {h : Addr} {v : V} {r : Rw} {vals : List Str} (q : RwAt K H v r) (hh : HandAt H h) (e : SBut h H H') (o : RwOwn vals r) (l : r.ls.length ≤ 2) : RwAt K H' v r := by
  obtain ⟨⟨a, k, m, el, vs, h1, h2, h3, h4, h5, h6⟩, h7, h8⟩ := q
  refine ⟨⟨a, k, m, el, vs, h1, sqL_hand h2 hh e (by show 5 ≤ 60; decide), sqL_hand h3 hh e (by rw [List.length_map]; have := o.ks.1; omega), ⟨e _ _ (hand_short hh (.inr ⟨_, h4.at_⟩)) h4.at_, h4.nd, h4.len, fun u hu => ⟨(h4.all u hu).1.imp (fun z => sqL_hand z hh e ?_) (fun z => sqT_hand z hh e), (h4.all u hu).2⟩⟩, sqL_hand h5 hh e ?_, h6.hand hh e⟩, h7, fun u hu => sqL_hand (h8 u hu) hh e (by rw [List.length_map]; have := (o.es u hu).2.2.2.1; omega)⟩
  · rw [List.length_map]
    have := (o.es u hu).2.2.2.1
    omega
  · rw [h6.len]
    omega
theorem RowsAt.hand {K : PySem.W.Frag} {H H' : Hp} {h a : Addr} {xs : List V} {rows : List Rw} {vals : List Str} (q : RowsAt K H a xs rows) (hh : HandAt H h) (e : SBut h H H') (o : RowsOk vals rows) : RowsAt K H' a xs rows :=
  ⟨sqL_hand q.at_ hh e (by rw [q.len]; have := o.n3; omega), q.len, fun i v hv => let ⟨r, h1, h2⟩ := q.all i v hv; ⟨r, h1, h2.hand hh e (o.own r (List.mem_of_getElem? h1)) (o.ls r (List.mem_of_getElem? h1))⟩⟩
end Sw
namespace Sw
open PySem PySem.Spec PyProof.Rows L2
theorem valV_ent {es : List Ent} {k : Key} {v : V} (h : valV (es.map fun e => (e.1, V.ref e.2.1)) k = some v) : ∃ e ∈ es, v = .ref e.2.1 := by
  unfold valV at h
  cases hf : (es.map fun e => (e.1, V.ref e.2.1)).find? fun kv => decide (kv.1 = k) with
  | none => rw [hf] at h; cases h
  | some kv =>
    rw [hf] at h
    obtain ⟨e, h1, h2⟩ := List.mem_map.mp (List.mem_of_find?_eq_some hf)
    refine ⟨e, h1, ?_⟩
    rw [← h2] at h
    exact (Option.some.inj h).symm
end Sw
namespace Sw
open PySem PySem.Spec PyProof.Rows L2
theorem same_past {H H' : Hp} {h S : Addr} {o : HO} (e : SBut h H H') (n : H S = none) : SBut h H (upd H' S o) := fun b u hb hu => by
  rw [upd_ne (ne_of_none hu n)]
  exact e b u hb hu
theorem ShapesAt.snoc {K : PySem.W.Frag} {H : Hp} {a q : Addr} {xs : List V} {ss : List (List Str)} {s : List Str} (h : ShapesAt K H a xs ss) (ha : H a = some (.lst xs)) (hq : H q = some (.tup (s.map V.str))) (hl : ss.length < 10) (l2 : 2 ≤ s.length) (l10 : s.length ≤ 10) (hz : ∀ z ∈ s, SOk z) : ShapesAt K (upd H a (.lst (xs ++ [.ref q]))) a (xs ++ [.ref q]) (ss ++ [s]) := by
  have up : ∀ {b : Addr} {ys : List V}, SqT K H b ys → SqT K (upd H a (.lst (xs ++ [.ref q]))) b ys := fun z => sqT_upd z ha (fun ys => ⟨fun z => (nomatch z), fun u z => (nomatch z)⟩)
  refine ⟨SqL.of upd_same, by rw [List.length_append, List.length_append, h.len]; rfl, by rw [List.length_append]; exact hl, fun i v hv => ?_⟩
  by_cases hi : i < xs.length
  · rw [List.getElem?_append_left hi] at hv
    obtain ⟨s', h1, ⟨b, h2, h3⟩, h4⟩ := h.all i v hv
    exact ⟨s', by rw [List.getElem?_append_left (by rw [← h.len]; exact hi)]; exact h1, ⟨b, h2, up h3⟩, h4⟩
  · have ei : i = xs.length := by
      have := (List.getElem?_eq_some_iff.mp hv).1
      rw [List.length_append] at this
      simp at this
      omega
    subst ei
    rw [List.getElem?_append_right (Nat.le_refl _), Nat.sub_self] at hv
    obtain rfl : V.ref q = v := Option.some.inj hv
    exact ⟨s, by rw [h.len, List.getElem?_append_right (Nat.le_refl _), Nat.sub_self]; rfl, ⟨q, rfl, up (SqT.of hq)⟩, l2, l10, hz⟩
end Sw
namespace Sw
open PySem PySem.Spec PyProof.Rows L2
/-- a drawn question -/
structure Ask where
  hd : List Str
  ss : List (List Str)
  es : List Ent
  dup : Bool
/-- the menus of a drawn question's conditions: lists of values, by variables -/
structure Lims (K : PySem.W.Frag) (H : Hp) (a : Addr) (vals vars : List Str) (es : List Ent) : Prop where
  at_ : H a = some (.dK (es.map fun e => (e.1, V.ref e.2.1)))
  nd : (es.map (·.1)).Nodup
  all : ∀ e ∈ es, H e.2.1 = some (.lst (e.2.2.map V.str)) ∧ AscS e.2.2 ∧ e.2.2.length ≤ 3 ∧ (∀ z ∈ e.2.2, z ∈ vals) ∧ ∃ v, e.1 = Sum.inr v ∧ v ∈ vars
theorem Lims.same {K : PySem.W.Frag} {H H' : Hp} {a : Addr} {vals vars : List Str} {es : List Ent} (h : Lims K H a vals vars es) (s : Same H H') : Lims K H' a vals vars es :=
  ⟨s _ _ h.at_, h.nd, fun e he => ⟨s _ _ (h.all e he).1, (h.all e he).2⟩⟩
theorem Lims.hand {K : PySem.W.Frag} {H H' : Hp} {h a : Addr} {vals vars : List Str} {es : List Ent} (q : Lims K H a vals vars es) (hh : HandAt H h) (s : SBut h H H') : Lims K H' a vals vars es :=
  ⟨s _ _ (hand_short hh (.inr ⟨_, q.at_⟩)) q.at_, q.nd, fun e he => ⟨s _ _ (hand_short hh (.inl ⟨_, (q.all e he).1, by rw [List.length_map]; have := (q.all e he).2.2.1; omega⟩)) (q.all e he).1, (q.all e he).2⟩⟩
structure AskAt (K : PySem.W.Frag) (H : Hp) (a : Addr) (vals : List Str) (k : Ask) : Prop where
  ex : ∃ t sh li ys, H a = some (.lst [.ref t, .ref sh, .ref li, .bl k.dup]) ∧ H t = some (.tup (k.hd.map V.str)) ∧ ShapesAt K H sh ys k.ss ∧ Lims K H li vals (allVars k.ss) k.es
theorem AskAt.same {K : PySem.W.Frag} {H H' : Hp} {a : Addr} {vals : List Str} {k : Ask} (h : AskAt K H a vals k) (s : Same H H') : AskAt K H' a vals k :=
  ⟨let ⟨t, sh, li, ys, h1, h2, h3, h4⟩ := h.ex; ⟨t, sh, li, ys, s _ _ h1, s _ _ h2, h3.same s, h4.same s⟩⟩
/-- what a drawn question keeps -/
structure AskOk (rows : List Rw) (vals tms : List Str) (many : Nat) (k : Ask) : Prop where
  n1 : 1 ≤ k.ss.length
  nm : k.ss.length ≤ many
  part : ∀ s ∈ k.ss, PartOk rows (tms ++ vals.take 1) s
  hl : k.hd.length ≤ 3
  hd : ∀ z ∈ k.hd, z ∈ allVars k.ss ∨ z ∈ vals
  el : k.es.length ≤ 100
/-- _law_deal_ask(hand, tables, values, terms, many) -/
def spAsk (K : PySem.W.Frag) : Sp := fun vs H Q _ => ∃ (h T Va Tm : Addr) (many : Nat) (xs : List V) (rows : List Rw) (vals tms : List Str), vs = [.ref h, .ref T, .ref Va, .ref Tm, .int (many : Int)] ∧ HandAt H h ∧ RowsAt K H T xs rows ∧ RowsOk vals rows ∧ (∀ r ∈ rows, SOk r.nm) ∧ (∀ z ∈ vals, SOk z) ∧
  SqL K H Va (vals.map V.str) ∧ vals.length = 5 ∧ SqL K H Tm (tms.map V.str) ∧ tms.length ≤ 50 ∧ (∀ z ∈ tms, SOk z) ∧ 1 ≤ many ∧ many ≤ 9 ∧
  ∀ (H' : Hp) (a : Addr) (k : Ask), HandAt H' h → SBut h H H' → H a = none → a ≠ h → AskAt K H' a vals k → AskOk rows vals tms many k → Q (.ref a) H'
end Sw
namespace Sw
open PySem PySem.Spec PyProof.Rows L2
/-- a value's signs -/
abbrev sgn : Str := "abcdefghijklmnopqrstuvwxyz0123456789"
def isVar (z : Str) : Bool := Txt.startswith z "?"
def inSg (c : Nat) : Bool := !(Builtin.Str.occurrences sgn ⟨#[c]⟩ 0 sgn.length 1).isEmpty
def isTermS (z : Str) : Bool := (decide (1 ≤ (Txt.removeprefix z "?").length) && decide ((Txt.removeprefix z "?").length ≤ 8)) && (TL.tl (Txt.removeprefix z "?")).all inSg
theorem sub_q (z : Str) : Builtin.Str.subAt z "?" 0 = true ↔ (TL.tl z).head? = some 63 := by
  have e : ("?" : Str).cps = #[63] := by decide +kernel
  have l : ("?" : Str).length = 1 := by decide +kernel
  unfold Builtin.Str.subAt
  rw [l, e, beq_iff_eq, ← Array.toList_inj]
  show (z.cps.extract 0 1).toList = [63] ↔ z.cps.toList.head? = some 63
  rw [Array.toList_extract]
  cases h : z.cps.toList with
  | nil => simp
  | cons a r => simp
theorem isVar_iff (z : Str) : isVar z = true ↔ (TL.tl z).head? = some 63 := by
  unfold isVar Txt.startswith
  have l : ("?" : Str).length = 1 := by decide +kernel
  rw [Bool.and_eq_true, sub_q, decide_eq_true_iff, l, len_tl]
  constructor
  · exact fun h => h.2
  · intro h
    refine ⟨?_, h⟩
    cases q : TL.tl z with
    | nil => rw [q] at h; cases h
    | cons a r => simp
theorem wd_var {z : Str} (h : Wd sgn z) : isVar z = false := by
  cases e : isVar z with
  | false => rfl
  | true =>
    have := (isVar_iff z).mp e
    have m : 63 ∈ TL.tl z := List.mem_of_head? this
    have := h.2.2 _ m
    revert this
    decide +kernel
theorem q_tl (z : Str) : TL.tl (("?" : Str) ++ z) = 63 :: TL.tl z := by
  rw [TL.tl_append]
  have : TL.tl ("?" : Str) = [63] := by decide +kernel
  rw [this]
  rfl
theorem q_var (z : Str) : isVar (("?" : Str) ++ z) = true := (isVar_iff _).mpr (by rw [q_tl]; rfl)
theorem inSg_all : ∀ c ∈ TL.tl sgn, inSg c = true := by decide +kernel
theorem cut_q {z : Str} (h : (TL.tl z).head? ≠ some 63) : Txt.removeprefix z "?" = z := by
  unfold Txt.removeprefix
  rw [if_neg (fun c => h ((sub_q z).mp c))]
  rfl
theorem cut_q2 (z : Str) : TL.tl (Txt.removeprefix (("?" : Str) ++ z) "?") = TL.tl z := by
  unfold Txt.removeprefix
  rw [if_pos ((sub_q _).mpr (by rw [q_tl]; rfl))]
  have l : ("?" : Str).length = 1 := by decide +kernel
  have lz := len_tl (("?" : Str) ++ z)
  rw [q_tl, List.length_cons] at lz
  rw [l]
  show TL.tl (if (((("?" : Str) ++ z).length - 1) == (("?" : Str) ++ z).length) = true then ("?" : Str) ++ z else Builtin.Str.strSub (("?" : Str) ++ z) 1 (("?" : Str) ++ z).length) = _
  rw [if_neg (by rw [beq_iff_eq]; omega)]
  show ((("?" : Str) ++ z).cps.extract 1 (("?" : Str) ++ z).length).toList = _
  rw [Array.toList_extract]
  have e : (("?" : Str) ++ z).cps.toList = 63 :: TL.tl z := q_tl z
  rw [e, lz]
  show List.take ((TL.tl z).length + 1 - 1) (TL.tl z) = TL.tl z
  rw [Nat.add_sub_cancel, List.take_length]
theorem cut_len (z : Str) : (Txt.removeprefix z "?").length ≤ z.length := by
  have h : ∀ (o : Option (Nat × Nat)), (Txt.affix z o).length ≤ z.length := by
    intro o
    cases o with
    | none => exact Nat.le_refl _
    | some p =>
      show (if (p.2 - p.1 == z.length) = true then z else Builtin.Str.strSub z p.1 p.2).length ≤ z.length
      by_cases c : (p.2 - p.1 == z.length) = true
      · rw [if_pos c]
        exact Nat.le_refl _
      · rw [if_neg c]
        show (z.cps.extract p.1 p.2).size ≤ z.cps.size
        rw [Array.size_extract]
        omega
  exact h _
theorem wd_term {z : Str} (h : Wd sgn z) : isTermS z = true := by
  have e : Txt.removeprefix z "?" = z := cut_q fun q => by
    have := h.2.2 _ (List.mem_of_head? q)
    revert this
    decide +kernel
  unfold isTermS
  rw [e, len_tl, decide_eq_true h.1, decide_eq_true h.2.1]
  show (TL.tl z).all inSg = true
  rw [List.all_eq_true]
  exact fun c hc => inSg_all c (h.2.2 c hc)
theorem q_term {z : Str} (h : Wd sgn z) : isTermS (("?" : Str) ++ z) = true := by
  unfold isTermS
  rw [len_tl, cut_q2, decide_eq_true h.1, decide_eq_true h.2.1]
  show (TL.tl z).all inSg = true
  rw [List.all_eq_true]
  exact fun c hc => inSg_all c (h.2.2 c hc)
/-- is_variable(term) -/
def spIsVar : Sp := fun vs H Q _ => ∃ z : Str, vs = [.str z] ∧ Q (.bl (isVar z)) H
/-- is_term(item) -/
def spIsTerm (K : PySem.W.Frag) : Sp := fun vs H Q _ => ∃ x : V, vs = [x] ∧ ((∃ z : Str, x = .str z ∧ z.length ≤ 1000 ∧ ∀ H' : Hp, Same H H' → Q (.bl (isTermS z)) H') ∨ (∃ t, TyX K H x t ∧ PySem.W.kitOne K t (.type "str") = some false ∧ Q (.bl false) H))
/-- a text walked sign by sign -/
theorem wk_text {x : Str} : Walk (Its x) (TL.tl x).length (fun _ => True) (fun i H v H' => H' = H ∧ ∃ c, (TL.tl x)[i]? = some c ∧ v = .str ⟨#[c]⟩) where
  goes := fun i H h _ => h
  stops := fun H _ => Nat.le_refl _
  yields := fun i H v H' h _ ⟨e, c, hc, ev⟩ => ⟨e, c, by rw [← hc]; exact Array.getElem?_toList, ev⟩
end Sw
namespace Sw
open PySem PySem.Spec PyProof.Rows L2
theorem isV_iff (z : Str) : isV z = true ↔ (TL.tl z).head? = some 63 := by
  have q : TL.tl ("?" : Str) = [63] := by decide +kernel
  unfold isV
  rw [decide_eq_true_iff]
  cases h : TL.tl z with
  | nil =>
    constructor
    · intro e
      have e2 : cutS z none (some 1) = ("?" : Str) := V.str.inj e
      have l := cutS_length z none (some 1)
      rw [len_tl z, h, e2, len_tl, q] at l
      exact absurd l (by decide)
    · exact fun e => (nomatch e)
  | cons a r =>
    have t : TL.tl (cutS z none (some ((1 : Nat) : Int))) = [a] := by
      rw [tl_cut_to z 1 (by rw [h]; exact Nat.le_add_left 1 _), h]
      rfl
    constructor
    · intro e
      have e2 : cutS z none (some 1) = ("?" : Str) := V.str.inj e
      have t2 : TL.tl (cutS z none (some 1)) = [a] := t
      rw [e2, q] at t2
      rw [List.head?_cons, (List.cons.inj t2).1]
    · intro e
      rw [List.head?_cons] at e
      refine congrArg V.str (tl_inj ?_)
      show TL.tl (cutS z none (some ((1 : Nat) : Int))) = TL.tl ("?" : Str)
      rw [t, q, Option.some.inj e]
theorem isV_isVar (z : Str) : isV z = isVar z := by
  rw [Bool.eq_iff_iff, isV_iff, isVar_iff]
theorem cut_tl (z : Str) : TL.tl (Txt.removeprefix z "?") = if isV z = true then (TL.tl z).tail else TL.tl z := by
  by_cases c : isV z = true
  · rw [if_pos c]
    have h := (isV_iff z).mp c
    obtain ⟨r, hr⟩ : ∃ r, TL.tl z = 63 :: r := by
      cases e : TL.tl z with
      | nil => rw [e] at h; cases h
      | cons a r => rw [e] at h; exact ⟨r, by rw [Option.some.inj h]⟩
    have ez : z = ("?" : Str) ++ (⟨r.toArray⟩ : Str) := tl_inj (by
      show TL.tl z = TL.tl (("?" : Str) ++ (⟨r.toArray⟩ : Str))
      rw [q_tl, hr])
    rw [hr]
    rw [ez, cut_q2]
    rfl
  · rw [if_neg c, cut_q fun e => c ((isV_iff z).mpr e)]
theorem lword (z : Str) : cutS z (some (if isV z = true then 1 else 0)) none = Txt.removeprefix z "?" := by
  refine tl_inj ?_
  show TL.tl (cutS z _ none) = TL.tl (Txt.removeprefix z "?")
  rw [cut_tl]
  by_cases c : isV z = true
  · rw [if_pos c, if_pos c]
    have h := (isV_iff z).mp c
    have l : 1 ≤ (TL.tl z).length := by
      cases e : TL.tl z with
      | nil => rw [e] at h; cases h
      | cons a r => exact Nat.le_add_left 1 _
    exact (tl_cut_from z 1 l).trans (List.drop_one)
  · rw [if_neg c, if_neg c]
    exact (tl_cut_from z 0 (Nat.zero_le _)).trans List.drop_zero
theorem shapedL {s : List Str} (h : ∀ z ∈ s, SOk z) : SeqAt.shaped (.list (s.map .str)) = true := by
  obtain ⟨h1, h2⟩ := canStrs h
  have e1 : PySem.PyData.canLay0 (.list (s.map .str)) = true := h1
  unfold SeqAt.shaped
  have e2 : PySem.PyData.depth (.list (s.map .str)) = PySem.PyData.depthAll (s.map .str) + 1 := rfl
  rw [e1, e2, h2]
  rfl
theorem eqvNilS (s : List Str) : PySem.PyData.eqv (.list (s.map .str)) (.list []) = s.isEmpty := by
  cases s with
  | nil => rfl
  | cons z r => rfl
theorem isTerm_bad (z : Str) : isTermS z = ((decide (1 ≤ (Txt.removeprefix z "?").length) && decide ((Txt.removeprefix z "?").length ≤ 8)) && (((TL.tl (Txt.removeprefix z "?")).filter fun c => !inSg c).map fun c => (⟨#[c]⟩ : Str)).isEmpty) := by
  unfold isTermS
  congr 1
  rw [Bool.eq_iff_iff, List.all_eq_true, List.isEmpty_map, List.isEmpty_iff, List.filter_eq_nil_iff]
  exact ⟨fun h c hc => by rw [h c hc]; decide, fun h c hc => by have := h c hc; cases e : inSg c with
    | true => rfl
    | false => rw [e] at this; exact absurd rfl this⟩
/-- signs of a text as texts -/
theorem one_ok {z : Str} (h : SOk z) {c : Nat} (hc : c ∈ TL.tl (Txt.removeprefix z "?")) : SOk (⟨#[c]⟩ : Str) := by
  have hm : c ∈ z.cps.toList := by
    rw [cut_tl] at hc
    by_cases e : isV z = true
    · rw [if_pos e] at hc
      exact List.mem_of_mem_tail hc
    · rw [if_neg e] at hc
      exact hc
  refine ⟨by show 1 ≤ 1000; decide, ?_⟩
  have h2 := h.2
  unfold PySem.PyData.strOk at h2 ⊢
  rw [Array.all_eq_true'] at h2 ⊢
  intro x hx
  have : x = c := by simpa using hx
  rw [this]
  exact h2 c (Array.mem_toList_iff.mp hm)
/-- _law_is_term(x) -/
def spLTerm : Sp := fun vs H Q _ => ∃ z : Str, vs = [.str z] ∧ SOk z ∧ ∀ H' : Hp, Same H H' → Q (.bl (isTermS z)) H'
end Sw
namespace Sw
open PySem PySem.Spec PyProof.Rows L2
/-- what every law that deals tables begins with -/
structure BeginAt (K : PySem.W.Frag) (H : Hp) (R : Addr) (many : Nat) (xs : List V) (rows : List Rw) (vals tms : List Str) (k : Ask) : Prop where
  ex : ∃ T Va Tm A, H R = some (.lst [.ref T, .ref Va, .ref Tm, .ref A]) ∧ RowsAt K H T xs rows ∧ H Va = some (.lst (vals.map V.str)) ∧ H Tm = some (.lst (tms.map V.str)) ∧ AskAt K H A vals k
  ok : RowsOk vals rows
  sane : Sane rows
  ask : AskOk rows vals tms many k
  nms : ∀ r ∈ rows, SOk r.nm
  vls : ∀ z ∈ vals, SOk z
  tls : ∀ z ∈ tms, SOk z
  v5 : vals.length = 5
  t4 : tms.length = 4
  vnd : vals.Nodup
  vwd : ∀ z ∈ vals, Wd sgn z
  twd : ∀ z ∈ tms, ∃ y, z = ("?" : Str) ++ y ∧ Wd sgn y
  nwd : ∀ r ∈ rows, isV r.nm = false
theorem BeginAt.same {K : PySem.W.Frag} {H H' : Hp} {R : Addr} {many : Nat} {xs : List V} {rows : List Rw} {vals tms : List Str} {k : Ask} (b : BeginAt K H R many xs rows vals tms k) (s : Same H H') : BeginAt K H' R many xs rows vals tms k :=
  { b with ex := let ⟨T, Va, Tm, A, h1, h2, h3, h4, h5⟩ := b.ex; ⟨T, Va, Tm, A, s _ _ h1, h2.same s, s _ _ h3, s _ _ h4, h5.same s⟩ }
/-- _law_begin(script, many) -/
def spBegin (K : PySem.W.Frag) : Sp := fun vs H Q _ => ∃ (a : Addr) (ns : List Int) (many : Nat), vs = [.ref a, .int (many : Int)] ∧ SqL K H a (ns.map V.int) ∧ ns.length ≤ 63 ∧ 1 ≤ many ∧ many ≤ 9 ∧
  ∀ (H' : Hp) (R : Addr) (xs : List V) (rows : List Rw) (vals tms : List Str) (k : Ask), Same H H' → H R = none → BeginAt K H' R many xs rows vals tms k → Q (.ref R) H'
theorem wd_ok {sg z : Str} (h : Wd sg z) (hs : ∀ c ∈ TL.tl sg, c < 0x110000) : SOk z := by
  refine ⟨by rw [len_tl]; exact Nat.le_trans h.2.1 (by decide), ?_⟩
  unfold PySem.PyData.strOk
  rw [← Array.all_toList, List.all_eq_true]
  intro c hc
  exact decide_eq_true (hs c (h.2.2 c hc))
theorem sok_q {z : Str} (h : z.length ≤ 900 ∧ PySem.PyData.strOk z = true) : SOk (("?" : Str) ++ z) := by
  refine ⟨by rw [str_app_len]; have : ("?" : Str).length = 1 := by decide +kernel
             omega, ?_⟩
  obtain ⟨_, h2⟩ := h
  unfold PySem.PyData.strOk at h2 ⊢
  rw [← Array.all_toList, List.all_eq_true] at h2 ⊢
  intro c hc
  have hc : c ∈ TL.tl (("?" : Str) ++ z) := hc
  rw [TL.tl_append] at hc
  rcases List.mem_append.mp hc with q | q
  · have : ∀ c ∈ TL.tl ("?" : Str), (decide (c < 0x110000)) = true := by decide +kernel
    exact this c q
  · exact h2 c q
/-- a hand that came and went -/
theorem same_hand {H H1 H2 : Hp} {p : Addr} (s : Same H H1) (n : H p = none) (e : SBut p H1 H2) : Same H H2 := fun b o h => e b o (ne_of_none h n) (s b o h)
end Sw
namespace Sw
open PySem PySem.Spec PyProof.Rows L2
theorem Dealt.rowsOk {ws vals : List Str} {rows rows' : List Rw} (D : Dealt ws vals rows) (nd : ws.Nodup) (n1 : 1 ≤ ws.length) (n3 : ws.length ≤ 3) (hm : ∀ r, r ∈ rows' ↔ r ∈ rows) (hlen : rows'.length = rows.length) : RowsOk vals rows' := by
  have hwl : rows.length = ws.length := by rw [← D.nm, List.length_map]
  refine ⟨fun r hr => D.own r ((hm r).mp hr), fun r hr => ?_, fun r hr => ?_, by omega, by omega, fun r hr e he => ?_⟩
  · have h1 := le_sum (fun r : Rw => r.ls.length) ((hm r).mp hr)
    have h2 : r.ls.length ≤ (rows.map fun r => r.ls.length).sum := h1
    have := D.nl
    omega
  · obtain ⟨i, hi⟩ := List.mem_iff_getElem?.mp ((hm r).mp hr)
    exact D.ht nd hm 3 i r.nm (D.nth hi) (by omega)
  · obtain ⟨i, hi⟩ := List.mem_iff_getElem?.mp ((hm r).mp hr)
    obtain ⟨j, v, v', _, hv, hv', hj, a1, a2, a3, a4⟩ := D.ld i r hi e he
    rw [List.getElem?_map, hi] at hv
    obtain rfl := Option.some.inj hv
    rw [List.getElem?_map] at hv'
    cases hr' : rows[j]? with
    | none => rw [hr'] at hv'; cases hv'
    | some r' =>
      rw [hr'] at hv'
      obtain rfl := Option.some.inj hv'
      have hn := D.nth hr'
      rw [hj] at hn
      exact ⟨a1, a2, r', (hm r').mpr (List.mem_of_getElem? hr'), (Option.some.inj hn).symm, a3, a4⟩
/-- either way round -/
theorem dealt_way {K : PySem.W.Frag} {H : Hp} {T : Addr} {xs : List V} {ws vals : List Str} {rows : List Rw} (h : RowsAt K H T xs rows ∧ Dealt ws vals rows ∨ RowsAt K H T xs rows.reverse ∧ Dealt ws vals rows) (nd : ws.Nodup) (n1 : 1 ≤ ws.length) (n3 : ws.length ≤ 3) :
    ∃ rows', RowsAt K H T xs rows' ∧ RowsOk vals rows' ∧ Sane rows' ∧ ∀ r ∈ rows', r.nm ∈ ws := by
  have nm : ∀ D : Dealt ws vals rows, ∀ r ∈ rows, r.nm ∈ ws := fun D r hr => by
    rw [← D.nm]
    exact List.mem_map.mpr ⟨r, hr, rfl⟩
  rcases h with ⟨h1, D⟩ | ⟨h1, D⟩
  · exact ⟨rows, h1, D.rowsOk nd n1 n3 (fun _ => .rfl) rfl, D.sane0 nd n1 n3, nm D⟩
  · exact ⟨rows.reverse, h1, D.rowsOk nd n1 n3 (fun _ => List.mem_reverse) (by rw [List.length_reverse]), D.saneR nd n1 n3, fun r hr => nm D r (List.mem_reverse.mp hr)⟩
end Sw
namespace Sw
open PySem PySem.Spec PyProof.Rows L2
/-- tuples (from, to, number) -/
structure EdgesAt (K : PySem.W.Frag) (H : Hp) (a : Addr) (vs : List V) (es : List (Str × Str × Int)) : Prop where
  at_ : SqL K H a vs
  len : vs.length = es.length
  sml : es.length ≤ 2
  all : ∀ (i : Nat) (v : V), vs[i]? = some v → ∃ e, es[i]? = some e ∧ ∃ q, v = .ref q ∧ SqT K H q [.str e.1, .str e.2.1, .int e.2.2]
theorem EdgesAt.same {K : PySem.W.Frag} {H H' : Hp} {a : Addr} {vs : List V} {es : List (Str × Str × Int)} (h : EdgesAt K H a vs es) (s : Same H H') : EdgesAt K H' a vs es :=
  ⟨s.seq h.at_, h.len, h.sml, fun i v q => let ⟨e, h1, b, h2, h3⟩ := h.all i v q; ⟨e, h1, b, h2, same_seqT s h3⟩⟩
/-- the tables' references are these edges -/
def EdgesOf (l : List Tb) (es : List (Str × Str × Int)) : Prop := ∀ u v, v ∈ leads l u ↔ ∃ n, (u, v, n) ∈ es
/-- _law_reaches(leads, start, goal) -/
def spReaches (K : PySem.W.Frag) : Sp := fun vs H Q _ => ∃ (a : Addr) (s g : Str) (xs : List V) (es : List (Str × Str × Int)) (l : List Tb), vs = [.ref a, .str s, .str g] ∧ EdgesAt K H a xs es ∧ EdgesOf l es ∧
  ∀ (H' : Hp) (b : Bool), Same H H' → (b = true ↔ Rch l s g) → Q (.bl b) H'
def DoneS (es : List (Str × Str × Int)) (g : Str) (seen : List Str) : Prop := ∀ e ∈ es, e.1 ∈ seen → e.2.1 ∈ seen ∧ e.2.1 ≠ g
theorem seen_few {l : List Tb} {es : List (Str × Str × Int)} (E : EdgesOf l es) {s : Str} {seen : List Str} (nd : seen.Nodup) (h : ∀ z ∈ seen, z = s ∨ Rch l s z) : seen.length ≤ es.length + 1 := by
  have := nodup_le (ns := s :: es.map fun e => e.2.1) nd fun z hz => by
    rcases h z hz with e | e
    · rw [e]
      exact List.mem_cons_self
    · refine List.mem_cons_of_mem _ ?_
      have : ∃ u n, (u, z, n) ∈ es := by
        cases e with
        | one m => exact ⟨_, (E _ _).mp m⟩
        | snoc _ m => exact ⟨_, (E _ _).mp m⟩
      obtain ⟨u, n, hm⟩ := this
      exact List.mem_map.mpr ⟨_, hm, rfl⟩
  rw [List.length_cons, List.length_map] at this
  exact this
theorem done_no {l : List Tb} {es : List (Str × Str × Int)} (E : EdgesOf l es) {s g : Str} {seen : List Str} (hs : s ∈ seen) (d : DoneS es g seen) : ¬ Rch l s g := by
  have go : ∀ {b : Str}, Rch l s b → b ∈ seen ∧ b ≠ g := by
    intro b r
    induction r with
    | one m =>
      obtain ⟨n, hn⟩ := (E _ _).mp m
      exact d _ hn hs
    | snoc _ m ih =>
      obtain ⟨n, hn⟩ := (E _ _).mp m
      exact d _ hn ih.1
  exact fun r => (go r).2 rfl
end Sw
namespace Sw
open PySem PySem.Spec PyProof.Rows L2
/-- the references of a table, as the drawn edges say -/
def ZsOf (es : List (Str × Str × Int)) (nm : Str) : List Str := (es.filter fun e => decide (e.1 = nm)).map fun e => e.2.1
theorem unk_first {l : List Tb} {es : List (Str × Str × Int)} {i j : Nat} {t : Tb} {e : Str × Str × Int} (hi : l[i]? = some t) (hj : es[j]? = some e) (hz : t.zs = ZsOf es t.nm) (h1 : ∀ z ∈ (l.take i).flatMap Tb.zs, z ∈ l.map Tb.nm) (h2 : ∀ u ∈ es.take j, u.1 = t.nm → u.2.1 ∈ l.map Tb.nm) (he : e.1 = t.nm) (hn : ¬ e.2.1 ∈ l.map Tb.nm) : unkOf l = some e.2.1 := by
  unfold unkOf
  have hil := (List.getElem?_eq_some_iff.mp hi)
  obtain ⟨hil, hit⟩ := hil
  have e1 : l.flatMap Tb.zs = (l.take i).flatMap Tb.zs ++ (t.zs ++ (l.drop (i + 1)).flatMap Tb.zs) := by
    have : l = l.take i ++ l.drop i := (List.take_append_drop i l).symm
    have d : l.drop i = t :: l.drop (i + 1) := by rw [List.drop_eq_getElem_cons hil, hit]
    rw [← List.flatMap_cons, ← d, ← List.flatMap_append, List.take_append_drop]
  obtain ⟨hjl, hjt⟩ := List.getElem?_eq_some_iff.mp hj
  have e2 : t.zs = ((es.take j).filter fun e => decide (e.1 = t.nm)).map (fun e => e.2.1) ++ (e.2.1 :: ((es.drop (j + 1)).filter fun e => decide (e.1 = t.nm)).map fun e => e.2.1) := by
    rw [hz]
    unfold ZsOf
    have d : es.drop j = e :: es.drop (j + 1) := by rw [List.drop_eq_getElem_cons hjl, hjt]
    have f : (e :: es.drop (j + 1)).filter (fun e => decide (e.1 = t.nm)) = e :: (es.drop (j + 1)).filter (fun e => decide (e.1 = t.nm)) := List.filter_cons_of_pos (by simp [he])
    have sp : es = es.take j ++ e :: es.drop (j + 1) := by rw [← d, List.take_append_drop]
    have q : (es.filter fun e => decide (e.1 = t.nm)) = (es.take j).filter (fun e => decide (e.1 = t.nm)) ++ e :: (es.drop (j + 1)).filter (fun e => decide (e.1 = t.nm)) := by
      rw [← f, ← List.filter_append, ← sp]
    rw [q, List.map_append, List.map_cons]
  have n1 : ((l.take i).flatMap Tb.zs).find? (fun z => decide (¬ z ∈ l.map Tb.nm)) = none := List.find?_eq_none.mpr fun z hz => by simp [h1 z hz]
  have n2 : (((es.take j).filter fun e => decide (e.1 = t.nm)).map fun e => e.2.1).find? (fun z => decide (¬ z ∈ l.map Tb.nm)) = none := List.find?_eq_none.mpr fun z hz => by
    obtain ⟨u, hu, rfl⟩ := List.mem_map.mp hz
    obtain ⟨hu1, hu2⟩ := List.mem_filter.mp hu
    have := h2 u hu1 (of_decide_eq_true hu2)
    simp [this]
  rw [e1, List.find?_append, n1, e2, List.append_assoc, List.find?_append, n2, List.cons_append, List.find?_cons]
  simp [hn]
/-- _law_expected(names, many, leads) -/
def spExpected (K : PySem.W.Frag) : Sp := fun vs H Q _ => ∃ (N a : Addr) (m : Nat) (ws : List Str) (xs : List V) (es : List (Str × Str × Int)) (l : List Tb), vs = [.ref N, .int (m : Int), .ref a] ∧ SqL K H N (ws.map V.str) ∧ l.map Tb.nm = ws.take m ∧ l.length = m ∧ 1 ≤ m ∧ m ≤ 3 ∧ EdgesAt K H a xs es ∧ EdgesOf l es ∧ (∀ t ∈ l, t.zs = ZsOf es t.nm) ∧
  (∀ z, unkOf l = some z → ∀ (H' : Hp) (T : Addr), Same H H' → H' T = some (.tup [.str "unknown", .str z]) → Q (.ref T) H') ∧
  (unkOf l = none → (∀ (i : Nat) (t : Tb), l[i]? = some t → (∀ u ∈ l.take i, ¬ Rch l u.nm u.nm) → Rch l t.nm t.nm → ∀ (H' : Hp) (T : Addr), Same H H' → H' T = some (.tup [.str "ring", .str t.nm]) → Q (.ref T) H') ∧
    ((∀ u ∈ l, ¬ Rch l u.nm u.nm) → ∀ (H' : Hp) (T : Addr) (z : Str), ws[0]? = some z → Same H H' → H' T = some (.tup [.str "good", .str z]) → Q (.ref T) H'))
end Sw
namespace Sw
open PySem PySem.Spec PyProof.Rows L2
/-- C(e, ..) in a try: what __init__ lets out is told by the slots -/
def tMakeE (C : Addr) (sp : Sp) (Ex : L2.St → XK) (t : TA) : TE := fun σ H Q => t σ H fun ws Ha => ∀ y dy, Ha y = none → Ha dy = none → dy ≠ y →
  sp (V.ref y :: ws) (upd (upd Ha dy (.own y)) y (.ins C dy [])) (fun u Hb => u = .non ∧ Q (.ref y) Hb) (Ex σ)
theorem pe_makeE {X : Cx} {CX : CXT} {k : Nat} {f C : Addr} {sp : Sp} {Ex : L2.St → XK} {x : Str} {p pos : Pos} {e : Expr} {es : List Expr} {t : TA}
    (M : Mk X.K C f) (F : FnR X.prog X.w X.K X.mg X.base CX k f sp) (hr : Room (k + 1) X.A) (hg : Gl X x) (hm : X.mg x = some (.ref C)) (hx : ∀ σ, PassesAt CX X σ (Ex σ)) (ha : PA X (e :: es) t)
    (h0 : (x == ("__debug__" : Str)) = false := by decide) (h1 : starEach (e :: es) X.env = (false, eval e X.env) :: starEach es X.env := by rfl) (h2 : (backTo pos (starEach es X.env)).any (·.1) = false := by rfl) :
    PE X (.Call (.Name x p) (e :: es) [] pos) (tMakeE C sp Ex t) := by
  refine ⟨fun pins s σ H Q I w => ?_⟩
  refine wpAny_Call_Name_kw (ld_glob I hg hm (PySem.W.callWith_K (h₀ := X.base) I.ok.mod.kin M.kp (thn (ha.run pos pins s σ H _ I w) fun us sa hu => ?_) h1 h2) h0)
  obtain ⟨ws, Ha, Ia, r, q⟩ := hu
  refine ⟨Ia.kIn, ?_⟩
  have z := q (sa.heap.objs.size + 1) sa.heap.objs.size (Ia.hok.fresh (Nat.le_succ _)) (Ia.hok.fresh (Nat.le_refl _)) (Nat.ne_of_lt (Nat.lt_succ_self _))
  have Ib := Inv.made (C := C) Ia
  have rb : Vals (V.ref (sa.heap.objs.size + 1) :: ws) (Value.ref (sa.heap.objs.size + 1) :: us) := .cons rfl r
  refine wpAny_call (make_map (f := f) Ia.kIn M.makes M.init (beq_iff_eq.mp M.fn) ?_)
  refine codeAny_mono (F _ X.stack _ _ _ _ _ _ (hr.make C us []) (Ib.env0.make C us []) rb z) fun res st hq => ?_
  cases res with
  | error er => exact hx σ pins _ _ er st Ib hq
  | ok fl =>
    cases fl with
    | ret u =>
      obtain ⟨v, Hb, Ic, rv, ev, q3⟩ := Ib.after hq
      subst ev
      exact ⟨rv, ⟨V.ref (sa.heap.objs.size + 1), Hb, Ic, rfl, q3⟩⟩
    | next => exact hq.elim
    | brk => exact hq.elim
    | cont => exact hq.elim
end Sw
namespace Sw
open PySem PySem.Spec PyProof.Rows L2
/-- an except clause with a name: the class, the name's slot, its suite's reading -/
structure Cl where
  c : Value
  i : Nat
  ts : Addr → Value → Option Addr → TS
/-- behind a clause's suite its name is gone -/
def gone (i : Nat) (D : Ends) : Ends := { nx := fun σ H => D.nx (σ.set i none) H, rt := D.rt, bk := fun σ H => D.bk (σ.set i none) H, ct := fun σ H => D.ct (σ.set i none) H }
/-- what clauses with names wish of an exception of the body -/
def wAll (K : PySem.W.Frag) (Wo : WX) (D : Ends) : List Cl → WX
  | [] => Wo
  | k :: r => fun cls d σ H => ∃ b, PySem.W.exmOne K cls k.c = some b ∧ (b = true → ∀ a, H a = none → k.ts a cls d (gone k.i D) (σ.set k.i (some (.ref a))) H) ∧ (b = false → wAll K Wo D r cls d σ H)
inductive ClsOk (X : Cx) : List ExceptHandler → List Cl → Prop
  | nil : ClsOk X [] []
  | cons {x n : Str} {k : Cl} {b₀ : Stmt} {more : List Stmt} {p1 p2 : Pos} {hds : List ExceptHandler} {l : List Cl} (hi : X.N[k.i]? = some n) (hl : X.env.kindOf n = some .local) (hc : Names X x k.c)
      (hsu : ∀ (a : Addr) (o : Obj) (cls : Value) (d : Option Addr) (pn : List (Addr × Obj)), Zc cls d o → (∃ vs, o.data = .fields vs) → PSs (X.suite a ((a, o) :: pn)) (b₀ :: more) (k.ts a cls d)) (r : ClsOk X hds l) :
      ClsOk X (.ExceptHandler (some (.Name x p1)) (some n) (b₀ :: more) p2 :: hds) (k :: l)
section
variable {X : Cx} {body : List Stmt} {hd₀ : ExceptHandler} {hds : List ExceptHandler} {l : List Cl} {pos : Pos} {tb : WX → TS} {Wo : WX}
theorem ps_try_all (hst : X.stack = X.env :: X.outer) (hfr : X.env.frame = some X.env.locals) (hN : X.N.Nodup) (tk : Takes X Wo)
    (hb : ∀ (W : WX) (pn : List (Addr × Obj)) (xe : Value → Shared → Prop), Takes (X.tr pn xe) W → PassesOwn (model X.prog X.w) X.A X.env xe → PSs (X.tr pn xe) body (tb W)) (hh : ClsOk X (hd₀ :: hds) l) :
    PS X (.Try body (hd₀ :: hds) [] [] pos) (fun D σ H => tb (wAll X.K Wo D l) D σ H) := by
  refine ⟨fun ps s σ H D I h => ?_⟩
  have ok0 := I.ok
  have frA : X.A.frames = some (X.env :: X.outer) := by rw [ok0.frames, hst]
  refine wpAny_Try_except (wpAny_mono ((hb (wAll X.K Wo D l) (X.pn ++ ps) (fun e s1 => wpAny (model X.prog X.w) X.A (noteFrame e X.env) (fun _ s2 => wpAny (model X.prog X.w) X.A (setFlight e none) (fun _ s3 => wpAny (model X.prog X.w) X.A (handleBy e X.env (hd₀ :: hds)) (SP X ps D) X.xe s3) X.xe s2) X.xe s1)
    (fun u s' xx => ?_) PassesOwn.looking).run [] s σ H D (I.toTry _) h) (fun f s1 sp => ?_) (fun e s1 he => he))
  · obtain ⟨a, B, sI, ps9, σ1, H1, cls, d, rfl, J0, nb, up, sky, na, os, ag, wish⟩ := xx
    have J1 : Inv X ps σ1 H1 sI := J0.ofTry ok0
    have sk : Sky B (X.env :: X.outer) a (Zc cls d) X.env.locals s'.heap := by rw [← hst]; exact sky
    show wpAny (model X.prog X.w) X.A (noteFrame (.ref a) X.env) _ _ _
    refine Sky.land Zc.steady frA hfr sk fun h3 fl3 up3 => ?_
    have K3 : Inv X ps σ1 H1 { s' with heap := h3 } := J1.landed nb fl3.1 (up.trans up3) os ag
    obtain ⟨o3, f3, at3, z3, da3⟩ := fl3.there
    have off : ∀ {g : Heap} {o : Obj} {vs : Array Value}, g.FunFrames B (X.env :: X.outer) → g.get? a = some o → o.data = .fields vs → a ∉ frs (X.env :: X.outer) := fun {g o vs} ff e1 dd hm => by
      obtain ⟨_, o2, e2, nd2⟩ := ff.mem hm
      cases e1.symm.trans e2
      exact nd2 _ dd
    have offA := off fl3.2.2.1 at3 da3
    have nL : a ≠ X.env.locals := fun z => offA (List.mem_filterMap.mpr ⟨X.env, List.mem_cons_self, by rw [hfr, z]⟩)
    have nF : a ∉ X.fs := fun hm => (List.mem_filterMap.mp hm).elim fun e q => offA (List.mem_filterMap.mpr ⟨e, List.mem_cons_of_mem _ q.1, q.2⟩)
    have T3 := K3.suite at3 da3 na nL nF
    have walk : ∀ {hs2 : List ExceptHandler} {l2 : List Cl}, ClsOk X hs2 l2 → wAll X.K Wo D l2 cls d σ1 H1 → wpAny (model X.prog X.w) X.A (handleBy (.ref a) X.env hs2) (SP X ps D) X.xe { s' with heap := h3 } := by
      intro hs2 l2 hk
      induction hk with
      | nil =>
        intro wo
        refine wpAny_handleBy_nil ?_
        obtain ⟨_, _, _, o4, f4, T4, _, _, at4, _, da4, tr4, _⟩ := id fl3
        unfold PySem.passOn
        refine wpAny_bind (wpAny_field at4 da4 tr4 ?_)
        rw [if_neg (show ¬ ((Value.ref T4 == Value.none) = true) from by simp)]
        have last : wpAny (model X.prog X.w) X.A (setFlight (.ref a) X.env.frame) (fun _ s4 => wpAny (model X.prog X.w) X.A (throw (.ref a) : Sem Flow) (SP X ps D) X.xe s4) X.xe { s' with heap := h3 } := by
          rw [hfr]
          refine HandSPX.setFlight_upZ fl3 fun h4 sk4 up4 => wpAny_throw (tk _ _ ⟨a, B, sI, ps, σ1, H1, cls, d, rfl, J1, nb, (up.trans up3).trans up4, .inr (.inr (by rw [hst]; exact sk4)), na, os, ag, wo⟩)
        first
          | exact wpAny_bind (wpAny_pure (wpAny_bind last))
          | exact wpAny_bind last
      | @cons x n k b₀ more p1 p2 hs3 l3 hi hl hc hsu r ih =>
        intro wo
        obtain ⟨b, eb, yes, no⟩ := wo
        refine wpAny_handleBy_cons (codeAny_handlers_test ?_) (by intro q; cases q)
        have looks : PySem.W.Looks (model X.prog X.w) h3 (typeOf (.ref a)) cls := fun A Q E s k q => wpAny_typeOf_ref (k _ _ at3) (by rw [z3.1]; exact q)
        have isx := PySem.W.exm_one (M := model X.prog X.w) (K3.kIn) looks eb
        have named : ∀ {Q E : Value → Shared → Prop}, Q k.c { s' with heap := h3 } → wpAny (model X.prog X.w) (X.A.mark (some (.ref a))) (eval (.Name x p1) X.env) Q E { s' with heap := h3 } := fun {Q E} q => by
          obtain ⟨g1, g2, g3 | ⟨g3, g4, g5⟩⟩ := hc
          · exact ld_glob (X := X.suite a ((a, o3) :: (X.pn ++ ps))) T3 g1 g3 q g2
          · exact ld_blt (X := X.suite a ((a, o3) :: (X.pn ++ ps))) T3 g1 g3 g4 q g5 g2
        refine named (isx.here ?_)
        cases b with
        | false =>
          show wpAny _ X.A (handleBy (.ref a) X.env hs3) _ _ _
          exact ih (no rfl)
        | true =>
          refine codeAny_handlers_suite_as (HandSPX.lands_againZ fl3 fun h4 fl4 up4 => ?_)
          have K4 : Inv X ps σ1 H1 { s' with heap := h4 } := J1.landed nb fl4.1 ((up.trans up3).trans up4) os ag
          obtain ⟨o4, f4, at4, z4, da4⟩ := fl4.there
          have T4 := K4.suite at4 da4 na nL nF
          refine store_ok (X := X.suite a ((a, o4) :: (X.pn ++ ps))) (v := .ref a) T4 hN hi (.inl hl) rfl (fun s5 T5 => ?_) (.inr hl)
          refine wpAny_mono ((hsu a o4 cls d (X.pn ++ ps) z4 ⟨_, da4⟩).run [] s5 _ H1 _ T5 (yes rfl a na)) (fun f s6 sp => ?_) (fun _ _ z => False.elim z)
          have leave : ∀ {σ6 : L2.St} {H6 : Hp} {Q : Shared → Prop}, Inv (X.suite a ((a, o4) :: (X.pn ++ ps))) [] σ6 H6 s6 → (∀ s7, Inv X ps (σ6.set k.i none) H6 s7 → Q s7) → wpAny (model X.prog X.w) X.A (do bindName X.env n .none; unbindBehindTheSuite X.env n p2) (fun _ s7 => Q s7) X.xe s6 :=
            fun {σ6 H6 Q} T6 hq => gone_ok (T6.unsuite ok0) hN hi hl hq
          cases f with
          | next => exact sp.elim fun σ6 z => z.elim fun H6 z => leave z.1 fun s7 J7 => ⟨_, _, J7, z.2⟩
          | brk => exact sp.elim fun σ6 z => z.elim fun H6 z => leave z.1 fun s7 J7 => ⟨_, _, J7, z.2⟩
          | cont => exact sp.elim fun σ6 z => z.elim fun H6 z => leave z.1 fun s7 J7 => ⟨_, _, J7, z.2⟩
          | ret u => exact sp.elim fun v6 z => z.elim fun σ6 z => z.elim fun H6 z => leave z.1 fun s7 J7 => ⟨_, _, _, J7, z.2.1, z.2.2⟩
    exact walk hh wish
  · cases f with
    | next => exact sp.elim fun σ1 z => z.elim fun H1 z => wpAny_execs_nil ⟨σ1, H1, z.1.ofTry ok0, z.2⟩
    | brk => exact sp.elim fun σ1 z => z.elim fun H1 z => ⟨σ1, H1, z.1.ofTry ok0, z.2⟩
    | cont => exact sp.elim fun σ1 z => z.elim fun H1 z => ⟨σ1, H1, z.1.ofTry ok0, z.2⟩
    | ret u => exact sp.elim fun v z => z.elim fun σ1 z => z.elim fun H1 z => ⟨v, σ1, H1, z.1.ofTry ok0, z.2.1, z.2.2⟩
end
end Sw
namespace Sw
open PySem PySem.Spec PyProof.Rows L2
/-- what the schema of the drawn tables comes to -/
inductive Ans (l : List Tb) (ws : List Str) : Str → Str → Prop
  | unk {z : Str} : unkOf l = some z → Ans l ws "unknown" z
  | ring {i : Nat} {t : Tb} : unkOf l = none → l[i]? = some t → (∀ u ∈ l.take i, ¬ Rch l u.nm u.nm) → Rch l t.nm t.nm → Ans l ws "ring" t.nm
  | good {z : Str} : unkOf l = none → (∀ u ∈ l, ¬ Rch l u.nm u.nm) → ws[0]? = some z → Ans l ws "good" z
/-- edges between known names -/
structure EdgesIn (ws : List Str) (m : Nat) (es : List (Str × Str × Int)) : Prop where
  src : ∀ e ∈ es, e.1 ∈ ws.take m
  dst : ∀ e ∈ es, e.2.1 ∈ ws
/-- edges and the tables that have them -/
theorem edges_of {l : List Tb} {ws : List Str} {m : Nat} {es : List (Str × Str × Int)} (hnm : l.map Tb.nm = ws.take m) (nd : (l.map Tb.nm).Nodup) (hz : ∀ t ∈ l, t.zs = ZsOf es t.nm) (hi : EdgesIn ws m es) : EdgesOf l es := by
  intro u v
  by_cases hu : u ∈ l.map Tb.nm
  · obtain ⟨t, ht, rfl⟩ := List.mem_map.mp hu
    rw [leads_of nd ht, hz t ht]
    unfold ZsOf
    constructor
    · intro h
      obtain ⟨e, he, rfl⟩ := List.mem_map.mp h
      obtain ⟨h1, h2⟩ := List.mem_filter.mp he
      exact ⟨e.2.2, by rw [← of_decide_eq_true h2]; exact h1⟩
    · rintro ⟨n, hn⟩
      exact List.mem_map.mpr ⟨_, List.mem_filter.mpr ⟨hn, decide_eq_true rfl⟩, rfl⟩
  · constructor
    · intro h
      unfold leads at h
      cases e : l.find? fun t => decide (t.nm = u) with
      | none => rw [e] at h; exact nomatch h
      | some t =>
        have h1 := List.mem_of_find?_eq_some e
        have h2 := List.find?_some e
        exact absurd (List.mem_map.mpr ⟨t, h1, of_decide_eq_true h2⟩) hu
    · rintro ⟨n, hn⟩
      exact absurd (by rw [hnm]; exact hi.src _ hn) hu
theorem Ans.one {l : List Tb} {ws : List Str} {k k' z z' : Str} (h : Ans l ws k z) (h' : Ans l ws k' z') : k = k' ∧ z = z' := by
  have first : ∀ {i j : Nat} {t u : Tb}, l[i]? = some t → l[j]? = some u → (∀ u ∈ l.take i, ¬ Rch l u.nm u.nm) → (∀ u ∈ l.take j, ¬ Rch l u.nm u.nm) → Rch l t.nm t.nm → Rch l u.nm u.nm → t = u := by
    intro i j t u hi hj bi bj ri rj
    rcases Nat.lt_trichotomy i j with h | h | h
    · exact absurd ri (bj t (List.mem_of_getElem? (by rw [List.getElem?_take_of_lt h]; exact hi)))
    · subst h
      exact Option.some.inj (hi.symm.trans hj)
    · exact absurd rj (bi u (List.mem_of_getElem? (by rw [List.getElem?_take_of_lt h]; exact hj)))
  cases h with
  | unk e => cases h' with
    | unk e' => exact ⟨rfl, Option.some.inj (e.symm.trans e')⟩
    | ring e' => cases e.symm.trans e'
    | good e' => cases e.symm.trans e'
  | ring e hi b r => cases h' with
    | unk e' => cases e.symm.trans e'
    | ring e' hi' b' r' =>
      obtain rfl := first hi hi' b b' r r'
      exact ⟨rfl, rfl⟩
    | good e' n => exact absurd r (n _ (List.mem_of_getElem? hi))
  | good e n hz => cases h' with
    | unk e' => cases e.symm.trans e'
    | ring e' hi' b' r' => exact absurd r' (n _ (List.mem_of_getElem? hi'))
    | good e' n' hz' => exact ⟨rfl, Option.some.inj (hz.symm.trans hz')⟩
/-- values that are tuples (from, to, number) -/
structure EdgesV (H : Hp) (vs : List V) (es : List (Str × Str × Int)) : Prop where
  len : vs.length = es.length
  all : ∀ (i : Nat) (v : V), vs[i]? = some v → ∃ e, es[i]? = some e ∧ ∃ q, v = .ref q ∧ H q = some (.tup [.str e.1, .str e.2.1, .int e.2.2])
theorem EdgesV.hand {H H' : Hp} {p : Addr} {vs : List V} {es : List (Str × Str × Int)} (h : EdgesV H vs es) (hh : HandAt H p) (s : SBut p H H') : EdgesV H' vs es :=
  ⟨h.len, fun i v e => let ⟨e1, h1, q, h2, h3⟩ := h.all i v e; ⟨e1, h1, q, h2, s _ _ (by obtain ⟨_, z, _⟩ := hh; exact ne_of h3 z (fun y => nomatch y)) h3⟩⟩
theorem EdgesV.same {H H' : Hp} {vs : List V} {es : List (Str × Str × Int)} (h : EdgesV H vs es) (s : Same H H') : EdgesV H' vs es :=
  ⟨h.len, fun i v e => let ⟨e1, h1, q, h2, h3⟩ := h.all i v e; ⟨e1, h1, q, h2, s _ _ h3⟩⟩
theorem EdgesV.notL {H H' : Hp} {vs : List V} {es : List (Str × Str × Int)} (h : EdgesV H vs es) (s : NotL H H') : EdgesV H' vs es :=
  ⟨h.len, fun i v e => let ⟨e1, h1, q, h2, h3⟩ := h.all i v e; ⟨e1, h1, q, h2, s _ _ h3 (fun _ z => nomatch z)⟩⟩
/-- values that are tuples whose second item is a name -/
structure LeadV (H : Hp) (rs : List V) (zs : List Str) : Prop where
  len : rs.length = zs.length
  all : ∀ (i : Nat) (v : V), rs[i]? = some v → ∃ z, zs[i]? = some z ∧ ∃ q x y, v = .ref q ∧ H q = some (.tup [x, .str z, y])
theorem LeadV.nil {H : Hp} : LeadV H [] [] := ⟨rfl, fun i v e => (by cases e)⟩
theorem LeadV.same {H H' : Hp} {vs : List V} {es : List Str} (h : LeadV H vs es) (s : Same H H') : LeadV H' vs es :=
  ⟨h.len, fun i v e => let ⟨e1, h1, q, x, y, h2, h3⟩ := h.all i v e; ⟨e1, h1, q, x, y, h2, s _ _ h3⟩⟩
theorem LeadV.notL {H H' : Hp} {vs : List V} {es : List Str} (h : LeadV H vs es) (s : NotL H H') : LeadV H' vs es :=
  ⟨h.len, fun i v e => let ⟨e1, h1, q, x, y, h2, h3⟩ := h.all i v e; ⟨e1, h1, q, x, y, h2, s _ _ h3 (fun _ z => nomatch z)⟩⟩
theorem LeadV.snoc {H : Hp} {vs : List V} {es : List Str} {q : Addr} {x y : V} {z : Str} (h : LeadV H vs es) (hq : H q = some (.tup [x, .str z, y])) : LeadV H (vs ++ [.ref q]) (es ++ [z]) := by
  refine ⟨by rw [List.length_append, List.length_append, h.len]; rfl, fun i v e => ?_⟩
  by_cases hi : i < vs.length
  · rw [List.getElem?_append_left hi] at e
    obtain ⟨e1, h1, h2⟩ := h.all i v e
    exact ⟨e1, by rw [List.getElem?_append_left (by rw [← h.len]; exact hi)]; exact h1, h2⟩
  · have ei : i = vs.length := by
      have := (List.getElem?_eq_some_iff.mp e).1
      rw [List.length_append] at this
      simp at this
      omega
    subst ei
    rw [List.getElem?_append_right (Nat.le_refl _), Nat.sub_self] at e
    obtain rfl : V.ref q = v := Option.some.inj e
    exact ⟨z, by rw [h.len, List.getElem?_append_right (Nat.le_refl _), Nat.sub_self]; rfl, q, x, y, rfl, hq⟩
theorem LeadV.lead {K : PySem.W.Frag} {H : Hp} {a : Addr} {vs : List V} {zs : List Str} (h : LeadV H vs zs) (ha : SqT K H a vs) (hl : zs.length ≤ 100) : Lead K H a vs zs :=
  ⟨ha, h.len, hl, fun i v e => let ⟨z, h1, q, x, y, h2, h3⟩ := h.all i v e; ⟨z, h1, q, [x, .str z, y], h2, SqT.of h3, rfl⟩⟩
theorem zsOf_snoc {es : List (Str × Str × Int)} {i : Nat} {e : Str × Str × Int} {nm : Str} (h : es[i]? = some e) : ZsOf (es.take (i + 1)) nm = ZsOf (es.take i) nm ++ (if e.1 = nm then [e.2.1] else []) := by
  unfold ZsOf
  rw [take_snoc h, List.filter_append, List.map_append]
  by_cases c : e.1 = nm
  · rw [if_pos c, List.filter_cons_of_pos (by simp [c])]
    rfl
  · rw [if_neg c, List.filter_cons_of_neg (by simp [c])]
    rfl
theorem zsOf_len (es : List (Str × Str × Int)) (nm : Str) : (ZsOf es nm).length ≤ es.length := by
  unfold ZsOf
  rw [List.length_map]
  exact List.length_filter_le _ _
/-- the j-th of the made tables -/
structure TbZ (K : PySem.W.Frag) (CT : Addr) (ws : List Str) (es : List (Str × Str × Int)) (H : Hp) (j : Nat) (t : Tb) : Prop where
  nm : ws[j]? = some t.nm
  zs : t.zs = ZsOf es t.nm
  at_ : ∃ dx wd kA lA rA rs, H t.x = some (.ins CT dx (tabF t.nm wd kA lA rA)) ∧ SqT K H rA rs ∧ LeadV H rs t.zs
theorem TbZ.same {K : PySem.W.Frag} {CT : Addr} {ws : List Str} {es : List (Str × Str × Int)} {H H' : Hp} {j : Nat} {t : Tb} (h : TbZ K CT ws es H j t) (s : Same H H') : TbZ K CT ws es H' j t :=
  ⟨h.nm, h.zs, let ⟨dx, wd, kA, lA, rA, rs, h1, h2, h3⟩ := h.at_; ⟨dx, wd, kA, lA, rA, rs, s _ _ h1, same_seqT s h2, h3.same s⟩⟩
theorem TbZ.notL {K : PySem.W.Frag} {CT : Addr} {ws : List Str} {es : List (Str × Str × Int)} {H H' : Hp} {j : Nat} {t : Tb} (h : TbZ K CT ws es H j t) (s : NotL H H') : TbZ K CT ws es H' j t :=
  ⟨h.nm, h.zs, let ⟨dx, wd, kA, lA, rA, rs, h1, h2, h3⟩ := h.at_; ⟨dx, wd, kA, lA, rA, rs, s _ _ h1 (fun _ z => nomatch z), s.tup h2, h3.notL s⟩⟩
theorem TbZ.tb {K : PySem.W.Frag} {CT : Addr} {ws : List Str} {es : List (Str × Str × Int)} {H : Hp} {j : Nat} {t : Tb} (h : TbZ K CT ws es H j t) (hl : es.length ≤ 100) : TbAt K CT H t :=
  ⟨let ⟨dx, wd, kA, lA, rA, rs, h1, h2, h3⟩ := h.at_; ⟨dx, wd, kA, lA, rA, rs, h1, h3.lead h2 (by rw [h.zs]; exact Nat.le_trans (zsOf_len _ _) hl)⟩⟩
theorem Ans.mem {l : List Tb} {ws : List Str} {m : Nat} {es : List (Str × Str × Int)} {k z : Str} (h : Ans l ws k z) (hz : ∀ t ∈ l, t.zs = ZsOf es t.nm) (hi : EdgesIn ws m es) (hn : l.map Tb.nm = ws.take m) : z ∈ ws := by
  cases h with
  | unk e =>
    obtain ⟨t, ht, hm⟩ := List.mem_flatMap.mp (List.mem_of_find?_eq_some e)
    rw [hz t ht] at hm
    obtain ⟨e1, h1, rfl⟩ := List.mem_map.mp hm
    exact hi.dst _ (List.mem_filter.mp h1).1
  | ring _ ht _ _ =>
    have := List.mem_map_of_mem (f := Tb.nm) (List.mem_of_getElem? ht)
    rw [hn] at this
    exact List.mem_of_mem_take this
  | good _ _ h0 => exact List.mem_of_getElem? h0
theorem Ans.ok {l : List Tb} {ws : List Str} {k z : Str} (h : Ans l ws k z) : SOk k := by
  cases h with
  | unk _ => exact ⟨by decide +kernel, by decide +kernel⟩
  | ring _ _ _ _ => exact ⟨by decide +kernel, by decide +kernel⟩
  | good _ _ _ => exact ⟨by decide +kernel, by decide +kernel⟩
/-- two tuples of the same two texts -/
theorem eqv_two {a b : Str} (ha : SOk a) (hb : SOk b) : SeqAt.shaped (.tuple [.str a, .str b]) = true ∧ PySem.PyData.eqv (.tuple [.str a, .str b]) (.tuple [.str a, .str b]) = true := by
  have c : PySem.PyData.canLay0 (.tuple [.str a, .str b]) = true := by
    show (PySem.PyData.strOk a && (PySem.PyData.strOk b && true)) = true
    rw [ha.2, hb.2]
    rfl
  refine ⟨?_, PySem.SeqAt.eqv_refl _ c⟩
  unfold SeqAt.shaped
  rw [c]
  rfl
end Sw
namespace Sw
open PySem PySem.Spec PyProof.Rows L2
/-- a dict of lists of words that is new, all its lists new -/
structure MenusAt (H0 H : Hp) (M : Addr) (es : List Ent) : Prop where
  at_ : H M = some (.dK (es.map fun e => (e.1, V.ref e.2.1)))
  nd : (es.map (·.1)).Nodup
  fr : H0 M = none
  all : ∀ e ∈ es, H e.2.1 = some (.lst (e.2.2.map V.str)) ∧ e.2.2.length ≤ 3 ∧ (∀ z ∈ e.2.2, SOk z) ∧ (∃ k : Key, e.1 = k) ∧ H0 e.2.1 = none
theorem MenusAt.same {H0 H H' : Hp} {M : Addr} {es : List Ent} (h : MenusAt H0 H M es) (s : Same H H') : MenusAt H0 H' M es :=
  ⟨s _ _ h.at_, h.nd, h.fr, fun e he => ⟨s _ _ (h.all e he).1, (h.all e he).2⟩⟩
theorem short_ne {H : Hp} {p b : Addr} {xs : List V} (hh : HandAt H p) (h : H b = some (.lst xs)) (l : xs.length ≤ 60) : b ≠ p := by
  rintro rfl
  obtain ⟨ns, e, hl⟩ := hh
  have := HO.lst.inj (Option.some.inj (h.symm.trans e))
  rw [this, List.length_map] at l
  omega
theorem MenusAt.hand {H0 H H' : Hp} {M p : Addr} {es : List Ent} (h : MenusAt H0 H M es) (hh : HandAt H p) (s : SBut p H H') : MenusAt H0 H' M es :=
  ⟨s _ _ (by obtain ⟨_, z, _⟩ := hh; exact ne_of h.at_ z (fun y => nomatch y)) h.at_, h.nd, h.fr, fun e he => ⟨s _ _ (short_ne hh (h.all e he).1 (by rw [List.length_map]; exact Nat.le_trans (h.all e he).2.1 (by decide))) (h.all e he).1, (h.all e he).2⟩⟩
theorem MenusAt.dict {K : PySem.W.Frag} {H0 H : Hp} {M : Addr} {es : List Ent} (h : MenusAt H0 H M es) (hl : es.length ≤ 3) : LDict K H M es :=
  ⟨h.at_, h.nd, Nat.le_trans hl (by decide), fun e he => ⟨.inl (SqL.of (h.all e he).1), Nat.lt_of_le_of_lt (h.all e he).2.1 (by decide)⟩⟩
/-- neither the dict nor one of its lists -/
def Out (M : Addr) (es : List Ent) (b : Addr) : Prop := b ≠ M ∧ ∀ e ∈ es, b ≠ e.2.1
def Keeps (M : Addr) (es : List Ent) (H H' : Hp) : Prop := ∀ b o, Out M es b → H b = some o → H' b = some o
theorem MenusAt.old {H0 H : Hp} {M b : Addr} {o : HO} {es : List Ent} (h : MenusAt H0 H M es) (hb : H0 b = some o) : Out M es b :=
  ⟨ne_of_none hb h.fr, fun e he => ne_of_none hb (h.all e he).2.2.2.2⟩
theorem MenusAt.new {H0 H : Hp} {M b : Addr} {es : List Ent} (h : MenusAt H0 H M es) (hb : H b = none) : Out M es b :=
  ⟨fun z => (by rw [z, h.at_] at hb; cases hb), fun e he z => (by rw [z, (h.all e he).1] at hb; cases hb)⟩
theorem MenusAt.kind {H0 H : Hp} {M b : Addr} {o : HO} {es : List Ent} (h : MenusAt H0 H M es) (hb : H b = some o) (h1 : ∀ kvs, o ≠ .dK kvs) (h2 : ∀ xs, o ≠ .lst xs) : Out M es b :=
  ⟨ne_of hb h.at_ (h1 _), fun e he => ne_of hb (h.all e he).1 (h2 _)⟩
/-- an entry for each of the dict's: its key, the words ascending -/
structure DueAt (H : Hp) (vs : List V) (es : List Ent) : Prop where
  len : vs.length = es.length
  all : ∀ (i : Nat) (v : V), vs[i]? = some v → ∃ e, es[i]? = some e ∧ ∃ q T us, v = .ref q ∧ H q = some (.tup [kV e.1, .ref T]) ∧ H T = some (.tup (us.map V.str)) ∧ AscS us ∧ (∀ z, z ∈ us ↔ z ∈ e.2.2)
theorem DueAt.nil {H : Hp} : DueAt H [] [] := ⟨rfl, fun i v e => (by cases e)⟩
/-- beside what is no tuple -/
def KeepT (H H' : Hp) : Prop := ∀ b xs, H b = some (.tup xs) → H' b = some (.tup xs)
theorem Same.keepT {H H' : Hp} (s : Same H H') : KeepT H H' := fun _ _ h => s _ _ h
theorem KeepT.trans {H H1 H' : Hp} (s : KeepT H H1) (t : KeepT H1 H') : KeepT H H' := fun _ _ h => t _ _ (s _ _ h)
theorem NotL.keepT {H H' : Hp} (s : NotL H H') : KeepT H H' := fun _ _ h => s _ _ h (fun _ z => nomatch z)
theorem hand_keepT {H H' : Hp} {p : Addr} (hh : HandAt H p) (s : SBut p H H') : KeepT H H' := fun b xs h => s _ _ (by obtain ⟨_, z, _⟩ := hh; exact ne_of h z (fun y => nomatch y)) h
theorem DueAt.keep {H H' : Hp} {vs : List V} {es : List Ent} (h : DueAt H vs es) (s : KeepT H H') : DueAt H' vs es :=
  ⟨h.len, fun i v e => let ⟨e1, h1, q, T, us, h2, h3, h4, h5⟩ := h.all i v e; ⟨e1, h1, q, T, us, h2, s _ _ h3, s _ _ h4, h5⟩⟩
theorem DueAt.snoc {H : Hp} {vs : List V} {es : List Ent} {e : Ent} {q T : Addr} {us : List Str} (h : DueAt H vs es) (hq : H q = some (.tup [kV e.1, .ref T])) (hT : H T = some (.tup (us.map V.str))) (ha : AscS us) (hm : ∀ z, z ∈ us ↔ z ∈ e.2.2) : DueAt H (vs ++ [.ref q]) (es ++ [e]) := by
  refine ⟨by rw [List.length_append, List.length_append, h.len]; rfl, fun i v hv => ?_⟩
  by_cases hi : i < vs.length
  · rw [List.getElem?_append_left hi] at hv
    obtain ⟨e1, h1, h2⟩ := h.all i v hv
    exact ⟨e1, by rw [List.getElem?_append_left (by rw [← h.len]; exact hi)]; exact h1, h2⟩
  · have ei : i = vs.length := by
      have := (List.getElem?_eq_some_iff.mp hv).1
      rw [List.length_append] at this
      simp at this
      omega
    subst ei
    rw [List.getElem?_append_right (Nat.le_refl _), Nat.sub_self] at hv
    obtain rfl : V.ref q = v := Option.some.inj hv
    exact ⟨e, by rw [h.len, List.getElem?_append_right (Nat.le_refl _), Nat.sub_self]; rfl, q, T, us, rfl, hq, hT, ha, hm⟩
/-- values that are tuples (number, name, number) -/
structure TripV (H : Hp) (vs : List V) (ls : List (Int × Str × Int)) : Prop where
  len : vs.length = ls.length
  all : ∀ (i : Nat) (v : V), vs[i]? = some v → ∃ e, ls[i]? = some e ∧ ∃ q, v = .ref q ∧ H q = some (.tup [.int e.1, .str e.2.1, .int e.2.2])
theorem TripV.nil {H : Hp} : TripV H [] [] := ⟨rfl, fun i v e => (by cases e)⟩
theorem TripV.keep {H H' : Hp} {vs : List V} {ls : List (Int × Str × Int)} (h : TripV H vs ls) (s : KeepT H H') : TripV H' vs ls :=
  ⟨h.len, fun i v e => let ⟨e1, h1, q, h2, h3⟩ := h.all i v e; ⟨e1, h1, q, h2, s _ _ h3⟩⟩
theorem TripV.snoc {H : Hp} {vs : List V} {ls : List (Int × Str × Int)} {e : Int × Str × Int} {q : Addr} (h : TripV H vs ls) (hq : H q = some (.tup [.int e.1, .str e.2.1, .int e.2.2])) : TripV H (vs ++ [.ref q]) (ls ++ [e]) := by
  refine ⟨by rw [List.length_append, List.length_append, h.len]; rfl, fun i v hv => ?_⟩
  by_cases hi : i < vs.length
  · rw [List.getElem?_append_left hi] at hv
    obtain ⟨e1, h1, h2⟩ := h.all i v hv
    exact ⟨e1, by rw [List.getElem?_append_left (by rw [← h.len]; exact hi)]; exact h1, h2⟩
  · have ei : i = vs.length := by
      have := (List.getElem?_eq_some_iff.mp hv).1
      rw [List.length_append] at this
      simp at this
      omega
    subst ei
    rw [List.getElem?_append_right (Nat.le_refl _), Nat.sub_self] at hv
    obtain rfl : V.ref q = v := Option.some.inj hv
    exact ⟨e, by rw [h.len, List.getElem?_append_right (Nat.le_refl _), Nat.sub_self]; rfl, q, rfl, hq⟩
def trD (ls : List (Int × Str × Int)) : List PyData := ls.map fun e => .tuple [.int e.1, .str e.2.1, .int e.2.2]
theorem TripV.dp {K : PySem.W.Frag} {H : Hp} : ∀ {vs : List V} {ls : List (Int × Str × Int)}, TripV H vs ls → DpAll K H vs (trD ls)
  | [], [], _ => .nil
  | [], _ :: _, h => nomatch h.len
  | _ :: _, [], h => nomatch h.len
  | v :: vs, l :: ls, h => by
    obtain ⟨e, h1, q, rfl, h2⟩ := h.all 0 _ rfl
    obtain rfl : l = e := Option.some.inj h1
    exact .cons (.tup (SqT.of h2) (.cons (.int _) (.cons (.str _) (.cons (.int _) .nil)))) (TripV.dp ⟨Nat.succ.inj h.len, fun i v hv => h.all (i + 1) v hv⟩)
theorem canTrips : ∀ {ls : List (Int × Str × Int)}, (∀ e ∈ ls, SOk e.2.1) → PySem.PyData.canLayAll0 (trD ls) = true ∧ PySem.PyData.depthAll (trD ls) ≤ 1
  | [], _ => ⟨rfl, Nat.zero_le _⟩
  | e :: r, h => by
    obtain ⟨h1, h2⟩ := canTrips (ls := r) fun x hx => h x (List.mem_cons_of_mem _ hx)
    constructor
    · show ((true && (PySem.PyData.strOk e.2.1 && (true && true))) && PySem.PyData.canLayAll0 (trD r)) = true
      rw [h1, (h e List.mem_cons_self).2]
      rfl
    · show max (max 0 (max 0 (max 0 0)) + 1) (PySem.PyData.depthAll (trD r)) ≤ 1
      omega
theorem shapedTrips {ls : List (Int × Str × Int)} (h : ∀ e ∈ ls, SOk e.2.1) : SeqAt.shaped (.tuple (trD ls)) = true ∧ PySem.PyData.eqv (.tuple (trD ls)) (.tuple (trD ls)) = true := by
  obtain ⟨h1, h2⟩ := canTrips h
  have e1 : PySem.PyData.canLay0 (.tuple (trD ls)) = true := h1
  refine ⟨?_, PySem.SeqAt.eqv_refl _ e1⟩
  unfold SeqAt.shaped
  have e2 : PySem.PyData.depth (.tuple (trD ls)) = PySem.PyData.depthAll (trD ls) + 1 := rfl
  rw [e1, e2, decide_eq_true (by omega)]
  rfl
theorem dpInts {K : PySem.W.Frag} {H : Hp} : ∀ s : List Int, DpAll K H (s.map V.int) (s.map .int)
  | [] => .nil
  | z :: r => .cons (.int z) (dpInts r)
theorem canInts : ∀ s : List Int, PySem.PyData.canLayAll0 (s.map .int) = true ∧ PySem.PyData.depthAll (s.map .int) = 0
  | [] => ⟨rfl, rfl⟩
  | z :: r => by
    obtain ⟨h1, h2⟩ := canInts r
    constructor
    · show (true && PySem.PyData.canLayAll0 (r.map .int)) = true
      rw [h1]
      rfl
    · show max 0 (PySem.PyData.depthAll (r.map .int)) = 0
      rw [h2]
      rfl
theorem shapedInts (s : List Int) : SeqAt.shaped (.tuple (s.map .int)) = true ∧ PySem.PyData.eqv (.tuple (s.map .int)) (.tuple (s.map .int)) = true := by
  obtain ⟨h1, h2⟩ := canInts s
  have e1 : PySem.PyData.canLay0 (.tuple (s.map .int)) = true := h1
  refine ⟨?_, PySem.SeqAt.eqv_refl _ e1⟩
  unfold SeqAt.shaped
  have e2 : PySem.PyData.depth (.tuple (s.map .int)) = PySem.PyData.depthAll (s.map .int) + 1 := rfl
  rw [e1, e2, h2]
  rfl
theorem shapedStrs {s : List Str} (h : ∀ z ∈ s, SOk z) : SeqAt.shaped (.tuple (s.map .str)) = true ∧ PySem.PyData.eqv (.tuple (s.map .str)) (.tuple (s.map .str)) = true := by
  obtain ⟨h1, h2⟩ := canStrs h
  have e1 : PySem.PyData.canLay0 (.tuple (s.map .str)) = true := h1
  refine ⟨?_, PySem.SeqAt.eqv_refl _ e1⟩
  unfold SeqAt.shaped
  have e2 : PySem.PyData.depth (.tuple (s.map .str)) = PySem.PyData.depthAll (s.map .str) + 1 := rfl
  rw [e1, e2, h2]
  rfl
theorem paired_get {α β : Type} {F : α → β → Prop} : ∀ {l₁ : List α} {l₂ : List β}, Paired F l₁ l₂ → ∀ {i : Nat} {a : α}, l₁[i]? = some a → ∃ b, l₂[i]? = some b ∧ F a b
  | _, _, .nil, _, _, h => nomatch h
  | _, _, .cons r t, 0, a, h => ⟨_, rfl, Option.some.inj h ▸ r⟩
  | _, _, .cons r t, i + 1, a, h => paired_get t (i := i) h
theorem nodup_leA {α : Type} [DecidableEq α] : ∀ {fs ns : List α}, fs.Nodup → (∀ z ∈ fs, z ∈ ns) → fs.length ≤ ns.length
  | [], _, _, _ => Nat.zero_le _
  | f :: r, ns, nd, h => by
    have ih := nodup_leA (fs := r) (ns := ns.erase f) (List.nodup_cons.mp nd).2 fun z hz => (List.mem_erase_of_ne (fun e => (List.nodup_cons.mp nd).1 (by rw [← e]; exact hz))).mpr (h z (List.mem_cons_of_mem _ hz))
    have hm := h f List.mem_cons_self
    rw [List.length_erase_of_mem hm] at ih
    have := List.length_pos_of_mem hm
    rw [List.length_cons]
    omega
theorem ascI_nodup {l : List Int} (h : AscI l) : l.Nodup := h.imp fun e => Int.ne_of_lt e
theorem tyT {K : PySem.W.Frag} {H : Hp} {a : Addr} {xs : List V} (h : SqT K H a xs) : TyX K H (.ref a) (.type "tuple") := by
  rcases h with (h | ⟨u, h⟩) | ⟨o, its, n, h, hc, _⟩
  · exact .base (.tup h)
  · exact .fTuple h
  · exact .kTuple h hc
end Sw
namespace Sw
open PySem PySem.Spec PyProof.Rows L2
/-- t looks the names up in the dict at D, one behind another, and goes on as r -/
def ChainTo {α : Type} (D : Addr) : List (Str × Value) → Sem α → Sem α → Prop
  | [], t, r => t = r
  | q :: l, t, r => ∃ (β γ : Type) (k1 : Option Value → Sem β) (k2 : β → Sem γ) (k3 : γ → Sem α) (a : β), t = ((nsGet D q.1 >>= k1) >>= k2) >>= k3 ∧ k1 (some q.2) = pure a ∧ ChainTo D l (k2 a >>= k3) r
theorem chain_wp {α : Type} {K : PySem.W.Frag} {M : Model} {A : Around} {D : Addr} {Q : α → Shared → Prop} {E : Value → Shared → Prop} {s : Shared} (X : K.In s.heap) : ∀ {l : List (Str × Value)} {t r : Sem α}, (∀ q ∈ l, PySem.W.nsIn K D q.1 = some (some q.2)) → ChainTo D l t r →
    wpAny M A r Q E s → wpAny M A t Q E s
  | [], t, r, _, e, h => by rw [e]; exact h
  | q :: l, t, r, hl, e, h => by
    obtain ⟨β, γ, k1, k2, k3, a, e1, e2, e3⟩ := e
    have l1 : PySem.W.Looks M s.heap (nsGet D q.1 >>= k1) a := (PySem.W.looks_nsIn X (hl q List.mem_cons_self)).andThen (PySem.W.Looks.of_pure e2)
    rw [e1, bind_assoc]
    exact wpAny_bind (l1 A _ E s (fun _ _ z => z) (chain_wp X (fun p hp => hl p (List.mem_cons_of_mem _ hp)) e3 h))
/-- what a def with a star parameter and keyword-only ones promises, called with the keywords ks -/
def FnRK (P : Program) (w : World) (K : PySem.W.Frag) (mg : Str → Option Value) (base : Heap) (CX : CXT) (k : Nat) (f : Addr) (ks : List Str) (sp : List V → List V → Hp → VK → XK → Prop) : Prop :=
  ∀ (A : Around) (outer : List Env) (s : Shared) (H : Hp) (us ws : List Value) (vs zs : List V) (Q : VK) (E : XK), Room k A → Env0 P w K mg base A outer s H → Vals vs us → Vals zs ws → zs.length = ks.length → sp vs zs H Q E →
    codeAny (model P w) A (.call (.ref f) ⟨us, ks.zip ws⟩) (CR CX outer P w H s Q E) s
section
variable {CX : CXT} {P : Program} {w : World} {K : PySem.W.Frag} {mg : Str → Option Value} {base : Heap} {k : Nat} {f D : Addr} {name qual : Str} {params : Arguments} {body : List Stmt} {scope : Scope} {dV kV doc pm cdv ct oc : Value} {an od : Option Addr} {osl : Array (Option Value)} {N ps kn ks : List Str}
/-- def f(a, .., *v, k = .., ..) -/
theorem fn_starK {pv : Str} {ms : List (Str × Value)} {ord : List Value → List Value} {ordV : List V → List V} {sp : Sp} (lk : K.lookup f = some ⟨oc, od, .func (PySem.W.fnOf name qual params body scope dV kV doc pm an cdv ct), osl⟩) (hcd : PySem.W.codeIn K cdv qual = true) (S : FnScope N ((ps ++ kn) ++ [pv]) scope) (up : StX.CXUp CX)
    (hms : ∀ q ∈ ms, PySem.W.nsIn K D q.1 = some (some q.2)) (hord : ∀ {zs : List V} {ws : List Value}, Vals zs ws → zs.length = ks.length → Vals (ordV zs) (ord ws) ∧ (ordV zs).length = kn.length)
    (hb : ∀ us rest ws : List Value, us.length = ps.length → ws.length = ks.length → ChainTo D ms (bindArgs (PySem.W.fnOf name qual params body scope dV kV doc pm an cdv ct) ⟨us ++ rest, ks.zip ws⟩) (newTuple rest >>= fun t => pure ((ps ++ kn).zip (us ++ ord ws) ++ [(pv, t)])))
    (hbody : ∀ (A : Around) (outer : List Env) (s : Shared) (H : Hp) (vs : List V) (Q : VK) (E : XK), Room k (A.deeper (envOfC qual scope s.heap.objs.size f cdv)) → sp vs H Q E →
      ∃ t, PSs (cxOf CX P w K mg base N qual scope f cdv A outer s H E) body t ∧ t { nx := fun _ H' => Q .non H', rt := Q } (L2.start N vs) H) :
    FnRK P w K mg base CX (k + 1) f ks (fun vs zs H Q E => ∃ as rest, vs = as ++ rest ∧ as.length = ps.length ∧ rest.length ≤ sizeLine ∧ ∀ p, H p = Option.none → sp ((as ++ ordV zs) ++ [V.ref p]) (upd H p (.tup rest)) Q E) := by
  rintro A outer s H us ws vs zs Q E hr e0 r rz lz ⟨as, rest, rfl, la, lr, hq⟩
  obtain ⟨u1, u2, rfl, r1, r2⟩ := StX.vals_split r
  have free : H s.heap.objs.size = Option.none := e0.hok.fresh (Nat.le_refl _)
  have lu1 : u1.length = ps.length := by rw [← r1.length]; exact la
  have lu2 : u2.length ≤ sizeLine := by rw [← r2.length]; exact lr
  have lws : ws.length = ks.length := by rw [← rz.length]; exact lz
  obtain ⟨ro, lo⟩ := hord rz lz
  have KX : K.In s.heap := e0.mod.kin.keeps fun b o e => (e0.bs b o e).1
  refine StX.run_bnd lk hcd S hr e0 (G := fun xs H2 => ∃ p, H p = Option.none ∧ xs = (as ++ ordV zs) ++ [V.ref p] ∧ H2 = upd H p (.tup rest)) (fun A' Ex Q' h => ?_) fun s2 H2 xs ⟨p, hp, ex, eH⟩ hr' => ?_
  · refine chain_wp KX hms (hb u1 u2 ws lu1 lws) (wpAny_bind (wpAny_newTuple (wpAny_pure ?_) lu2))
    have made : ObjOk P w (upd H s.heap.objs.size (.tup rest)) (s.heap.push ({ cls := .type "tuple", data := .seq u2.toArray } : Obj)) s.heap.objs.size (.tup rest) := ⟨lr, u2, r2, ⟨_, Heap.get?_push_size _ rfl, rfl, _, rfl⟩⟩
    have un := StX.un_laid (fs := frs outer) (s := s) (o := ({ cls := .type "tuple", data := .seq u2.toArray } : Obj)) (u := .tup rest) free
    have z := h _ _ ((as ++ ordV zs) ++ [V.ref s.heap.objs.size]) ((u1 ++ ord ws) ++ [Value.ref s.heap.objs.size]) (StX.env0_laid e0 made) un rfl (fun e s' => up outer s H _ _ E e s' un (fun b o q => Heap.get?_push_of_some _ q) rfl) ((r1.append ro).append (.cons rfl .nil))
      (by rw [List.length_append, List.length_append, List.length_append, List.length_append, la, lo]; rfl) ⟨_, free, rfl, rfl⟩
    rw [List.zip_append (by rw [List.length_append, List.length_append, lu1, ← lo, ro.length])] at z
    exact z
  · subst ex eH
    exact hbody A outer s2 _ _ Q E hr' (hq p hp)
end
/-- C(e, .., k = v, ..) by such a promise of its __init__ -/
def tMakeRK (C : Addr) (m : Nat) (sp : List V → List V → Hp → VK → XK → Prop) (E : XK) (t tk : TA) : TE := fun σ H Q => t σ H fun vs H1 => tk σ H1 fun zs H2 => zs.length = m ∧ ∀ x dx, H2 x = Option.none → H2 dx = Option.none → dx ≠ x →
  sp (V.ref x :: vs) zs (upd (upd H2 dx (.own x)) x (.ins C dx [])) (fun v H3 => v = .non ∧ Q (.ref x) H3) E
section
variable {X : Cx} {CX : CXT} {k : Nat} {f C : Addr} {ks : List Str} {sp : List V → List V → Hp → VK → XK → Prop} {E : XK} {x : Str} {p pos : Pos} {e : Expr} {es : List Expr} {kws : List Keyword} {t tk : TA}
theorem run_makeRK {pins : List (Addr × Obj)} {σ : L2.St} {H : Hp} {s : Shared} {Q : VK} {us ws : List Value} {vs zs : List V} (M : Mk X.K C f) (F : FnRK X.prog X.w X.K X.mg X.base CX k f ks sp) (hr : Room (k + 1) X.A) (hx : Passes CX X E) (I : Inv X pins σ H s) (r : Vals vs us) (rz : Vals zs ws) (lz : zs.length = ks.length)
    (h : ∀ x dx, H x = Option.none → H dx = Option.none → dx ≠ x → sp (V.ref x :: vs) zs (upd (upd H dx (.own x)) x (.ins C dx [])) (fun v H2 => v = .non ∧ Q (.ref x) H2) E) :
    wpAny (model X.prog X.w) X.A (call (.ref C) us (ks.zip ws)) (EP X pins σ Q) X.xe s := by
  have w := h (s.heap.objs.size + 1) s.heap.objs.size (I.hok.fresh (Nat.le_succ _)) (I.hok.fresh (Nat.le_refl _)) (Nat.ne_of_lt (Nat.lt_succ_self _))
  have J := Inv.made (C := C) I
  have rc : Vals (V.ref (s.heap.objs.size + 1) :: vs) (Value.ref (s.heap.objs.size + 1) :: us) := .cons rfl r
  refine wpAny_call (make_map (f := f) I.kIn M.makes M.init (beq_iff_eq.mp M.fn) (codeAny_mono (F _ X.stack _ _ (Value.ref (s.heap.objs.size + 1) :: us) ws _ _ _ E (hr.make C us (ks.zip ws)) (J.env0.make C us (ks.zip ws)) rc rz lz w) fun res s' w' => ?_))
  cases res with
  | error er => exact hx pins σ _ _ er s' J w'
  | ok fl =>
    cases fl with
    | ret u =>
      obtain ⟨v, H', J3, rv, ev, q3⟩ := J.after w'
      subst ev
      exact ⟨rv, ⟨V.ref (s.heap.objs.size + 1), H', J3, rfl, q3⟩⟩
    | next => exact w'.elim
    | brk => exact w'.elim
    | cont => exact w'.elim
theorem pe_makeRK (M : Mk X.K C f) (F : FnRK X.prog X.w X.K X.mg X.base CX k f ks sp) (hr : Room (k + 1) X.A) (hg : Gl X x) (hm : X.mg x = some (.ref C)) (hx : Passes CX X E) (ha : PA X (e :: es) t) (hkw : PK X kws tk)
    (h1 : (backToKw pos (keywordEach kws X.env)).all (·.1.isSome) = true := by rfl) (h2 : (backToKw pos (keywordEach kws X.env)).filterMap (·.1) = ks := by rfl) (h3 : (x == ("__debug__" : Str)) = false := by decide)
    (h4 : starEach (e :: es) X.env = (false, eval e X.env) :: starEach es X.env := by rfl) (h5 : ((backTo pos (starEach (e :: es) X.env)).any (·.1) || (backToKw pos (keywordEach kws X.env)).any (·.1.isNone)) = false := by rfl) :
    PE X (.Call (.Name x p) (e :: es) kws pos) (tMakeRK C ks.length sp E t tk) := by
  refine ⟨fun pins s σ H Q I h => wpAny_Call_Name_kw (ld_glob I hg hm ?_ h3)⟩
  refine PySem.W.callWith_KW (h₀ := X.base) I.ok.mod.kin M.kp h1 (thn (ha.run pos pins s σ H _ I h) fun us s1 ⟨vs, H1, I1, r, q⟩ => ?_) h5 h4
  refine thn (hkw.run pos pins s1 σ H1 _ I1 q) fun ws s2 ⟨zs, H2, I2, rz, l2, q2⟩ => ⟨I2.kIn, ?_⟩
  rw [h2]
  exact run_makeRK M F hr hx I2 r rz l2 q2
/-- without keywords -/
theorem FnRK.none {P : Program} {w : World} {K : PySem.W.Frag} {mg : Str → Option Value} {base : Heap} (F : FnRK P w K mg base CX k f [] sp) : FnR P w K mg base CX k f (fun vs H Q E => sp vs [] H Q E) :=
  fun A outer s H us vs Q E hr e0 r h => F A outer s H us [] vs [] Q E hr e0 r .nil rfl h
end
end Sw
namespace Sw
open PySem PySem.Spec PyProof.Rows L2
/-- a part of a table: its name, then as many terms as the table has columns -/
structure PartGood (rows : List Rw) (s : List Str) : Prop where
  row : ∃ r ∈ rows, s.head? = some r.nm ∧ (s.tail.length : Int) = r.wd
  short : ∀ z ∈ s, z.length ≤ 1000
  terms : ∀ z ∈ s.tail, isTermS z = true
  two : 2 ≤ s.length
  len : s.length ≤ 10
/-- the table of a row -/
theorem SchOf.get {K : PySem.W.Frag} {CT CS S : Addr} {H : Hp} {rows : List Rw} {l : List Tb} (h : SchOf K CT CS H S rows l) {r : Rw} (hr : r ∈ rows) : ∃ t ∈ l, t.nm = r.nm ∧ TbOf K CT H t r := by
  obtain ⟨i, hi⟩ := List.mem_iff_getElem?.mp hr
  have hil := (List.getElem?_eq_some_iff.mp hi).1
  have ht := List.getElem?_eq_getElem (show i < l.length by rw [h.len]; exact hil)
  obtain ⟨r', h1, h2⟩ := h.all i _ ht
  rw [hi] at h1
  obtain rfl := Option.some.inj h1
  exact ⟨_, List.mem_of_getElem? ht, h2.nm, h2⟩
/-- check_part(schema, part), a good part -/
def spPartOk (K : PySem.W.Frag) (CT CS : Addr) : Sp := fun vs H Q _ => ∃ (S a : Addr) (s : List Str) (rows : List Rw) (l : List Tb), vs = [.ref S, .ref a] ∧ SchOf K CT CS H S rows l ∧ SqT K H a (s.map V.str) ∧ PartGood rows s ∧ ∀ H' : Hp, Same H H' → Q .non H'
end Sw
namespace Sw
open PySem PySem.Spec PyProof.Rows L2
section
variable {J J1 : It} {n n1 : Nat} {G G1 : Hp → Prop} {Y Y1 : Nat → Hp → V → Hp → Prop} {g g1 : TG} {tt tt1 : TT} {te : TE} {wi1 : TI} {vs vs1 : List Nat} {σ σ2 : L2.St} {H1 H4 : Hp} {D : Addr} {Qd Nx : Hp → Prop}
/-- [.. for .. in .. for .. in ..]: the outer walk, what stands after each of its turns given -/
theorem lc2_it (w : Walk J n G Y) (Pv : Nat → Hp → Prop) (h0 : Pv 0 (upd H1 D (.lst []))) (hG : ∀ i H, i ≤ n → Pv i H → G H)
    (hs : ∀ i x H H', i < n → Pv i H → Y i H x H' → g x (wipe σ vs) H' fun σ2 H2 => wipe σ2 vs = wipe σ vs ∧ tt σ2 H2 fun b H3 =>
      if b = true then wi1 σ2 H3 fun J1 H4 => ∃ W1 : Nat → Nat → Hp → Prop, (∃ m, W1 0 m H4) ∧ ∀ j k H, W1 j k H →
          (J1.stop j H ∧ Pv (i + 1) H) ∨ (J1.go j H ∧ ∃ Nx1 : Hp → Prop, (∀ H', Nx1 H' → ∃ k', k' < k ∧ W1 (j + 1) k' H') ∧ ∀ x H', J1.yld j H x H' → g1 x (wipe σ2 vs1) H' fun σ3 H5 => wipe σ3 vs1 = wipe σ2 vs1 ∧ tt1 σ3 H5 fun b H6 =>
            if b = true then te σ3 H6 fun y H7 => ∃ acc, H7 D = some (.lst acc) ∧ acc.length < sizeLine ∧ Nx1 (upd H7 D (.lst (acc ++ [y]))) else Nx1 H6)
      else Pv (i + 1) H3) (hd : ∀ H, Pv n H → Qd H) :
    ∃ W : Nat → Nat → Hp → Prop, (∃ m, W 0 m (upd H1 D (.lst []))) ∧ ∀ i m H, W i m H →
      (J.stop i H ∧ Qd H) ∨ (J.go i H ∧ ∃ Nx : Hp → Prop, (∀ H', Nx H' → ∃ m', m' < m ∧ W (i + 1) m' H') ∧ ∀ x H', J.yld i H x H' → g x (wipe σ vs) H' fun σ2 H2 => wipe σ2 vs = wipe σ vs ∧ tt σ2 H2 fun b H3 =>
        if b = true then wi1 σ2 H3 fun J1 H4 => ∃ W1 : Nat → Nat → Hp → Prop, (∃ m, W1 0 m H4) ∧ ∀ j k H, W1 j k H →
          (J1.stop j H ∧ Nx H) ∨ (J1.go j H ∧ ∃ Nx1 : Hp → Prop, (∀ H', Nx1 H' → ∃ k', k' < k ∧ W1 (j + 1) k' H') ∧ ∀ x H', J1.yld j H x H' → g1 x (wipe σ2 vs1) H' fun σ3 H5 => wipe σ3 vs1 = wipe σ2 vs1 ∧ tt1 σ3 H5 fun b H6 =>
            if b = true then te σ3 H6 fun y H7 => ∃ acc, H7 D = some (.lst acc) ∧ acc.length < sizeLine ∧ Nx1 (upd H7 D (.lst (acc ++ [y]))) else Nx1 H6)
        else Nx H3) := by
  refine ⟨fun i m H => m = n - i ∧ i ≤ n ∧ Pv i H, ⟨n, rfl, Nat.zero_le _, h0⟩, ?_⟩
  rintro i m H ⟨rfl, hi, p⟩
  by_cases c : i < n
  · exact .inr ⟨w.goes i H c (hG i H hi p), Pv (i + 1), fun H' p' => ⟨n - (i + 1), by omega, rfl, c, p'⟩, fun x H' y => hs i x H H' c p (w.yields i H x H' c (hG i H hi p) y)⟩
  · obtain rfl : i = n := by omega
    exact .inl ⟨w.stops H (hG i H hi p), hd H p⟩
/-- the inner walk -/
theorem in_it (w : Walk J1 n1 G1 Y1) (Pv : Nat → Hp → Prop) (h0 : Pv 0 H4) (hG : ∀ i H, i ≤ n1 → Pv i H → G1 H)
    (hs : ∀ i x H H', i < n1 → Pv i H → Y1 i H x H' → g1 x (wipe σ2 vs1) H' fun σ3 H5 => wipe σ3 vs1 = wipe σ2 vs1 ∧ tt1 σ3 H5 fun b H6 =>
      if b = true then te σ3 H6 fun y H7 => ∃ acc, H7 D = some (.lst acc) ∧ acc.length < sizeLine ∧ Pv (i + 1) (upd H7 D (.lst (acc ++ [y]))) else Pv (i + 1) H6) (hd : ∀ H, Pv n1 H → Nx H) :
    ∃ W1 : Nat → Nat → Hp → Prop, (∃ m, W1 0 m H4) ∧ ∀ j k H, W1 j k H →
      (J1.stop j H ∧ Nx H) ∨ (J1.go j H ∧ ∃ Nx1 : Hp → Prop, (∀ H', Nx1 H' → ∃ k', k' < k ∧ W1 (j + 1) k' H') ∧ ∀ x H', J1.yld j H x H' → g1 x (wipe σ2 vs1) H' fun σ3 H5 => wipe σ3 vs1 = wipe σ2 vs1 ∧ tt1 σ3 H5 fun b H6 =>
        if b = true then te σ3 H6 fun y H7 => ∃ acc, H7 D = some (.lst acc) ∧ acc.length < sizeLine ∧ Nx1 (upd H7 D (.lst (acc ++ [y]))) else Nx1 H6) := by
  refine ⟨fun i m H => m = n1 - i ∧ i ≤ n1 ∧ Pv i H, ⟨n1, rfl, Nat.zero_le _, h0⟩, ?_⟩
  rintro i m H ⟨rfl, hi, p⟩
  by_cases c : i < n1
  · exact .inr ⟨w.goes i H c (hG i H hi p), Pv (i + 1), fun H' p' => ⟨n1 - (i + 1), by omega, rfl, c, p'⟩, fun x H' y => hs i x H H' c p (w.yields i H x H' c (hG i H hi p) y)⟩
  · obtain rfl : i = n1 := by omega
    exact .inl ⟨w.stops H (hG i H hi p), hd H p⟩
end
/-- values that are tuples of texts -/
structure PartsV (K : PySem.W.Frag) (H : Hp) (xs : List V) (ss : List (List Str)) : Prop where
  len : xs.length = ss.length
  all : ∀ (i : Nat) (v : V), xs[i]? = some v → ∃ s, ss[i]? = some s ∧ ∃ q, v = .ref q ∧ SqT K H q (s.map V.str)
theorem PartsV.same {K : PySem.W.Frag} {H H' : Hp} {xs : List V} {ss : List (List Str)} (h : PartsV K H xs ss) (s : Same H H') : PartsV K H' xs ss :=
  ⟨h.len, fun i v e => let ⟨s1, h1, q, h2, h3⟩ := h.all i v e; ⟨s1, h1, q, h2, same_seqT s h3⟩⟩
def termsOf (ss : List (List Str)) : List Str := ss.flatMap List.tail
theorem terms_snoc {ss : List (List Str)} {i : Nat} {s : List Str} (h : ss[i]? = some s) : termsOf (ss.take (i + 1)) = termsOf (ss.take i) ++ s.tail := by
  unfold termsOf
  rw [take_snoc h, List.flatMap_append]
  simp
theorem terms_len : ∀ {ss : List (List Str)}, (∀ s ∈ ss, s.length ≤ 10) → (termsOf ss).length ≤ ss.length * 10
  | [], _ => Nat.zero_le _
  | s :: r, h => by
    unfold termsOf
    rw [List.flatMap_cons, List.length_append, List.length_cons]
    have h1 := h s List.mem_cons_self
    have h3 := terms_len (ss := r) fun u hu => h u (List.mem_cons_of_mem _ hu)
    unfold termsOf at h3
    rw [List.length_tail]
    omega
/-- check(schema, head, parts, among), all of it good -/
structure AskGood (rows : List Rw) (hd : List Str) (ss : List (List Str)) (ks : List Str) : Prop where
  n1 : 1 ≤ ss.length
  n10 : ss.length ≤ 10
  parts : ∀ s ∈ ss, PartGood rows s
  hl : hd.length ≤ 100
  kl : ks.length < 64
  hd : ∀ z ∈ hd, isVar z = true → z ∈ termsOf ss
  ks : ∀ z ∈ ks, isVar z = true → z ∈ termsOf ss
def spCheckOk (K : PySem.W.Frag) (CT CS : Addr) : Sp := fun vs H Q _ => ∃ (S hA pA mA : Addr) (hd : List Str) (xs : List V) (ss : List (List Str)) (ks : List Str) (kvs : List (Key × V)) (rows : List Rw) (l : List Tb), vs = [.ref S, .ref hA, .ref pA, .ref mA] ∧ SchOf K CT CS H S rows l ∧ SqT K H hA (hd.map V.str) ∧ SqT K H pA xs ∧ PartsV K H xs ss ∧
  H mA = some (.dK kvs) ∧ kvs.map (·.1) = ks.map Sum.inr ∧ AskGood rows hd ss ks ∧ ∀ H' : Hp, Same H H' → Q .non H'
end Sw
namespace Sw
open PySem PySem.Spec PyProof.Rows L2
def quesF (S h p l : Addr) (d : Bool) : List (Str × V) := [("schema", .ref S), ("head", .ref h), ("parts", .ref p), ("among", .ref l), ("duplicates", .bl d)]
/-- at x: a question of the schema at S -/
structure QuesAt (K : PySem.W.Frag) (CQ : Addr) (H : Hp) (x S : Addr) (hd : List Str) (ss : List (List Str)) (ts : List Ent) (dup : Bool) (hA pA lA : Addr) (xs : List V) : Prop where
  ex : ∃ dx, H x = some (.ins CQ dx (quesF S hA pA lA dup))
  hd : SqT K H hA (hd.map V.str)
  ps : SqT K H pA xs
  pv : PartsV K H xs ss
  ts : TDict H lA ts
theorem QuesAt.same {K : PySem.W.Frag} {CQ x S hA pA lA : Addr} {H H' : Hp} {hd : List Str} {ss : List (List Str)} {ts : List Ent} {dup : Bool} {xs : List V} (h : QuesAt K CQ H x S hd ss ts dup hA pA lA xs) (s : Same H H') : QuesAt K CQ H' x S hd ss ts dup hA pA lA xs :=
  ⟨let ⟨dx, e⟩ := h.ex; ⟨dx, s _ _ e⟩, same_seqT s h.hd, same_seqT s h.ps, h.pv.same s, h.ts.same s⟩
/-- what the class Question is -/
structure QuesC (K : PySem.W.Frag) (CQ : Addr) : Prop where
  cl : Cls K CQ
  n1 : NoAttr K CQ "schema"
  n2 : NoAttr K CQ "head"
  n3 : NoAttr K CQ "parts"
  n4 : NoAttr K CQ "among"
  n5 : NoAttr K CQ "duplicates"
/-- a question's __init__, its values in the order self, schema, head, among, duplicates, parts -/
def spQuesB (K : PySem.W.Frag) (CT CS CQ : Addr) : Sp := fun vs H Q _ => ∃ (x dx S hA pA : Addr) (hd : List Str) (lv : V) (dup : Bool) (xs : List V) (ss : List (List Str)) (ks : List Str) (es : List Ent) (rows : List Rw) (l : List Tb), vs = [.ref x, .ref S, .ref hA, lv, .bl dup, .ref pA] ∧
  H x = some (.ins CQ dx []) ∧ SchOf K CT CS H S rows l ∧ SqT K H hA (hd.map V.str) ∧ SqT K H pA xs ∧ PartsV K H xs ss ∧ ((lv = .non ∧ es = []) ∨ ∃ a, lv = .ref a ∧ LDict K H a es) ∧ es.map (·.1) = ks.map Sum.inr ∧ AskGood rows hd ss ks ∧
  ∀ (H' : Hp) (lA : Addr) (ts : List Ent), SBut x H H' → H lA = none → QuesAt K CQ H' x S hd ss ts dup hA pA lA xs → Alike es ts → Q .non H'
theorem TDict.but {H H' : Hp} {x C dx lA : Addr} {fs : List (Str × V)} {ts : List Ent} (h : TDict H lA ts) (e : SBut x H H') (hx : H x = some (.ins C dx fs)) : TDict H' lA ts :=
  ⟨e _ _ (ne_of h.at_ hx (fun z => nomatch z)) h.at_, fun r hr => ⟨e _ _ (ne_of (h.all r hr).1 hx (fun z => nomatch z)) (h.all r hr).1, (h.all r hr).2⟩⟩
theorem PartsV.but {K : PySem.W.Frag} {H H' : Hp} {x C dx : Addr} {fs : List (Str × V)} {xs : List V} {ss : List (List Str)} (h : PartsV K H xs ss) (e : SBut x H H') (hx : H x = some (.ins C dx fs)) : PartsV K H' xs ss :=
  ⟨h.len, fun i v q => let ⟨s1, h1, b, h2, h3⟩ := h.all i v q; ⟨s1, h1, b, h2, sqT_ins h3 e hx⟩⟩
end Sw
namespace Sw
open PySem PySem.Spec PyProof.Rows L2
theorem vars_terms {ss : List (List Str)} {z : Str} (h : z ∈ allVars ss) : z ∈ termsOf ss := by
  obtain ⟨s, hs, hz⟩ := List.mem_flatMap.mp h
  exact List.mem_flatMap.mpr ⟨s, hs, (List.mem_filter.mp hz).1⟩
/-- the variables that a drawn question limits -/
def keysOf (es : List Ent) : List Str := es.filterMap fun e => match e.1 with | .inr v => some v | .inl _ => none
theorem keysOf_eq : ∀ {es : List Ent}, (∀ e ∈ es, ∃ v, e.1 = Sum.inr v) → es.map (·.1) = (keysOf es).map Sum.inr
  | [], _ => rfl
  | e :: r, h => by
    obtain ⟨v, hv⟩ := h e List.mem_cons_self
    have ih := keysOf_eq (es := r) fun x hx => h x (List.mem_cons_of_mem _ hx)
    have e1 : keysOf (e :: r) = v :: keysOf r := by
      unfold keysOf
      rw [List.filterMap_cons]
      simp only [hv]
    rw [e1, List.map_cons, List.map_cons, ih, hv]
/-- a drawn question is good -/
theorem BeginAt.good {K : PySem.W.Frag} {H : Hp} {R : Addr} {many : Nat} {xs : List V} {rows : List Rw} {vals tms : List Str} {k : Ask} (b : BeginAt K H R many xs rows vals tms k) (hm : many ≤ 6) : AskGood rows k.hd k.ss (keysOf k.es) ∧ k.es.map (·.1) = (keysOf k.es).map Sum.inr := by
  obtain ⟨T, Va, Tm, A, h1, h2, h3, h4, t, sh, li, ys, a1, a2, a3, a4⟩ := b.ex
  have eq := keysOf_eq (es := k.es) fun e he => let ⟨v, hv, _⟩ := (a4.all e he).2.2.2.2; ⟨v, hv⟩
  have vwd := b.vwd
  have pg : ∀ s ∈ k.ss, PartGood rows s := fun s hs => by
    obtain ⟨r, hr, g1, g2, g3⟩ := b.ask.part s hs
    have own := b.ok.own r hr
    have w := own.wd
    have es2 : ∀ z ∈ s.tail, (∃ y, z = ("?" : Str) ++ y ∧ Wd sgn y) ∨ Wd sgn z := fun z hz => by
      rcases g3 z hz with h | ⟨e, he, h⟩
      · rcases List.mem_append.mp h with h | h
        · exact .inl (b.twd z h)
        · exact .inr (vwd z (List.mem_of_mem_take h))
      · exact .inr (vwd z ((own.es e he).2.2.2.2 z h))
    obtain ⟨c, d, rfl⟩ : ∃ c d, s = c :: d := by
      cases s with
      | nil => cases g1
      | cons c d => exact ⟨c, d, rfl⟩
    obtain rfl : c = r.nm := Option.some.inj g1
    have g2' : (d.length : Int) = r.wd := g2
    refine ⟨⟨r, hr, g1, g2⟩, fun z hz => ?_, fun z hz => ?_, by rw [List.length_cons]; omega, by rw [List.length_cons]; omega⟩
    · rcases List.mem_cons.mp hz with h | h
      · rw [h]
        exact (b.nms r hr).1
      · rcases es2 z h with ⟨y, rfl, hy⟩ | hy
        · rw [len_tl, q_tl, List.length_cons]
          have := hy.2.1
          omega
        · rw [len_tl]
          have := hy.2.1
          omega
    · rcases es2 z hz with ⟨y, rfl, hy⟩ | hy
      · exact q_term hy
      · exact wd_term hy
  have kt : ∀ z ∈ keysOf k.es, z ∈ termsOf k.ss := fun z hz => by
    have hm : (Sum.inr z : Key) ∈ k.es.map (·.1) := by rw [eq]; exact List.mem_map.mpr ⟨z, hz, rfl⟩
    obtain ⟨e, he, e1⟩ := List.mem_map.mp hm
    obtain ⟨v, hv1, hv2⟩ := (a4.all e he).2.2.2.2
    rw [hv1] at e1
    obtain rfl := Sum.inr.inj e1
    exact vars_terms hv2
  have knd : (keysOf k.es).Nodup := by
    have := a4.nd
    rw [eq] at this
    exact List.Pairwise.of_map _ (fun _ _ h e => h (congrArg _ e)) this
  have kl : (keysOf k.es).length < 64 := by
    have h1 := nodup_le knd kt
    have h2 := terms_len (ss := k.ss) fun s hs => (pg s hs).len
    have := b.ask.nm
    omega
  refine ⟨⟨b.ask.n1, Nat.le_trans b.ask.nm (by omega), pg, Nat.le_trans b.ask.hl (by decide), kl, fun z hz hv => ?_, fun z hz _ => kt z hz⟩, eq⟩
  rcases b.ask.hd z hz with h | h
  · exact vars_terms h
  · rw [wd_var (vwd z h)] at hv
    cases hv
theorem AskGood.bare {rows : List Rw} {hd : List Str} {ss : List (List Str)} {ks : List Str} (h : AskGood rows hd ss ks) : AskGood rows hd ss [] := ⟨h.n1, h.n10, h.parts, h.hl, by show 0 < 64; decide, h.hd, fun z hz => (nomatch hz)⟩
/-- what a call makes a question of -/
structure AskIn (K : PySem.W.Frag) (CT CS : Addr) (H : Hp) (S hA : Addr) (hd : List Str) (xs : List V) (ss : List (List Str)) (ks : List Str) (rows : List Rw) (l : List Tb) : Prop where
  sch : SchOf K CT CS H S rows l
  hh : SqT K H hA (hd.map V.str)
  pv : PartsV K H xs ss
  good : AskGood rows hd ss ks
theorem AskIn.same {K : PySem.W.Frag} {CT CS S hA : Addr} {H H' : Hp} {hd : List Str} {xs : List V} {ss : List (List Str)} {ks : List Str} {rows : List Rw} {l : List Tb} (h : AskIn K CT CS H S hA hd xs ss ks rows l) (s : Same H H') : AskIn K CT CS H' S hA hd xs ss ks rows l :=
  ⟨h.sch.same s, same_seqT s h.hh, h.pv.same s, h.good⟩
/-- _law_query(schema, ask) -/
def spQuery (K : PySem.W.Frag) (CT CS CQ : Addr) : Sp := fun vs H Q _ => ∃ (S a hA sh li : Addr) (dup : Bool) (hd : List Str) (xs : List V) (ss : List (List Str)) (ks : List Str) (es : List Ent) (rows : List Rw) (l : List Tb), vs = [.ref S, .ref a] ∧ SqL K H a [.ref hA, .ref sh, .ref li, .bl dup] ∧ SqL K H sh xs ∧ xs.length ≤ 3 ∧ AskIn K CT CS H S hA hd xs ss ks rows l ∧
  LDict K H li es ∧ es.map (·.1) = ks.map Sum.inr ∧ ∀ (H' : Hp) (x lA pA : Addr) (ts : List Ent), Same H H' → H x = none → H lA = none → QuesAt K CQ H' x S hd ss ts dup hA pA lA xs → Alike es ts → Q (.ref x) H'
/-- _law_bare(schema, ask) -/
def spBare (K : PySem.W.Frag) (CT CS CQ : Addr) : Sp := fun vs H Q _ => ∃ (S a hA sh li : Addr) (dup : Bool) (hd : List Str) (xs : List V) (ss : List (List Str)) (ks : List Str) (rows : List Rw) (l : List Tb), vs = [.ref S, .ref a] ∧ SqL K H a [.ref hA, .ref sh, .ref li, .bl dup] ∧ SqL K H sh xs ∧ xs.length ≤ 3 ∧ AskIn K CT CS H S hA hd xs ss ks rows l ∧
  ∀ (H' : Hp) (x lA pA : Addr) (ts : List Ent), Same H H' → H x = none → H lA = none → QuesAt K CQ H' x S hd ss ts false hA pA lA xs → Alike [] ts → Q (.ref x) H'
end Sw
namespace Sw
open PySem PySem.Spec PyProof.Rows L2
/-- a tuple of tuples of short texts -/
theorem shapedParts {ss : List (List Str)} (h : ∀ s ∈ ss, ∀ z ∈ s, SOk z) : SeqAt.shaped (.tuple (shD ss)) = true ∧ PySem.PyData.eqv (.tuple (shD ss)) (.tuple (shD ss)) = true := by
  obtain ⟨h1, h2⟩ := canShapes h
  have e1 : PySem.PyData.canLay0 (.tuple (shD ss)) = true := h1
  refine ⟨?_, PySem.SeqAt.eqv_refl _ e1⟩
  unfold SeqAt.shaped
  have e2 : PySem.PyData.depth (.tuple (shD ss)) = PySem.PyData.depthAll (shD ss) + 1 := rfl
  rw [e1, e2, decide_eq_true (by omega)]
  rfl
theorem ShapesAt.pv {K : PySem.W.Frag} {H : Hp} {a : Addr} {xs : List V} {ss : List (List Str)} (h : ShapesAt K H a xs ss) : PartsV K H xs ss :=
  ⟨h.len, fun i v e => let ⟨s, h1, h2, _⟩ := h.all i v e; ⟨s, h1, h2⟩⟩
theorem PartsV.dp {K : PySem.W.Frag} {H : Hp} : ∀ {xs : List V} {ss : List (List Str)}, PartsV K H xs ss → DpAll K H xs (shD ss)
  | [], [], _ => .nil
  | [], _ :: _, h => nomatch h.len
  | _ :: _, [], h => nomatch h.len
  | x :: xs, s :: ss, h => by
    obtain ⟨s', h1, q, rfl, h2⟩ := h.all 0 x rfl
    obtain rfl : s = s' := Option.some.inj h1
    exact .cons (.tup h2 (dpStrs s)) (PartsV.dp ⟨Nat.succ.inj h.len, fun i v hv => h.all (i + 1) v hv⟩)
theorem ShapesAt.ok {K : PySem.W.Frag} {H : Hp} {a : Addr} {xs : List V} {ss : List (List Str)} (h : ShapesAt K H a xs ss) : ∀ s ∈ ss, ∀ z ∈ s, SOk z := fun s hs => by
  obtain ⟨i, hi⟩ := List.mem_iff_getElem?.mp hs
  have hx := List.getElem?_eq_getElem (show i < xs.length by rw [h.len]; exact (List.getElem?_eq_some_iff.mp hi).1)
  obtain ⟨s', h1, _, _, _, h2⟩ := h.all i _ hx
  rw [hi] at h1
  obtain rfl := Option.some.inj h1
  exact h2
/-- the given values: the drawn ones in reverse order, with the first once more if there is room for it -/
def again (ws : List Str) : List Str := ws.reverse ++ ws.take (if ws.length = 1 ∨ ws.length = 2 then 1 else 0)
theorem again_mem (ws : List Str) (z : Str) : z ∈ again ws ↔ z ∈ ws := by
  unfold again
  rw [List.mem_append, List.mem_reverse]
  exact ⟨fun h => h.elim id List.mem_of_mem_take, .inl⟩
theorem again_len {ws : List Str} (h : ws.length ≤ 3) : (again ws).length ≤ 3 := by
  unfold again
  rw [List.length_append, List.length_reverse, List.length_take]
  split
  · omega
  · omega
theorem in12 (n : Nat) : inV (.int (n : Int)) [V.int 1, V.int 2] = decide (n = 1 ∨ n = 2) := by
  have h := inV_int (n : Int) [1, 2]
  have e : ([1, 2] : List Int).map V.int = [V.int 1, V.int 2] := rfl
  rw [e] at h
  rw [h]
  by_cases c : n = 1 ∨ n = 2
  · rw [decide_eq_true c]
    refine decide_eq_true ?_
    rcases c with rfl | rfl
    · exact List.mem_cons_self
    · exact List.mem_cons_of_mem _ List.mem_cons_self
  · rw [decide_eq_false c]
    refine decide_eq_false fun m => c ?_
    rcases List.mem_cons.mp m with m | m
    · exact .inl (by omega)
    · exact .inr (by have := List.mem_singleton.mp m; omega)
theorem again_val (ws : List Str) : (ws.map V.str).reverse ++ cutV (ws.map V.str) none (some (if (if false = true then !inV (.int ((ws.map V.str).length : Int)) [V.int 1, V.int 2] else inV (.int ((ws.map V.str).length : Int)) [V.int 1, V.int 2]) = true then 1 else 0)) = (again ws).map V.str := by
  rw [List.length_map]
  have e : (if false = true then !inV (.int (ws.length : Int)) [V.int 1, V.int 2] else inV (.int (ws.length : Int)) [V.int 1, V.int 2]) = decide (ws.length = 1 ∨ ws.length = 2) := by
    rw [← in12]
    rfl
  rw [e]
  unfold again
  rw [List.map_append, List.map_reverse]
  by_cases c : ws.length = 1 ∨ ws.length = 2
  · rw [decide_eq_true c, if_pos rfl, if_pos c, List.map_take]
    exact congrArg _ (cut_upto _ 1)
  · rw [decide_eq_false c, if_neg (by decide), if_neg c, List.map_take]
    exact congrArg _ (cut_upto _ 0)
theorem cutV_take (xs : List V) (k : Int) (n : Nat) (h : k = (n : Int)) : cutV xs none (some k) = xs.take n := by rw [h, cut_upto]
end Sw
namespace Sw
open PySem PySem.Spec PyProof.Rows L2
def promF (p q l : Addr) : List (Str × V) := [("part", .ref p), ("partners", .ref q), ("among", .ref l)]
/-- at x: a promise -/
structure PromAt (K : PySem.W.Frag) (CP : Addr) (H : Hp) (x p qA lA : Addr) (s : List Str) (xs : List V) (ss : List (List Str)) (ts : List Ent) : Prop where
  ex : ∃ dx, H x = some (.ins CP dx (promF p qA lA))
  hp : SqT K H p (s.map V.str)
  hq : SqT K H qA xs
  pv : PartsV K H xs ss
  ts : TDict H lA ts
theorem PromAt.same {K : PySem.W.Frag} {CP x p qA lA : Addr} {H H' : Hp} {s : List Str} {xs : List V} {ss : List (List Str)} {ts : List Ent} (h : PromAt K CP H x p qA lA s xs ss ts) (e : Same H H') : PromAt K CP H' x p qA lA s xs ss ts :=
  ⟨let ⟨dx, g⟩ := h.ex; ⟨dx, e _ _ g⟩, same_seqT e h.hp, same_seqT e h.hq, h.pv.same e, h.ts.same e⟩
/-- what the class Promise is -/
structure PromC (K : PySem.W.Frag) (CP : Addr) : Prop where
  cl : Cls K CP
  n1 : NoAttr K CP "part"
  n2 : NoAttr K CP "partners"
  n3 : NoAttr K CP "among"
theorem PartsV.cons {K : PySem.W.Frag} {H : Hp} {p : Addr} {s : List Str} {xs : List V} {ss : List (List Str)} (hp : SqT K H p (s.map V.str)) (h : PartsV K H xs ss) : PartsV K H (.ref p :: xs) (s :: ss) :=
  ⟨by rw [List.length_cons, List.length_cons, h.len], fun i v e => match i, e with
    | 0, e => ⟨s, rfl, p, (Option.some.inj e).symm, hp⟩
    | i + 1, e => h.all i v e⟩
/-- a promise's __init__, its values in the order self, schema, part, among, partners -/
def spPromB (K : PySem.W.Frag) (CT CS CP : Addr) : Sp := fun vs H Q _ => ∃ (x dx S p qA : Addr) (s : List Str) (lv : V) (xs : List V) (ss : List (List Str)) (ks : List Str) (es : List Ent) (rows : List Rw) (l : List Tb), vs = [.ref x, .ref S, .ref p, lv, .ref qA] ∧
  H x = some (.ins CP dx []) ∧ SchOf K CT CS H S rows l ∧ SqT K H p (s.map V.str) ∧ SqT K H qA xs ∧ PartsV K H xs ss ∧ ((lv = .non ∧ es = []) ∨ ∃ a, lv = .ref a ∧ LDict K H a es) ∧ es.map (·.1) = ks.map Sum.inr ∧ AskGood rows [] (s :: ss) ks ∧
  ∀ (H' : Hp) (lA : Addr) (ts : List Ent), SBut x H H' → H lA = none → PromAt K CP H' x p qA lA s xs ss ts → Alike es ts → Q .non H'
/-- what a call makes a promise of -/
structure VowIn (K : PySem.W.Frag) (CT CS : Addr) (H : Hp) (S p : Addr) (s : List Str) (xs : List V) (ss : List (List Str)) (ks : List Str) (rows : List Rw) (l : List Tb) : Prop where
  sch : SchOf K CT CS H S rows l
  hp : SqT K H p (s.map V.str)
  pv : PartsV K H xs ss
  good : AskGood rows [] (s :: ss) ks
theorem VowIn.same {K : PySem.W.Frag} {CT CS S p : Addr} {H H' : Hp} {s : List Str} {xs : List V} {ss : List (List Str)} {ks : List Str} {rows : List Rw} {l : List Tb} (h : VowIn K CT CS H S p s xs ss ks rows l) (e : Same H H') : VowIn K CT CS H' S p s xs ss ks rows l :=
  ⟨h.sch.same e, same_seqT e h.hp, h.pv.same e, h.good⟩
/-- _law_vow(schema, pledge) -/
def spVow (K : PySem.W.Frag) (CT CS CP : Addr) : Sp := fun vs H Q _ => ∃ (S a p sh li : Addr) (s : List Str) (xs : List V) (ss : List (List Str)) (ks : List Str) (es : List Ent) (rows : List Rw) (l : List Tb), vs = [.ref S, .ref a] ∧ SqL K H a [.ref p, .ref sh, .ref li] ∧ SqL K H sh xs ∧ xs.length ≤ 2 ∧ VowIn K CT CS H S p s xs ss ks rows l ∧
  LDict K H li es ∧ es.map (·.1) = ks.map Sum.inr ∧ ∀ (H' : Hp) (x lA qA : Addr) (ts : List Ent), Same H H' → H x = none → H lA = none → PromAt K CP H' x p qA lA s xs ss ts → Alike es ts → Q (.ref x) H'
theorem cutV_one (v : V) (r : List V) : cutV (v :: r) (some 1) none = r := by
  unfold cutV
  have h1 : HT.sIx (v :: r).length 0 (some 1) = 1 := by
    have := HT.sIx_nat (v :: r).length 0 1
    have q : min 1 (v :: r).length = 1 := by rw [List.length_cons]; omega
    rw [q] at this
    exact this
  rw [h1, HT.sIx_none]
  show r.take _ = r
  rw [List.take_of_length_le]
  rw [List.length_cons]
  omega
theorem PartsV.tail {K : PySem.W.Frag} {H : Hp} {x : V} {s : List Str} {xs : List V} {ss : List (List Str)} (h : PartsV K H (x :: xs) (s :: ss)) : PartsV K H xs ss :=
  ⟨Nat.succ.inj h.len, fun i v e => h.all (i + 1) v e⟩
theorem AskGood.vow {rows : List Rw} {hd : List Str} {ss : List (List Str)} {ks : List Str} (h : AskGood rows hd ss ks) : AskGood rows [] ss ks := ⟨h.n1, h.n10, h.parts, by show 0 ≤ 100; decide, h.kl, fun z hz => (nomatch hz), h.ks⟩
end Sw
namespace Sw
open PySem PySem.Spec PyProof.Rows L2 NdefX
/-- the value is a tuple of short texts -/
def PTup (K : PySem.W.Frag) (v : V) (H : Hp) : Prop := ∃ (q : Addr) (l : List Str), v = .ref q ∧ SqT K H q (l.map V.str) ∧ (∀ z ∈ l, z.length ≤ 1000 ∧ PySem.PyData.strOk z = true) ∧ l.length ≤ 50
theorem fmt_le : ∀ {l : List Str}, (∀ z ∈ l, z.length ≤ 1000) → PySem.fmtCost l ≤ l.length * 10004
  | [], _ => Nat.le_refl _
  | y :: r, h => by
    rw [PySem.fmtCost_cons, List.length_cons, Nat.succ_mul]
    have h1 := h y List.mem_cons_self
    have h2 := fmt_le (l := r) fun z hz => h z (List.mem_cons_of_mem _ hz)
    omega
end Sw
namespace Sw
open PySem PySem.Spec PyProof.Rows L2
/-- what is due to a question -/
inductive Due where
  | table (nm : Str)
  | part (s : List Str)
  | unb (v : Str)
/-- the error that a part is due -/
def partFault (rows : List Rw) : List Str → Option Due
  | [] => some (.part [])
  | nm :: r => match rows.find? fun x => decide (x.nm = nm) with
    | none => some (.table nm)
    | some x => if (r.length : Int) = x.wd ∧ r.all isTermS = true then none else some (.part (nm :: r))
theorem fault_none {rows : List Rw} {nm : Str} {r : List Str} (h : rows.find? (fun x => decide (x.nm = nm)) = none) : partFault rows (nm :: r) = some (.table nm) := by
  show (match rows.find? (fun x => decide (x.nm = nm)) with | none => some (Due.table nm) | some x => if (r.length : Int) = x.wd ∧ r.all isTermS = true then none else some (.part (nm :: r))) = _
  rw [h]
theorem fault_some {rows : List Rw} {nm : Str} {r : List Str} {x : Rw} (h : rows.find? (fun x => decide (x.nm = nm)) = some x) : partFault rows (nm :: r) = if (r.length : Int) = x.wd ∧ r.all isTermS = true then none else some (.part (nm :: r)) := by
  show (match rows.find? (fun x => decide (x.nm = nm)) with | none => some (Due.table nm) | some x => if (r.length : Int) = x.wd ∧ r.all isTermS = true then none else some (.part (nm :: r))) = _
  rw [h]
/-- an error is let out -/
def EOut (K : PySem.W.Frag) (DU DB DN : Addr) (E : XK) (H : Hp) : Due → Prop
  | .table nm => ∀ (H1 : Hp) (dd : Addr), Same H H1 → H1 dd = none → E (.ref DU) (some dd) (upd H1 dd (.xd [("name", .str nm)]))
  | .part s => ∀ (H1 : Hp) (dd q : Addr), Same H H1 → H1 dd = none → SqT K H1 q (s.map V.str) → E (.ref DB) (some dd) (upd H1 dd (.xd [("part", .ref q)]))
  | .unb v => ∀ (H1 : Hp) (dd : Addr), Same H H1 → H1 dd = none → E (.ref DN) (some dd) (upd H1 dd (.xd [("variable", .str v)]))
theorem EOut.same {K : PySem.W.Frag} {DU DB DN : Addr} {E : XK} {H H' : Hp} {o : Due} (h : EOut K DU DB DN E H o) (s : Same H H') : EOut K DU DB DN E H' o := by
  cases o with
  | table nm => exact fun H1 dd s' n => h H1 dd (s.trans s') n
  | part l => exact fun H1 dd q s' n hq => h H1 dd q (s.trans s') n hq
  | unb v => exact fun H1 dd s' n => h H1 dd (s.trans s') n
/-- a part of texts -/
structure PartRaw (s : List Str) : Prop where
  ne : 1 ≤ s.length
  len : s.length ≤ 20
  ok : ∀ z ∈ s, SOk z
/-- check_part(schema, part) -/
def spPartX (K : PySem.W.Frag) (CT CS DU DB DN : Addr) : Sp := fun vs H Q E => ∃ (S a : Addr) (s : List Str) (rows : List Rw) (l : List Tb), vs = [.ref S, .ref a] ∧ SchOf K CT CS H S rows l ∧ SqT K H a (s.map V.str) ∧ PartRaw s ∧ (∀ r ∈ rows, 1 ≤ r.wd) ∧
  (partFault rows s = none → ∀ H' : Hp, Same H H' → Q .non H') ∧ ∀ o, partFault rows s = some o → EOut K DU DB DN E H o
/-- the row of a name -/
theorem SchOf.find {K : PySem.W.Frag} {CT CS S : Addr} {H : Hp} {rows : List Rw} {l : List Tb} (h : SchOf K CT CS H S rows l) (nm : Str) : (∀ r, rows.find? (fun x => decide (x.nm = nm)) = some r → ∃ t, t ∈ l ∧ t.nm = nm ∧ TbOf K CT H t r ∧ valV (kvT l) (Sum.inr nm : Key) = some (.ref t.x)) ∧
    (rows.find? (fun x => decide (x.nm = nm)) = none → valV (kvT l) (Sum.inr nm : Key) = none) := by
  refine ⟨fun r e => ?_, fun e => valV_no fun hm => ?_⟩
  · have hr := List.mem_of_find?_eq_some e
    have hn0 := List.find?_some e
    have hn : r.nm = nm := of_decide_eq_true hn0
    obtain ⟨t, ht, h1, h2⟩ := h.get hr
    refine ⟨t, ht, h1.trans hn, h2, ?_⟩
    rw [← h1.trans hn]
    exact valV_tb h.sch.nd ht
  · obtain ⟨t, ht, rfl⟩ := List.mem_map.mp hm
    obtain ⟨i, hi⟩ := List.mem_iff_getElem?.mp ht
    obtain ⟨r, h1, h2⟩ := h.all i t hi
    have := List.find?_eq_none.mp e r (List.mem_of_getElem? h1)
    rw [h2.nm] at this
    exact this (decide_eq_true rfl)
theorem cut_one (s : List Str) (h : 1 ≤ s.length) : cutV (s.map V.str) (some 1) none = s.tail.map V.str := cut_tail s h
end Sw
namespace Sw
open PySem PySem.Spec PyProof.Rows L2
/-- the first variable that is in no part -/
def freeOf (ss : List (List Str)) (zs : List Str) : Option Str := zs.find? fun z => isVar z && !decide (z ∈ termsOf ss)
/-- what is due to a question or a promise -/
def dueOf (rows : List Rw) (hd : List Str) (ss : List (List Str)) (us : List Str) : Option Due :=
  if ss.isEmpty then some (.part []) else match ss.findSome? (partFault rows) with | some o => some o | none => (freeOf ss (hd ++ us)).map .unb
theorem findSome_first {α β : Type} {f : α → Option β} : ∀ {l : List α} {i : Nat} {x : α} {o : β}, (∀ y ∈ l.take i, f y = none) → l[i]? = some x → f x = some o → l.findSome? f = some o
  | [], _, _, _, _, h, _ => by cases h
  | y :: r, 0, x, o, _, h, e => by
    obtain rfl : y = x := Option.some.inj h
    rw [List.findSome?_cons, e]
  | y :: r, i + 1, x, o, hb, h, e => by
    rw [List.findSome?_cons, hb y List.mem_cons_self]
    exact findSome_first (l := r) (i := i) (fun z hz => hb z (List.mem_cons_of_mem _ hz)) h e
theorem due_part {rows : List Rw} {hd : List Str} {ss : List (List Str)} {us : List Str} {i : Nat} {s : List Str} {o : Due} (hb : ∀ y ∈ ss.take i, partFault rows y = none) (h : ss[i]? = some s) (e : partFault rows s = some o) : dueOf rows hd ss us = some o := by
  unfold dueOf
  cases ss with
  | nil => cases h
  | cons a b =>
    rw [findSome_first hb h e]
    rfl
theorem due_free {rows : List Rw} {hd : List Str} {ss : List (List Str)} {us : List Str} (n : 1 ≤ ss.length) (hb : ∀ y ∈ ss, partFault rows y = none) : dueOf rows hd ss us = (freeOf ss (hd ++ us)).map .unb := by
  unfold dueOf
  cases ss with
  | nil => exact absurd n (by decide)
  | cons a b =>
    rw [List.findSome?_eq_none_iff.mpr hb]
    rfl
/-- what a question or a promise is made of, good or not -/
structure AskRaw (rows : List Rw) (hd : List Str) (ss : List (List Str)) (ks : List Str) : Prop where
  n10 : ss.length ≤ 10
  parts : ∀ s ∈ ss, PartRaw s
  hl : hd.length ≤ 100
  kl : ks.length < 64
  ho : ∀ z ∈ hd, SOk z
  ko : ∀ z ∈ ks, SOk z
  wd : ∀ r ∈ rows, 1 ≤ r.wd
/-- check(schema, head, parts, among) -/
def spCheckX (K : PySem.W.Frag) (CT CS DU DB DN : Addr) : Sp := fun vs H Q E => ∃ (S hA pA mA : Addr) (hd : List Str) (xs : List V) (ss : List (List Str)) (ks : List Str) (kvs : List (Key × V)) (rows : List Rw) (l : List Tb), vs = [.ref S, .ref hA, .ref pA, .ref mA] ∧ SchOf K CT CS H S rows l ∧ SqT K H hA (hd.map V.str) ∧ SqT K H pA xs ∧ PartsV K H xs ss ∧
  H mA = some (.dK kvs) ∧ kvs.map (·.1) = ks.map Sum.inr ∧ AskRaw rows hd ss ks ∧ ∀ us : List Str, AscS us → (∀ z, z ∈ us ↔ z ∈ ks) → (dueOf rows hd ss us = none → ∀ H' : Hp, Same H H' → Q .non H') ∧ ∀ o, dueOf rows hd ss us = some o → EOut K DU DB DN E H o
/-- texts in ascending order, each once -/
theorem asc_exists (ks : List Str) : ∃ us : List Str, AscS us ∧ ∀ z, z ∈ us ↔ z ∈ ks := by
  induction ks with
  | nil => exact ⟨[], .nil, fun z => Iff.rfl⟩
  | cons k r ih =>
    obtain ⟨us, h1, h2⟩ := ih
    by_cases hk : k ∈ us
    · refine ⟨us, h1, fun z => ?_⟩
      rw [List.mem_cons, h2]
      constructor
      · exact .inr
      · rintro (rfl | h)
        · exact (h2 _).mp hk
        · exact h
    · have q := ins_asc (lt := SLt) SLt.irrefl (fun _ _ _ => SLt.trans) SLt.tri us k h1 hk
      refine ⟨_, q.1, fun z => ?_⟩
      rw [q.2, List.mem_cons, h2]
      exact Or.comm
end Sw
/-! ## rows in their order -/
namespace Sw
open PySem PySem.Spec PyProof.Rows L2
/-- the order of tuples of texts -/
def ltRow : List Str → List Str → Bool
  | [], [] => false
  | [], _ :: _ => true
  | _ :: _, [] => false
  | x :: xs, y :: ys => if x = y then ltRow xs ys else decide (x.cps.toList < y.cps.toList)
def rLtS (K : PySem.W.Frag) : R2 := fun x y H Q => ∃ (a b : Addr) (ss ts : List Str), x = .ref a ∧ y = .ref b ∧ SqT K H a (ss.map V.str) ∧ SqT K H b (ts.map V.str) ∧ Q (.bl (ltRow ss ts)) H
theorem lexAt_row {ss ts : List Str} : ∀ (k i : Nat), k = min (ss.length - i) (ts.length - i) → i ≤ ss.length → i ≤ ts.length →
    Ob.lexAt (fun j => decide (ss.getD j "" = ts.getD j "")) (fun j => decide ((ss.getD j "").cps.toList < (ts.getD j "").cps.toList)) (decide (ss.length < ts.length)) i k = ltRow (ss.drop i) (ts.drop i)
  | 0, i, h, h1, h2 => by
    rw [Ob.lexAt_zero]
    by_cases c : i = ss.length
    · subst c
      rw [List.drop_length]
      by_cases d : ss.length = ts.length
      · rw [d, List.drop_length]
        show decide (ts.length < ts.length) = false
        exact decide_eq_false (by omega)
      · rw [List.drop_eq_getElem_cons (by omega)]
        show _ = true
        exact decide_eq_true (by omega)
    · have d : i = ts.length := by omega
      subst d
      rw [List.drop_length, List.drop_eq_getElem_cons (by omega)]
      show _ = false
      exact decide_eq_false (by omega)
  | k + 1, i, h, h1, h2 => by
    have l1 : i < ss.length := by omega
    have l2 : i < ts.length := by omega
    rw [Ob.lexAt_succ, lexAt_row k (i + 1) (by omega) (by omega) (by omega), List.drop_eq_getElem_cons l1, List.drop_eq_getElem_cons l2]
    have e1 : ss.getD i "" = ss[i] := by rw [List.getD_eq_getElem?_getD, List.getElem?_eq_getElem l1]; rfl
    have e2 : ts.getD i "" = ts[i] := by rw [List.getD_eq_getElem?_getD, List.getElem?_eq_getElem l2]; rfl
    rw [e1, e2]
    show _ = if ss[i] = ts[i] then _ else _
    by_cases c : ss[i] = ts[i]
    · rw [if_pos c, decide_eq_true c, if_pos rfl]
    · rw [if_neg c, decide_eq_false c, if_neg (by decide)]
theorem strs_at : ∀ {ss : List Str} {us : List Value}, Vals (ss.map V.str) us → ∀ j (h : j < us.length), ∃ t, us[j] = .str (ss.getD j "") t
  | [], _, .nil, j, h => by cases h
  | s :: ss, _, .cons (b := u) (l₂ := us) a r, 0, h => by
    obtain ⟨t, e⟩ : ∃ t, u = Value.str s t := a
    exact ⟨t, e⟩
  | s :: ss, _, .cons (b := u) (l₂ := us) a r, j + 1, h => strs_at r j (Nat.lt_of_succ_lt_succ h)
theorem op_ltTS {X : Cx} (hu : X.A.units < cLine) : OpR X (compareOp .Lt) (rLtS X.K) := by
  intro pins s σ H x y v u Q I rx ry h
  obtain ⟨a, b, ss, ts, rfl, rfl, ha, hb, q⟩ := h
  cases rx
  cases ry
  obtain ⟨its, r1, p1, _⟩ := I.tuple ha
  obtain ⟨its2, r2, p2, _⟩ := I.tuple hb
  have e1 : its.toArray.size = ss.length := by rw [List.size_toArray]; have := r1.length; rw [List.length_map] at this; exact this.symm
  have e2 : its2.toArray.size = ts.length := by rw [List.size_toArray]; have := r2.length; rw [List.length_map] at this; exact this.symm
  have at1 : ∀ j (h1 : j < its.toArray.size), ∃ t, its.toArray[j] = .str (ss.getD j "") t := fun j h1 => strs_at r1 j (by simpa using h1)
  have at2 : ∀ j (h1 : j < its2.toArray.size), ∃ t, its2.toArray[j] = .str (ts.getD j "") t := fun j h1 => strs_at r2 j (by simpa using h1)
  have R := Ob.RcOp.tuples_lt (A := X.A) (s := s) (e := fun j => decide (ss.getD j "" = ts.getD j "")) (r := fun j => decide ((ss.getD j "").cps.toList < (ts.getD j "").cps.toList)) p1 p2 hu (fun j h1 h2 => by
    obtain ⟨t, et⟩ := at1 j h1
    obtain ⟨t', et'⟩ := at2 j h2
    rw [et, et']
    have z : (ss.getD j "" == ts.getD j "") = decide (ss.getD j "" = ts.getD j "") := by
      by_cases q : ss.getD j "" = ts.getD j ""
      · rw [decide_eq_true q]; exact beq_iff_eq.mpr q
      · rw [decide_eq_false q]; exact beq_eq_false_iff_ne.mpr q
    rw [← z]
    exact SeqAt.EqAt.str_str _ _ _ _) (fun j h1 h2 _ => by
    obtain ⟨t, et⟩ := at1 j h1
    obtain ⟨t', et'⟩ := at2 j h2
    rw [et, et']
    exact fun prog w E Q h => PyProof.Rows.lt_str h)
  rw [e1, e2] at R
  have el := lexAt_row (ss := ss) (ts := ts) (min ss.length ts.length) 0 (by omega) (Nat.zero_le _) (Nat.zero_le _)
  rw [List.drop_zero, List.drop_zero] at el
  rw [el] at R
  have z : wpAny (model X.prog X.w) X.A (compareOp .Lt (.ref a) (.ref b)) (EP X pins σ Q) X.xe s := R X.prog X.w X.xe (EP X pins σ Q) ⟨.bl _, H, I, rfl, q⟩
  exact z
end Sw
/-! ## what the schema asks of rows -/
namespace Sw
open PySem PySem.Spec PyProof.Rows L2
/-- the term of a part in a column -/
def itemAt (s : List Str) (c : Int) : Str := s.getD (c + 1).toNat ""
theorem itemAt_ix {s : List Str} {c : Int} (h0 : 0 ≤ c) (h : c < (s.tail.length : Int)) : atI (s.map V.str) (c + 1) = some (.str (itemAt s c)) := by
  obtain ⟨n, hn⟩ : ∃ n : Nat, c = (n : Int) := ⟨c.toNat, by omega⟩
  subst hn
  rw [List.length_tail] at h
  have e : ((n : Int) + 1) = ((n + 1 : Nat) : Int) := by omega
  rw [e]
  refine atI_nat ?_
  have e2 : ((n : Int) + 1).toNat = n + 1 := by omega
  unfold itemAt
  rw [e2, List.getElem?_map, List.getD_eq_getElem?_getD, List.getElem?_eq_getElem (show n + 1 < s.length by omega)]
  rfl
/-- a part of a dealt table -/
structure PRow (rows : List Rw) (s : List Str) : Prop where
  row : ∃ r ∈ rows, s.head? = some r.nm ∧ (s.tail.length : Int) = r.wd
  ok : ∀ z ∈ s, SOk z
/-- the table of a part -/
def rwAt (rows : List Rw) (s : List Str) : Rw := (rows.find? fun r => decide (r.nm = s.headD "")).getD ⟨"", 0, [], [], []⟩
theorem find_row {rows : List Rw} (nd : (rows.map Rw.nm).Nodup) {r : Rw} (h : r ∈ rows) : (rows.find? fun x => decide (x.nm = r.nm)) = some r := by
  cases e : rows.find? fun x => decide (x.nm = r.nm) with
  | none =>
    have := List.find?_eq_none.mp e r h
    rw [decide_eq_true rfl] at this
    exact absurd rfl this
  | some x =>
    have h1 := List.mem_of_find?_eq_some e
    have h0 := List.find?_some e
    have h2 : x.nm = r.nm := of_decide_eq_true h0
    obtain ⟨i, hi⟩ := List.mem_iff_getElem?.mp h
    obtain ⟨j, hj⟩ := List.mem_iff_getElem?.mp h1
    have ei : (rows.map Rw.nm)[i]? = some r.nm := by rw [List.getElem?_map, hi]; rfl
    have ej : (rows.map Rw.nm)[j]? = some r.nm := by rw [List.getElem?_map, hj, ← h2]; rfl
    obtain rfl := nd_idx nd ei ej
    rw [hi] at hj
    exact hj.symm
theorem PRow.at_ {rows : List Rw} {s : List Str} (p : PRow rows s) (nd : (rows.map Rw.nm).Nodup) : rwAt rows s ∈ rows ∧ s.head? = some (rwAt rows s).nm ∧ (s.tail.length : Int) = (rwAt rows s).wd := by
  obtain ⟨r, h1, h2, h3⟩ := p.row
  have e : s.headD "" = r.nm := by
    cases s with
    | nil => cases h2
    | cons a b => exact Option.some.inj h2
  have e2 : rwAt rows s = r := by
    unfold rwAt
    rw [e, find_row nd h1]
    rfl
  rw [e2]
  exact ⟨h1, h2, h3⟩
theorem rwAt_of {rows : List Rw} {s : List Str} {r : Rw} (nd : (rows.map Rw.nm).Nodup) (hr : r ∈ rows) (h : s.headD "" = r.nm) : rwAt rows s = r := by
  unfold rwAt
  rw [h, find_row nd hr]
  rfl
theorem head_ix {s : List Str} {z : Str} (h : s.head? = some z) : atI (s.map V.str) 0 = some (.str z) ∧ s.headD "" = z := by
  cases s with
  | nil => cases h
  | cons a b =>
    obtain rfl := Option.some.inj h
    exact ⟨atI_nat (j := 0) rfl, rfl⟩
/-- the tables' columns lie within their widths -/
structure Fit (rows : List Rw) : Prop where
  nd : (rows.map Rw.nm).Nodup
  len : rows.length ≤ 100
  wd : ∀ r ∈ rows, 1 ≤ r.wd ∧ r.wd ≤ 3
  ks : ∀ r ∈ rows, ∀ k ∈ r.ks, 0 ≤ k ∧ k < r.wd
  kl : ∀ r ∈ rows, r.ks.length ≤ 3
  es : ∀ r ∈ rows, ∀ e ∈ r.es, ∃ c : Int, e.1 = Sum.inl c ∧ 0 ≤ c ∧ c < r.wd
  el : ∀ r ∈ rows, r.es.length ≤ 100
  en : ∀ r ∈ rows, (r.es.map (·.1)).Nodup
  ez : ∀ r ∈ rows, ∀ e ∈ r.es, ∀ z ∈ e.2.2, SOk z
  ll : ∀ r ∈ rows, r.ls.length ≤ 2
  ld : ∀ r ∈ rows, ∀ e ∈ r.ls, 0 ≤ e.1 ∧ e.1 < r.wd ∧ ∃ r' ∈ rows, r'.nm = e.2.1 ∧ 0 ≤ e.2.2 ∧ e.2.2 < r'.wd
/-- a column's number -/
def colOf : Key → Int
  | .inl c => c
  | .inr _ => 0
/-- whether parts of one table agree -/
def agreeT (ks : List Int) (s t : List Str) : Bool := !ks.isEmpty && (decide (s.headD "" = t.headD "") && ks.all fun c => decide (itemAt s c = itemAt t c))
/-- whether a part has a value that is not on its column's list -/
def offE (s : List Str) (e : Ent) : Bool := !isVar (itemAt s (colOf e.1)) && !decide (itemAt s (colOf e.1) ∈ e.2.2)
def offT (es : List Ent) (s : List Str) : Bool := es.any (offE s)
def agreeP (rows : List Rw) (s t : List Str) : Bool := agreeT (rwAt rows s).ks s t
def offP (rows : List Rw) (s : List Str) : Bool := offT (rwAt rows s).es s
/-- whether a reference leads from a part to one of the parts -/
def ledP (e : Int × Str × Int) (s : List Str) (ss : List (List Str)) : Bool := ss.any fun t => decide (t.headD "" = e.2.1) && decide (itemAt t e.2.2 = itemAt s e.1)
/-- values that are tuples -/
structure TupsV (K : PySem.W.Frag) (H : Hp) (xs : List V) (us : List (List V)) : Prop where
  len : xs.length = us.length
  all : ∀ (i : Nat) (v : V), xs[i]? = some v → ∃ u, us[i]? = some u ∧ ∃ q, v = .ref q ∧ SqT K H q u
theorem TupsV.nil {K : PySem.W.Frag} {H : Hp} : TupsV K H [] [] := ⟨rfl, fun i v e => by cases e⟩
theorem TupsV.same {K : PySem.W.Frag} {H H' : Hp} {xs : List V} {us : List (List V)} (h : TupsV K H xs us) (s : Same H H') : TupsV K H' xs us :=
  ⟨h.len, fun i v e => let ⟨u, h1, q, h2, h3⟩ := h.all i v e; ⟨u, h1, q, h2, same_seqT s h3⟩⟩
theorem TupsV.lst {K : PySem.W.Frag} {H : Hp} {xs zs : List V} {us : List (List V)} {D : Addr} {o : HO} (h : TupsV K H xs us) (hD : H D = some (.lst zs)) : TupsV K (upd H D o) xs us :=
  ⟨h.len, fun i v e => let ⟨u, h1, q, h2, h3⟩ := h.all i v e; ⟨u, h1, q, h2, sqT_upd h3 hD (fun ys => ⟨fun z => (nomatch z), fun u z => (nomatch z)⟩)⟩⟩
theorem TupsV.snoc {K : PySem.W.Frag} {H : Hp} {xs : List V} {us : List (List V)} {q : Addr} {u : List V} (h : TupsV K H xs us) (hq : SqT K H q u) : TupsV K H (xs ++ [.ref q]) (us ++ [u]) := by
  refine ⟨by rw [List.length_append, List.length_append, h.len]; rfl, fun i v e => ?_⟩
  by_cases hi : i < xs.length
  · rw [List.getElem?_append_left hi] at e
    obtain ⟨u', h1, p, h2, h3⟩ := h.all i v e
    exact ⟨u', by rw [List.getElem?_append_left (by rw [← h.len]; exact hi)]; exact h1, p, h2, h3⟩
  · have ei : i = xs.length := by
      have := (List.getElem?_eq_some_iff.mp e).1
      rw [List.length_append] at this
      simp at this
      omega
    subst ei
    rw [List.getElem?_append_right (Nat.le_refl _), Nat.sub_self] at e
    obtain rfl : V.ref q = v := Option.some.inj e
    exact ⟨u, by rw [h.len, List.getElem?_append_right (Nat.le_refl _), Nat.sub_self]; rfl, q, rfl, hq⟩
/-- table.agree(part, other) -/
def spAgree (K : PySem.W.Frag) (CT : Addr) : Sp := fun vs H Q _ => ∃ (x a b : Addr) (nm : Str) (wd : Int) (ks : List Int) (ts : List Ent) (rs : List V) (s t : List Str), vs = [.ref x, .ref a, .ref b] ∧ TabAt K CT H x nm wd ks ts rs ∧ SqT K H a (s.map V.str) ∧ SqT K H b (t.map V.str) ∧
  1 ≤ s.length ∧ 1 ≤ t.length ∧ ks.length ≤ 100 ∧ (s.headD "" = t.headD "" → ∀ k ∈ ks, 0 ≤ k ∧ k < (s.tail.length : Int) ∧ k < (t.tail.length : Int)) ∧ ∀ H' : Hp, Same H H' → Q (.bl (agreeT ks s t)) H'
/-- table.is_off_list(part) -/
def spOff (K : PySem.W.Frag) (CT : Addr) : Sp := fun vs H Q _ => ∃ (x a : Addr) (nm : Str) (wd : Int) (ks : List Int) (ts : List Ent) (rs : List V) (s : List Str), vs = [.ref x, .ref a] ∧ TabAt K CT H x nm wd ks ts rs ∧ SqT K H a (s.map V.str) ∧
  (ts.map (·.1)).Nodup ∧ ts.length ≤ 100 ∧ (∀ e ∈ ts, ∃ c : Int, e.1 = Sum.inl c ∧ 0 ≤ c ∧ c < (s.tail.length : Int)) ∧ ∀ H' : Hp, Same H H' → Q (.bl (offT ts s)) H'
end Sw
/-! ## comprehensions whose items are told by their number -/
namespace Sw
open PySem PySem.Spec PyProof.Rows L2
theorem range_map {α β : Type} (F : α → β) (d : α) (l : List α) : (List.range l.length).map (fun i => F (l.getD i d)) = l.map F := by
  refine List.ext_getElem (by simp) fun i h1 h2 => ?_
  have hi : i < l.length := by simpa using h1
  simp [List.getD_eq_getElem?_getD, List.getElem?_eq_getElem hi]
theorem range_any {α : Type} (F : α → Bool) (d : α) (l : List α) : (List.range l.length).any (fun i => F (l.getD i d)) = l.any F := by
  have h := congrArg (fun x : List Bool => x.any id) (range_map F d l)
  simp only [List.any_map, Function.id_comp] at h
  exact h
theorem range_all {α : Type} (F : α → Bool) (d : α) (l : List α) : (List.range l.length).all (fun i => F (l.getD i d)) = l.all F := by
  have h := congrArg (fun x : List Bool => x.all id) (range_map F d l)
  simp only [List.all_map, Function.id_comp] at h
  exact h
theorem range_filter {α β : Type} (p : α → Bool) (F : α → β) (d : α) (l : List α) : ((List.range l.length).filter fun i => p (l.getD i d)).map (fun i => F (l.getD i d)) = (l.filter p).map F := by
  have e : l = (List.range l.length).map fun i => l.getD i d := by
    have := range_map (fun x : α => x) d l
    rw [List.map_id'] at this
    exact this.symm
  conv => rhs; rw [e]
  rw [List.filter_map, List.map_map]
  rfl
theorem range_snoc (i : Nat) : List.range (i + 1) = List.range i ++ [i] := List.range_succ
theorem getD_of {α : Type} {l : List α} {i : Nat} {x d : α} (h : l[i]? = some x) : l.getD i d = x := by
  rw [List.getD_eq_getElem?_getD, h]
  rfl
section
variable {K : PySem.W.Frag} {J : It} {n : Nat} {G : Hp → Prop} {Y : Nat → Hp → V → Hp → Prop} {g : TG} {tt : TT} {te : TE} {vs : List Nat} {σ : L2.St} {H1 : Hp} {D : Addr} {Qd : Hp → Prop}
/-- [e for .. if t]: the i-th item's value is f i, the test's answer p i -/
theorem lc_vals (w : Walk J n G Y) (p : Nat → Bool) (f : Nat → V) (nD : H1 D = none) (hn : n ≤ 1000) (hG : ∀ Hc, Same H1 Hc → G Hc)
    (hs : ∀ i x Hc Hy, i < n → Same H1 Hc → Y i Hc x Hy → g x (wipe σ vs) Hy fun σ2 H2 => wipe σ2 vs = wipe σ vs ∧ Same Hc H2 ∧ (∀ Q : Bool → Hp → Prop, (∀ H', Same H2 H' → Q (p i) H') → tt σ2 H2 Q) ∧ (p i = true → ∀ H3, Same H2 H3 → ∀ Q : VK, (∀ H', Same H3 H' → Q (f i) H') → te σ2 H3 Q))
    (mono : ∀ x σ' H' (Q Q' : L2.St → Hp → Prop), (∀ a b, Q a b → Q' a b) → g x σ' H' Q → g x σ' H' Q')
    (hd : ∀ Hc, Same H1 Hc → Hc D = some (.lst (((List.range n).filter p).map f)) → Qd Hc) :
    ∃ W : Nat → Nat → Hp → Prop, (∃ m, W 0 m (upd H1 D (.lst []))) ∧ ∀ i m H, W i m H →
      (J.stop i H ∧ Qd H) ∨ (J.go i H ∧ ∃ Nx : Hp → Prop, (∀ H', Nx H' → ∃ m', m' < m ∧ W (i + 1) m' H') ∧ ∀ x H', J.yld i H x H' → g x (wipe σ vs) H' fun σ2 H2 => wipe σ2 vs = wipe σ vs ∧ tt σ2 H2 fun b H3 =>
        if b = true then te σ2 H3 fun y H4 => ∃ acc, H4 D = some (.lst acc) ∧ acc.length < sizeLine ∧ Nx (upd H4 D (.lst (acc ++ [y]))) else Nx H3) := by
  have fl : ∀ i, i ≤ n → (((List.range i).filter p).map f).length ≤ 1000 := fun i hi => by
    rw [List.length_map]
    have := List.length_filter_le p (List.range i)
    rw [List.length_range] at this
    omega
  refine lc_it w (fun i Hc => Same H1 Hc ∧ Hc D = some (.lst (((List.range i).filter p).map f))) ⟨same_new nD, upd_same⟩ (fun i Hc _ h => hG Hc h.1) ?_ (fun Hc h => hd Hc h.1 h.2)
  rintro i x Hc Hy hi ⟨sm, hD⟩ y
  have flt : p i = true → (List.range (i + 1)).filter p = (List.range i).filter p ++ [i] := fun e => by rw [range_snoc, List.filter_append, List.filter_cons_of_pos e]; rfl
  have flf : p i = false → (List.range (i + 1)).filter p = (List.range i).filter p := fun e => by
    rw [range_snoc, List.filter_append, List.filter_cons_of_neg (by rw [e]; decide)]
    exact List.append_nil _
  cases hp : p i with
  | false =>
    refine mono _ _ _ _ _ (fun σ2 H2 h => ?_) (hs i x Hc Hy hi sm y)
    obtain ⟨h1, h2, h3, _⟩ := h
    refine ⟨h1, h3 _ fun H3 s3 => ?_⟩
    rw [hp]
    refine iteF ⟨(sm.trans h2).trans s3, ?_⟩
    rw [flf hp]
    exact s3 _ _ (h2 _ _ hD)
  | true =>
    refine mono _ _ _ _ _ (fun σ2 H2 h => ?_) (hs i x Hc Hy hi sm y)
    obtain ⟨h1, h2, h3, h4⟩ := h
    refine ⟨h1, h3 _ fun H3 s3 => ?_⟩
    rw [hp]
    refine iteT (h4 hp H3 s3 _ fun H4 s4 => ⟨_, s4 _ _ (s3 _ _ (h2 _ _ hD)), Nat.lt_of_le_of_lt (fl i (by omega)) (by decide), same_mut (((sm.trans h2).trans s3).trans s4) nD, ?_⟩)
    rw [upd_same, flt hp, List.map_append]
    rfl
/-- the same, the items new tuples -/
theorem lc_tups (w : Walk J n G Y) (p : Nat → Bool) (f : Nat → List V) (nD : H1 D = none) (hn : n ≤ 1000) (hG : ∀ Hc, Same H1 Hc → G Hc)
    (hs : ∀ i x Hc Hy, i < n → Same H1 Hc → Y i Hc x Hy → g x (wipe σ vs) Hy fun σ2 H2 => wipe σ2 vs = wipe σ vs ∧ Same Hc H2 ∧ (∀ Q : Bool → Hp → Prop, (∀ H', Same H2 H' → Q (p i) H') → tt σ2 H2 Q) ∧ (p i = true → ∀ H3, Same H2 H3 → ∀ Q : VK, (∀ H' q, Same H3 H' → SqT K H' q (f i) → Q (.ref q) H') → te σ2 H3 Q))
    (mono : ∀ x σ' H' (Q Q' : L2.St → Hp → Prop), (∀ a b, Q a b → Q' a b) → g x σ' H' Q → g x σ' H' Q')
    (hd : ∀ Hc (xs : List V), Same H1 Hc → Hc D = some (.lst xs) → TupsV K Hc xs (((List.range n).filter p).map f) → Qd Hc) :
    ∃ W : Nat → Nat → Hp → Prop, (∃ m, W 0 m (upd H1 D (.lst []))) ∧ ∀ i m H, W i m H →
      (J.stop i H ∧ Qd H) ∨ (J.go i H ∧ ∃ Nx : Hp → Prop, (∀ H', Nx H' → ∃ m', m' < m ∧ W (i + 1) m' H') ∧ ∀ x H', J.yld i H x H' → g x (wipe σ vs) H' fun σ2 H2 => wipe σ2 vs = wipe σ vs ∧ tt σ2 H2 fun b H3 =>
        if b = true then te σ2 H3 fun y H4 => ∃ acc, H4 D = some (.lst acc) ∧ acc.length < sizeLine ∧ Nx (upd H4 D (.lst (acc ++ [y]))) else Nx H3) := by
  have fl : ∀ i, i ≤ n → (((List.range i).filter p).map f).length ≤ 1000 := fun i hi => by
    rw [List.length_map]
    have := List.length_filter_le p (List.range i)
    rw [List.length_range] at this
    omega
  refine lc_it w (fun i Hc => ∃ xs : List V, Same H1 Hc ∧ Hc D = some (.lst xs) ∧ TupsV K Hc xs (((List.range i).filter p).map f)) ⟨[], same_new nD, upd_same, TupsV.nil⟩ (fun i Hc _ ⟨_, h, _⟩ => hG Hc h) ?_ (fun Hc ⟨xs, h1, h2, h3⟩ => hd Hc xs h1 h2 h3)
  rintro i x Hc Hy hi ⟨xs, sm, hD, tv⟩ y
  have flt : p i = true → (List.range (i + 1)).filter p = (List.range i).filter p ++ [i] := fun e => by rw [range_snoc, List.filter_append, List.filter_cons_of_pos e]; rfl
  have flf : p i = false → (List.range (i + 1)).filter p = (List.range i).filter p := fun e => by
    rw [range_snoc, List.filter_append, List.filter_cons_of_neg (by rw [e]; decide)]
    exact List.append_nil _
  cases hp : p i with
  | false =>
    refine mono _ _ _ _ _ (fun σ2 H2 h => ?_) (hs i x Hc Hy hi sm y)
    obtain ⟨h1, h2, h3, _⟩ := h
    refine ⟨h1, h3 _ fun H3 s3 => ?_⟩
    rw [hp]
    refine iteF ⟨xs, (sm.trans h2).trans s3, s3 _ _ (h2 _ _ hD), ?_⟩
    rw [flf hp]
    exact tv.same (h2.trans s3)
  | true =>
    refine mono _ _ _ _ _ (fun σ2 H2 h => ?_) (hs i x Hc Hy hi sm y)
    obtain ⟨h1, h2, h3, h4⟩ := h
    refine ⟨h1, h3 _ fun H3 s3 => ?_⟩
    rw [hp]
    refine iteT (h4 hp H3 s3 _ fun H4 q s4 hq => ?_)
    have hD4 := s4 _ _ (s3 _ _ (h2 _ _ hD))
    refine ⟨_, hD4, Nat.lt_of_le_of_lt (by rw [tv.len]; exact fl i (by omega)) (by decide : 1000 < sizeLine), _, same_mut (((sm.trans h2).trans s3).trans s4) nD, upd_same, ?_⟩
    rw [flt hp, List.map_append]
    exact ((tv.same ((h2.trans s3).trans s4)).lst hD4).snoc (sqT_upd hq hD4 (fun ys => ⟨fun z => (nomatch z), fun u z => (nomatch z)⟩))
theorem g_mono {i : Nat} : ∀ x σ' H' (Q Q' : L2.St → Hp → Prop), (∀ a b, Q a b → Q' a b) → gName i x σ' H' Q → gName i x σ' H' Q' := fun _ _ _ _ _ h q => h _ _ q
theorem gt_mono {k : Nat} {ts : TGs} (h : ∀ us σ' H' (Q Q' : L2.St → Hp → Prop), (∀ a b, Q a b → Q' a b) → ts us σ' H' Q → ts us σ' H' Q') : ∀ x σ' H' (Q Q' : L2.St → Hp → Prop), (∀ a b, Q a b → Q' a b) → gTup K k ts x σ' H' Q → gTup K k ts x σ' H' Q' :=
  fun _ _ _ _ _ hq ⟨a, xs, h1, h2, h3, h4⟩ => ⟨a, xs, h1, h2, h3, h _ _ _ _ _ hq h4⟩
theorem gn_mono : ∀ us σ' H' (Q Q' : L2.St → Hp → Prop), (∀ a b, Q a b → Q' a b) → gNil us σ' H' Q → gNil us σ' H' Q' := fun _ _ _ _ _ hq ⟨h1, h2⟩ => ⟨h1, hq _ _ h2⟩
theorem gc_mono {i : Nat} {ts : TGs} (h : ∀ us σ' H' (Q Q' : L2.St → Hp → Prop), (∀ a b, Q a b → Q' a b) → ts us σ' H' Q → ts us σ' H' Q') : ∀ us σ' H' (Q Q' : L2.St → Hp → Prop), (∀ a b, Q a b → Q' a b) → gCons (gName i) ts us σ' H' Q → gCons (gName i) ts us σ' H' Q' :=
  fun _ _ _ _ _ hq ⟨v, r, h1, h2⟩ => ⟨v, r, h1, h _ _ _ _ _ hq h2⟩
end
end Sw
namespace Sw
open PySem PySem.Spec PyProof.Rows L2
theorem flat_snoc {β : Type} (F : Nat → List β) (i : Nat) : (List.range (i + 1)).flatMap F = (List.range i).flatMap F ++ F i := by
  rw [range_snoc, List.flatMap_append]
  simp
theorem flat_filter_len {β : Type} (m : Nat → Nat) (p : Nat → Nat → Bool) (f : Nat → Nat → β) : ∀ l : List Nat, (l.flatMap fun k => ((List.range (m k)).filter (p k)).map (f k)).length ≤ (l.flatMap fun k => List.range (m k)).length
  | [] => Nat.le_refl _
  | a :: r => by
    rw [List.flatMap_cons, List.flatMap_cons, List.length_append, List.length_append, List.length_map]
    have h1 := List.length_filter_le (p a) (List.range (m a))
    have h2 := flat_filter_len m p f r
    omega
section
variable {K : PySem.W.Frag} {J : It} {n : Nat} {G : Hp → Prop} {Y : Nat → Hp → V → Hp → Prop} {g g1 : TG} {tt1 : TT} {te : TE} {wi1 : TI} {vs vs1 : List Nat} {σ : L2.St} {H1 : Hp} {D : Addr} {Qd : Hp → Prop}
/-- [(..) for .. in .. for .. in .. if ..]: new tuples, told by the two numbers -/
theorem lc2_tups (w : Walk J n G Y) (m : Nat → Nat) (p : Nat → Nat → Bool) (f : Nat → Nat → List V) (nD : H1 D = none) (hz : ∀ i, i ≤ n → ((List.range i).flatMap fun k => List.range (m k)).length ≤ 1000000) (hm : ∀ i, i < n → m i ≤ 1000000) (hG : ∀ Hc, Same H1 Hc → G Hc)
    (hs : ∀ i x Hc Hy, i < n → Same H1 Hc → Y i Hc x Hy → g x (wipe σ vs) Hy fun σ2 H2 => wipe σ2 vs = wipe σ vs ∧ Same Hc H2 ∧
      ∀ R : It → Hp → Prop, (∀ J1 H4, Same H2 H4 → (∃ G1 Y1, Walk J1 (m i) G1 Y1 ∧ (∀ Hd, Same H1 Hd → G1 Hd) ∧ ∀ j y Hd Hz, j < m i → Same H1 Hd → Y1 j Hd y Hz → g1 y (wipe σ2 vs1) Hz fun σ3 H5 => wipe σ3 vs1 = wipe σ2 vs1 ∧ Same Hd H5 ∧
          (∀ Q : Bool → Hp → Prop, (∀ H', Same H5 H' → Q (p i j) H') → tt1 σ3 H5 Q) ∧ (p i j = true → ∀ H6, Same H5 H6 → ∀ Q : VK, (∀ H' q, Same H6 H' → SqT K H' q (f i j) → Q (.ref q) H') → te σ3 H6 Q)) → R J1 H4) → wi1 σ2 H2 R)
    (mono : ∀ x σ' H' (Q Q' : L2.St → Hp → Prop), (∀ a b, Q a b → Q' a b) → g x σ' H' Q → g x σ' H' Q') (mono1 : ∀ x σ' H' (Q Q' : L2.St → Hp → Prop), (∀ a b, Q a b → Q' a b) → g1 x σ' H' Q → g1 x σ' H' Q')
    (hd : ∀ Hc (xs : List V), Same H1 Hc → Hc D = some (.lst xs) → TupsV K Hc xs ((List.range n).flatMap fun k => ((List.range (m k)).filter (p k)).map (f k)) → Qd Hc) :
    ∃ W : Nat → Nat → Hp → Prop, (∃ m, W 0 m (upd H1 D (.lst []))) ∧ ∀ i m H, W i m H →
      (J.stop i H ∧ Qd H) ∨ (J.go i H ∧ ∃ Nx : Hp → Prop, (∀ H', Nx H' → ∃ m', m' < m ∧ W (i + 1) m' H') ∧ ∀ x H', J.yld i H x H' → g x (wipe σ vs) H' fun σ2 H2 => wipe σ2 vs = wipe σ vs ∧ tYes σ2 H2 fun b H3 =>
        if b = true then wi1 σ2 H3 fun J1 H4 => ∃ W1 : Nat → Nat → Hp → Prop, (∃ m, W1 0 m H4) ∧ ∀ j k H, W1 j k H →
          (J1.stop j H ∧ Nx H) ∨ (J1.go j H ∧ ∃ Nx1 : Hp → Prop, (∀ H', Nx1 H' → ∃ k', k' < k ∧ W1 (j + 1) k' H') ∧ ∀ x H', J1.yld j H x H' → g1 x (wipe σ2 vs1) H' fun σ3 H5 => wipe σ3 vs1 = wipe σ2 vs1 ∧ tt1 σ3 H5 fun b H6 =>
            if b = true then te σ3 H6 fun y H7 => ∃ acc, H7 D = some (.lst acc) ∧ acc.length < sizeLine ∧ Nx1 (upd H7 D (.lst (acc ++ [y]))) else Nx1 H6)
        else Nx H3) := by
  refine lc2_it w (fun i Hc => ∃ xs : List V, Same H1 Hc ∧ Hc D = some (.lst xs) ∧ TupsV K Hc xs ((List.range i).flatMap fun k => ((List.range (m k)).filter (p k)).map (f k))) ⟨[], same_new nD, upd_same, TupsV.nil⟩ (fun i Hc _ ⟨_, h, _⟩ => hG Hc h) ?_ (fun Hc ⟨xs, h1, h2, h3⟩ => hd Hc xs h1 h2 h3)
  rintro i x Hc Hy hi ⟨xs, sm, hD, tv⟩ y
  refine mono _ _ _ _ _ (fun σ2 H2 h => ?_) (hs i x Hc Hy hi sm y)
  obtain ⟨h1, h2, h3⟩ := h
  refine ⟨h1, ?_⟩
  unfold tYes
  dsimp only
  refine iteT (h3 _ fun J1 H4 s4 ⟨G1, Y1, w1, hG1, turn⟩ => ?_)
  have fl : ∀ j, j ≤ m i → (((List.range j).filter (p i)).map (f i)).length ≤ 1000000 := fun j hj => by
    rw [List.length_map]
    have h1 := List.length_filter_le (p i) (List.range j)
    rw [List.length_range] at h1
    have h2 := hm i hi
    omega
  have ol := Nat.le_trans (flat_filter_len m p f (List.range i)) (hz i (by omega))
  refine in_it w1 (fun j Hd => ∃ ys : List V, Same H1 Hd ∧ Hd D = some (.lst ys) ∧ TupsV K Hd ys (((List.range i).flatMap fun k => ((List.range (m k)).filter (p k)).map (f k)) ++ ((List.range j).filter (p i)).map (f i)))
    ⟨xs, (sm.trans h2).trans s4, s4 _ _ (h2 _ _ hD), ?_⟩ (fun j Hd _ ⟨_, h, _⟩ => hG1 Hd h) ?_ ?_
  · have e0 : ((List.range 0).filter (p i)).map (f i) = [] := rfl
    rw [e0, List.append_nil]
    exact tv.same (h2.trans s4)
  · rintro j z Hd Hz hj ⟨ys, smd, hDd, tvd⟩ yz
    have flt : p i j = true → (List.range (j + 1)).filter (p i) = (List.range j).filter (p i) ++ [j] := fun e => by rw [range_snoc, List.filter_append, List.filter_cons_of_pos e]; rfl
    have flf : p i j = false → (List.range (j + 1)).filter (p i) = (List.range j).filter (p i) := fun e => by
      rw [range_snoc, List.filter_append, List.filter_cons_of_neg (by rw [e]; decide)]
      exact List.append_nil _
    refine mono1 _ _ _ _ _ (fun σ3 H5 h => ?_) (turn j z Hd Hz hj smd yz)
    obtain ⟨g1', g2, g3, g4⟩ := h
    refine ⟨g1', g3 _ fun H6 s6 => ?_⟩
    cases hp : p i j with
    | false =>
      refine iteF ⟨ys, (smd.trans g2).trans s6, s6 _ _ (g2 _ _ hDd), ?_⟩
      rw [flf hp]
      exact tvd.same (g2.trans s6)
    | true =>
      refine iteT (g4 hp H6 s6 _ fun H7 q s7 hq => ?_)
      have hD7 := s7 _ _ (s6 _ _ (g2 _ _ hDd))
      refine ⟨_, hD7, ?_, _, same_mut (((smd.trans g2).trans s6).trans s7) nD, upd_same, ?_⟩
      · rw [tvd.len, List.length_append]
        have := fl j (by omega)
        have hsl : (2000000 : Nat) < sizeLine := by decide
        omega
      · rw [flt hp, List.map_append, ← List.append_assoc]
        exact ((tvd.same ((g2.trans s6).trans s7)).lst hD7).snoc (sqT_upd hq hD7 (fun ys => ⟨fun z => (nomatch z), fun u z => (nomatch z)⟩))
  · rintro Hd ⟨ys, smd, hDd, tvd⟩
    refine ⟨ys, smd, hDd, ?_⟩
    rw [flat_snoc]
    exact tvd
end
end Sw
/-! ## enumerate(tuple) -/
namespace PySem
open Sem (wp)
set_option maxHeartbeats 1000000 in
theorem meets_enumerate_newT {v : Value} {o : Obj} {H : Heap → Prop} (B : Begins v o H) :
    Meets (Builtin.«enumerate.__new__» ⟨[.type "enumerate", v], []⟩) (fun _ R s => H s.heap ∧
      R (.ok (.ret (.ref (s.heap.push o).objs.size))) { s with heap := (s.heap.push o).push { cls := .type "enumerate", data := .fields #[.none, .bool false, .ref s.heap.objs.size, rawInt 0, .none, .none] } }) :=
  .of_wp fun prog w A R s h => by
    obtain ⟨hp, g, d, tk, os⟩ := s; obtain ⟨h1, h⟩ := h
    have hsub := sub_enumerate
    have q1 : ∀ {A' : Around} {E : Value → Shared → Prop} {Q : Value → Shared → Prop}, Q (.ref hp.objs.size) ⟨hp.push o, g, d, tk, os⟩ → wpAny (model prog w) A' (pyIter v) Q E ⟨hp, g, d, tk, os⟩ :=
      fun q => B.iter prog w _ _ ⟨hp, g, d, tk, os⟩ _ h1 q
    wp_walk using q1
    refine wpAny_stack_any fun st => wpAny_pure ?_
    split
    · rename_i c _ _ _ _ _
      cases (c == Value.type "enumerate")
      · wp_walk using q1
        exact ⟨_, rfl, h⟩
      · wp_walk using q1
        exact ⟨_, rfl, h⟩
    · wp_walk using q1
      exact ⟨_, rfl, h⟩
section
variable {prog : Program} {w : World} {A : Around} {E : Value → Shared → Prop} {s : Shared}
theorem enum_beginsT {v : Value} {o : Obj} {H : Heap → Prop} {Q : Value → Shared → Prop} (B : Begins v o H) (h1 : H s.heap)
    (h : ∀ h', IsEnum h' (s.heap.objs.size + 1) s.heap.objs.size 0 .none → h'.get? s.heap.objs.size = some o → h'.objs.size = s.heap.objs.size + 2 →
      (∀ b o, s.heap.get? b = some o → h'.get? b = some o) → Q (.ref (s.heap.objs.size + 1)) { s with heap := h' }) :
    wpAny (model prog w) A (call (.type "enumerate") [v]) Q E s := by
  refine callType_new F.called_enumerate (by decide) (F.typeCall_enumerate_1 _) (F.newCall_enumerate_1 _) (fun obj => F.args_object_init_2 obj _) F.entry_enumerate_new
    (meets_enumerate_newT B) ⟨h1, ?_⟩
  have hz : (s.heap.push o).objs.size = s.heap.objs.size + 1 := Heap.size_push ..
  show _ ∧ _
  rw [hz]
  have he : IsEnum ((s.heap.push o).push { cls := .type "enumerate", data := .fields #[.none, .bool false, .ref s.heap.objs.size, rawInt 0, .none, .none] }) (s.heap.objs.size + 1) s.heap.objs.size 0 .none := by
    have := Heap.get?_push_size (s.heap.push o) (o := { cls := .type "enumerate", data := .fields #[.none, .bool false, .ref s.heap.objs.size, rawInt 0, .none, .none] }) rfl
    rw [hz] at this; exact this
  refine ⟨⟨_, he, rfl⟩, h _ he (Heap.get?_push_of_some _ (Heap.get?_push_size _ B.free)) (by rw [Heap.size_push, hz]) fun b o x => Heap.get?_push_of_some _ (Heap.get?_push_of_some _ x)⟩
theorem wpAny_pyNext_enum_endT {e it a : Addr} {i : Nat} {items : Array Value} {k : Int} {old : Value} {Q : Option Value → Shared → Prop} (hh : A.handled = none) (he : IsEnum s.heap e it k old) (hit : s.heap.IsTupleIter it a i) (ht : s.heap.IsTuple a items) (hx : items[i]? = none)
    (hQ : ∀ h', Heap.ExtBut it s.heap h' → Q none { s with heap := h' }) : wpAny (model prog w) A (pyNext (.ref e)) Q E s := by
  have hT : s.TypeIs (.ref e) "enumerate" := ⟨_, he, rfl⟩
  unfold pyNext
  refine wpAny_bind (wpAny_attempt (wpAny_callSpecial?_slot (name := Str.ofString "__next__") hT F.slot_enumerate_next
    (wpAny_call_entry F.slot_enumerate_next hT F.entry_enumerate_next ?_ (F.args_enumerate_next_1 _))))
  show wpAny _ _ (field (.ref e) 2 >>= _) _ _ _
  refine wpAny_bind (wpAny_field he rfl (x := .ref it) rfl ?_)
  refine wpAny_bind (wpAny_nextOf_tuple_end (A := A.in1) hh hit ht hx fun h' x he' hx' => ?_)
  obtain ⟨o, ho, hc⟩ := hx'
  refine wpAny_bind (wpAny_isInstance (T := "StopIteration") (b := true) ⟨o, ho, hc⟩ isSubtype_stop ?_)
  exact wpAny_pure (hQ _ he')
end
end PySem
namespace L2
open PySem PySem.Spec PyProof.Rows
/-- the tuple at a, each item in a new pair -/
def Itet (K : PySem.W.Frag) (a : Addr) : It :=
  ⟨fun i H => ∃ (xs : List V) (x : V), SqT K H a xs ∧ xs[i]? = some x, fun i H v H' => ∃ T x, v = .ref T ∧ H T = none ∧ H' = upd H T (.tup [.int (i : Nat), x]) ∧ ∀ xs, SqT K H a xs → xs[i]? = some x, fun i H => ∃ xs : List V, SqT K H a xs ∧ xs.length ≤ i⟩
theorem turn_enumT {P : Program} {w : World} {K : PySem.W.Frag} {elts : List Expr} {kk : Nat} {tpos : Pos} (a e it : Addr) :
    Turn P w K (.Tuple elts kk tpos) (Itet K a) [e, it] e (fun i h => (∃ old, IsEnum h e it ((i : Nat) : Int) old) ∧ h.IsTupleIter it a i ∧ e ≠ it) where
  mem := by simp
  obj := fun i h st b hb => by
    obtain ⟨⟨old, he⟩, ⟨o, ho, hc, hd⟩, _⟩ := st
    have e' : b = e ∨ b = it := by simpa using hb
    rcases e' with z | z
    · rw [z]; exact ⟨_, he, fun v q => nomatch q⟩
    · rw [z]; exact ⟨o, ho, fun v q => by rw [hd] at q; cases q⟩
  keep := fun i h h' st k => let ⟨⟨old, he⟩, hi, hne⟩ := st; ⟨⟨old, k e (by simp) _ he⟩, hi.at fun o q => k it (by simp) o q, hne⟩
  item := by
    intro X hP hw hK hc i pins s σ H E I hf st hg
    subst hP hw hK
    obtain ⟨⟨old, he⟩, hit, hne⟩ := st
    obtain ⟨xs, x, hq, hx⟩ := hg
    obtain ⟨its, rv, p, hz⟩ := I.tuple hq
    obtain ⟨u, hu, ru⟩ := rv.get hx
    have hel : e < s.heap.objs.size := Heap.lt_size he
    have hil : it < s.heap.objs.size := by obtain ⟨_, q, _⟩ := hit; exact Heap.lt_size q
    have nte : a ≠ e := fun z => by
      obtain ⟨o, ho, hoc, _⟩ := p
      rw [z, show s.heap.get? e = _ from he] at ho
      obtain rfl := Option.some.inj ho
      exact absurd (Value.type.inj hoc) (by decide)
    have nti : a ≠ it := fun z => by
      obtain ⟨o, ho, hoc, _⟩ := p
      obtain ⟨o2, ho2, hoc2, _⟩ := hit
      rw [z, ho2] at ho
      obtain rfl := Option.some.inj ho
      rw [hoc2] at hoc
      exact absurd (Value.type.inj hoc) (by decide)
    have hii : i < its.toArray.size := by
      have := (List.getElem?_eq_some_iff.mp hu).1
      simpa using this
    refine wpAny_pyNext_enum_itemD (Draws.tuple (A := X.A.in1) (I.ok.hd hc) it a nti its.toArray) he ⟨hit, p⟩ hii hne (by simp [hne, nte.symm]) fun x0 h' tk hP ho hst hT hsz hk => ?_
    obtain rfl : x0 = u := by
      have h1 : its[i]? = some x0 := by simpa using hP
      rw [hu] at h1
      exact (Option.some.inj h1).symm
    have hit' := hst.1
    refine ⟨_, rfl, wpAny_letOwnedTupleGo_enum (s := { s with heap := h', toks := tk + 1 }) ho fun h'' he' sb => ?_⟩
    have hT2 : h''.get? s.heap.objs.size = some { cls := .type "tuple", data := .seq #[.int i tk, x0] } := (sb.2 _ (Nat.ne_of_gt hel)).trans hT
    have new : ObjOk X.prog X.w (upd H s.heap.objs.size (.tup [.int (i : Nat), x])) h'' s.heap.objs.size (.tup [.int (i : Nat), x]) :=
      ⟨by show 2 ≤ sizeLine; decide, [.int i tk, x0], .cons ⟨_, rfl⟩ (.cons ru .nil), ⟨_, hT2, rfl, _, rfl⟩⟩
    have I1 : Inv X pins σ (upd H s.heap.objs.size (.tup [.int (i : Nat), x])) { s with heap := h'', toks := tk + 1 } :=
      I.turnedNew (ch := [e, it]) (fun b ob hb q => (sb.2 b (fun z => hb (by simp [z]))).trans (hk b ob (fun z => hb (by simp [z])) (fun z => hb (by simp [z])) q)) hf (Nat.le_refl _) new
    refine ⟨.ref s.heap.objs.size, _, I1, rfl, ⟨_, x, rfl, I.hok.fresh (Nat.le_refl _), rfl, fun ys hy => by rw [I.tuple_inj hy hq]; exact hx⟩, ⟨⟨x0, ?_⟩, hit'.at fun o q => (sb.2 it (Ne.symm hne)).trans q, hne⟩, fun b hb => ?_⟩
    · have e1 : ((i + 1 : Nat) : Int) = (i : Int) + 1 := by omega
      rw [e1]; exact he'
    · have hb' : b < s.heap.objs.size := by
        have e' : b = e ∨ b = it := by simpa using hb
        rcases e' with z | z
        · rw [z]; exact hel
        · rw [z]; exact hil
      rw [upd_ne (Nat.ne_of_lt hb')]
      exact (hf b hb).1
  done := by
    intro X hP hw hK hc i pins s σ H E I hf st hg
    subst hP hw hK
    obtain ⟨⟨old, he⟩, hit, hne⟩ := st
    obtain ⟨xs, hq, hx⟩ := hg
    obtain ⟨its, rv, p, hz⟩ := I.tuple hq
    obtain ⟨f0, f1, f2, f3, f4, f5⟩ := hf it (by simp)
    have hl := rv.length
    exact wpAny_pyNext_enum_endT (I.ok.hd hc) he hit p (by simp; omega) fun h' eb => ⟨rfl, I.turned (t' := s.toks) (fun b o hb q => eb b o hb q) f0 f1 f3 f4 f5⟩
  self := fun A i s Q E st h => let ⟨⟨_, he⟩, _⟩ := st; wpAny_pyIter_enum he h
def iEnumT (K : PySem.W.Frag) (ta : TA) : TI := fun σ H R => ta σ H fun vs H1 => ∃ a xs, vs = [.ref a] ∧ SqT K H1 a xs ∧ R (Itet K a) H1
theorem pi_enumT {X : Cx} {e : Expr} {ta : TA} {p pos tpos : Pos} {elts : List Expr} {kk : Nat} (hg : Gl X "enumerate") (hm : X.mg "enumerate" = none) (ha : PA X [e] ta) (hs : starEach [e] X.env = [(false, eval e X.env)] := by rfl) :
    PI X (.Tuple elts kk tpos) (.Call (.Name "enumerate" p) [e] [] pos) (iEnumT X.K ta) := by
  refine ⟨fun pins s σ H R I h => ?_⟩
  refine Call_ (ld_blt I hg hm boot_enumerate (PyProof.Rows.callWith_type1 (thn (ha.run pos pins s σ H _ I h) fun us s1 ⟨vs, H1, I1, r1, q1⟩ => ?_) hs rfl))
  obtain ⟨a, xs, ex, hq, q⟩ := q1
  subst ex
  cases r1 with
  | cons r rr =>
    cases rr
    cases r
    obtain ⟨its, rv, p', hz⟩ := I1.tuple hq
    refine enum_beginsT (begins_tuple a its.toArray) p' fun h' he hit hsz hk => wpAny_pyIter_enum he ?_
    have I2 : Inv X pins σ H1 { s1 with heap := h' } := I1.kept (t' := s1.toks) hk
    refine ⟨s1.heap.objs.size + 1, [s1.heap.objs.size + 1, s1.heap.objs.size], _, _, H1, rfl, I2, turn_enumT a (s1.heap.objs.size + 1) s1.heap.objs.size, ⟨⟨.none, he⟩, ⟨_, hit, rfl, rfl⟩, Nat.succ_ne_self _⟩, fun b hb => ?_, q⟩
    have e' : b = s1.heap.objs.size + 1 ∨ b = s1.heap.objs.size := by simpa using hb
    have hle : s1.heap.objs.size ≤ b := by
      rcases e' with z | z
      · rw [z]; exact Nat.le_add_right _ _
      · rw [z]; exact Nat.le_refl _
    exact I1.fpOk hle (I1.hok.fresh hle)
theorem walk_enumT {K : PySem.W.Frag} {a : Addr} {xs : List V} : Walk (Itet K a) xs.length (fun H => SqT K H a xs) (YPair (fun i => some (.int (i : Nat))) (fun i => xs[i]?)) := by
  refine ⟨fun i _ hi q => ⟨xs, xs[i], q, by simp [hi]⟩, fun _ q => ⟨xs, q, Nat.le_refl _⟩, fun i H v H' _ q y => ?_⟩
  obtain ⟨T, x, h1, h2, h3, h4⟩ := y
  exact ⟨T, .int (i : Nat), x, h1, h2, h3, rfl, h4 xs q⟩
end L2
namespace Sw
open PySem PySem.Spec PyProof.Rows L2
abbrev rLenSeq (K : PySem.W.Frag) : List V → Hp → VK → Prop := fun xs H Q => ∃ (p : Addr) (ys : List V), xs = [.ref p] ∧ (SqL K H p ys ∨ SqT K H p ys) ∧ Q (.int ys.length) H
/-- a schema, and a list of parts of its tables -/
structure HoldIn (K : PySem.W.Frag) (CT CS : Addr) (H : Hp) (S A : Addr) (xs : List V) (ss : List (List Str)) (rows : List Rw) (l : List Tb) : Prop where
  sch : SchOf K CT CS H S rows l
  at_ : SqL K H A xs
  pv : PartsV K H xs ss
  ok : ∀ s ∈ ss, PRow rows s
  fit : Fit rows
  len : ss.length ≤ 30
theorem HoldIn.same {K : PySem.W.Frag} {CT CS S A : Addr} {H H' : Hp} {xs : List V} {ss : List (List Str)} {rows : List Rw} {l : List Tb} (h : HoldIn K CT CS H S A xs ss rows l) (s : Same H H') : HoldIn K CT CS H' S A xs ss rows l :=
  ⟨h.sch.same s, s.seq h.at_, h.pv.same s, h.ok, h.fit, h.len⟩
theorem PartsV.get {K : PySem.W.Frag} {H : Hp} {xs : List V} {ss : List (List Str)} (h : PartsV K H xs ss) {i : Nat} (hi : i < ss.length) : ∃ q, xs[i]? = some (.ref q) ∧ SqT K H q ((ss.getD i []).map V.str) ∧ ss.getD i [] ∈ ss := by
  have hx := List.getElem?_eq_getElem (show i < xs.length by rw [h.len]; exact hi)
  obtain ⟨s, h1, q, h2, h3⟩ := h.all i _ hx
  have e : ss.getD i [] = s := getD_of h1
  exact ⟨q, by rw [hx, h2], by rw [e]; exact h3, by rw [e]; exact List.mem_of_getElem? h1⟩
theorem decStr {x y : Str} : decide (V.str x = V.str y) = decide (x = y) := decide_eq_decide.mpr ⟨fun h => V.str.inj h, fun h => by rw [h]⟩
theorem at0 {s : List Str} (h : 1 ≤ s.length) : atI (s.map V.str) 0 = some (.str (s.headD "")) := by
  cases s with
  | nil => cases h
  | cons z r => exact atI_nat (j := 0) rfl
theorem PRow.at0 {rows : List Rw} {s : List Str} (p : PRow rows s) : atI (s.map V.str) 0 = some (.str (s.headD "")) := by
  obtain ⟨r, h1, h2, h3⟩ := p.row
  cases s with
  | nil => cases h2
  | cons z r => exact atI_nat (j := 0) rfl
theorem agreeT_congr {ks ks' : List Int} (h : ∀ z, z ∈ ks ↔ z ∈ ks') (s t : List Str) : agreeT ks s t = agreeT ks' s t := by
  have e1 : ks.isEmpty = ks'.isEmpty := by
    cases ks with
    | nil =>
      cases ks' with
      | nil => rfl
      | cons a b => exact absurd ((h a).mpr List.mem_cons_self) (by simp)
    | cons a b =>
      cases ks' with
      | nil => exact absurd ((h a).mp List.mem_cons_self) (by simp)
      | cons c d => rfl
  have e2 : (ks.all fun c => decide (itemAt s c = itemAt t c)) = ks'.all fun c => decide (itemAt s c = itemAt t c) := by
    rw [Bool.eq_iff_iff, List.all_eq_true, List.all_eq_true]
    exact ⟨fun g z hz => g z ((h z).mpr hz), fun g z hz => g z ((h z).mp hz)⟩
  unfold agreeT
  rw [e1, e2]
theorem offT_congr {es ts : List Ent} (h : Alike es ts) (s : List Str) : offT ts s = offT es s := by
  unfold Alike at h
  unfold offT
  induction h with
  | nil => rfl
  | cons h _ ih =>
    rw [List.any_cons, List.any_cons, ih]
    unfold offE
    rw [h.1]
    congr 2
    rw [decide_eq_decide.mpr (h.2 _)]
theorem PRow.len {rows : List Rw} {s : List Str} (p : PRow rows s) (f : Fit rows) : 2 ≤ s.length ∧ s.length ≤ 4 := by
  obtain ⟨r, h1, h2, h3⟩ := p.row
  have := f.wd r h1
  have l1 : s.tail.length = s.length - 1 := List.length_tail
  omega
/-- table.agree(part, other) of a part's own table -/
theorem agree_call {K : PySem.W.Frag} {CT x a b : Addr} {H : Hp} {rows : List Rw} {ks : List Int} {ts : List Ent} {vs : List V} {s t : List Str} {Q : VK} {E : XK} (f : Fit rows) (p : PRow rows s) (p2 : PRow rows t) (tab : TabAt K CT H x (rwAt rows s).nm (rwAt rows s).wd ks ts vs) (hk : ∀ z, z ∈ ks ↔ z ∈ (rwAt rows s).ks)
    (ha : SqT K H a (s.map V.str)) (hb : SqT K H b (t.map V.str)) (q : ∀ H', Same H H' → Q (.bl (agreeP rows s t)) H') : spAgree K CT [.ref x, .ref a, .ref b] H Q E := by
  obtain ⟨hr, h1, h2⟩ := p.at_ f.nd
  obtain ⟨hr2, h3, h4⟩ := p2.at_ f.nd
  have l1 := p.len f
  have l2 := p2.len f
  refine ⟨x, a, b, _, _, ks, ts, vs, s, t, rfl, tab, ha, hb, by omega, by omega, ?_, fun hn k hkm => ?_, fun H' sm => ?_⟩
  · have nd : ks.Nodup := tab.ks.imp fun h => by omega
    have := nodup_leA nd fun z hz => (hk z).mp hz
    have := f.kl _ hr
    omega
  · obtain ⟨k0, k1⟩ := f.ks _ hr k ((hk k).mp hkm)
    have e : rwAt rows t = rwAt rows s := rwAt_of f.nd hr (by rw [← hn]; exact (head_ix h1).2)
    rw [e] at h4
    exact ⟨k0, by omega, by omega⟩
  · rw [agreeT_congr hk]
    exact q H' sm
theorem off_call {K : PySem.W.Frag} {CT x a : Addr} {H : Hp} {rows : List Rw} {ks : List Int} {ts : List Ent} {vs : List V} {s : List Str} {Q : VK} {E : XK} (f : Fit rows) (p : PRow rows s) (tab : TabAt K CT H x (rwAt rows s).nm (rwAt rows s).wd ks ts vs) (al : Alike (rwAt rows s).es ts)
    (ha : SqT K H a (s.map V.str)) (q : ∀ H', Same H H' → Q (.bl (offP rows s)) H') : spOff K CT [.ref x, .ref a] H Q E := by
  obtain ⟨hr, h1, h2⟩ := p.at_ f.nd
  have ek := al.keys
  have tl : ts.length = (rwAt rows s).es.length := by have := congrArg List.length ek; simpa using this
  refine ⟨x, a, _, _, ks, ts, vs, s, rfl, tab, ha, by rw [ek]; exact f.en _ hr, by rw [tl]; exact f.el _ hr, fun e he => ?_, fun H' sm => ?_⟩
  · have hm : e.1 ∈ (rwAt rows s).es.map (·.1) := by rw [← ek]; exact List.mem_map.mpr ⟨e, he, rfl⟩
    obtain ⟨e', he', e2⟩ := List.mem_map.mp hm
    obtain ⟨c, c1, c2, c3⟩ := f.es _ hr e' he'
    exact ⟨c, by rw [← e2]; exact c1, c2, by omega⟩
  · rw [offT_congr al]
    exact q H' sm
/-- the pairs of numbers, the lesser one first -/
def pairsN (n : Nat) : List (Nat × Nat) := (List.range n).flatMap fun j => (List.range j).map fun i => (i, j)
def agrees (rows : List Rw) (ss : List (List Str)) : List (Nat × Nat) := (pairsN ss.length).filter fun u => agreeP rows (ss.getD u.1 []) (ss.getD u.2 [])
/-- where parts agree and differ -/
def diffs (rows : List Rw) (ss : List (List Str)) : List (Nat × Nat × Nat) := (agrees rows ss).flatMap fun u => ((List.range ((ss.getD u.1 []).length - 1)).filter fun c : Nat => !decide (itemAt (ss.getD u.1 []) (c : Int) = itemAt (ss.getD u.2 []) (c : Int))).map fun c => (u.1, u.2, c)
def diffV (u : Nat × Nat × Nat) : List V := [.int u.1, .int u.2.1, .int u.2.2]
def lsAt (rows : List Rw) (s : List Str) : List (Int × Str × Int) := (rwAt rows s).ls
/-- the references that lead in vain -/
def lacks (rows : List Rw) (ss : List (List Str)) : List (Nat × Nat) := ((List.range ss.length).flatMap fun i => (List.range (lsAt rows (ss.getD i [])).length).map fun k => (i, k)).filter fun u => !ledP ((lsAt rows (ss.getD u.1 [])).getD u.2 (0, "", 0)) (ss.getD u.1 []) ss
def lackV (u : Nat × Nat) : List V := [.int u.1, .int u.2]
def holdsP (rows : List Rw) (ss : List (List Str)) : Bool := !(ss.any (offP rows) || (!(diffs rows ss).isEmpty || !(lacks rows ss).isEmpty))
theorem range_flat {α β : Type} (F : α → List β) (d : α) (l : List α) : (List.range l.length).flatMap (fun i => F (l.getD i d)) = l.flatMap F := by
  rw [List.flatMap_def, List.flatMap_def, range_map F d l]
theorem flat_range_len (m : Nat → Nat) (c : Nat) : ∀ l : List Nat, (∀ k ∈ l, m k ≤ c) → (l.flatMap fun k => List.range (m k)).length ≤ l.length * c
  | [], _ => Nat.zero_le _
  | a :: r, h => by
    rw [List.flatMap_cons, List.length_append, List.length_range, List.length_cons, Nat.succ_mul]
    have h1 := h a List.mem_cons_self
    have h2 := flat_range_len m c r fun k hk => h k (List.mem_cons_of_mem _ hk)
    omega
theorem pairs_lt {n : Nat} {u : Nat × Nat} (h : u ∈ pairsN n) : u.1 < u.2 ∧ u.2 < n := by
  obtain ⟨j, h1, h2⟩ := List.mem_flatMap.mp h
  obtain ⟨i, h3, rfl⟩ := List.mem_map.mp h2
  exact ⟨List.mem_range.mp h3, List.mem_range.mp h1⟩
theorem pairs_len (n : Nat) : (pairsN n).length ≤ n * n := by
  have h := flat_range_len (fun k => k) n (List.range n) fun k hk => Nat.le_of_lt (List.mem_range.mp hk)
  rw [List.length_range] at h
  have e : (pairsN n).length = ((List.range n).flatMap fun k => List.range k).length := by
    unfold pairsN
    rw [List.length_flatMap, List.length_flatMap]
    congr 1
    refine List.map_congr_left fun k _ => ?_
    rw [List.length_map]
  rw [e]
  exact h
theorem TupsV.get {K : PySem.W.Frag} {H : Hp} {xs : List V} {α : Type} {F : α → List V} {us : List α} (h : TupsV K H xs (us.map F)) {i : Nat} (d : α) (hi : i < us.length) : ∃ q, xs[i]? = some (.ref q) ∧ SqT K H q (F (us.getD i d)) ∧ us.getD i d ∈ us := by
  have hx := List.getElem?_eq_getElem (show i < xs.length by rw [h.len, List.length_map]; exact hi)
  obtain ⟨u, h1, q, h2, h3⟩ := h.all i _ hx
  have hu := List.getElem?_eq_getElem hi
  have e : us.getD i d = us[i] := getD_of hu
  rw [List.getElem?_map, hu] at h1
  rw [← Option.some.inj h1] at h3
  exact ⟨q, by rw [hx, h2], by rw [e]; exact h3, by rw [e]; exact List.getElem_mem hi⟩
theorem agree_wd {rows : List Rw} {s t : List Str} (f : Fit rows) (p : PRow rows s) (p2 : PRow rows t) (h : agreeP rows s t = true) : s.length = t.length := by
  have h' : (!(rwAt rows s).ks.isEmpty && (decide (s.headD "" = t.headD "") && (rwAt rows s).ks.all fun c => decide (itemAt s c = itemAt t c))) = true := h
  rw [Bool.and_eq_true, Bool.and_eq_true, decide_eq_true_iff] at h'
  have hn := h'.2.1
  obtain ⟨hr, h1, h2⟩ := p.at_ f.nd
  obtain ⟨hr2, h3, h4⟩ := p2.at_ f.nd
  have e : rwAt rows t = rwAt rows s := rwAt_of f.nd hr (by rw [← hn]; exact (head_ix h1).2)
  rw [e] at h4
  have l1 := p.len f
  have l2 := p2.len f
  rw [List.length_tail] at h2 h4
  omega
/-- schema.has_off_list(parts) -/
def spHas (K : PySem.W.Frag) (CT CS : Addr) : Sp := fun vs H Q _ => ∃ (S A : Addr) (xs : List V) (ss : List (List Str)) (rows : List Rw) (l : List Tb), vs = [.ref S, .ref A] ∧ HoldIn K CT CS H S A xs ss rows l ∧ ∀ H' : Hp, Same H H' → Q (.bl (ss.any (offP rows))) H'
/-- schema.differences(parts) -/
def spDiffs (K : PySem.W.Frag) (CT CS : Addr) : Sp := fun vs H Q _ => ∃ (S A : Addr) (xs : List V) (ss : List (List Str)) (rows : List Rw) (l : List Tb), vs = [.ref S, .ref A] ∧ HoldIn K CT CS H S A xs ss rows l ∧ ∀ (H' : Hp) (D : Addr) (us : List V), Same H H' → H D = none → H' D = some (.lst us) → TupsV K H' us ((diffs rows ss).map diffV) → Q (.ref D) H'
/-- schema.lacking(parts) -/
def spLacks (K : PySem.W.Frag) (CT CS : Addr) : Sp := fun vs H Q _ => ∃ (S A : Addr) (xs : List V) (ss : List (List Str)) (rows : List Rw) (l : List Tb), vs = [.ref S, .ref A] ∧ HoldIn K CT CS H S A xs ss rows l ∧ ∀ (H' : Hp) (D : Addr) (us : List V), Same H H' → H D = none → H' D = some (.lst us) → TupsV K H' us ((lacks rows ss).map lackV) → Q (.ref D) H'
/-- schema.holds(world) -/
def spHolds (K : PySem.W.Frag) (CT CS : Addr) : Sp := fun vs H Q _ => ∃ (S A : Addr) (xs : List V) (ss : List (List Str)) (rows : List Rw) (l : List Tb), vs = [.ref S, .ref A] ∧ HoldIn K CT CS H S A xs ss rows l ∧ ∀ H' : Hp, Same H H' → Q (.bl (holdsP rows ss)) H'
/-- leads(reference, part, parts) -/
def spLeads (K : PySem.W.Frag) : Sp := fun vs H Q _ => ∃ (r p A : Addr) (e : Int × Str × Int) (s : List Str) (xs : List V) (ss : List (List Str)), vs = [.ref r, .ref p, .ref A] ∧ SqT K H r [.int e.1, .str e.2.1, .int e.2.2] ∧ SqT K H p (s.map V.str) ∧ SqL K H A xs ∧ PartsV K H xs ss ∧ ss.length ≤ 100 ∧ 0 ≤ e.1 ∧ e.1 < (s.tail.length : Int) ∧
  (∀ t ∈ ss, 1 ≤ t.length ∧ (t.headD "" = e.2.1 → 0 ≤ e.2.2 ∧ e.2.2 < (t.tail.length : Int))) ∧ ∀ H' : Hp, Same H H' → Q (.bl (ledP e s ss)) H'
end Sw
namespace Sw
open PySem PySem.Spec PyProof.Rows L2
/-- the table of a part -/
theorem tab_got {K : PySem.W.Frag} {CT CS S : Addr} {H : Hp} {rows : List Rw} {l : List Tb} {s : List Str} (sch : SchOf K CT CS H S rows l) (nd : (rows.map Rw.nm).Nodup) (p : PRow rows s) :
    ∃ (x dx : Addr) (kA lA rA : Addr) (ks : List Int) (ts : List Ent) (vs : List V), valV (kvT l) (Sum.inr (s.headD "") : Key) = some (.ref x) ∧ (s.headD "").length ≤ 1000 ∧ TabAt K CT H x (rwAt rows s).nm (rwAt rows s).wd ks ts vs ∧ H x = some (.ins CT dx (tabF (rwAt rows s).nm (rwAt rows s).wd kA lA rA)) ∧ TDict H lA ts ∧ SqT K H rA vs ∧
      (∀ z, z ∈ ks ↔ z ∈ (rwAt rows s).ks) ∧ Alike (rwAt rows s).es ts ∧ LeadsV K H vs (rwAt rows s).ls := by
  obtain ⟨hr, h1, h2⟩ := p.at_ nd
  obtain ⟨t, htm, htn, htb⟩ := sch.get hr
  have hn := (head_ix h1).2
  have hget : valV (kvT l) (Sum.inr (s.headD "") : Key) = some (.ref t.x) := by
    rw [hn, ← htn]
    exact valV_tb sch.sch.nd htm
  obtain ⟨ks, ts, vs, g1, g2, g3, g4⟩ := htb.tab
  obtain ⟨dx, kA, lA, rA, e1, _, e3, e4⟩ := g1.ex
  refine ⟨t.x, dx, kA, lA, rA, ks, ts, vs, hget, ?_, g1, e1, e3, e4, g2, g3, g4⟩
  refine (p.ok _ ?_).1
  cases s with
  | nil => cases h1
  | cons a b => exact List.mem_cons_self
end Sw
/-! ## lists of rows -/
namespace Sw
open PySem PySem.Spec PyProof.Rows L2
theorem room65 {k : Nat} {A : Around} (r : Room k A) : A.units + 65 < cLine := by have := r.un; omega
def RLt (s t : List Str) : Prop := ltRow s t = true
instance : DecidableRel RLt := fun s t => inferInstanceAs (Decidable (ltRow s t = true))
theorem RLt.irrefl : ∀ s : List Str, ¬ RLt s s
  | [], h => by cases h
  | x :: r, h => by
    have h : (if x = x then ltRow r r else decide (x.cps.toList < x.cps.toList)) = true := h
    rw [if_pos rfl] at h
    exact RLt.irrefl r h
theorem RLt.trans : ∀ s t u : List Str, RLt s t → RLt t u → RLt s u
  | [], [], _, h, _ => by cases h
  | [], _ :: _, [], _, h => by cases h
  | [], _ :: _, _ :: _, _, _ => rfl
  | _ :: _, [], _, h, _ => by cases h
  | _ :: _, _ :: _, [], _, h => by cases h
  | x :: a, y :: b, z :: c, h1, h2 => by
    have h1 : (if x = y then ltRow a b else decide (x.cps.toList < y.cps.toList)) = true := h1
    have h2 : (if y = z then ltRow b c else decide (y.cps.toList < z.cps.toList)) = true := h2
    show (if x = z then ltRow a c else decide (x.cps.toList < z.cps.toList)) = true
    by_cases e1 : x = y
    · subst e1
      rw [if_pos rfl] at h1
      by_cases e2 : x = z
      · subst e2
        rw [if_pos rfl] at h2 ⊢
        exact RLt.trans a b c h1 h2
      · rw [if_neg e2] at h2 ⊢
        exact h2
    · rw [if_neg e1] at h1
      by_cases e2 : y = z
      · subst e2
        rw [if_neg e1]
        exact h1
      · rw [if_neg e2] at h2
        have l1 : SLt x y := of_decide_eq_true h1
        have l2 : SLt y z := of_decide_eq_true h2
        have l3 := l1.trans l2
        have e3 : x ≠ z := fun e => by
          rw [e] at l3
          exact SLt.irrefl z l3
        rw [if_neg e3]
        exact decide_eq_true l3
theorem RLt.tri : ∀ s t : List Str, ¬ RLt t s → s ≠ t → RLt s t
  | [], [], _, h => absurd rfl h
  | [], _ :: _, _, _ => rfl
  | _ :: _, [], h, _ => absurd rfl h
  | x :: a, y :: b, h, ne => by
    have h : ¬ (if y = x then ltRow b a else decide (y.cps.toList < x.cps.toList)) = true := h
    show (if x = y then ltRow a b else decide (x.cps.toList < y.cps.toList)) = true
    by_cases e : x = y
    · subst e
      rw [if_pos rfl] at h ⊢
      exact RLt.tri a b h fun z => ne (by rw [z])
    · rw [if_neg (fun z => e z.symm)] at h
      rw [if_neg e]
      exact decide_eq_true (SLt.tri x y (fun z => h (decide_eq_true z)) e)
theorem eqv_strs : ∀ s t : List Str, PyData.eqvAll (s.map .str) (t.map .str) = decide (s = t)
  | [], [] => rfl
  | [], _ :: _ => rfl
  | _ :: _, [] => rfl
  | x :: a, y :: b => by
    show ((x == y) && PyData.eqvAll (a.map .str) (b.map .str)) = _
    rw [eqv_strs a b]
    by_cases e : x = y
    · subst e
      rw [beq_self_eq_true, Bool.true_and]
      exact decide_eq_decide.mpr ⟨fun h => by rw [h], fun h => (List.cons.inj h).2⟩
    · rw [beq_eq_false_iff_ne.mpr e, Bool.false_and]
      exact (decide_eq_false fun h => e (List.cons.inj h).1).symm
theorem eqv_row (s t : List Str) : PyData.eqv (.tuple (s.map .str)) (.tuple (t.map .str)) = decide (s = t) := eqv_strs s t
theorem eqv_rows : ∀ ss ts : List (List Str), PyData.eqvAll (shD ss) (shD ts) = decide (ss = ts)
  | [], [] => rfl
  | [], _ :: _ => rfl
  | _ :: _, [] => rfl
  | x :: a, y :: b => by
    show (PyData.eqv (.tuple (x.map .str)) (.tuple (y.map .str)) && PyData.eqvAll (shD a) (shD b)) = _
    rw [eqv_rows a b, eqv_row]
    by_cases e : x = y
    · subst e
      rw [decide_eq_true rfl, Bool.true_and]
      exact decide_eq_decide.mpr ⟨fun h => by rw [h], fun h => (List.cons.inj h).2⟩
    · rw [decide_eq_false e, Bool.false_and]
      exact (decide_eq_false fun h => e (List.cons.inj h).1).symm
theorem any_row (s : List Str) : ∀ ss : List (List Str), ((shD ss).any fun z => PyData.eqv z (.tuple (s.map .str))) = decide (s ∈ ss)
  | [] => rfl
  | t :: r => by
    show (PyData.eqv (.tuple (t.map .str)) (.tuple (s.map .str)) || (shD r).any fun z => PyData.eqv z (.tuple (s.map .str))) = _
    rw [any_row s r, eqv_row]
    by_cases e : t = s
    · subst e
      rw [decide_eq_true rfl, Bool.true_or]
      exact (decide_eq_true List.mem_cons_self).symm
    · rw [decide_eq_false e, Bool.false_or]
      refine decide_eq_decide.mpr ⟨fun h => List.mem_cons_of_mem _ h, fun h => ?_⟩
      rcases List.mem_cons.mp h with h | h
      · exact absurd h.symm e
      · exact h
theorem shapedRow {s : List Str} (h : ∀ z ∈ s, SOk z) : SeqAt.shaped (.tuple (s.map .str)) = true := (shapedStrs h).1
/-- a row where it stands -/
abbrev PR := Addr × List Str
abbrev rv (u : PR) : V := .ref u.1
structure RowsP (K : PySem.W.Frag) (H : Hp) (l : List PR) : Prop where
  at_ : ∀ u ∈ l, SqT K H u.1 (u.2.map V.str)
  ok : ∀ u ∈ l, ∀ z ∈ u.2, SOk z
theorem RowsP.same {K : PySem.W.Frag} {H H' : Hp} {l : List PR} (h : RowsP K H l) (s : Same H H') : RowsP K H' l := ⟨fun u hu => same_seqT s (h.at_ u hu), h.ok⟩
theorem RowsP.sub {K : PySem.W.Frag} {H : Hp} {l l' : List PR} (h : RowsP K H l) (s : ∀ u ∈ l', u ∈ l) : RowsP K H l' := ⟨fun u hu => h.at_ u (s u hu), fun u hu => h.ok u (s u hu)⟩
theorem RowsP.lst {K : PySem.W.Frag} {H : Hp} {l : List PR} {D : Addr} {ys : List V} {o : HO} (h : RowsP K H l) (hD : H D = some (.lst ys)) : RowsP K (upd H D o) l := ⟨fun u hu => sqT_upd (h.at_ u hu) hD (fun ys => ⟨fun z => (nomatch z), fun u z => (nomatch z)⟩), h.ok⟩
theorem RowsP.dp {K : PySem.W.Frag} {H : Hp} : ∀ {l : List PR}, RowsP K H l → DpAll K H (l.map rv) (shD (l.map (·.2)))
  | [], _ => .nil
  | u :: r, h => .cons (.tup (h.at_ u List.mem_cons_self) (dpStrs u.2)) (RowsP.dp ⟨fun v hv => h.at_ v (List.mem_cons_of_mem _ hv), fun v hv => h.ok v (List.mem_cons_of_mem _ hv)⟩)
theorem RowsP.sh {K : PySem.W.Frag} {H : Hp} {l : List PR} (h : RowsP K H l) : SeqAt.shaped (.list (shD (l.map (·.2)))) = true := shapedShapes fun s hs => by
  obtain ⟨u, hu, rfl⟩ := List.mem_map.mp hs
  exact h.ok u hu
theorem RowsP.pv {K : PySem.W.Frag} {H : Hp} {l : List PR} (h : RowsP K H l) : PartsV K H (l.map rv) (l.map (·.2)) := by
  refine ⟨by rw [List.length_map, List.length_map], fun i v e => ?_⟩
  rw [List.getElem?_map] at e
  cases hu : l[i]? with
  | none => rw [hu] at e; cases e
  | some u =>
    rw [hu] at e
    obtain rfl := Option.some.inj e
    exact ⟨u.2, by rw [List.getElem?_map, hu]; rfl, u.1, rfl, h.at_ u (List.mem_of_getElem? hu)⟩
theorem RowsP.of {K : PySem.W.Frag} {H : Hp} : ∀ {xs : List V} {ss : List (List Str)}, PartsV K H xs ss → (∀ s ∈ ss, ∀ z ∈ s, SOk z) → ∃ l : List PR, xs = l.map rv ∧ ss = l.map (·.2) ∧ RowsP K H l
  | [], [], _, _ => ⟨[], rfl, rfl, fun u hu => (nomatch hu), fun u hu => (nomatch hu)⟩
  | [], _ :: _, h, _ => nomatch h.len
  | _ :: _, [], h, _ => nomatch h.len
  | x :: xs, s :: ss, h, ok => by
    obtain ⟨s', h1, q, rfl, h2⟩ := h.all 0 x rfl
    obtain rfl : s = s' := Option.some.inj h1
    obtain ⟨l, rfl, rfl, hl⟩ := RowsP.of (xs := xs) (ss := ss) ⟨Nat.succ.inj h.len, fun i v e => h.all (i + 1) v e⟩ fun t ht => ok t (List.mem_cons_of_mem _ ht)
    refine ⟨(q, s) :: l, rfl, rfl, fun u hu => ?_, fun u hu => ?_⟩
    · rcases List.mem_cons.mp hu with rfl | hu
      · exact h2
      · exact hl.at_ u hu
    · rcases List.mem_cons.mp hu with rfl | hu
      · exact ok _ List.mem_cons_self
      · exact hl.ok u hu
/-- _law_rising(items), the items rows -/
def spRiseR (K : PySem.W.Frag) : Sp := fun vs H Q _ => ∃ (a : Addr) (l : List PR), vs = [.ref a] ∧ SqL K H a (l.map rv) ∧ RowsP K H l ∧ l.length ≤ 100 ∧
  ∀ (H' : Hp) (p : Addr) (us : List PR), Same H H' → H p = none → H' p = some (.lst (us.map rv)) → (us.map (·.2)).Pairwise RLt → (∀ s, s ∈ us.map (·.2) ↔ s ∈ l.map (·.2)) → (∀ u ∈ us, u ∈ l) → us.length ≤ l.length → Q (.ref p) H'
end Sw
/-! ## the law's own look at rows -/
namespace Sw
open PySem PySem.Spec PyProof.Rows L2
theorem shapedListI (s : List Int) : SeqAt.shaped (.list (s.map .int)) = true := by
  have h := (shapedInts s).1
  unfold SeqAt.shaped at h ⊢
  exact h
/-- the dealt tables and rows of them -/
structure LawIn (K : PySem.W.Frag) (H : Hp) (T A : Addr) (tx xs : List V) (rows : List Rw) (ss : List (List Str)) : Prop where
  tab : RowsAt K H T tx rows
  at_ : SqL K H A xs
  pv : PartsV K H xs ss
  ok : ∀ s ∈ ss, PRow rows s
  fit : Fit rows
  len : ss.length ≤ 30
theorem LawIn.same {K : PySem.W.Frag} {H H' : Hp} {T A : Addr} {tx xs : List V} {rows : List Rw} {ss : List (List Str)} (h : LawIn K H T A tx xs rows ss) (s : Same H H') : LawIn K H' T A tx xs rows ss :=
  ⟨h.tab.same s, s.seq h.at_, h.pv.same s, h.ok, h.fit, h.len⟩
/-- _law_find(tables, row[0]) -/
theorem find_call {K : PySem.W.Frag} {H : Hp} {T : Addr} {tx : List V} {rows : List Rw} {s : List Str} {Q : VK} {E : XK} (tab : RowsAt K H T tx rows) (f : Fit rows) (p : PRow rows s) (q : ∀ (H' : Hp) (v : V), Same H H' → RwAt K H' v (rwAt rows s) → Q v H') : spFind K [.ref T, .str (s.headD "")] H Q E := by
  obtain ⟨hr, h1, h2⟩ := p.at_ f.nd
  refine ⟨T, s.headD "", tx, rows, rfl, tab, f.len, ?_, fun H' i v r sm hv hr2 hn => ?_⟩
  · rw [(head_ix h1).2]
    exact List.mem_map.mpr ⟨_, hr, rfl⟩
  · obtain ⟨r', e1, e2⟩ := (tab.same sm).all i v hv
    rw [hr2] at e1
    obtain rfl := Option.some.inj e1
    have e : rwAt rows s = r := rwAt_of f.nd (List.mem_of_getElem? hr2) hn.symm
    rw [← e] at e2
    exact q H' v sm e2
/-- _law_agree(tables, a, b) -/
def spLAgree (K : PySem.W.Frag) : Sp := fun vs H Q _ => ∃ (T a b : Addr) (tx : List V) (rows : List Rw) (s t : List Str), vs = [.ref T, .ref a, .ref b] ∧ RowsAt K H T tx rows ∧ Fit rows ∧ PRow rows s ∧ PRow rows t ∧ SqT K H a (s.map V.str) ∧ SqT K H b (t.map V.str) ∧ ∀ H' : Hp, Same H H' → Q (.bl (agreeP rows s t)) H'
/-- the open references of rows -/
def openL (rows : List Rw) (some ss : List (List Str)) : Option (List Str × (Int × Str × Int)) := (some.flatMap fun s => (lsAt rows s).map fun e => (s, e)).find? fun u => !ledP u.2 u.1 ss
/-- _law_open_lead(tables, some, rows) -/
def spOpen (K : PySem.W.Frag) : Sp := fun vs H Q _ => ∃ (T B A : Addr) (tx ys xs : List V) (rows : List Rw) (ts ss : List (List Str)), vs = [.ref T, .ref B, .ref A] ∧ LawIn K H T A tx xs rows ss ∧ LawIn K H T B tx ys rows ts ∧
  (openL rows ts ss = none → ∀ H' : Hp, Same H H' → Q .non H') ∧ ∀ u, openL rows ts ss = some u → ∀ (H' : Hp) (p : Addr), Same H H' → SqT K H' p [.str (itemAt u.1 u.2.1), .str u.2.2.1, .int u.2.2.2] → Q (.ref p) H'
/-- no value that is not listed -/
def offL (rows : List Rw) (s : List Str) : Bool := (rwAt rows s).es.any fun e => !decide (itemAt s (colOf e.1) ∈ e.2.2)
def holdsL (rows : List Rw) (ss : List (List Str)) : Bool := !(ss.any fun s => offL rows s || ss.any fun t => !decide (t = s) && agreeP rows s t) && (openL rows ss ss).isNone
/-- _law_holds(tables, rows) -/
def spLHolds (K : PySem.W.Frag) : Sp := fun vs H Q _ => ∃ (T A : Addr) (tx xs : List V) (rows : List Rw) (ss : List (List Str)), vs = [.ref T, .ref A] ∧ LawIn K H T A tx xs rows ss ∧ ∀ H' : Hp, Same H H' → Q (.bl (holdsL rows ss)) H'
theorem open_none {rows : List Rw} {ts ss : List (List Str)} : openL rows ts ss = none ↔ ∀ s ∈ ts, ∀ e ∈ lsAt rows s, ledP e s ss = true := by
  unfold openL
  rw [List.find?_eq_none]
  constructor
  · intro h s hs e he
    have := h (s, e) (List.mem_flatMap.mpr ⟨s, hs, List.mem_map.mpr ⟨e, he, rfl⟩⟩)
    simpa using this
  · intro h u hu
    obtain ⟨s, hs, h2⟩ := List.mem_flatMap.mp hu
    obtain ⟨e, he, rfl⟩ := List.mem_map.mp h2
    simp [h s hs e he]
theorem open_first {rows : List Rw} {ts ss : List (List Str)} {i k : Nat} {s : List Str} {e : Int × Str × Int} (h1 : ∀ s' ∈ ts.take i, ∀ e' ∈ lsAt rows s', ledP e' s' ss = true) (hs : ts[i]? = some s) (h2 : ∀ e' ∈ (lsAt rows s).take k, ledP e' s ss = true) (he : (lsAt rows s)[k]? = some e) (h3 : ledP e s ss = false) : openL rows ts ss = some (s, e) := by
  unfold openL
  have e1 : ts = ts.take i ++ s :: ts.drop (i + 1) := by
    have hi := (List.getElem?_eq_some_iff.mp hs).1
    have : ts.drop i = s :: ts.drop (i + 1) := by
      rw [List.drop_eq_getElem_cons hi]
      congr 1
      exact Option.some.inj ((List.getElem?_eq_getElem hi).symm.trans hs)
    rw [← this, List.take_append_drop]
  have e2 : lsAt rows s = (lsAt rows s).take k ++ e :: (lsAt rows s).drop (k + 1) := by
    have hk := (List.getElem?_eq_some_iff.mp he).1
    have : (lsAt rows s).drop k = e :: (lsAt rows s).drop (k + 1) := by
      rw [List.drop_eq_getElem_cons hk]
      congr 1
      exact Option.some.inj ((List.getElem?_eq_getElem hk).symm.trans he)
    rw [← this, List.take_append_drop]
  have n1 : ((ts.take i).flatMap fun s => (lsAt rows s).map fun e => (s, e)).find? (fun u => !ledP u.2 u.1 ss) = none := by
    rw [List.find?_eq_none]
    intro u hu
    obtain ⟨s', hs', h⟩ := List.mem_flatMap.mp hu
    obtain ⟨e', he', rfl⟩ := List.mem_map.mp h
    simp [h1 s' hs' e' he']
  have n2 : (((lsAt rows s).take k).map fun e => (s, e)).find? (fun u => !ledP u.2 u.1 ss) = none := by
    rw [List.find?_eq_none]
    intro u hu
    obtain ⟨e', he', rfl⟩ := List.mem_map.mp hu
    simp [h2 e' he']
  rw [e1, List.flatMap_append, List.find?_append, n1, Option.none_or, List.flatMap_cons, List.find?_append, e2, List.map_append, List.find?_append, n2, Option.none_or, List.map_cons, List.find?_cons_of_pos (by simp [h3])]
  rfl
theorem led_in {e : Int × Str × Int} {s : List Str} (ss : List (List Str)) : decide (itemAt s e.1 ∈ ((List.range ss.length).filter fun i => decide ((ss.getD i []).headD "" = e.2.1)).map fun i => itemAt (ss.getD i []) e.2.2) = ledP e s ss := by
  have h := range_filter (fun t : List Str => decide (t.headD "" = e.2.1)) (fun t : List Str => itemAt t e.2.2) [] ss
  rw [h]
  unfold ledP
  rw [Bool.eq_iff_iff, decide_eq_true_iff, List.any_eq_true]
  constructor
  · intro hm
    obtain ⟨t, ht, h2⟩ := List.mem_map.mp hm
    obtain ⟨h3, h4⟩ := List.mem_filter.mp ht
    exact ⟨t, h3, by rw [h4, decide_eq_true h2]; rfl⟩
  · rintro ⟨t, ht, h2⟩
    rw [Bool.and_eq_true, decide_eq_true_iff] at h2
    exact List.mem_map.mpr ⟨t, List.mem_filter.mpr ⟨ht, decide_eq_true h2.1⟩, of_decide_eq_true h2.2⟩
theorem lacks_none {rows : List Rw} {ss : List (List Str)} : (lacks rows ss).isEmpty = (openL rows ss ss).isNone := by
  rw [Bool.eq_iff_iff, List.isEmpty_iff, Option.isNone_iff_eq_none, open_none]
  unfold lacks
  rw [List.filter_eq_nil_iff]
  constructor
  · intro h s hs e he
    obtain ⟨i, hi⟩ := List.mem_iff_getElem?.mp hs
    have hil := (List.getElem?_eq_some_iff.mp hi).1
    obtain ⟨k, hk⟩ := List.mem_iff_getElem?.mp he
    have hkl := (List.getElem?_eq_some_iff.mp hk).1
    have e1 : ss.getD i [] = s := getD_of hi
    have := h (i, k) (List.mem_flatMap.mpr ⟨i, List.mem_range.mpr hil, List.mem_map.mpr ⟨k, List.mem_range.mpr (by rw [e1]; exact hkl), rfl⟩⟩)
    simp only [e1] at this
    rw [getD_of hk] at this
    simpa using this
  · intro h u hu
    obtain ⟨i, h1, h2⟩ := List.mem_flatMap.mp hu
    obtain ⟨k, h3, rfl⟩ := List.mem_map.mp h2
    have hi := List.mem_range.mp h1
    have hk := List.mem_range.mp h3
    have m1 : ss.getD i [] ∈ ss := by
      rw [getD_of (List.getElem?_eq_getElem hi)]
      exact List.getElem_mem _
    have m2 : (lsAt rows (ss.getD i [])).getD k (0, "", 0) ∈ lsAt rows (ss.getD i []) := by
      rw [getD_of (List.getElem?_eq_getElem hk)]
      exact List.getElem_mem _
    simp only [h _ m1 _ m2, Bool.not_true]
    decide
theorem agreeP_symm {rows : List Rw} {s t : List Str} (h : agreeP rows s t = true) : agreeP rows t s = true := by
  have h' : (!(rwAt rows s).ks.isEmpty && (decide (s.headD "" = t.headD "") && (rwAt rows s).ks.all fun c => decide (itemAt s c = itemAt t c))) = true := h
  rw [Bool.and_eq_true, Bool.and_eq_true, decide_eq_true_iff, List.all_eq_true] at h'
  obtain ⟨h1, h2, h3⟩ := h'
  have e : rwAt rows t = rwAt rows s := by
    unfold rwAt
    rw [h2]
  show (!(rwAt rows t).ks.isEmpty && (decide (t.headD "" = s.headD "") && (rwAt rows t).ks.all fun c => decide (itemAt t c = itemAt s c))) = true
  rw [e, h1, decide_eq_true h2.symm, Bool.true_and, Bool.true_and, List.all_eq_true]
  intro c hc
  have := of_decide_eq_true (h3 c hc)
  exact decide_eq_true this.symm
theorem rows_eq {s t : List Str} (l : s.length = t.length) (h0 : s.headD "" = t.headD "") (h : ∀ c, c < s.length - 1 → itemAt s (c : Int) = itemAt t (c : Int)) : s = t := by
  refine List.ext_getElem l fun i h1 h2 => ?_
  cases i with
  | zero =>
    cases s with
    | nil => cases h1
    | cons a b =>
      cases t with
      | nil => cases h2
      | cons c d => exact h0
  | succ i =>
    have := h i (by omega)
    unfold itemAt at this
    rw [show ((i : Int) + 1).toNat = i + 1 by omega, List.getD_eq_getElem?_getD, List.getD_eq_getElem?_getD, List.getElem?_eq_getElem h1, List.getElem?_eq_getElem h2] at this
    exact this
theorem diffs_some {rows : List Rw} {ss : List (List Str)} (f : Fit rows) (ok : ∀ s ∈ ss, PRow rows s) : (!(diffs rows ss).isEmpty) = ss.any fun s => ss.any fun t => !decide (t = s) && agreeP rows s t := by
  rw [Bool.eq_iff_iff, Bool.not_eq_true', List.any_eq_true]
  constructor
  · intro h
    have : diffs rows ss ≠ [] := fun z => by rw [z] at h; cases h
    obtain ⟨d, hd⟩ := List.exists_mem_of_ne_nil _ this
    obtain ⟨u, hu, h2⟩ := List.mem_flatMap.mp hd
    obtain ⟨c, hc, rfl⟩ := List.mem_map.mp h2
    obtain ⟨m1, m2⟩ := List.mem_filter.mp hu
    obtain ⟨u1, u2⟩ := pairs_lt m1
    obtain ⟨_, c2⟩ := List.mem_filter.mp hc
    have ms : ss.getD u.1 [] ∈ ss := by rw [getD_of (List.getElem?_eq_getElem (show u.1 < ss.length by omega))]; exact List.getElem_mem _
    have mt : ss.getD u.2 [] ∈ ss := by rw [getD_of (List.getElem?_eq_getElem u2)]; exact List.getElem_mem _
    refine ⟨_, ms, List.any_eq_true.mpr ⟨_, mt, ?_⟩⟩
    rw [m2, Bool.and_true]
    have : ss.getD u.2 [] ≠ ss.getD u.1 [] := fun z => by
      rw [z] at c2
      simp at c2
    rw [decide_eq_false this]
    rfl
  · rintro ⟨s, hs, h2⟩
    obtain ⟨t, ht, h3⟩ := List.any_eq_true.mp h2
    rw [Bool.and_eq_true, Bool.not_eq_true', decide_eq_false_iff_not] at h3
    obtain ⟨ne, ag⟩ := h3
    obtain ⟨i, hi⟩ := List.mem_iff_getElem?.mp hs
    obtain ⟨j, hj⟩ := List.mem_iff_getElem?.mp ht
    have go : ∀ (i j : Nat) (s t : List Str), ss[i]? = some s → ss[j]? = some t → s ≠ t → agreeP rows s t = true → i < j → (diffs rows ss).isEmpty = false := fun i j s t hi hj ne ag lt => by
      have hil := (List.getElem?_eq_some_iff.mp hi).1
      have hjl := (List.getElem?_eq_some_iff.mp hj).1
      have el := agree_wd f (ok s (List.mem_of_getElem? hi)) (ok t (List.mem_of_getElem? hj)) ag
      have h' : (!(rwAt rows s).ks.isEmpty && (decide (s.headD "" = t.headD "") && (rwAt rows s).ks.all fun c => decide (itemAt s c = itemAt t c))) = true := ag
      rw [Bool.and_eq_true, Bool.and_eq_true, decide_eq_true_iff] at h'
      have : ∃ c, c < s.length - 1 ∧ itemAt s (c : Int) ≠ itemAt t (c : Int) := Classical.byContradiction fun no => ne (rows_eq el h'.2.1 fun c hc => Classical.byContradiction fun z => no ⟨c, hc, z⟩)
      obtain ⟨c, c1, c2⟩ := this
      have m : (i, j, c) ∈ diffs rows ss := by
        refine List.mem_flatMap.mpr ⟨(i, j), List.mem_filter.mpr ⟨List.mem_flatMap.mpr ⟨j, List.mem_range.mpr hjl, List.mem_map.mpr ⟨i, List.mem_range.mpr lt, rfl⟩⟩, ?_⟩, List.mem_map.mpr ⟨c, List.mem_filter.mpr ⟨List.mem_range.mpr ?_, ?_⟩, rfl⟩⟩
        · show agreeP rows (ss.getD i []) (ss.getD j []) = true
          rw [getD_of hi, getD_of hj]
          exact ag
        · show c < (ss.getD i []).length - 1
          rw [getD_of hi]
          exact c1
        · show (!decide (itemAt (ss.getD i []) (c : Int) = itemAt (ss.getD j []) (c : Int))) = true
          rw [getD_of hi, getD_of hj, decide_eq_false c2]
          rfl
      cases e : diffs rows ss with
      | nil => rw [e] at m; cases m
      | cons a b => rfl
    rcases Nat.lt_trichotomy i j with lt | eq | gt
    · exact go i j s t hi hj (fun z => ne z.symm) ag lt
    · subst eq
      rw [hi] at hj
      exact absurd (Option.some.inj hj).symm ne
    · exact go j i t s hj hi ne (agreeP_symm ag) gt
/-- rows without variables: both looks agree -/
theorem holds_eq {rows : List Rw} {ss : List (List Str)} (f : Fit rows) (ok : ∀ s ∈ ss, PRow rows s) (nv : ∀ s ∈ ss, ∀ z ∈ s.tail, isVar z = false) : holdsL rows ss = holdsP rows ss := by
  have off : ∀ s ∈ ss, offL rows s = offP rows s := fun s hs => by
    unfold offL offP offT
    have pr := ok s hs
    obtain ⟨hr, _, h2⟩ := pr.at_ f.nd
    rw [Bool.eq_iff_iff, List.any_eq_true, List.any_eq_true]
    have key : ∀ e ∈ (rwAt rows s).es, offE s e = !decide (itemAt s (colOf e.1) ∈ e.2.2) := fun e he => by
      obtain ⟨c, c1, c2, c3⟩ := f.es _ hr e he
      unfold offE
      have m : itemAt s (colOf e.1) ∈ s.tail := by
        rw [c1]
        show itemAt s c ∈ _
        obtain ⟨n, rfl⟩ : ∃ n : Nat, c = (n : Int) := ⟨c.toNat, by omega⟩
        unfold itemAt
        rw [show ((n : Int) + 1).toNat = n + 1 by omega]
        rw [List.length_tail] at h2
        cases s with
        | nil => exact absurd (pr.len f).1 (by decide)
        | cons a b =>
          rw [List.getD_cons_succ]
          have hb : n < b.length := by rw [List.length_cons] at h2; omega
          rw [getD_of (List.getElem?_eq_getElem hb)]
          exact List.getElem_mem _
      rw [nv s hs _ m]
      rfl
    constructor
    · rintro ⟨e, he, h⟩
      exact ⟨e, he, by rw [key e he]; exact h⟩
    · rintro ⟨e, he, h⟩
      exact ⟨e, he, by rw [← key e he]; exact h⟩
  unfold holdsL holdsP
  rw [← lacks_none, diffs_some f ok]
  have e1 : (ss.any fun s => offL rows s || ss.any fun t => !decide (t = s) && agreeP rows s t) = (ss.any (offP rows) || ss.any fun s => ss.any fun t => !decide (t = s) && agreeP rows s t) := by
    rw [Bool.eq_iff_iff, List.any_eq_true, Bool.or_eq_true, List.any_eq_true, List.any_eq_true]
    constructor
    · rintro ⟨s, hs, h⟩
      rw [Bool.or_eq_true] at h
      rcases h with h | h
      · exact .inl ⟨s, hs, by rw [← off s hs]; exact h⟩
      · exact .inr ⟨s, hs, h⟩
    · rintro (⟨s, hs, h⟩ | ⟨s, hs, h⟩)
      · exact ⟨s, hs, by rw [off s hs, h]; rfl⟩
      · exact ⟨s, hs, by rw [h, Bool.or_true]⟩
  rw [e1]
  cases ss.any (offP rows) <;> cases (ss.any fun s => ss.any fun t => !decide (t = s) && agreeP rows s t) <;> cases (lacks rows ss).isEmpty <;> rfl
end Sw
/-! ## worlds that the laws grow -/
namespace Sw
open PySem PySem.Spec PyProof.Rows L2
/-- a row of a dealt table, its items drawn values -/
structure WR (rows : List Rw) (vals : List Str) (s : List Str) : Prop where
  row : ∃ r ∈ rows, s.head? = some r.nm ∧ (s.tail.length : Int) = r.wd
  it : ∀ z ∈ s.tail, z ∈ vals
theorem WR.prow {rows : List Rw} {vals : List Str} {s : List Str} (h : WR rows vals s) (nm : ∀ r ∈ rows, SOk r.nm) (vl : ∀ z ∈ vals, SOk z) : PRow rows s := by
  refine ⟨h.row, fun z hz => ?_⟩
  obtain ⟨r, hr, h1, _⟩ := h.row
  cases s with
  | nil => cases h1
  | cons a b =>
    obtain rfl := Option.some.inj h1
    rcases List.mem_cons.mp hz with rfl | hz
    · exact nm r hr
    · exact vl z (h.it z hz)
theorem RowsOk.fit {K : PySem.W.Frag} {H : Hp} {T : Addr} {tx : List V} {vals : List Str} {rows : List Rw} (o : RowsOk vals rows) (nd : (rows.map Rw.nm).Nodup) (t : RowsAt K H T tx rows) (vl : ∀ z ∈ vals, SOk z) : Fit rows := by
  have get : ∀ r ∈ rows, ∃ v, RwAt K H v r := fun r hr => by
    obtain ⟨i, hi⟩ := List.mem_iff_getElem?.mp hr
    have hx := List.getElem?_eq_getElem (show i < tx.length by rw [t.len]; exact (List.getElem?_eq_some_iff.mp hi).1)
    obtain ⟨r', h1, h2⟩ := t.all i _ hx
    rw [hi] at h1
    obtain rfl := Option.some.inj h1
    exact ⟨_, h2⟩
  refine ⟨nd, by have := o.n3; omega, fun r hr => (o.own r hr).wd, fun r hr => (o.own r hr).ks.2, fun r hr => (o.own r hr).ks.1, fun r hr e he => ((o.own r hr).es e he).1, fun r hr => ?_, fun r hr => ?_, fun r hr e he z hz => vl z (((o.own r hr).es e he).2.2.2.2 z hz), o.ls, o.ld⟩
  · obtain ⟨v, ⟨a, k, m, e, vs, _, _, _, h3, _⟩, _⟩ := get r hr
    exact h3.len
  · obtain ⟨v, ⟨a, k, m, e, vs, _, _, _, h3, _⟩, _⟩ := get r hr
    exact h3.nd
/-- lists of drawn values -/
def MenuL (K : PySem.W.Frag) (H : Hp) (vals : List Str) (xs : List V) : Prop := ∀ v ∈ xs, ∃ (m : Addr) (ws : List Str), v = .ref m ∧ SqL K H m (ws.map V.str) ∧ ws.length ≤ 5 ∧ ∀ z ∈ ws, z ∈ vals
theorem MenuL.same {K : PySem.W.Frag} {H H' : Hp} {vals : List Str} {xs : List V} (h : MenuL K H vals xs) (s : Same H H') : MenuL K H' vals xs := fun v hv => let ⟨m, ws, h1, h2, h3⟩ := h v hv; ⟨m, ws, h1, s.seq h2, h3⟩
theorem MenuL.app {K : PySem.W.Frag} {H : Hp} {vals : List Str} {xs ys : List V} (h : MenuL K H vals xs) (h2 : MenuL K H vals ys) : MenuL K H vals (xs ++ ys) := fun v hv => (List.mem_append.mp hv).elim (h v) (h2 v)
/-- _law_menus_of(item, tables, ask, shapes) -/
def spMenus (K : PySem.W.Frag) : Sp := fun vs H Q _ => ∃ (item : Str) (T a sh li t sh0 : Addr) (dup : Bool) (tx ys : List V) (rows : List Rw) (vals vars : List Str) (ss : List (List Str)) (es : List Ent), vs = [.str item, .ref T, .ref a, .ref sh] ∧ RowsAt K H T tx rows ∧ Fit rows ∧ (∀ r ∈ rows, RwOwn vals r) ∧ SqL K H a [.ref t, .ref sh0, .ref li, .bl dup] ∧ Lims K H li vals vars es ∧
  SqL K H sh ys ∧ PartsV K H ys ss ∧ ss.length ≤ 10 ∧ (∀ s ∈ ss, PRow rows s) ∧ ∀ (H' : Hp) (M : Addr) (xs : List V), Same H H' → H M = none → H' M = some (.lst xs) → xs.length ≤ 1 + ss.length * 100 → MenuL K H' vals xs → Q (.ref M) H'
/-- the values that a true row may have in a column -/
def menuOf (r : Rw) (vals : List Str) (c : Int) : List Str := match r.es.find? fun e => decide (e.1 = (Sum.inl c : Key)) with | some e => e.2.2 | none => vals
theorem valV_find {es : List Ent} {k : Key} : valV (es.map fun e => (e.1, V.ref e.2.1)) k = (es.find? fun e => decide (e.1 = k)).map fun e => V.ref e.2.1 := by
  unfold valV
  rw [List.find?_map, Option.map_map]
  rfl
theorem menu_sub {r : Rw} {vals : List Str} (o : RwOwn vals r) (c : Int) : ∀ z ∈ menuOf r vals c, z ∈ vals := fun z hz => by
  unfold menuOf at hz
  cases e : r.es.find? fun e => decide (e.1 = (Sum.inl c : Key)) with
  | none => rw [e] at hz; exact hz
  | some u =>
    rw [e] at hz
    exact (o.es u (List.mem_of_find?_eq_some e)).2.2.2.2 z hz
/-- _law_true_row(hand, table, values) -/
def spTrueRow (K : PySem.W.Frag) : Sp := fun vs H Q _ => ∃ (h Va : Addr) (v : V) (r : Rw) (vals : List Str), vs = [.ref h, v, .ref Va] ∧ HandAt H h ∧ RwAt K H v r ∧ RwOwn vals r ∧ r.ls.length ≤ 2 ∧ SqL K H Va (vals.map V.str) ∧ vals.length = 5 ∧
  ∀ (H' : Hp) (p : Addr) (its : List Str), HandAt H' h → SBut h H H' → H p = none → p ≠ h → H' p = some (.tup ((r.nm :: its).map V.str)) → (its.length : Int) = r.wd → (∀ (j : Nat) (z : Str), its[j]? = some z → z ∈ menuOf r vals (j : Int)) → Q (.ref p) H'
theorem RowsP.hand {K : PySem.W.Frag} {H H' : Hp} {h : Addr} {l : List PR} (q : RowsP K H l) (hh : HandAt H h) (e : SBut h H H') : RowsP K H' l := ⟨fun u hu => sqT_hand (q.at_ u hu) hh e, q.ok⟩
/-- a list of rows of a world -/
structure WorldAt (K : PySem.W.Frag) (H : Hp) (A : Addr) (rows : List Rw) (vals : List Str) (l : List PR) : Prop where
  at_ : SqL K H A (l.map rv)
  rp : RowsP K H l
  wr : ∀ u ∈ l, WR rows vals u.2
theorem WorldAt.same {K : PySem.W.Frag} {H H' : Hp} {A : Addr} {rows : List Rw} {vals : List Str} {l : List PR} (q : WorldAt K H A rows vals l) (s : Same H H') : WorldAt K H' A rows vals l := ⟨s.seq q.at_, q.rp.same s, q.wr⟩
theorem WorldAt.hand {K : PySem.W.Frag} {H H' : Hp} {h A : Addr} {rows : List Rw} {vals : List Str} {l : List PR} (q : WorldAt K H A rows vals l) (hl : l.length ≤ 60) (hh : HandAt H h) (e : SBut h H H') : WorldAt K H' A rows vals l := ⟨sqL_hand q.at_ hh e (by rw [List.length_map]; exact hl), q.rp.hand hh e, q.wr⟩
theorem WorldAt.lawIn {K : PySem.W.Frag} {H : Hp} {T A : Addr} {tx : List V} {rows : List Rw} {vals : List Str} {l : List PR} (q : WorldAt K H A rows vals l) (t : RowsAt K H T tx rows) (f : Fit rows) (nm : ∀ r ∈ rows, SOk r.nm) (vl : ∀ z ∈ vals, SOk z) (hl : l.length ≤ 30) : LawIn K H T A tx (l.map rv) rows (l.map (·.2)) :=
  ⟨t, q.at_, q.rp.pv, fun s hs => by obtain ⟨u, hu, rfl⟩ := List.mem_map.mp hs; exact (q.wr u hu).prow nm vl, f, by rw [List.length_map]; exact hl⟩
theorem item_mem {s : List Str} {c : Int} (h0 : 0 ≤ c) (h : c < (s.tail.length : Int)) : itemAt s c ∈ s.tail := by
  obtain ⟨n, rfl⟩ : ∃ n : Nat, c = (n : Int) := ⟨c.toNat, by omega⟩
  unfold itemAt
  rw [show ((n : Int) + 1).toNat = n + 1 by omega]
  cases s with
  | nil => rw [List.length_tail] at h; exact absurd h (by simp)
  | cons a b =>
    have hb : n < b.length := by
      have h' : (n : Int) < (b.length : Int) := h
      omega
    rw [List.getD_cons_succ, getD_of (List.getElem?_eq_getElem hb)]
    exact List.getElem_mem _
/-- _law_find(tables, name) -/
theorem find_call2 {K : PySem.W.Frag} {H : Hp} {T : Addr} {tx : List V} {rows : List Rw} {r : Rw} {z : Str} {Q : VK} {E : XK} (tab : RowsAt K H T tx rows) (f : Fit rows) (hr : r ∈ rows) (hz : r.nm = z) (q : ∀ (H' : Hp) (v : V), Same H H' → RwAt K H' v r → Q v H') : spFind K [.ref T, .str z] H Q E := by
  refine ⟨T, z, tx, rows, rfl, tab, f.len, List.mem_map.mpr ⟨r, hr, hz⟩, fun H' i v r2 sm hv hr2 hn => ?_⟩
  obtain ⟨r', e1, e2⟩ := (tab.same sm).all i v hv
  rw [hr2] at e1
  obtain rfl := Option.some.inj e1
  have h1 := find_row f.nd (List.mem_of_getElem? hr2)
  have h2 := find_row f.nd hr
  rw [hn, ← hz, h2] at h1
  obtain rfl := Option.some.inj h1
  exact q H' v sm e2
/-- what the growing of a world needs -/
structure GrowIn (K : PySem.W.Frag) (H : Hp) (h T Va : Addr) (tx : List V) (rows : List Rw) (vals : List Str) : Prop where
  hand : HandAt H h
  tab : RowsAt K H T tx rows
  ok : RowsOk vals rows
  nd : (rows.map Rw.nm).Nodup
  va : SqL K H Va (vals.map V.str)
  v5 : vals.length = 5
  nm : ∀ r ∈ rows, SOk r.nm
  vl : ∀ z ∈ vals, SOk z
theorem GrowIn.fit {K : PySem.W.Frag} {H : Hp} {h T Va : Addr} {tx : List V} {rows : List Rw} {vals : List Str} (g : GrowIn K H h T Va tx rows vals) : Fit rows := g.ok.fit g.nd g.tab g.vl
theorem GrowIn.same {K : PySem.W.Frag} {H H' : Hp} {h T Va : Addr} {tx : List V} {rows : List Rw} {vals : List Str} (g : GrowIn K H h T Va tx rows vals) (s : Same H H') : GrowIn K H' h T Va tx rows vals := { g with hand := g.hand.same s, tab := g.tab.same s, va := s.seq g.va }
theorem GrowIn.step {K : PySem.W.Frag} {H H' : Hp} {h T Va : Addr} {tx : List V} {rows : List Rw} {vals : List Str} (g : GrowIn K H h T Va tx rows vals) (hh : HandAt H' h) (e : SBut h H H') : GrowIn K H' h T Va tx rows vals := { g with hand := hh, tab := g.tab.hand g.hand e g.ok, va := sqL_hand g.va g.hand e (by rw [List.length_map, g.v5]; decide) }
theorem shapedListS {s : List Str} (h : ∀ z ∈ s, SOk z) : SeqAt.shaped (.list (s.map .str)) = true := by
  have h1 := (shapedStrs h).1
  unfold SeqAt.shaped at h1 ⊢
  exact h1
theorem eqvNilW (s : List Str) : PyData.eqv (.list (s.map .str)) (.list []) = s.isEmpty := by cases s <;> rfl
/-- what is bound to a term -/
def subB (kvs : List (Key × V)) (z : Str) : Str := match valV kvs (Sum.inr z : Key) with | some (.str y) => y | _ => z
structure BoundTo (vals : List Str) (kvs : List (Key × V)) : Prop where
  all : ∀ (k : Key) (v : V), valV kvs k = some v → ∃ z y : Str, k = Sum.inr z ∧ isV z = true ∧ v = .str y ∧ y ∈ vals
theorem BoundTo.get {vals : List Str} {kvs : List (Key × V)} (b : BoundTo vals kvs) (z : Str) : (valV kvs (Sum.inr z : Key)).getD (.str z) = .str (subB kvs z) := by
  unfold subB
  cases e : valV kvs (Sum.inr z : Key) with
  | none => rfl
  | some v =>
    obtain ⟨z', y, _, _, rfl, _⟩ := b.all _ v e
    rfl
theorem BoundTo.put {vals : List Str} {kvs : List (Key × V)} (b : BoundTo vals kvs) {z y : Str} (hz : isV z = true) (hy : y ∈ vals) : BoundTo vals (putK kvs (Sum.inr z) (.str y)) := ⟨fun k v e => by
  rw [valV_put] at e
  by_cases c : k = Sum.inr z
  · rw [if_pos c] at e
    exact ⟨z, y, c, hz, (Option.some.inj e).symm, hy⟩
  · rw [if_neg c] at e
    exact b.all k v e⟩
/-- a part with its variables replaced is a row -/
theorem sub_row {rows : List Rw} {vals tms : List Str} {kvs : List (Key × V)} {s : List Str} (own : ∀ r ∈ rows, RwOwn vals r) (b : BoundTo vals kvs) (p : PartOk rows (tms ++ vals.take 1) s) (tv : ∀ z ∈ tms, isV z = true) (nv : ∀ r ∈ rows, isV r.nm = false) (hb : ∀ z ∈ s.tail, isV z = true → ∃ y, valV kvs (Sum.inr z : Key) = some (.str y) ∧ y ∈ vals) : WR rows vals (s.map (subB kvs)) := by
  obtain ⟨r, hr, h1, h2, h3⟩ := p
  cases s with
  | nil => cases h1
  | cons a t =>
    obtain rfl := Option.some.inj h1
    have ea : subB kvs r.nm = r.nm := by
      unfold subB
      cases e : valV kvs (Sum.inr r.nm : Key) with
      | none => rfl
      | some v =>
        obtain ⟨z', y, e1, e2, _, _⟩ := b.all _ v e
        obtain rfl := Sum.inr.inj e1
        rw [nv r hr] at e2
        cases e2
    refine ⟨⟨r, hr, ?_, ?_⟩, fun z hz => ?_⟩
    · show some (subB kvs r.nm) = _
      rw [ea]
    · show ((t.map (subB kvs)).length : Int) = _
      rw [List.length_map]
      exact h2
    · obtain ⟨u, hu, rfl⟩ := List.mem_map.mp hz
      cases c : isV u with
      | true =>
        obtain ⟨y, e1, e2⟩ := hb u hu c
        unfold subB
        rw [e1]
        exact e2
      | false =>
        have e0 : subB kvs u = u := by
          unfold subB
          cases e : valV kvs (Sum.inr u : Key) with
          | none => rfl
          | some v =>
            obtain ⟨z', y, e1, e2, _, _⟩ := b.all _ v e
            obtain rfl := Sum.inr.inj e1
            rw [c] at e2
            cases e2
        rw [e0]
        rcases h3 u hu with h | ⟨e, he, h⟩
        · rcases List.mem_append.mp h with h | h
          · rw [tv u h] at c
            cases c
          · exact List.mem_of_mem_take h
        · exact ((own r hr).es e he).2.2.2.2 u h
theorem TupsV.parts {K : PySem.W.Frag} {H : Hp} {xs : List V} {ss : List (List Str)} (h : TupsV K H xs (ss.map fun s => s.map V.str)) : PartsV K H xs ss := by
  refine ⟨by rw [h.len, List.length_map], fun i v e => ?_⟩
  obtain ⟨u, h1, q, h2, h3⟩ := h.all i v e
  rw [List.getElem?_map] at h1
  cases hs : ss[i]? with
  | none => rw [hs] at h1; cases h1
  | some s =>
    rw [hs] at h1
    obtain rfl := Option.some.inj h1
    exact ⟨s, rfl, q, h2, h3⟩
/-- _law_grown(hand, tables, rows, more, values) -/
def spGrown (K : PySem.W.Frag) : Sp := fun vs H Q _ => ∃ (h T R M Va : Addr) (tx : List V) (rows : List Rw) (vals : List Str) (l m : List PR), vs = [.ref h, .ref T, .ref R, .ref M, .ref Va] ∧ GrowIn K H h T Va tx rows vals ∧ WorldAt K H R rows vals l ∧ l.length ≤ 12 ∧ (l.map (·.2)).Pairwise RLt ∧ WorldAt K H M rows vals m ∧ m.length ≤ 3 ∧
  ∀ (H' : Hp) (p : Addr) (l' : List PR), HandAt H' h → SBut h H H' → WorldAt K H' p rows vals l' → l'.length ≤ 12 → (l'.map (·.2)).Pairwise RLt → Q (.ref p) H'
/-- _law_deal_world(hand, tables, values, ask) -/
def spWorld (K : PySem.W.Frag) : Sp := fun vs H Q _ => ∃ (h T Va a t sh li : Addr) (dup : Bool) (tx ys : List V) (rows : List Rw) (vals tms vars : List Str) (ss : List (List Str)) (es : List Ent), vs = [.ref h, .ref T, .ref Va, .ref a] ∧ GrowIn K H h T Va tx rows vals ∧ SqL K H a [.ref t, .ref sh, .ref li, .bl dup] ∧ ShapesAt K H sh ys ss ∧ ss.length ≤ 3 ∧ Lims K H li vals vars es ∧
  (∀ s ∈ ss, PartOk rows (tms ++ vals.take 1) s) ∧ (∀ z ∈ tms, isV z = true) ∧ (∀ r ∈ rows, isV r.nm = false) ∧ (∀ z ∈ vals, isV z = false) ∧
  ∀ (H' : Hp) (p : Addr) (l : List PR), HandAt H' h → SBut h H H' → WorldAt K H' p rows vals l → l.length ≤ 12 → (l.map (·.2)).Pairwise RLt → Q (.ref p) H'
end Sw
namespace Sw
open PySem PySem.Spec PyProof.Rows L2
theorem hand_ne {H : Hp} {h b : Addr} {o : HO} (hh : HandAt H h) (hb : H b = some o) (n : ∀ xs, o ≠ .lst xs) : b ≠ h := by
  rintro rfl
  obtain ⟨ns, e1, l1⟩ := hh
  rw [e1] at hb
  exact n _ (Option.some.inj hb).symm
theorem Lead.hand {K : PySem.W.Frag} {H H' : Hp} {h a : Addr} {rs : List V} {zs : List Str} (q : Lead K H a rs zs) (hh : HandAt H h) (e : SBut h H H') : Lead K H' a rs zs :=
  ⟨sqT_hand q.at_ hh e, q.len, q.sml, fun i v w => let ⟨z, e1, b, xs, e2, e3, e4⟩ := q.all i v w; ⟨z, e1, b, xs, e2, sqT_hand e3 hh e, e4⟩⟩
theorem SchOf.hand {K : PySem.W.Frag} {CT CS S h : Addr} {H H' : Hp} {rows : List Rw} {l : List Tb} (q : SchOf K CT CS H S rows l) (hh : HandAt H h) (e : SBut h H H') : SchOf K CT CS H' S rows l := by
  have up : ∀ {b : Addr} {o : HO}, H b = some o → (∀ xs, o ≠ .lst xs) → H' b = some o := fun hb n => e _ _ (hand_ne hh hb n) hb
  refine ⟨⟨?_, fun t ht => ?_, q.sch.nd, q.sch.len⟩, q.len, fun i t ht => ?_⟩
  · obtain ⟨dx, d, g1, g2⟩ := q.sch.ex
    exact ⟨dx, d, up g1 fun xs z => (nomatch z), up g2 fun xs z => (nomatch z)⟩
  · obtain ⟨dx, wd, kA, lA, rA, rs, g1, g2⟩ := (q.sch.tbs t ht).ex
    exact ⟨dx, wd, kA, lA, rA, rs, up g1 fun xs z => (nomatch z), g2.hand hh e⟩
  · obtain ⟨r, g1, g2, g3, ks, ts, vs, ⟨⟨dx, kA, lA, rA, t1, t2, t3, t4⟩, t5⟩, g5, g6, g7⟩ := q.all i t ht
    refine ⟨r, g1, g2, g3, ks, ts, vs, ⟨⟨dx, kA, lA, rA, up t1 fun xs z => (nomatch z), up t2 fun xs z => (nomatch z), ⟨up t3.at_ fun xs z => (nomatch z), fun r hr => ⟨up (t3.all r hr).1 fun xs z => (nomatch z), (t3.all r hr).2⟩⟩, sqT_hand t4 hh e⟩, t5⟩, g5, g6, g7.hand hh e⟩
end Sw
/-! ## pledges -/
namespace Sw
open PySem PySem.Spec PyProof.Rows L2
def swapT (item term z : Str) : Str := if z = item then term else z
abbrev rInt1 : List V → Hp → VK → Prop := fun xs H Q => (∃ i, xs = [.int i] ∧ Q (.int i) H) ∨ ∃ k, xs = [.bl k] ∧ Q (.int (if k then 1 else 0)) H
abbrev rTupOf (K : PySem.W.Frag) : List V → Hp → VK → Prop := fun xs H Q => ∃ p ys, xs = [.ref p] ∧ ((SqL K H p ys ∧ ∀ l, H l = none → Q (.ref l) (upd H l (.tup ys))) ∨ (SqT K H p ys ∧ Q (.ref p) H))
/-- _law_swap(shapes, item, term) -/
def spSwap (K : PySem.W.Frag) : Sp := fun vs H Q _ => ∃ (A : Addr) (item term : Str) (xs : List V) (ss : List (List Str)), vs = [.ref A, .str item, .str term] ∧ SqL K H A xs ∧ PartsV K H xs ss ∧ ss.length ≤ 100 ∧ (∀ s ∈ ss, s.length ≤ 100) ∧
  ∀ (H' : Hp) (D : Addr) (us : List V), Same H H' → H D = none → H' D = some (.lst us) → PartsV K H' us (ss.map fun s => s.map (swapT item term)) → Q (.ref D) H'
/-- a dealt promise: its part, its partners, its conditions -/
structure Pledge where
  a : Addr
  sh : Addr
  s : List Str
  ss : List (List Str)
  es : List Ent
structure PledgeAt (K : PySem.W.Frag) (H : Hp) (v : V) (k : Pledge) : Prop where
  ref : v = .ref k.a
  ex : ∃ (p li : Addr) (xs : List V), H k.a = some (.lst [.ref p, .ref k.sh, .ref li]) ∧ SqT K H p (k.s.map V.str) ∧ H k.sh = some (.lst xs) ∧ PartsV K H xs k.ss ∧ H li = some (.dK (k.es.map fun e => (e.1, V.ref e.2.1)))
  nd : (k.es.map (·.1)).Nodup
  all : ∀ e ∈ k.es, H e.2.1 = some (.lst (e.2.2.map V.str))
/-- it does not hold this list -/
def Pledge.Far (k : Pledge) (M : Addr) : Prop := k.a ≠ M ∧ k.sh ≠ M ∧ ∀ e ∈ k.es, e.2.1 ≠ M
structure PledgeOk (rows : List Rw) (vals : List Str) (k : Pledge) : Prop where
  good : AskGood rows [] (k.s :: k.ss) (keysOf k.es)
  keys : k.es.map (·.1) = (keysOf k.es).map Sum.inr
  two : k.ss.length ≤ 2
  kl : k.es.length ≤ 12
  ev : ∀ e ∈ k.es, e.2.2.length ≤ 3 ∧ ∀ z ∈ e.2.2, z ∈ vals
  sok : ∀ s ∈ k.s :: k.ss, ∀ z ∈ s, SOk z
  kv : ∀ e ∈ k.es, ∃ v, e.1 = (Sum.inr v : Key) ∧ isV v = true ∧ SOk v
  asc : ∀ e ∈ k.es, AscS e.2.2
theorem PledgeAt.same {K : PySem.W.Frag} {H H' : Hp} {v : V} {k : Pledge} (q : PledgeAt K H v k) (s : Same H H') : PledgeAt K H' v k :=
  ⟨q.ref, let ⟨p, li, xs, h1, h2, h3, h4, h5⟩ := q.ex; ⟨p, li, xs, s _ _ h1, same_seqT s h2, s _ _ h3, h4.same s, s _ _ h5⟩, q.nd, fun e he => s _ _ (q.all e he)⟩
theorem PledgeAt.far {K : PySem.W.Frag} {H : Hp} {v : V} {k : Pledge} {M : Addr} (q : PledgeAt K H v k) (n : H M = none) : k.Far M :=
  ⟨let ⟨_, _, _, h1, _⟩ := q.ex; ne_of_none h1 n, let ⟨_, _, _, _, _, h3, _⟩ := q.ex; ne_of_none h3 n, fun e he => ne_of_none (q.all e he) n⟩
theorem PledgeAt.ldict {K : PySem.W.Frag} {H : Hp} {v : V} {k : Pledge} (q : PledgeAt K H v k) (kl : k.es.length ≤ 100) (ev : ∀ e ∈ k.es, e.2.2.length ≤ 3) : ∃ (p li : Addr) (xs : List V), H k.a = some (.lst [.ref p, .ref k.sh, .ref li]) ∧ SqT K H p (k.s.map V.str) ∧ H k.sh = some (.lst xs) ∧ PartsV K H xs k.ss ∧ LDict K H li k.es :=
  let ⟨p, li, xs, h1, h2, h3, h4, h5⟩ := q.ex; ⟨p, li, xs, h1, h2, h3, h4, ⟨h5, q.nd, kl, fun e he => ⟨.inl (SqL.of (q.all e he)), by have := ev e he; omega⟩⟩⟩
theorem LDict.handW {K : PySem.W.Frag} {H H' : Hp} {h a : Addr} {es : List Ent} (q : LDict K H a es) (hh : HandAt H h) (e : SBut h H H') (l : ∀ u ∈ es, u.2.2.length ≤ 60) : LDict K H' a es :=
  ⟨e _ _ (hand_short hh (.inr ⟨_, q.at_⟩)) q.at_, q.nd, q.len, fun u hu => ⟨(q.all u hu).1.imp (fun y => sqL_hand y hh e (by rw [List.length_map]; exact l u hu)) (fun y => sqT_hand y hh e), (q.all u hu).2⟩⟩
theorem PartsV.handW {K : PySem.W.Frag} {H H' : Hp} {h : Addr} {xs : List V} {ss : List (List Str)} (q : PartsV K H xs ss) (hh : HandAt H h) (e : SBut h H H') : PartsV K H' xs ss :=
  ⟨q.len, fun i v w => let ⟨s, h1, b, h2, h3⟩ := q.all i v w; ⟨s, h1, b, h2, sqT_hand h3 hh e⟩⟩
theorem PledgeAt.hand {K : PySem.W.Frag} {H H' : Hp} {h : Addr} {rows : List Rw} {vals : List Str} {v : V} {k : Pledge} (q : PledgeAt K H v k) (ok : PledgeOk rows vals k) (hh : HandAt H h) (e : SBut h H H') : PledgeAt K H' v k := by
  obtain ⟨p, li, xs, h1, h2, h3, h4, h5⟩ := q.ex
  exact ⟨q.ref, ⟨p, li, xs, e _ _ (hand_short hh (.inl ⟨_, h1, by show 3 ≤ 5; decide⟩)) h1, sqT_hand h2 hh e, e _ _ (hand_short hh (.inl ⟨_, h3, by rw [h4.len]; have := ok.two; omega⟩)) h3, h4.handW hh e, e _ _ (hand_short hh (.inr ⟨_, h5⟩)) h5⟩, q.nd, fun u hu => e _ _ (hand_short hh (.inl ⟨_, q.all u hu, by rw [List.length_map]; have := (ok.ev u hu).1; omega⟩)) (q.all u hu)⟩
theorem PledgeAt.upd {K : PySem.W.Frag} {H : Hp} {M : Addr} {v : V} {k : Pledge} {vs ws : List V} (q : PledgeAt K H v k) (f : k.Far M) (hM : H M = some (.lst vs)) : PledgeAt K (upd H M (.lst ws)) v k := by
  obtain ⟨p, li, xs, h1, h2, h3, h4, h5⟩ := q.ex
  have nt : ∀ ys, HO.lst vs ≠ .tup ys ∧ ∀ u, HO.lst vs ≠ .frz u (.tup ys) := fun ys => ⟨fun z => (nomatch z), fun u z => (nomatch z)⟩
  exact ⟨q.ref, ⟨p, li, xs, by rw [upd_ne f.1]; exact h1, sqT_upd h2 hM nt, by rw [upd_ne f.2.1]; exact h3, ⟨h4.len, fun i w e => let ⟨s1, g1, b, g2, g3⟩ := h4.all i w e; ⟨s1, g1, b, g2, sqT_upd g3 hM nt⟩⟩, by rw [upd_ne (ne_of h5 hM fun z => nomatch z)]; exact h5⟩, q.nd, fun e he => by rw [upd_ne (f.2.2 e he)]; exact q.all e he⟩
/-- the k-th new name of a variable -/
def numb (k : Nat) : Str := ("?n" : Str) ++ (toString (0 + (k : Int)) : Str)
theorem numb_ok : ∀ k : Nat, k < 10 → isTermS (numb k) = true ∧ isV (numb k) = true ∧ (numb k).length ≤ 9 ∧ PySem.PyData.strOk (numb k) = true ∧ decide (V.str (cutS (numb k) none (some 2)) = V.str "?n") = true := by decide +kernel
theorem numb_inj : ∀ i : Nat, i < 10 → ∀ j : Nat, j < 10 → numb i = numb j → i = j := by decide +kernel
theorem part_swap {rows : List Rw} {s : List Str} {item term : Str} (p : PartGood rows s) (nv : ∀ r ∈ rows, isV r.nm = false) (hi : isV item = true ∨ term = item) (ht : isTermS term = true) (hl : term.length ≤ 1000) : PartGood rows (s.map (swapT item term)) := by
  rcases hi with hi | rfl
  · obtain ⟨r, hr, h1, h2⟩ := p.row
    cases s with
    | nil => cases h1
    | cons a t =>
      obtain rfl := Option.some.inj h1
      have ea : swapT item term r.nm = r.nm := by
        unfold swapT
        rw [if_neg fun e => ?_]
        rw [← e, nv r hr] at hi
        cases hi
      have each : ∀ z : Str, (isTermS z = true → isTermS (swapT item term z) = true) ∧ (z.length ≤ 1000 → (swapT item term z).length ≤ 1000) := fun z => by
        unfold swapT
        by_cases c : z = item
        · rw [if_pos c]
          exact ⟨fun _ => ht, fun _ => hl⟩
        · rw [if_neg c]
          exact ⟨id, id⟩
      refine ⟨⟨r, hr, ?_, ?_⟩, fun z hz => ?_, fun z hz => ?_, ?_, ?_⟩
      · show some (swapT item term r.nm) = _
        rw [ea]
      · show ((t.map _).length : Int) = _
        rw [List.length_map]
        exact h2
      · obtain ⟨y, hy, rfl⟩ := List.mem_map.mp hz
        exact (each y).2 (p.short y hy)
      · obtain ⟨y, hy, rfl⟩ := List.mem_map.mp (show z ∈ t.map (swapT item term) from hz)
        exact (each y).1 (p.terms y hy)
      · rw [List.length_map]
        exact p.two
      · rw [List.length_map]
        exact p.len
  · have e : s.map (swapT term term) = s := by
      refine (List.map_congr_left fun z _ => ?_).trans (List.map_id s)
      unfold swapT
      by_cases c : z = term
      · rw [if_pos c, c]
        rfl
      · rw [if_neg c]
        rfl
    rw [e]
    exact p
theorem swap_sok {s : List Str} {item term : Str} (h : ∀ z ∈ s, SOk z) (ht : SOk term) : ∀ z ∈ s.map (swapT item term), SOk z := fun z hz => by
  obtain ⟨y, hy, rfl⟩ := List.mem_map.mp hz
  unfold swapT
  by_cases c : y = item
  · rw [if_pos c]
    exact ht
  · rw [if_neg c]
    exact h y hy
theorem swap_terms {ss : List (List Str)} {item term : Str} : termsOf (ss.map fun s => s.map (swapT item term)) = (termsOf ss).map (swapT item term) := by
  unfold termsOf
  rw [List.flatMap_map, List.map_flatMap]
  refine congrArg (fun F => List.flatMap F ss) (funext fun s => ?_)
  cases s <;> rfl
/-- _law_near(hand, ask, n, item, term, full) -/
def spNear (K : PySem.W.Frag) : Sp := fun vs H Q _ => ∃ (h a t sh li : Addr) (dup full : Bool) (n : Nat) (item term : Str) (ys : List V) (rows : List Rw) (vals vars : List Str) (ss : List (List Str)) (es : List Ent), vs = [.ref h, .ref a, .int (n : Int), .str item, .str term, .bl full] ∧ HandAt H h ∧ SqL K H a [.ref t, .ref sh, .ref li, .bl dup] ∧ ShapesAt K H sh ys ss ∧ Lims K H li vals vars es ∧ n < ss.length ∧ ss.length ≤ 3 ∧
  (∀ s ∈ ss, PartGood rows s) ∧ (∀ r ∈ rows, isV r.nm = false ∧ r.wd ≤ 3) ∧ (isV item = true ∨ term = item) ∧ isTermS term = true ∧ SOk term ∧
  ∀ (H' : Hp) (v : V) (k : Pledge), HandAt H' h → SBut h H H' → PledgeAt K H' v k → PledgeOk rows vals k → H k.a = none → H k.sh = none → (∀ e ∈ k.es, ∃ e' ∈ es, e.2.1 = e'.2.1) → Q v H'
end Sw
/-! ## == of conditions and of pledges -/
namespace Sw
open PySem PySem.Spec PyProof.Rows L2
def entOf (ts : List Ent) (k : Key) : Option Ent := ts.find? fun e => decide (e.1 = k)
def wordsAt (ts : List Ent) (k : Key) : List Str := ((entOf ts k).map fun e => e.2.2).getD []
/-- == of the two dicts of conditions -/
def dEqB (ts us : List Ent) : Bool := ts.length == us.length && ts.all fun e => (entOf us e.1).isSome && decide (wordsAt ts e.1 = wordsAt us e.1)
theorem entOf_mem {ts : List Ent} (nd : (ts.map (·.1)).Nodup) {e : Ent} (h : e ∈ ts) : entOf ts e.1 = some e := by
  unfold entOf
  induction ts with
  | nil => cases h
  | cons a r ih =>
    obtain ⟨n1, n2⟩ := List.nodup_cons.mp (show (a.1 :: r.map (·.1)).Nodup from nd)
    rcases List.mem_cons.mp h with rfl | h
    · rw [List.find?_cons_of_pos (by exact decide_eq_true rfl)]
    · rw [List.find?_cons_of_neg (by
        rw [decide_eq_true_eq]
        intro z
        exact n1 (by rw [z]; exact List.mem_map.mpr ⟨e, h, rfl⟩))]
      exact ih n2 h
theorem entOf_some {ts : List Ent} {k : Key} {e : Ent} (h : entOf ts k = some e) : e ∈ ts ∧ e.1 = k := by
  unfold entOf at h
  have := List.find?_some h
  exact ⟨List.mem_of_find?_eq_some h, of_decide_eq_true this⟩
theorem dEqB_refl (ts : List Ent) (nd : (ts.map (·.1)).Nodup) : dEqB ts ts = true := by
  unfold dEqB
  rw [Bool.and_eq_true, beq_iff_eq, List.all_eq_true]
  refine ⟨rfl, fun e he => ?_⟩
  rw [entOf_mem nd he, decide_eq_true rfl]
  rfl
theorem dEqB_words {ts us : List Ent} (n1 : (ts.map (·.1)).Nodup) (n2 : (us.map (·.1)).Nodup) (h : dEqB ts us = true) (k : Key) : ((entOf ts k).isSome = (entOf us k).isSome) ∧ wordsAt ts k = wordsAt us k := by
  unfold dEqB at h
  rw [Bool.and_eq_true, beq_iff_eq, List.all_eq_true] at h
  obtain ⟨hl, ha⟩ := h
  have sub : ∀ x ∈ ts.map (·.1), x ∈ us.map (·.1) := fun x hx => by
    obtain ⟨e, he, rfl⟩ := List.mem_map.mp hx
    have := ha e he
    rw [Bool.and_eq_true] at this
    obtain ⟨u, hu⟩ := Option.isSome_iff_exists.mp this.1
    obtain ⟨q1, q2⟩ := entOf_some hu
    exact List.mem_map.mpr ⟨u, q1, q2⟩
  cases e1 : entOf ts k with
  | some e =>
    obtain ⟨q1, q2⟩ := entOf_some e1
    have := ha e q1
    rw [Bool.and_eq_true, q2] at this
    exact ⟨this.1.symm, of_decide_eq_true this.2⟩
  | none =>
    cases e2 : entOf us k with
    | none =>
      unfold wordsAt
      rw [e1, e2]
      exact ⟨rfl, rfl⟩
    | some u =>
      exfalso
      obtain ⟨q1, q2⟩ := entOf_some e2
      have hk : k ∉ ts.map (·.1) := fun z => by
        obtain ⟨e, he, h2⟩ := List.mem_map.mp z
        have := entOf_mem n1 he
        rw [h2, e1] at this
        cases this
      have l1 := nodup_leA (fs := k :: ts.map (·.1)) (ns := us.map (·.1)) (List.nodup_cons.mpr ⟨hk, n1⟩) fun x hx => by
        rcases List.mem_cons.mp hx with rfl | hx
        · exact List.mem_map.mpr ⟨u, q1, q2⟩
        · exact sub x hx
      rw [List.length_cons, List.length_map, List.length_map] at l1
      omega
/-- == of two pledges -/
def eqPl (k k' : Pledge) : Bool := decide (k.s = k'.s) && (decide (k.ss = k'.ss) && dEqB k.es k'.es)
theorem eqPl_refl {k : Pledge} (nd : (k.es.map (·.1)).Nodup) : eqPl k k = true := by
  unfold eqPl
  rw [decide_eq_true rfl, decide_eq_true rfl, dEqB_refl _ nd]
  rfl
theorem dEqB_symm {ts us : List Ent} (n1 : (ts.map (·.1)).Nodup) (n2 : (us.map (·.1)).Nodup) (h : dEqB ts us = true) : dEqB us ts = true := by
  have hl : ts.length = us.length := by
    have q := h
    unfold dEqB at q
    rw [Bool.and_eq_true, beq_iff_eq] at q
    exact q.1
  unfold dEqB
  rw [Bool.and_eq_true, beq_iff_eq, List.all_eq_true]
  refine ⟨hl.symm, fun e he => ?_⟩
  obtain ⟨q1, q2⟩ := dEqB_words n1 n2 h e.1
  rw [q1, q2, entOf_mem n2 he, decide_eq_true rfl]
  rfl
theorem eqPl_symm {k k' : Pledge} (n1 : (k.es.map (·.1)).Nodup) (n2 : (k'.es.map (·.1)).Nodup) (h : eqPl k k' = true) : eqPl k' k = true := by
  unfold eqPl at h ⊢
  rw [Bool.and_eq_true, Bool.and_eq_true] at h ⊢
  exact ⟨decide_eq_true (of_decide_eq_true h.1).symm, decide_eq_true (of_decide_eq_true h.2.1).symm, dEqB_symm n1 n2 h.2.2⟩
/-- pledges by where they stand -/
def PlAt (K : PySem.W.Frag) (H : Hp) (rows : List Rw) (vals : List Str) (kf : V → Pledge) (vs : List V) : Prop := ∀ v ∈ vs, PledgeAt K H v (kf v) ∧ PledgeOk rows vals (kf v)
theorem PlAt.same {K : PySem.W.Frag} {H H' : Hp} {rows : List Rw} {vals : List Str} {kf : V → Pledge} {vs : List V} (h : PlAt K H rows vals kf vs) (s : Same H H') : PlAt K H' rows vals kf vs := fun v hv => ⟨(h v hv).1.same s, (h v hv).2⟩
/-- no two of them are equal -/
def PlDiff (kf : V → Pledge) (vs : List V) : Prop := ∀ (i j : Nat) (v u : V), i ≠ j → vs[i]? = some v → vs[j]? = some u → eqPl (kf v) (kf u) = false
theorem PlDiff.snoc {kf : V → Pledge} {vs : List V} {x : V} (h : PlDiff kf vs) (nd : ∀ v, v ∈ vs ∨ v = x → ((kf v).es.map (·.1)).Nodup) (g : ∀ v ∈ vs, eqPl (kf v) (kf x) = false) : PlDiff kf (vs ++ [x]) := by
  have one : ∀ (j : Nat) (u : V), (vs ++ [x])[j]? = some u → (j < vs.length ∧ vs[j]? = some u) ∨ (j = vs.length ∧ u = x) := fun j u e => by
    by_cases c : j < vs.length
    · rw [List.getElem?_append_left c] at e
      exact .inl ⟨c, e⟩
    · rw [List.getElem?_append_right (Nat.le_of_not_lt c)] at e
      have hz : j - vs.length = 0 := by
        have := (List.getElem?_eq_some_iff.mp e).1
        rw [List.length_singleton] at this
        omega
      rw [hz] at e
      exact .inr ⟨by omega, (Option.some.inj e).symm⟩
  intro i j v u hij hi hj
  rcases one i v hi with ⟨c1, e1⟩ | ⟨c1, rfl⟩
  · rcases one j u hj with ⟨c2, e2⟩ | ⟨c2, rfl⟩
    · exact h i j v u hij e1 e2
    · exact g v (List.mem_of_getElem? e1)
  · rcases one j u hj with ⟨c2, e2⟩ | ⟨c2, rfl⟩
    · rw [Bool.eq_false_iff]
      intro z
      have hu := List.mem_of_getElem? e2
      have := eqPl_symm (nd v (.inr rfl)) (nd u (.inl hu)) z
      rw [g u hu] at this
      cases this
    · omega
theorem PlDiff.take {kf : V → Pledge} {vs : List V} (h : PlDiff kf vs) (n : Nat) : PlDiff kf (vs.take n) := fun i j v u hij hi hj => by
  rw [List.getElem?_take] at hi hj
  by_cases c1 : i < n
  · rw [if_pos c1] at hi
    by_cases c2 : j < n
    · rw [if_pos c2] at hj
      exact h i j v u hij hi hj
    · rw [if_neg c2] at hj
      cases hj
  · rw [if_neg c1] at hi
    cases hi
theorem Alike.trans {es rs ts : List Ent} (h : Alike es rs) (g : Alike rs ts) : Alike es ts := by
  unfold Alike at h g ⊢
  induction h generalizing ts with
  | nil => cases g; exact .nil
  | cons a _ ih =>
    cases g with
    | cons b q => exact .cons ⟨b.1.trans a.1, fun x => (b.2 x).trans (a.2 x)⟩ (ih q)
theorem Alike.refl : ∀ es : List Ent, Alike es es
  | [] => Paired.nil
  | e :: r => Paired.cons ⟨rfl, fun _ => Iff.rfl⟩ (Alike.refl r)
end Sw
/-! ## comparing what holds lists and dicts: some answer -/
namespace Sw
open PySem PySem.Spec PyProof.Rows L2
/-- == of the two ends with some answer, nesting at most n -/
inductive CmpV (K : PySem.W.Frag) (H : Hp) : Nat → V → V → Prop
  | data {n : Nat} {x y : V} {d e : PyData} : Dp K H x d → Dp K H y e → d.canLay0 = true → e.canLay0 = true → min d.depth e.depth ≤ n → CmpV K H n x y
  | lists {n : Nat} {a b : Addr} {xs ys : List V} : SqL K H a xs → SqL K H b ys → (∀ (i : Nat) (u v : V), xs[i]? = some u → ys[i]? = some v → CmpV K H n u v) → CmpV K H (n + 1) (.ref a) (.ref b)
  | dicts {n : Nat} {a b : Addr} {ks ls : List (Key × V)} : H a = some (.dK ks) → H b = some (.dK ls) → (∀ p ∈ ks, ∀ u, valV ls p.1 = some u → CmpV K H n p.2 u) → CmpV K H (n + 1) (.ref a) (.ref b)
open Classical in
/-- an answer that is there, picked -/
noncomputable def pickB (F : Bool → Prop) : Bool := if F true then true else false
theorem pickB_ok {F : Bool → Prop} (h : ∃ b, F b) : F (pickB F) := by
  unfold pickB
  obtain ⟨b, hb⟩ := h
  by_cases q : F true
  · rw [if_pos q]
    exact q
  · rw [if_neg q]
    cases b with
    | true => exact absurd hb q
    | false => exact hb
section
variable {X : Cx} {pins : List (Addr × Obj)} {σ : L2.St} {H : Hp} {s : Shared}
theorem vals_at : ∀ {xs : List V} {us : List Value} {i : Nat} {u : Value}, Vals xs us → us[i]? = some u → ∃ x, xs[i]? = some x ∧ RelV x u
  | _, _, 0, _, .cons a _, h => ⟨_, rfl, by obtain rfl := Option.some.inj h; exact a⟩
  | _, _, i + 1, _, .cons _ b, h => vals_at (i := i) b h
theorem nd_pair {κ β : Type} : ∀ {l : List (κ × β)} {k : κ} {v v' : β}, (l.map (·.1)).Nodup → (k, v) ∈ l → (k, v') ∈ l → v = v'
  | p :: r, k, v, v', nd, h1, h2 => by
    obtain ⟨n1, n2⟩ := List.nodup_cons.mp (show (p.1 :: r.map (·.1)).Nodup from nd)
    rcases List.mem_cons.mp h1 with e1 | e1
    · rcases List.mem_cons.mp h2 with e2 | e2
      · rw [← e1] at e2
        exact (Prod.mk.inj e2).2.symm
      · exact absurd (List.mem_map.mpr ⟨_, e2, rfl⟩) (by rw [← e1] at n1; exact n1)
    · rcases List.mem_cons.mp h2 with e2 | e2
      · exact absurd (List.mem_map.mpr ⟨_, e1, rfl⟩) (by rw [← e2] at n1; exact n1)
      · exact nd_pair n2 e1 e2
theorem kv_at {kvs : List (Key × V)} {vb : List (Key × Value)} (r : KV kvs vb) {k : Key} {v : Value} (h : (k, v) ∈ vb) : ∃ p ∈ kvs, p.1 = k ∧ RelV p.2 v := by
  unfold KV at r
  induction r with
  | nil => cases h
  | @cons p q ps qs hh _ ih =>
    rcases List.mem_cons.mp h with e | h
    · subst e
      exact ⟨p, List.mem_cons_self, hh.1, hh.2⟩
    · obtain ⟨p', h1, h2⟩ := ih h
      exact ⟨p', List.mem_cons_of_mem _ h1, h2⟩
theorem cmp_tree (I : Inv X pins σ H s) {n : Nat} {x y : V} (h : CmpV X.K H n x y) : ∀ {v u : Value}, RelV x v → RelV y u → ∃ b, PySem.W.EqTree X.prog X.w s n v u b := by
  induction h with
  | @data n x y d e hd he ld le hn =>
    intro v u rx ry
    obtain ⟨as, r1⟩ := Dp.reads I d x v hd rx
    obtain ⟨bs, r2⟩ := Dp.reads I e y u he ry
    exact ⟨_, .leaf fun A hA => SeqAt.eqAt_reads d e A s v u as bs r1 r2 ld le (by omega)⟩
  | @lists n a b xs ys ha hb _ ih =>
    intro v u rx ry
    cases (show v = Value.ref a from rx)
    cases (show u = Value.ref b from ry)
    by_cases e : a = b
    · subst e
      exact ⟨true, .same⟩
    obtain ⟨us, r1, p1, _⟩ := I.list ha
    obtain ⟨ws, r2, p2, _⟩ := I.list hb
    by_cases hsz : us.toArray.size = ws.toArray.size
    · refine ⟨_, .lists e p1.isList p2.isList hsz (e := fun j => pickB fun b => ∀ (h1 : j < us.toArray.size) (h2 : j < ws.toArray.size), PySem.W.EqTree X.prog X.w s n us.toArray[j] ws.toArray[j] b) fun j h1 h2 => ?_⟩
      refine pickB_ok (F := fun b => ∀ (h1 : j < us.toArray.size) (h2 : j < ws.toArray.size), PySem.W.EqTree X.prog X.w s n us.toArray[j] ws.toArray[j] b) ?_ h1 h2
      have g1 : us[j]? = some us.toArray[j] := by simpa using h1
      have g2 : ws[j]? = some ws.toArray[j] := by simpa using h2
      obtain ⟨x, hx, rx'⟩ := vals_at r1 g1
      obtain ⟨y, hy, ry'⟩ := vals_at r2 g2
      obtain ⟨b', hb'⟩ := ih j x y hx hy rx' ry'
      exact ⟨b', fun _ _ => hb'⟩
    · exact ⟨false, .listsLen e p1.isList p2.isList (by simpa using hsz)⟩
  | @dicts n a b ks ls ha hb _ ih =>
    intro v u rx ry
    cases (show v = Value.ref a from rx)
    cases (show u = Value.ref b from ry)
    by_cases e : a = b
    · subst e
      exact ⟨true, .same⟩
    obtain ⟨_, ya, va, ra, da⟩ := (show ObjOk X.prog X.w H s.heap a (.dK ks) from I.hok a _ ha)
    obtain ⟨_, yb, vb, rb, db⟩ := (show ObjOk X.prog X.w H s.heap b (.dK ls) from I.hok b _ hb)
    refine ⟨_, .dicts (knd := mixKind X.prog X.w) (e := fun k => pickB fun b => ∀ v y, (k, v) ∈ va → valueAt vb k = some y → PySem.W.EqTree X.prog X.w s n v y b) e ya yb da db fun k v y hm hv => ?_⟩
    refine pickB_ok (F := fun b => ∀ v y, (k, v) ∈ va → valueAt vb k = some y → PySem.W.EqTree X.prog X.w s n v y b) ?_ v y hm hv
    obtain ⟨p, hp, rfl, rv⟩ := kv_at ra hm
    have rr := rb.val p.1
    rw [hv] at rr
    cases eu : valV ls p.1 with
    | none => rw [eu] at rr; exact (show False from rr).elim
    | some uu =>
      rw [eu] at rr
      obtain ⟨b', hb'⟩ := ih p hp uu eu rv rr
      obtain ⟨_, _, _, _, _, _, _, _, nd⟩ := id da
      refine ⟨b', fun v2 y2 hm2 hv2 => ?_⟩
      rw [hv] at hv2
      obtain rfl := Option.some.inj hv2
      obtain rfl := nd_pair nd hm hm2
      exact hb'
end
end Sw
namespace Sw
open PySem PySem.Spec PyProof.Rows L2
open PySem.AutoSeq1 (wpAny_loadPart')
open PySem.MeetsSeq PySem.MeetsSeq2 PySem.MeetsSeq3 PySem.SeqRoads2
section
variable {prog : Program} {w : World}
/-- the walk of `in` over a list, from the i-th item on, in one model -/
theorem has_from (l : Addr) (items : Array Value) (n : Nat) (dd : Option Addr) (sl : Array (Option Value)) (x : Value) (e : Value → Bool) (k : Nat) :
    ∀ i : Nat, items.size - i = k → MeetsIn prog w (Builtin.«list.__contains__.loop» ⟨[.ref l, x, rawInt i], []⟩)
      (fun A R s => s.heap.get? l = some { cls := .type "list", dict := dd, data := .seq items n, slots := sl } ∧ (∀ y, y ∈ items → SeqAt.EqIn prog w A.in1 s y x (e y)) ∧ R (.ok (.ret (.bool ((items.toList.drop i).any e)))) s) := by
  induction k with
  | zero =>
    intro i hk A R s h
    obtain ⟨hp, g, d, tk, os⟩ := s
    obtain ⟨hl, he, h⟩ := h
    wp_walk using wpAny_loadPart' hl
    rw [show items[((i : Nat) : Int).toNat]? = none by simp; omega]
    rw [show items.toList.drop i = [] by simp; omega] at h
    wp_walk
    exact h
  | succ k ih =>
    intro i hk A R s h
    obtain ⟨hp, g, d, tk, os⟩ := s
    obtain ⟨hl, he, h⟩ := h
    wp_walk using wpAny_loadPart' hl
    have lt : i < items.size := by omega
    rw [show items[((i : Nat) : Int).toNat]? = some items[i] by simp [lt]]
    rw [show items.toList.drop i = items[i] :: items.toList.drop (i + 1) by simp [List.drop_eq_getElem_cons, lt], List.any_cons] at h
    refine wpAny_bind (he _ (Array.getElem_mem lt) _ _ ?_)
    generalize e items[i] = b at h
    cases b with
    | true =>
      wp_walk
      exact h
    | false =>
      wp_walk
      rw [show ((i : Int) + 1) = ((i + 1 : Nat) : Int) by push_cast; rfl]
      exact ⟨plainId_quiet plain_contains_loop _, codeAny_builtin entry_contains_loop (by
        rw [Around.under_plainId plain_contains_loop _]
        exact ih (i + 1) (by omega) A R _ ⟨hl, he, by simpa using h⟩)⟩
theorem has_list (l : Addr) (items : Array Value) (n : Nat) (dd : Option Addr) (sl : Array (Option Value)) (x : Value) (e : Value → Bool) :
    MeetsIn prog w (Builtin.«list.__contains__» ⟨[.ref l, x], []⟩)
      (fun A R s => s.heap.get? l = some { cls := .type "list", dict := dd, data := .seq items n, slots := sl } ∧ (∀ y, y ∈ items → SeqAt.EqIn prog w A.in1 s y x (e y)) ∧ R (.ok (.ret (.bool (items.any e)))) s) := by
  intro A R s h
  obtain ⟨hp, g, d, tk, os⟩ := s
  obtain ⟨hl, he, h⟩ := h
  wp_walk using wpAny_loadPart' hl
  exact ⟨plainId_quiet plain_contains_loop _, codeAny_builtin entry_contains_loop (by
    rw [Around.under_plainId plain_contains_loop _]
    exact has_from l items n dd sl x e _ 0 rfl A R _ ⟨hl, he, by simpa using h⟩)⟩
end
section
variable {X : Cx}
/-- == of two lists, some answer -/
def rEqAny (K : PySem.W.Frag) : R2 := fun x y H Q => ∃ n a b xs ys, n ≤ 60 ∧ x = .ref a ∧ y = .ref b ∧ SqL K H a xs ∧ SqL K H b ys ∧ (∀ (i : Nat) (u v : V), xs[i]? = some u → ys[i]? = some v → CmpV K H n u v) ∧ ∀ k, Q (.bl k) H
theorem op_eqAny (hu : X.A.units + 64 < cLine) : OpR X (compareOp .Eq) (rEqAny X.K) := by
  intro pins s σ H x y v u Q I rx ry h
  obtain ⟨n, a, b, xs, ys, hn, rfl, rfl, ha, hb, hc, q⟩ := h
  cases (show v = Value.ref a from rx)
  cases (show u = Value.ref b from ry)
  obtain ⟨us, r1, p1, _⟩ := I.list ha
  obtain ⟨ws, r2, p2, _⟩ := I.list hb
  by_cases hsz : us.toArray.size = ws.toArray.size
  · refine PySem.W.eq_listsT (n := n) (e := fun j => pickB fun b => ∀ (h1 : j < us.toArray.size) (h2 : j < ws.toArray.size), PySem.W.EqTree X.prog X.w s n us.toArray[j] ws.toArray[j] b) p1.isList p2.isList hsz (fun j h1 h2 => ?_) (by omega) ⟨.bl _, H, I, rfl, q _⟩
    refine pickB_ok (F := fun b => ∀ (h1 : j < us.toArray.size) (h2 : j < ws.toArray.size), PySem.W.EqTree X.prog X.w s n us.toArray[j] ws.toArray[j] b) ?_ h1 h2
    have g1 : us[j]? = some us.toArray[j] := by simpa using h1
    have g2 : ws[j]? = some ws.toArray[j] := by simpa using h2
    obtain ⟨x, hx, rx'⟩ := vals_at r1 g1
    obtain ⟨y, hy, ry'⟩ := vals_at r2 g2
    obtain ⟨b', hb'⟩ := cmp_tree I (hc j x y hx hy) rx' ry'
    exact ⟨b', fun _ _ => hb'⟩
  · exact SeqAt.RcAt.lists_lengths p1.isList p2.isList (by simpa using hsz) (by omega) _ _ _ _ ⟨.bl _, H, I, rfl, q _⟩
/-- x not in a list, some answer -/
def rNotInAny (K : PySem.W.Frag) : R2 := fun x y H Q => ∃ n b ys, n ≤ 60 ∧ y = .ref b ∧ SqL K H b ys ∧ (∀ v ∈ ys, CmpV K H n v x) ∧ ∀ k, Q (.bl k) H
theorem op_notInAny (hu : X.A.units + 65 < cLine) : OpR X (compareOp .NotIn) (rNotInAny X.K) := by
  intro pins s σ H x y v u Q I rx ry h
  obtain ⟨n, b, ys, hn, rfl, hb, hc, q⟩ := h
  cases (show u = Value.ref b from ry)
  obtain ⟨ws, r2, p2, _⟩ := I.list hb
  obtain ⟨⟨cls, dd, data, sl⟩, nn, ho, hcl, _, hd⟩ := id p2
  simp only at hcl hd
  subst hcl hd
  show wpAny _ X.A (do return Value.bool (!(← contains (.ref b) v))) _ _ s
  refine wpAny_bind (wpAny_contains_slot (T := "list") ⟨_, ho, rfl⟩ F.slot_list_contains (wpAny_mono (call_meetsIn F.slot_list_contains ⟨_, ho, rfl⟩ F.entry_list_contains (F.args_list_contains_2 _ _)
    (has_list b ws.toArray nn dd sl v (fun z => pickB fun k => PySem.W.EqTree X.prog X.w s n z v k)) (Q := fun r s' => ∃ k, r = .bool k ∧ s' = s) ⟨ho, fun z hz => ?_, _, rfl, rfl⟩) (fun r s' hv => ?_) fun _ _ e => e))
  · have hz' : z ∈ ws := by simpa using hz
    obtain ⟨j, hj⟩ := List.mem_iff_getElem?.mp hz'
    obtain ⟨yv, hy, ry'⟩ := vals_at r2 hj
    exact (pickB_ok (F := fun k => PySem.W.EqTree X.prog X.w s n z v k) (cmp_tree I (hc yv (List.mem_of_getElem? hy)) ry' rx)).at _ (by show X.A.units + 1 + n < cLine; omega)
  · obtain ⟨k, rfl, rfl⟩ := hv
    exact wpAny_truthy_bool (wpAny_pure ⟨.bl _, H, I, rfl, q _⟩)
end
end Sw
namespace Sw
open PySem PySem.Spec PyProof.Rows L2
/-- dealt promises that don't hold this list -/
def PledgesV (K : PySem.W.Frag) (H : Hp) (M : Addr) (rows : List Rw) (vals : List Str) (vs : List V) : Prop := ∀ v ∈ vs, ∃ k, PledgeAt K H v k ∧ PledgeOk rows vals k ∧ k.Far M
theorem PledgesV.same {K : PySem.W.Frag} {H H' : Hp} {M : Addr} {rows : List Rw} {vals : List Str} {vs : List V} (q : PledgesV K H M rows vals vs) (s : Same H H') : PledgesV K H' M rows vals vs := fun v hv => let ⟨k, h1, h2⟩ := q v hv; ⟨k, h1.same s, h2⟩
theorem PledgesV.hand {K : PySem.W.Frag} {H H' : Hp} {h M : Addr} {rows : List Rw} {vals : List Str} {vs : List V} (q : PledgesV K H M rows vals vs) (hh : HandAt H h) (e : SBut h H H') : PledgesV K H' M rows vals vs := fun v hv => let ⟨k, h1, h2⟩ := q v hv; ⟨k, h1.hand h2.1 hh e, h2⟩
theorem PledgesV.app {K : PySem.W.Frag} {H : Hp} {M : Addr} {rows : List Rw} {vals : List Str} {vs us : List V} (q : PledgesV K H M rows vals vs) (q2 : PledgesV K H M rows vals us) : PledgesV K H M rows vals (vs ++ us) := fun v hv => (List.mem_append.mp hv).elim (q v) (q2 v)
theorem PledgesV.nil {K : PySem.W.Frag} {H : Hp} {M : Addr} {rows : List Rw} {vals : List Str} : PledgesV K H M rows vals [] := fun _ hv => (nomatch hv)
theorem PledgesV.upd {K : PySem.W.Frag} {H : Hp} {M : Addr} {rows : List Rw} {vals : List Str} {vs us ws : List V} (q : PledgesV K H M rows vals us) (hM : H M = some (.lst vs)) : PledgesV K (upd H M (.lst ws)) M rows vals us := fun v hv => let ⟨k, h1, h2, h3⟩ := q v hv; ⟨k, h1.upd h3 hM, h2, h3⟩
theorem PledgesV.off {K : PySem.W.Frag} {H : Hp} {M M' : Addr} {rows : List Rw} {vals : List Str} {vs : List V} (q : PledgesV K H M rows vals vs) (n : H M' = none) : PledgesV K H M' rows vals vs := fun v hv => let ⟨k, h1, h2, _⟩ := q v hv; ⟨k, h1, h2, h1.far n⟩
theorem PledgesV.sub {K : PySem.W.Frag} {H : Hp} {M : Addr} {rows : List Rw} {vals : List Str} {vs us : List V} (q : PledgesV K H M rows vals vs) (h : ∀ u ∈ us, u ∈ vs) : PledgesV K H M rows vals us := fun v hv => q v (h v hv)
/-- _law_through(tables, shape) -/
def spThrough (K : PySem.W.Frag) : Sp := fun vs H Q _ => ∃ (T q : Addr) (tx : List V) (rows : List Rw) (vals s : List Str), vs = [.ref T, .ref q] ∧ RowsAt K H T tx rows ∧ RowsOk vals rows ∧ (rows.map Rw.nm).Nodup ∧ (∀ r ∈ rows, SOk r.nm) ∧ (∀ z ∈ vals, SOk z ∧ isTermS z = true) ∧ SqT K H q (s.map V.str) ∧ PartGood rows s ∧ (∀ z ∈ s, SOk z) ∧
  ∀ (H' : Hp) (D : Addr) (vs : List V), Same H H' → H D = none → H' D = some (.lst vs) → vs.length ≤ 3 → PledgesV K H' D rows vals vs → Q (.ref D) H'
end Sw
namespace Sw
open PySem PySem.Spec PyProof.Rows L2
theorem find_call3 {K : PySem.W.Frag} {H : Hp} {T : Addr} {tx : List V} {rows : List Rw} {r : Rw} {z : Str} {Q : VK} {E : XK} (tab : RowsAt K H T tx rows) (f : Fit rows) (hr : r ∈ rows) (hz : r.nm = z) (q : ∀ (H' : Hp) (v : V), Same H H' → (∃ i : Nat, tx[i]? = some v ∧ rows[i]? = some r) → Q v H') : spFind K [.ref T, .str z] H Q E := by
  refine ⟨T, z, tx, rows, rfl, tab, f.len, List.mem_map.mpr ⟨r, hr, hz⟩, fun H' i v r2 sm hv hr2 hn => ?_⟩
  have h1 := find_row f.nd (List.mem_of_getElem? hr2)
  have h2 := find_row f.nd hr
  rw [hn, ← hz, h2] at h1
  obtain rfl := Option.some.inj h1
  exact q H' v sm ⟨i, hv, hr2⟩
theorem through_test {K : PySem.W.Frag} {σ : L2.St} {Hc : Hp} {c a d rm : Int} {z : Str} {p M : Addr} {ps : List V} (h6 : ∀ H (Q : VK), Q (.int c) H → tVar 6 σ H Q) (h3 : ∀ H (Q : VK), Q (.ref p) H → tVar 3 σ H Q) (h5 : ∀ H (Q : VK), Q (.int rm) H → tVar 5 σ H Q) (h2 : ∀ H (Q : VK), Q (.ref M) H → tVar 2 σ H Q)
    (hp : SqT K Hc p [.int a, .str z, .int d]) (hM : Hc M = some (.lst ps)) {Q : Bool → Hp → Prop} (q : ∀ b H3, Same Hc H3 → Q b H3) :
    tAnd (tTest (tOp rNe (tVar 6) (tOp (rIxT K) (tVar 3) (tC (.int 2))))) (tAnd (tTest (tOp (rI0 fun i j => .bl (decide (j ≤ i))) (tVar 5) (tC (.int 0)))) (tTest (tOp (rEqAny K) (tVar 2) (tLst tNil)))) σ Hc Q := by
  unfold tAnd tTest tOp
  refine h6 _ _ ?_
  refine h3 _ _ ?_
  refine ⟨p, _, _, _, rfl, rfl, hp, atI_nat (j := 2) rfl, rfl, _, rfl, ?_⟩
  refine ite2 (fun _ => ?_) (fun _ => q _ _ (Same.refl _))
  refine h5 _ _ ?_
  refine ⟨_, _, rfl, rfl, _, rfl, ?_⟩
  refine ite2 (fun _ => ?_) (fun _ => q _ _ (Same.refl _))
  refine h2 _ _ ?_
  refine ⟨by decide, fun L nL => ?_⟩
  have sL := same_new (o := .lst []) nL
  exact ⟨0, M, L, ps, [], by decide, rfl, rfl, SqL.of (sL _ _ hM), SqL.of upd_same, fun i u v _ h => (nomatch h), fun k => ⟨_, rfl, q _ _ sL⟩⟩
theorem qs_ok : ∀ z ∈ (["?q0", "?q1", "?q2"] : List Str), isTermS z = true ∧ z.length ≤ 1000 ∧ PySem.PyData.strOk z = true := by decide +kernel
end Sw
namespace Sw
open PySem PySem.Spec PyProof.Rows L2
/-- _law_deal_pledges(hand, tables, ask, pool, extra) -/
def spDealP (K : PySem.W.Frag) : Sp := fun vs H Q _ => ∃ (h T a Po t sh li : Addr) (dup : Bool) (extra : Nat) (tx ys : List V) (rows : List Rw) (vals vars pool : List Str) (ss : List (List Str)) (es : List Ent), vs = [.ref h, .ref T, .ref a, .ref Po, .int (extra : Int)] ∧ HandAt H h ∧ RowsAt K H T tx rows ∧ RowsOk vals rows ∧ (rows.map Rw.nm).Nodup ∧ (∀ r ∈ rows, SOk r.nm) ∧ (∀ r ∈ rows, isV r.nm = false) ∧ (∀ z ∈ vals, SOk z ∧ isTermS z = true) ∧
  SqL K H a [.ref t, .ref sh, .ref li, .bl dup] ∧ ShapesAt K H sh ys ss ∧ Lims K H li vals vars es ∧ (∀ s ∈ ss, PartGood rows s) ∧ 1 ≤ ss.length ∧ ss.length ≤ 3 ∧ SqL K H Po (pool.map V.str) ∧ 1 ≤ pool.length ∧ pool.length ≤ 59 ∧ (∀ z ∈ pool, SOk z ∧ isTermS z = true) ∧ 1 ≤ extra ∧ extra ≤ 9 ∧
  ∀ (H' : Hp) (D : Addr) (vs : List V), HandAt H' h → SBut h H H' → H D = none → H' D = some (.lst vs) → vs.length ≤ 5 → PledgesV K H' D rows vals vs → (∃ kf : V → Pledge, PlAt K H' rows vals kf vs ∧ PlDiff kf vs) → Q (.ref D) H'
theorem depth_strs : ∀ s : List Str, PyData.depthAll (s.map .str) = 0
  | [] => rfl
  | z :: r => by
    have ih := depth_strs r
    show max (PyData.depth (.str z)) (PyData.depthAll (r.map .str)) = 0
    rw [ih]
    rfl
theorem depth_parts : ∀ ss : List (List Str), PyData.depthAll (shD ss) ≤ 1
  | [] => Nat.zero_le _
  | s :: r => by
    have ih := depth_parts r
    have e : PyData.depth (.tuple (s.map .str)) = PyData.depthAll (s.map .str) + 1 := rfl
    have h : PyData.depthAll (shD (s :: r)) = max (PyData.depth (.tuple (s.map .str))) (PyData.depthAll (shD r)) := rfl
    rw [h, e, depth_strs]
    omega
theorem pledge_cmp {K : PySem.W.Frag} {H : Hp} {rows : List Rw} {vals : List Str} {v u : V} {k k' : Pledge} (p : PledgeAt K H v k) (ok : PledgeOk rows vals k) (p' : PledgeAt K H u k') (ok' : PledgeOk rows vals k') (vl : ∀ z ∈ vals, SOk z) : CmpV K H 8 v u := by
  obtain ⟨q, li, xs, h1, h2, h3, h4, h5⟩ := p.ex
  obtain ⟨q', li', xs', g1, g2, g3, g4, g5⟩ := p'.ex
  rw [p.ref, p'.ref]
  refine .lists (SqL.of h1) (SqL.of g1) fun i w w' e e' => ?_
  match i, e, e' with
  | 0, e, e' =>
    obtain rfl := Option.some.inj e
    obtain rfl := Option.some.inj e'
    refine .data (.tup h2 (dpStrs k.s)) (.tup g2 (dpStrs k'.s)) (SeqAt.canLay_of_shaped (shapedStrs (ok.sok _ List.mem_cons_self)).1) (SeqAt.canLay_of_shaped (shapedStrs (ok'.sok _ List.mem_cons_self)).1) ?_
    have e : PyData.depth (.tuple (k.s.map .str)) = PyData.depthAll (k.s.map .str) + 1 := rfl
    rw [e, depth_strs]
    omega
  | 1, e, e' =>
    obtain rfl := Option.some.inj e
    obtain rfl := Option.some.inj e'
    refine .data (.lst (SqL.of h3) h4.dp) (.lst (SqL.of g3) g4.dp) (canShapes fun s hs => ok.sok s (List.mem_cons_of_mem _ hs)).1 (canShapes fun s hs => ok'.sok s (List.mem_cons_of_mem _ hs)).1 ?_
    have e : PyData.depth (.list (shD k.ss)) = PyData.depthAll (shD k.ss) + 1 := rfl
    have := depth_parts k.ss
    rw [e]
    omega
  | 2, e, e' =>
    obtain rfl := Option.some.inj e
    obtain rfl := Option.some.inj e'
    refine .dicts h5 g5 fun p0 hp0 u0 hu0 => ?_
    obtain ⟨x, hx, rfl⟩ := List.mem_map.mp hp0
    obtain ⟨y, hy, rfl⟩ := valV_ent hu0
    refine .data (.lst (SqL.of (p.all x hx)) (dpStrs x.2.2)) (.lst (SqL.of (p'.all y hy)) (dpStrs y.2.2)) (SeqAt.canLay_of_shaped (shapedL fun z hz => vl z ((ok.ev x hx).2 z hz))) (SeqAt.canLay_of_shaped (shapedL fun z hz => vl z ((ok'.ev y hy).2 z hz))) ?_
    have e : PyData.depth (.list (x.2.2.map .str)) = PyData.depthAll (x.2.2.map .str) + 1 := rfl
    rw [e, depth_strs]
    omega
  | i + 3, e, e' => cases e
end Sw
namespace Sw
open PySem PySem.Spec PyProof.Rows L2
/-- what the laws of promises begin with -/
structure PrepAt (K : PySem.W.Frag) (H : Hp) (R : Addr) (many : Nat) (xs : List V) (rows : List Rw) (vals tms : List Str) (k : Ask) (vs : List V) : Prop where
  ex : ∃ R0 T Va Tm A D, H R = some (.lst [.ref T, .ref Va, .ref Tm, .ref A, .ref D]) ∧ H R0 = some (.lst [.ref T, .ref Va, .ref Tm, .ref A]) ∧ BeginAt K H R0 many xs rows vals tms k ∧ H D = some (.lst vs) ∧ PledgesV K H D rows vals vs
  len : vs.length ≤ 5
  df : ∃ kf : V → Pledge, PlAt K H rows vals kf vs ∧ PlDiff kf vs
/-- _law_prepare(script, many, extra) -/
def spPrep (K : PySem.W.Frag) : Sp := fun vs H Q _ => ∃ (a : Addr) (ns : List Int) (many extra : Nat), vs = [.ref a, .int (many : Int), .int (extra : Int)] ∧ SqL K H a (ns.map V.int) ∧ ns.length ≤ 63 ∧ 1 ≤ many ∧ many ≤ 3 ∧ 1 ≤ extra ∧ extra ≤ 9 ∧
  ∀ (H' : Hp) (R : Addr) (xs : List V) (rows : List Rw) (vals tms : List Str) (k : Ask) (ps : List V), Same H H' → H R = none → PrepAt K H' R many xs rows vals tms k ps → Q (.ref R) H'
end Sw
/-! ## matches: variables and what they stand for -/
namespace Sw
open PySem PySem.Spec PyProof.Rows L2
theorem bDictL : bootBuiltins "dict" = some (.type "dict") := by decide +kernel
abbrev Sub := List (Str × Str)
def kvS (m : Sub) : List (Key × V) := m.map fun e => ((Sum.inr e.1 : Key), V.str e.2)
def look (m : Sub) (t : Str) : Option Str := (m.find? fun e => decide (e.1 = t)).map (·.2)
theorem valV_kvS (m : Sub) (t : Str) : valV (kvS m) (Sum.inr t : Key) = (look m t).map V.str := by
  unfold valV kvS look
  rw [List.find?_map, Option.map_map, Option.map_map]
  have e : (fun kv : Key × V => decide (kv.1 = (Sum.inr t : Key))) ∘ (fun e : Str × Str => ((Sum.inr e.1 : Key), V.str e.2)) = fun e => decide (e.1 = t) := funext fun e => decide_eq_decide.mpr ⟨fun h => Sum.inr.inj h, fun h => congrArg Sum.inr h⟩
  rw [e]
  rfl
theorem putK_kvS {m : Sub} {t : Str} (h : look m t = none) (v : Str) : putK (kvS m) (Sum.inr t : Key) (.str v) = kvS (m ++ [(t, v)]) := by
  have e : ((kvS m).any fun kv => decide (kv.1 = (Sum.inr t : Key))) = false := by
    rw [Bool.eq_false_iff]
    intro q
    obtain ⟨kv, h1, h2⟩ := List.any_eq_true.mp q
    obtain ⟨u, hu, rfl⟩ := List.mem_map.mp h1
    have h3 : u.1 = t := Sum.inr.inj (of_decide_eq_true h2)
    unfold look at h
    rw [Option.map_eq_none_iff, List.find?_eq_none] at h
    exact h u hu (decide_eq_true h3)
  unfold putK
  rw [e]
  unfold kvS
  rw [List.map_append]
  rfl
def stepS (ok : Str → Str → Bool) (m : Sub) (t v : Str) : Option Sub :=
  if isV t = true then (if ok t v = true then (match look m t with | none => some (m ++ [(t, v)]) | some u => if u = v then some m else none) else none) else if t = v then some m else none
def growS (ok : Str → Str → Bool) : Sub → List (Str × Str) → Option Sub
  | m, [] => some m
  | m, p :: r => (stepS ok m p.1 p.2).bind fun m' => growS ok m' r
theorem grow_snoc {ok : Str → Str → Bool} : ∀ {l : List (Str × Str)} {m : Sub} {i : Nat} {p : Str × Str}, l[i]? = some p → growS ok m (l.take (i + 1)) = (growS ok m (l.take i)).bind fun m' => stepS ok m' p.1 p.2
  | [], _, _, _, h => nomatch h
  | q :: r, m, 0, p, h => by
    obtain rfl := Option.some.inj h
    show (stepS ok m q.1 q.2).bind (fun m' => growS ok m' (r.take 0)) = (some m).bind _
    rw [List.take_zero]
    show (stepS ok m q.1 q.2).bind (fun m' => some m') = stepS ok m q.1 q.2
    cases stepS ok m q.1 q.2 <;> rfl
  | q :: r, m, i + 1, p, h => by
    show (stepS ok m q.1 q.2).bind (fun m' => growS ok m' (r.take (i + 1))) = ((stepS ok m q.1 q.2).bind fun m' => growS ok m' (r.take i)).bind _
    rw [Option.bind_assoc]
    exact congrArg _ (funext fun m' => grow_snoc (l := r) h)
theorem grow_none {ok : Str → Str → Bool} : ∀ {l : List (Str × Str)} {m : Sub} {i : Nat}, growS ok m (l.take i) = none → growS ok m l = none
  | [], m, i, h => by
    rw [List.take_nil] at h
    exact h
  | q :: r, m, 0, h => nomatch h
  | q :: r, m, i + 1, h => by
    have h : (stepS ok m q.1 q.2).bind (fun m' => growS ok m' (r.take i)) = none := h
    show (stepS ok m q.1 q.2).bind (fun m' => growS ok m' r) = none
    cases e : stepS ok m q.1 q.2 with
    | none => rfl
    | some m1 =>
      rw [e] at h
      exact grow_none (l := r) (i := i) h
def KeyV (m : Sub) : Prop := ∀ e ∈ m, isV e.1 = true
theorem look_no {m : Sub} {t : Str} (k : KeyV m) (h : isV t = false) : look m t = none := by
  unfold look
  rw [Option.map_eq_none_iff, List.find?_eq_none]
  intro e he q
  have := k e he
  rw [of_decide_eq_true q, h] at this
  cases this
theorem step_keys {ok : Str → Str → Bool} {m m' : Sub} {t v : Str} (k : KeyV m) (h : stepS ok m t v = some m') : KeyV m' ∧ m'.length ≤ m.length + 1 := by
  unfold stepS at h
  by_cases hv : isV t = true
  · rw [if_pos hv] at h
    by_cases ho : ok t v = true
    · rw [if_pos ho] at h
      cases e : look m t with
      | none =>
        rw [e] at h
        obtain rfl := Option.some.inj h
        refine ⟨fun e he => ?_, by rw [List.length_append]; exact Nat.le_refl _⟩
        rcases List.mem_append.mp he with he | he
        · exact k e he
        · rw [List.mem_singleton.mp he]
          exact hv
      | some u =>
        rw [e] at h
        by_cases hu : u = v
        · have h : (if u = v then some m else none) = some m' := h
          rw [if_pos hu] at h
          obtain rfl := Option.some.inj h
          exact ⟨k, Nat.le_succ _⟩
        · have h : (if u = v then some m else none) = some m' := h
          rw [if_neg hu] at h
          cases h
    · rw [if_neg ho] at h
      cases h
  · rw [if_neg hv] at h
    by_cases ht : t = v
    · rw [if_pos ht] at h
      obtain rfl := Option.some.inj h
      exact ⟨k, Nat.le_succ _⟩
    · rw [if_neg ht] at h
      cases h
/-- the law's way to lay a shape on a row -/
def layS (s r : List Str) (m : Sub) : Option Sub := if s.headD "" = r.headD "" ∧ s.length = r.length then growS (fun _ _ => true) m (s.tail.zip r.tail) else none
/-- _law_lay(shape, row, bound) -/
def spLay (K : PySem.W.Frag) : Sp := fun vs H Q _ => ∃ (a r b : Addr) (s t : List Str) (m : Sub), vs = [.ref a, .ref r, .ref b] ∧ SqT K H a (s.map V.str) ∧ SqT K H r (t.map V.str) ∧ H b = some (.dK (kvS m)) ∧ KeyV m ∧ 1 ≤ s.length ∧ s.length ≤ 10 ∧ 1 ≤ t.length ∧ t.length ≤ 10 ∧ (∀ z ∈ s, SOk z) ∧ m.length ≤ 100 ∧
  (layS s t m = none → ∀ H' : Hp, Same H H' → Q .non H') ∧ ∀ m', layS s t m = some m' → ∀ (H' : Hp) (D : Addr), Same H H' → H D = none → H' D = some (.dK (kvS m')) → Q (.ref D) H'
end Sw
namespace Sw
open PySem PySem.Spec PyProof.Rows L2
def keyS : Key → Str
  | .inr v => v
  | .inl _ => ""
/-- each condition holds of what its variable stands for -/
def okE (m : Sub) (e : Ent) : Bool := decide ((look m (keyS e.1)).getD "" ∈ e.2.2)
/-- _law_within(bound, limits) -/
def spWithin (K : PySem.W.Frag) : Sp := fun vs H Q _ => ∃ (b l : Addr) (m : Sub) (es : List Ent), vs = [.ref b, .ref l] ∧ H b = some (.dK (kvS m)) ∧ LDict K H l es ∧ (∀ e ∈ es, ∃ v u, e.1 = (Sum.inr v : Key) ∧ look m v = some u ∧ SOk v) ∧ ∀ H' : Hp, Same H H' → Q (.bl (es.all (okE m))) H'
theorem flat_strs (ws : List Str) : (ws.map V.str).all flatV = true := by
  rw [List.all_eq_true]
  intro x hx
  obtain ⟨z, _, rfl⟩ := List.mem_map.mp hx
  rfl
theorem filter_empty {α : Type} (p : α → Bool) (l : List α) : (l.filter fun e => !p e).isEmpty = l.all p := by
  induction l with
  | nil => rfl
  | cons a r ih =>
    rw [List.filter_cons, List.all_cons]
    cases h : p a with
    | true => exact ih
    | false => rfl
end Sw
namespace Sw
open PySem PySem.Spec PyProof.Rows L2
/-- a match and the rows' places -/
abbrev Way := Sub × List Nat
/-- the ways to lay one more shape -/
def nextW (rs : List (List Str)) (s : List Str) (w : Way) : List Way := (List.range rs.length).filterMap fun j => (layS s (rs.getD j []) w.1).map fun m => (m, w.2 ++ [j])
def waysS (rs : List (List Str)) : List Way → List (List Str) → List Way
  | ws, [] => ws
  | ws, s :: r => waysS rs (ws.flatMap (nextW rs s)) r
structure WayV (K : PySem.W.Frag) (H : Hp) (v : V) (w : Way) : Prop where
  ex : ∃ (p b l : Addr), v = .ref p ∧ SqT K H p [.ref b, .ref l] ∧ H b = some (.dK (kvS w.1)) ∧ H l = some (.lst (w.2.map fun n : Nat => V.int (n : Int)))
structure WaysV (K : PySem.W.Frag) (H : Hp) (vs : List V) (ws : List Way) : Prop where
  len : vs.length = ws.length
  all : ∀ (i : Nat) (v : V), vs[i]? = some v → ∃ w, ws[i]? = some w ∧ WayV K H v w
theorem WayV.same {K : PySem.W.Frag} {H H' : Hp} {v : V} {w : Way} (q : WayV K H v w) (s : Same H H') : WayV K H' v w := ⟨let ⟨p, b, l, h1, h2, h3, h4⟩ := q.ex; ⟨p, b, l, h1, same_seqT s h2, s _ _ h3, s _ _ h4⟩⟩
theorem WaysV.same {K : PySem.W.Frag} {H H' : Hp} {vs : List V} {ws : List Way} (q : WaysV K H vs ws) (s : Same H H') : WaysV K H' vs ws := ⟨q.len, fun i v e => let ⟨w, h1, h2⟩ := q.all i v e; ⟨w, h1, h2.same s⟩⟩
theorem WaysV.nil {K : PySem.W.Frag} {H : Hp} : WaysV K H [] [] := ⟨rfl, fun _ _ e => (nomatch e)⟩
/-- a changed list of ways: what it holds stays, each with places -/
theorem WaysV.upd {K : PySem.W.Frag} {H : Hp} {M : Addr} {vs us : List V} {ws : List Way} (q : WaysV K H vs ws) (hM : H M = some (.lst vs)) (n : ∀ w ∈ ws, w.2 ≠ []) : WaysV K (upd H M (.lst us)) vs ws := by
  refine ⟨q.len, fun i v e => ?_⟩
  obtain ⟨w, h1, h2⟩ := q.all i v e
  obtain ⟨p, b, l, rfl, g1, g2, g3⟩ := h2.ex
  have nl : l ≠ M := fun z => by
    rw [z, hM] at g3
    have e3 : vs = w.2.map fun n : Nat => V.int (n : Int) := by
      have := Option.some.inj g3
      injection this
    rw [e3] at e
    obtain ⟨k, _, hk⟩ := List.mem_map.mp (List.mem_of_getElem? e)
    cases hk
  exact ⟨w, h1, p, b, l, rfl, sqT_upd g1 hM (fun ys => ⟨fun z => (nomatch z), fun u z => (nomatch z)⟩), by rw [upd_ne (ne_of g2 hM fun z => nomatch z)]; exact g2, by rw [upd_ne nl]; exact g3⟩
theorem WaysV.snoc {K : PySem.W.Frag} {H : Hp} {vs : List V} {ws : List Way} {v : V} {w : Way} (q : WaysV K H vs ws) (h : WayV K H v w) : WaysV K H (vs ++ [v]) (ws ++ [w]) := by
  refine ⟨by rw [List.length_append, List.length_append, q.len]; rfl, fun i u hu => ?_⟩
  by_cases hi : i < vs.length
  · rw [List.getElem?_append_left hi] at hu
    obtain ⟨w', h1, h2⟩ := q.all i u hu
    exact ⟨w', by rw [List.getElem?_append_left (by rw [← q.len]; exact hi)]; exact h1, h2⟩
  · have ei : i = vs.length := by
      have := (List.getElem?_eq_some_iff.mp hu).1
      rw [List.length_append] at this
      simp at this
      omega
    subst ei
    rw [List.getElem?_append_right (Nat.le_refl _), Nat.sub_self] at hu
    obtain rfl : v = u := Option.some.inj hu
    exact ⟨w, by rw [q.len, List.getElem?_append_right (Nat.le_refl _), Nat.sub_self]; rfl, h⟩
end Sw
namespace Sw
open PySem PySem.Spec PyProof.Rows L2
theorem grow_keys {ok : Str → Str → Bool} : ∀ {l : List (Str × Str)} {m m' : Sub}, KeyV m → growS ok m l = some m' → KeyV m' ∧ m'.length ≤ m.length + l.length
  | [], m, m', k, h => by
    obtain rfl := Option.some.inj h
    exact ⟨k, Nat.le_refl _⟩
  | p :: r, m, m', k, h => by
    have h : (stepS ok m p.1 p.2).bind (fun m' => growS ok m' r) = some m' := h
    cases e : stepS ok m p.1 p.2 with
    | none => rw [e] at h; cases h
    | some m1 =>
      rw [e] at h
      obtain ⟨k1, l1⟩ := step_keys k e
      obtain ⟨k2, l2⟩ := grow_keys (l := r) k1 h
      exact ⟨k2, by rw [List.length_cons]; omega⟩
def WOk (n : Nat) (w : Way) : Prop := KeyV w.1 ∧ w.1.length ≤ n * 10 ∧ w.2.length ≤ n
theorem next_ok {rs : List (List Str)} {s : List Str} {w w' : Way} {n : Nat} (h : w' ∈ nextW rs s w) (k : WOk n w) (sl : s.length ≤ 10) : WOk (n + 1) w' ∧ w'.2 ≠ [] := by
  obtain ⟨j, _, hj⟩ := List.mem_filterMap.mp h
  cases e : layS s (rs.getD j []) w.1 with
  | none => rw [e] at hj; cases hj
  | some m =>
    rw [e] at hj
    obtain rfl := Option.some.inj hj
    unfold layS at e
    by_cases c : s.headD "" = (rs.getD j []).headD "" ∧ s.length = (rs.getD j []).length
    · rw [if_pos c] at e
      obtain ⟨k1, l1⟩ := grow_keys k.1 e
      rw [List.length_zip, List.length_tail, List.length_tail] at l1
      have := k.2.1
      have h2 := k.2.2
      exact ⟨⟨k1, by show m.length ≤ _; omega, by show (w.2 ++ [j]).length ≤ _; rw [List.length_append]; exact Nat.succ_le_succ h2⟩, by simp⟩
    · rw [if_neg c] at e
      cases e
theorem next_len {rs : List (List Str)} {s : List Str} {w : Way} : (nextW rs s w).length ≤ rs.length := by
  have := List.length_filterMap_le (fun j => (layS s (rs.getD j []) w.1).map fun m => ((m, w.2 ++ [j]) : Way)) (List.range rs.length)
  rw [List.length_range] at this
  exact this
theorem ways_snoc {rs : List (List Str)} : ∀ {l : List (List Str)} {ws : List Way} {s : List Str}, waysS rs ws (l ++ [s]) = (waysS rs ws l).flatMap (nextW rs s)
  | [], _, _ => rfl
  | _ :: r, _, _ => ways_snoc (l := r)
theorem flat_next_len {rs : List (List Str)} {s : List Str} : ∀ ws : List Way, (ws.flatMap (nextW rs s)).length ≤ ws.length * rs.length
  | [] => Nat.zero_le _
  | w :: r => by
    rw [List.flatMap_cons, List.length_append, List.length_cons, Nat.succ_mul]
    have := flat_next_len (rs := rs) (s := s) r
    have := next_len (rs := rs) (s := s) (w := w)
    omega
end Sw
namespace Sw
open PySem PySem.Spec PyProof.Rows L2
theorem look_snoc {m : Sub} {t v y : Str} : look (m ++ [(t, v)]) y = match look m y with | some u => some u | none => if t = y then some v else none := by
  unfold look
  rw [List.find?_append]
  cases m.find? fun e => decide (e.1 = y) with
  | some e => rfl
  | none =>
    by_cases h : t = y
    · simp [h]
    · simp [h]
def Bnd (m : Sub) (t : Str) : Prop := ∃ u, look m t = some u
theorem step_bnd {ok : Str → Str → Bool} {m m' : Sub} {t v : Str} (h : stepS ok m t v = some m') : (∀ y, Bnd m y → Bnd m' y) ∧ (isV t = true → Bnd m' t) := by
  unfold stepS at h
  by_cases hv : isV t = true
  · rw [if_pos hv] at h
    by_cases ho : ok t v = true
    · rw [if_pos ho] at h
      cases e : look m t with
      | none =>
        rw [e] at h
        obtain rfl := Option.some.inj h
        refine ⟨fun y ⟨u, hu⟩ => ⟨u, by rw [look_snoc, hu]⟩, fun _ => ⟨v, by rw [look_snoc, e]; exact if_pos rfl⟩⟩
      | some u =>
        rw [e] at h
        have h : (if u = v then some m else none) = some m' := h
        by_cases hu : u = v
        · rw [if_pos hu] at h
          obtain rfl := Option.some.inj h
          exact ⟨fun y hy => hy, fun _ => ⟨u, e⟩⟩
        · rw [if_neg hu] at h
          cases h
    · rw [if_neg ho] at h
      cases h
  · rw [if_neg hv] at h
    by_cases ht : t = v
    · rw [if_pos ht] at h
      obtain rfl := Option.some.inj h
      exact ⟨fun y hy => hy, fun z => absurd z hv⟩
    · rw [if_neg ht] at h
      cases h
theorem grow_bnd {ok : Str → Str → Bool} : ∀ {l : List (Str × Str)} {m m' : Sub}, growS ok m l = some m' → (∀ y, Bnd m y → Bnd m' y) ∧ ∀ p ∈ l, isV p.1 = true → Bnd m' p.1
  | [], m, m', h => by
    obtain rfl := Option.some.inj h
    exact ⟨fun y hy => hy, fun p hp => (nomatch hp)⟩
  | q :: r, m, m', h => by
    have h : (stepS ok m q.1 q.2).bind (fun m' => growS ok m' r) = some m' := h
    cases e : stepS ok m q.1 q.2 with
    | none => rw [e] at h; cases h
    | some m1 =>
      rw [e] at h
      obtain ⟨a1, a2⟩ := step_bnd e
      obtain ⟨b1, b2⟩ := grow_bnd (l := r) h
      refine ⟨fun y hy => b1 y (a1 y hy), fun p hp hv => ?_⟩
      rcases List.mem_cons.mp hp with rfl | hp
      · exact b1 _ (a2 hv)
      · exact b2 p hp hv
/-- all variables of these terms are bound, the places are the rows' -/
structure WPl (rs : List (List Str)) (n : Nat) (ts : List Str) (w : Way) : Prop where
  len : w.2.length = n
  pl : ∀ j ∈ w.2, j < rs.length
  bnd : ∀ t ∈ ts, isV t = true → Bnd w.1 t
theorem next_pl {rs : List (List Str)} {s ts : List Str} {w w' : Way} {n : Nat} (k : WPl rs n ts w) (h : w' ∈ nextW rs s w) : WPl rs (n + 1) (ts ++ s.tail) w' := by
  obtain ⟨j, hj0, hj⟩ := List.mem_filterMap.mp h
  cases e : layS s (rs.getD j []) w.1 with
  | none => rw [e] at hj; cases hj
  | some m =>
    rw [e] at hj
    obtain rfl := Option.some.inj hj
    unfold layS at e
    by_cases c : s.headD "" = (rs.getD j []).headD "" ∧ s.length = (rs.getD j []).length
    · rw [if_pos c] at e
      obtain ⟨g1, g2⟩ := grow_bnd e
      refine ⟨by show (w.2 ++ [j]).length = _; rw [List.length_append, k.len]; rfl, fun i hi => ?_, fun t ht hv => ?_⟩
      · rcases List.mem_append.mp hi with hi | hi
        · exact k.pl i hi
        · rw [List.mem_singleton.mp hi]
          exact List.mem_range.mp hj0
      · rcases List.mem_append.mp ht with ht | ht
        · exact g1 t (k.bnd t ht hv)
        · obtain ⟨i, hi⟩ := List.mem_iff_getElem?.mp ht
          have li := (List.getElem?_eq_some_iff.mp hi).1
          have l2 : i < ((rs.getD j []).tail).length := by rw [List.length_tail, ← c.2, ← List.length_tail]; exact li
          have hz : (s.tail.zip (rs.getD j []).tail)[i]? = some (t, (rs.getD j []).tail[i]) := by
            rw [List.getElem?_zip_eq_some]
            exact ⟨hi, List.getElem?_eq_getElem l2⟩
          exact g2 _ (List.mem_of_getElem? hz) hv
    · rw [if_neg c] at e
      cases e
theorem ways_pl {rs : List (List Str)} : ∀ {ss : List (List Str)} {ws : List Way} {n : Nat} {ts : List Str}, (∀ w ∈ ws, WPl rs n ts w) → ∀ w ∈ waysS rs ws ss, WPl rs (n + ss.length) (ts ++ termsOf ss) w
  | [], ws, n, ts, h, w, hw => by
    have := h w hw
    show WPl rs n (ts ++ []) w
    rw [List.append_nil]
    exact this
  | s :: r, ws, n, ts, h, w, hw => by
    have := ways_pl (ss := r) (ws := ws.flatMap (nextW rs s)) (n := n + 1) (ts := ts ++ s.tail) (fun w1 h1 => by
      obtain ⟨w0, h0, h2⟩ := List.mem_flatMap.mp h1
      exact next_pl (h w0 h0) h2) w hw
    have e1 : ts ++ s.tail ++ termsOf r = ts ++ termsOf (s :: r) := by
      unfold termsOf
      rw [List.flatMap_cons, List.append_assoc]
    have e2 : n + 1 + r.length = n + (s :: r).length := by rw [List.length_cons]; omega
    rw [e1, e2] at this
    exact this
theorem ways_all {rs ss : List (List Str)} {w : Way} (h : w ∈ waysS rs [([], [])] ss) : WPl rs ss.length (termsOf ss) w := by
  have := ways_pl (rs := rs) (ss := ss) (ws := [([], [])]) (n := 0) (ts := []) (fun w hw => by
    rw [List.mem_singleton.mp hw]
    exact ⟨rfl, fun _ hj => (nomatch hj), fun _ ht => (nomatch ht)⟩) w h
  rw [Nat.zero_add, List.nil_append] at this
  exact this
end Sw
namespace Sw
open PySem PySem.Spec PyProof.Rows L2
theorem ways_len {rs : List (List Str)} : ∀ (ss : List (List Str)) (ws : List Way), (waysS rs ws ss).length ≤ ws.length * rs.length ^ ss.length
  | [], ws => by
    rw [List.length_nil, Nat.pow_zero, Nat.mul_one]
    exact Nat.le_refl _
  | s :: r, ws => by
    have h1 := ways_len (rs := rs) r (ws.flatMap (nextW rs s))
    have h2 := flat_next_len (rs := rs) (s := s) ws
    have h3 : (ws.flatMap (nextW rs s)).length * rs.length ^ r.length ≤ ws.length * rs.length * rs.length ^ r.length := Nat.mul_le_mul_right _ h2
    rw [List.length_cons, Nat.pow_succ, Nat.mul_comm (rs.length ^ r.length) rs.length, ← Nat.mul_assoc]
    exact Nat.le_trans h1 h3
theorem ways_all3 {rs ss : List (List Str)} (h1 : ss.length ≤ 3) (h2 : rs.length ≤ 20) : (waysS rs [([], [])] ss).length ≤ 8000 := by
  have h := ways_len (rs := rs) ss [([], [])]
  have e : ([(([], []) : Way)]).length = 1 := rfl
  rw [e, Nat.one_mul] at h
  refine Nat.le_trans h (Nat.le_trans (Nat.pow_le_pow_left h2 _) ?_)
  have : ∀ i : Nat, i ≤ 3 → 20 ^ i ≤ 8000 := by decide
  exact this _ h1
end Sw
namespace Sw
open PySem PySem.Spec PyProof.Rows L2
/-- the rows that a promise says in a world -/
def saidOf (rs : List (List Str)) (k : Pledge) : List (List Str) := ((waysS rs [([], [])] (k.s :: k.ss)).filter fun w => k.es.all (okE w.1)).map fun w => rs.getD (w.2.headD 0) []
end Sw
/-! ## what a match is -/
namespace Sw
open PySem PySem.Spec PyProof.Rows L2
/-- the condition of a variable, if there is one, lets it have this value -/
def condOk (ts : List Ent) (v x : Str) : Bool := match ts.find? fun e => decide (e.1 = (Sum.inr v : Key)) with | some e => decide (x ∈ e.2.2) | none => true
/-- fit(pattern, terms, among, match) -/
def fitS (ts : List Ent) (s t : List Str) (m : Sub) : Option Sub := if s.length = t.length then growS (condOk ts) m (s.zip t) else none
/-- what g makes of a term -/
def app (g : Str → Str) (z : Str) : Str := if isV z = true then g z else z
/-- what a match makes of a term -/
def turnS (m : Sub) (z : Str) : Str := (look m z).getD z
/-- g goes on from m -/
def Agr (m : Sub) (g : Str → Str) : Prop := ∀ v u, look m v = some u → g v = u
def Ext (m m' : Sub) : Prop := ∀ v u, look m v = some u → look m' v = some u
theorem Ext.refl (m : Sub) : Ext m m := fun _ _ h => h
theorem Ext.trans {a b c : Sub} (h : Ext a b) (h2 : Ext b c) : Ext a c := fun v u e => h2 v u (h v u e)
theorem Ext.agr {m m' : Sub} {g : Str → Str} (h : Ext m m') (a : Agr m' g) : Agr m g := fun v u e => a v u (h v u e)
theorem turn_of {m : Sub} {z u : Str} (h : look m z = some u) : turnS m z = u := by
  unfold turnS
  rw [h]
  rfl
theorem turn_non {m : Sub} {z : Str} (h : look m z = none) : turnS m z = z := by
  unfold turnS
  rw [h]
  rfl
theorem turn_app {m : Sub} (k : KeyV m) (z : Str) : turnS m z = app (turnS m) z := by
  unfold app
  by_cases h : isV z = true
  · rw [if_pos h]
  · rw [if_neg h]
    exact turn_non (look_no k (Bool.eq_false_iff.mpr h))
theorem Agr.turn (m : Sub) : Agr m (turnS m) := fun _ _ h => turn_of h
theorem Ext.turn {m m' : Sub} (h : Ext m m') {z : Str} (b : Bnd m z) : turnS m' z = turnS m z := by
  obtain ⟨u, hu⟩ := b
  rw [turn_of hu, turn_of (h _ _ hu)]
theorem Ext.bnd {m m' : Sub} (h : Ext m m') {z : Str} (b : Bnd m z) : Bnd m' z := let ⟨u, hu⟩ := b; ⟨u, h _ _ hu⟩
theorem agr_turn {m : Sub} {g : Str → Str} (a : Agr m g) {z : Str} (h : isV z = true → Bnd m z) (k : KeyV m) : turnS m z = app g z := by
  unfold app
  by_cases hv : isV z = true
  · rw [if_pos hv]
    obtain ⟨u, hu⟩ := h hv
    rw [turn_of hu, a _ _ hu]
  · rw [if_neg hv]
    exact turn_non (look_no k (Bool.eq_false_iff.mpr hv))
theorem agr_nil (g : Str → Str) : Agr [] g := fun _ _ h => nomatch h
theorem keyV_nil : KeyV [] := fun _ h => nomatch h
theorem step_sound {ok : Str → Str → Bool} {m m' : Sub} {t v : Str} (h : stepS ok m t v = some m') : Ext m m' ∧ (isV t = true → look m' t = some v ∧ ok t v = true) ∧ (¬ isV t = true → t = v) := by
  unfold stepS at h
  by_cases hv : isV t = true
  · rw [if_pos hv] at h
    by_cases ho : ok t v = true
    · rw [if_pos ho] at h
      cases e : look m t with
      | none =>
        rw [e] at h
        obtain rfl := Option.some.inj h
        refine ⟨fun y u hy => by rw [look_snoc, hy], fun _ => ⟨?_, ho⟩, fun q => absurd hv q⟩
        rw [look_snoc, e]
        exact if_pos rfl
      | some u =>
        rw [e] at h
        have h : (if u = v then some m else none) = some m' := h
        by_cases hu : u = v
        · rw [if_pos hu] at h
          obtain rfl := Option.some.inj h
          exact ⟨Ext.refl m, fun _ => ⟨by rw [e, hu], ho⟩, fun q => absurd hv q⟩
        · rw [if_neg hu] at h
          cases h
    · rw [if_neg ho] at h
      cases h
  · rw [if_neg hv] at h
    by_cases ht : t = v
    · rw [if_pos ht] at h
      obtain rfl := Option.some.inj h
      exact ⟨Ext.refl m, fun q => absurd q hv, fun _ => ht⟩
    · rw [if_neg ht] at h
      cases h
theorem grow_sound {ok : Str → Str → Bool} : ∀ {l : List (Str × Str)} {m m' : Sub}, growS ok m l = some m' → Ext m m' ∧ ∀ p ∈ l, (isV p.1 = true → look m' p.1 = some p.2 ∧ ok p.1 p.2 = true) ∧ (¬ isV p.1 = true → p.1 = p.2)
  | [], m, m', h => by
    obtain rfl := Option.some.inj h
    exact ⟨Ext.refl m, fun p hp => (nomatch hp)⟩
  | q :: r, m, m', h => by
    have h : (stepS ok m q.1 q.2).bind (fun m' => growS ok m' r) = some m' := h
    cases e : stepS ok m q.1 q.2 with
    | none => rw [e] at h; cases h
    | some m1 =>
      rw [e] at h
      obtain ⟨a1, a2, a3⟩ := step_sound e
      obtain ⟨b1, b2⟩ := grow_sound (l := r) h
      refine ⟨a1.trans b1, fun p hp => ?_⟩
      rcases List.mem_cons.mp hp with rfl | hp
      · exact ⟨fun hv => ⟨b1 _ _ (a2 hv).1, (a2 hv).2⟩, a3⟩
      · exact b2 p hp
theorem step_complete {ok : Str → Str → Bool} {m : Sub} {t v : Str} {g : Str → Str} (a : Agr m g) (h1 : app g t = v) (h2 : isV t = true → ok t v = true) : ∃ m', stepS ok m t v = some m' ∧ Agr m' g := by
  unfold stepS app at *
  by_cases hv : isV t = true
  · rw [if_pos hv] at h1 ⊢
    rw [if_pos (h2 hv)]
    cases e : look m t with
    | none =>
      refine ⟨_, rfl, fun y u hy => ?_⟩
      rw [look_snoc] at hy
      cases e2 : look m y with
      | none =>
        rw [e2] at hy
        by_cases c : t = y
        · have hy : (if t = y then some v else none) = some u := hy
          rw [if_pos c] at hy
          rw [← c, h1]
          exact Option.some.inj hy
        · have hy : (if t = y then some v else none) = some u := hy
          rw [if_neg c] at hy
          cases hy
      | some w =>
        rw [e2] at hy
        obtain rfl := Option.some.inj hy
        exact a y w e2
    | some u =>
      have := a t u e
      exact ⟨m, if_pos (by rw [← this, h1]), a⟩
  · rw [if_neg hv] at h1 ⊢
    exact ⟨m, if_pos h1, a⟩
theorem grow_complete {ok : Str → Str → Bool} : ∀ {l : List (Str × Str)} {m : Sub} {g : Str → Str}, Agr m g → (∀ p ∈ l, app g p.1 = p.2 ∧ (isV p.1 = true → ok p.1 p.2 = true)) → ∃ m', growS ok m l = some m' ∧ Agr m' g
  | [], m, g, a, _ => ⟨m, rfl, a⟩
  | q :: r, m, g, a, h => by
    obtain ⟨h1, h2⟩ := h q List.mem_cons_self
    obtain ⟨m1, e1, a1⟩ := step_complete a h1 h2
    obtain ⟨m2, e2, a2⟩ := grow_complete (l := r) a1 fun p hp => h p (List.mem_cons_of_mem _ hp)
    refine ⟨m2, ?_, a2⟩
    show (stepS ok m q.1 q.2).bind (fun m' => growS ok m' r) = some m2
    rw [e1]
    exact e2
theorem zip_map_eq {s t : List Str} {f : Str → Str} (hl : s.length = t.length) (h : ∀ p ∈ s.zip t, f p.1 = p.2) : s.map f = t := by
  refine List.ext_getElem (by rw [List.length_map, hl]) fun i h1 h2 => ?_
  rw [List.length_map] at h1
  rw [List.getElem_map]
  refine h (s[i], t[i]) (List.mem_of_getElem? (i := i) ?_)
  rw [List.getElem?_zip_eq_some]
  exact ⟨List.getElem?_eq_getElem h1, List.getElem?_eq_getElem h2⟩
theorem zip_of_map {s : List Str} {f : Str → Str} {p : Str × Str} (h : p ∈ s.zip (s.map f)) : p.1 ∈ s ∧ f p.1 = p.2 := by
  obtain ⟨i, hi⟩ := List.mem_iff_getElem?.mp h
  obtain ⟨h1, h2⟩ := List.getElem?_zip_eq_some.mp hi
  rw [List.getElem?_map, h1] at h2
  exact ⟨List.mem_of_getElem? h1, Option.some.inj h2⟩
/-- a pattern's variables are bound and keep their conditions -/
def Good (ok : Str → Str → Bool) (m : Sub) (s : List Str) : Prop := ∀ z ∈ s, isV z = true → Bnd m z ∧ ok z (turnS m z) = true
theorem Good.ext {ok : Str → Str → Bool} {m m' : Sub} {s : List Str} (h : Good ok m s) (e : Ext m m') : Good ok m' s := fun z hz hv => ⟨e.bnd (h z hz hv).1, by rw [e.turn (h z hz hv).1]; exact (h z hz hv).2⟩
theorem Good.map {ok : Str → Str → Bool} {m m' : Sub} {s : List Str} (h : Good ok m s) (e : Ext m m') (k : KeyV m) (k' : KeyV m') : s.map (turnS m') = s.map (turnS m) := List.map_congr_left fun z hz => by
  by_cases hv : isV z = true
  · exact e.turn (h z hz hv).1
  · rw [turn_non (look_no k (Bool.eq_false_iff.mpr hv)), turn_non (look_no k' (Bool.eq_false_iff.mpr hv))]
theorem fit_sound {ts : List Ent} {s t : List Str} {m m' : Sub} (k : KeyV m) (h : fitS ts s t m = some m') : KeyV m' ∧ Ext m m' ∧ s.map (turnS m') = t ∧ Good (condOk ts) m' s ∧ m'.length ≤ m.length + s.length := by
  unfold fitS at h
  by_cases c : s.length = t.length
  · rw [if_pos c] at h
    obtain ⟨k1, l1⟩ := grow_keys k h
    obtain ⟨e1, h1⟩ := grow_sound h
    have each : ∀ p ∈ s.zip t, turnS m' p.1 = p.2 := fun p hp => by
      by_cases hv : isV p.1 = true
      · exact turn_of ((h1 p hp).1 hv).1
      · rw [turn_non (look_no k1 (Bool.eq_false_iff.mpr hv))]
        exact (h1 p hp).2 hv
    have em := zip_map_eq c each
    refine ⟨k1, e1, em, fun z hz hv => ?_, ?_⟩
    · obtain ⟨i, hi⟩ := List.mem_iff_getElem?.mp hz
      have hil := (List.getElem?_eq_some_iff.mp hi).1
      have hp : (z, t[i]) ∈ s.zip t := List.mem_of_getElem? (i := i) (by
        rw [List.getElem?_zip_eq_some]
        exact ⟨hi, List.getElem?_eq_getElem (by omega)⟩)
      obtain ⟨q1, q2⟩ := (h1 _ hp).1 hv
      exact ⟨⟨_, q1⟩, by rw [turn_of q1]; exact q2⟩
    · rw [List.length_zip] at l1
      omega
  · rw [if_neg c] at h
    cases h
theorem fit_complete {ts : List Ent} {s t : List Str} {m : Sub} {g : Str → Str} (a : Agr m g) (h : s.map (app g) = t) (hc : ∀ z ∈ s, isV z = true → condOk ts z (g z) = true) : ∃ m', fitS ts s t m = some m' ∧ Agr m' g := by
  subst h
  unfold fitS
  rw [if_pos (by rw [List.length_map])]
  refine grow_complete a fun p hp => ?_
  obtain ⟨h1, h2⟩ := zip_of_map hp
  refine ⟨h2, fun hv => ?_⟩
  have := hc p.1 h1 hv
  rw [← h2]
  unfold app
  rw [if_pos hv]
  exact this
/-- g turns the patterns into parts, and keeps the conditions -/
def SatG (ts : List Ent) (ss pats : List (List Str)) (g : Str → Str) : Prop := ∀ p ∈ pats, p.map (app g) ∈ ss ∧ ∀ z ∈ p, isV z = true → condOk ts z (g z) = true
/-- m turns the patterns into parts, all their variables bound -/
def SatM (ts : List Ent) (ss pats : List (List Str)) (m : Sub) : Prop := ∀ p ∈ pats, p.map (turnS m) ∈ ss ∧ Good (condOk ts) m p
theorem SatM.g {ts : List Ent} {ss pats : List (List Str)} {m : Sub} (h : SatM ts ss pats m) (k : KeyV m) : SatG ts ss pats (turnS m) := fun p hp => ⟨by
  have e : p.map (app (turnS m)) = p.map (turnS m) := List.map_congr_left fun z _ => (turn_app k z).symm
  rw [e]
  exact (h p hp).1, fun z hz hv => ((h p hp).2 z hz hv).2⟩
/-! the law's ways -/
theorem lay_sound {s r : List Str} {m m' : Sub} (k : KeyV m) (h : layS s r m = some m') : KeyV m' ∧ Ext m m' ∧ s.headD "" = r.headD "" ∧ s.length = r.length ∧ s.tail.map (turnS m') = r.tail ∧ Good (fun _ _ => true) m' s.tail := by
  unfold layS at h
  by_cases c : s.headD "" = r.headD "" ∧ s.length = r.length
  · rw [if_pos c] at h
    have hl : s.tail.length = r.tail.length := by rw [List.length_tail, List.length_tail, c.2]
    obtain ⟨k1, l1⟩ := grow_keys k h
    obtain ⟨e1, h1⟩ := grow_sound h
    refine ⟨k1, e1, c.1, c.2, zip_map_eq hl fun p hp => ?_, fun z hz hv => ⟨?_, rfl⟩⟩
    · by_cases hv : isV p.1 = true
      · exact turn_of ((h1 p hp).1 hv).1
      · rw [turn_non (look_no k1 (Bool.eq_false_iff.mpr hv))]
        exact (h1 p hp).2 hv
    · obtain ⟨i, hi⟩ := List.mem_iff_getElem?.mp hz
      have hil := (List.getElem?_eq_some_iff.mp hi).1
      have hp : (z, r.tail[i]) ∈ s.tail.zip r.tail := List.mem_of_getElem? (i := i) (by
        rw [List.getElem?_zip_eq_some]
        exact ⟨hi, List.getElem?_eq_getElem (by omega)⟩)
      exact ⟨_, ((h1 _ hp).1 hv).1⟩
  · rw [if_neg c] at h
    cases h
theorem lay_complete {s r : List Str} {m : Sub} {g : Str → Str} (a : Agr m g) (h0 : s.headD "" = r.headD "") (hl : s.length = r.length) (h : s.tail.map (app g) = r.tail) : ∃ m', layS s r m = some m' ∧ Agr m' g := by
  unfold layS
  rw [if_pos ⟨h0, hl⟩, ← h]
  refine grow_complete a fun p hp => ?_
  obtain ⟨h1, h2⟩ := zip_of_map hp
  exact ⟨h2, fun _ => rfl⟩
/-- a shape whose head is no variable is turned with its head -/
theorem map_head {s r : List Str} {f : Str → Str} (h0 : s ≠ []) (hf : f (s.headD "") = s.headD "") : s.map f = r ↔ s.headD "" = r.headD "" ∧ s.length = r.length ∧ s.tail.map f = r.tail := by
  cases s with
  | nil => exact absurd rfl h0
  | cons a t =>
    have hf : f a = a := hf
    cases r with
    | nil => exact ⟨fun h => (nomatch h), fun h => (nomatch h.2.1)⟩
    | cons b u =>
      show f a :: t.map f = b :: u ↔ a = b ∧ t.length + 1 = u.length + 1 ∧ t.map f = u
      rw [hf]
      constructor
      · intro h
        obtain ⟨h1, h2⟩ := List.cons.inj h
        exact ⟨h1, by rw [← h2, List.length_map], h2⟩
      · rintro ⟨h1, _, h2⟩
        rw [h1, h2]
/-- shapes with a table's name ahead -/
def HeadOk (s : List Str) : Prop := s ≠ [] ∧ isV (s.headD "") = false
theorem HeadOk.app {s : List Str} (h : HeadOk s) (g : Str → Str) : app g (s.headD "") = s.headD "" := by
  unfold Sw.app
  rw [if_neg (by rw [h.2]; decide)]
/-- what the ways have come to: places, and a match that turns the shapes into the rows there -/
structure WayOk (rs done : List (List Str)) (w : Way) : Prop where
  kv : KeyV w.1
  at_ : w.2.map (fun j => rs.getD j []) = done.map fun s => s.map (turnS w.1)
  lt : ∀ j ∈ w.2, j < rs.length
  bnd : ∀ s ∈ done, Good (fun _ _ => true) w.1 s
theorem ways_sound {rs : List (List Str)} : ∀ (ss done : List (List Str)) (ws : List Way), (∀ s ∈ ss, HeadOk s) → (∀ w ∈ ws, WayOk rs done w) → ∀ w ∈ waysS rs ws ss, WayOk rs (done ++ ss) w
  | [], done, ws, _, h, w, hw => by
    rw [List.append_nil]
    exact h w hw
  | s :: r, done, ws, ho, h, w, hw => by
    have e : done ++ s :: r = (done ++ [s]) ++ r := by rw [List.append_assoc]; rfl
    rw [e]
    refine ways_sound r (done ++ [s]) (ws.flatMap (nextW rs s)) (fun t ht => ho t (List.mem_cons_of_mem _ ht)) (fun w1 h1 => ?_) w hw
    obtain ⟨w0, h0, h2⟩ := List.mem_flatMap.mp h1
    obtain ⟨j, hj0, hj⟩ := List.mem_filterMap.mp h2
    have k := h w0 h0
    cases e2 : layS s (rs.getD j []) w0.1 with
    | none => rw [e2] at hj; cases hj
    | some m =>
      rw [e2] at hj
      obtain rfl := Option.some.inj hj
      obtain ⟨k1, x1, l1, l2, l3, l4⟩ := lay_sound k.kv e2
      have hs := ho s List.mem_cons_self
      have gs : Good (fun _ _ => true) m s := fun z hz hv => by
        cases s with
        | nil => cases hz
        | cons a t =>
          rcases List.mem_cons.mp hz with rfl | hz
          · have : isV z = false := hs.2
            rw [this] at hv
            cases hv
          · exact l4 z hz hv
      have em : s.map (turnS m) = rs.getD j [] := (map_head hs.1 (turn_non (look_no k1 hs.2))).mpr ⟨l1, l2, l3⟩
      refine ⟨k1, ?_, fun i hi => ?_, fun t ht => ?_⟩
      · show (w0.2 ++ [j]).map _ = _
        rw [List.map_append, List.map_append, k.at_]
        congr 1
        · exact List.map_congr_left fun t ht => ((k.bnd t ht).map x1 k.kv k1).symm
        · show [rs.getD j []] = [s.map (turnS m)]
          rw [em]
      · rcases List.mem_append.mp hi with hi | hi
        · exact k.lt i hi
        · rw [List.mem_singleton.mp hi]
          exact List.mem_range.mp hj0
      · rcases List.mem_append.mp ht with ht | ht
        · exact (k.bnd t ht).ext x1
        · rw [List.mem_singleton.mp ht]
          exact gs
theorem ways_complete {rs : List (List Str)} {g : Str → Str} : ∀ (ss : List (List Str)) (ws : List Way), (∀ s ∈ ss, HeadOk s ∧ s.map (app g) ∈ rs) → (∃ w ∈ ws, Agr w.1 g) → ∀ js : List Nat, js.length = ss.length → (∀ (i j : Nat) (s : List Str), js[i]? = some j → ss[i]? = some s → rs[j]? = some (s.map (app g))) → ∀ w0 ∈ ws, Agr w0.1 g → ∃ w ∈ waysS rs ws ss, Agr w.1 g ∧ w.2 = w0.2 ++ js
  | [], ws, _, _, js, hl, _, w0, h0, a0 => by
    obtain rfl := List.eq_nil_of_length_eq_zero hl
    exact ⟨w0, h0, a0, by rw [List.append_nil]⟩
  | s :: r, ws, hs, _, [], hl, _, _, _, _ => by cases hl
  | s :: r, ws, hs, _, j :: js, hl, hj, w0, h0, a0 => by
    have hjs := hj 0 j s rfl rfl
    obtain ⟨ho, _⟩ := hs s List.mem_cons_self
    obtain ⟨q1, q2, q3⟩ := (map_head (r := s.map (app g)) ho.1 (ho.app g)).mp rfl
    obtain ⟨m, e, am⟩ := lay_complete (r := s.map (app g)) a0 q1 q2 q3
    have hm : ((m, w0.2 ++ [j]) : Way) ∈ ws.flatMap (nextW rs s) := by
      refine List.mem_flatMap.mpr ⟨w0, h0, List.mem_filterMap.mpr ⟨j, List.mem_range.mpr (List.getElem?_eq_some_iff.mp hjs).1, ?_⟩⟩
      rw [getD_of hjs, e]
      rfl
    obtain ⟨w, hw, aw, ew⟩ := ways_complete r (ws.flatMap (nextW rs s)) (fun t ht => hs t (List.mem_cons_of_mem _ ht)) ⟨_, hm, am⟩ js (Nat.succ.inj hl) (fun i j s h1 h2 => hj (i + 1) j s h1 h2) _ hm am
    exact ⟨w, hw, aw, by rw [ew, List.append_assoc]; rfl⟩
theorem places {rs : List (List Str)} {f : List Str → List Str} : ∀ (ss : List (List Str)), (∀ s ∈ ss, f s ∈ rs) → ∃ js : List Nat, js.length = ss.length ∧ ∀ (i j : Nat) (s : List Str), js[i]? = some j → ss[i]? = some s → rs[j]? = some (f s)
  | [], _ => ⟨[], rfl, fun i j s h => (nomatch h)⟩
  | s :: r, h => by
    obtain ⟨js, h1, h2⟩ := places r fun t ht => h t (List.mem_cons_of_mem _ ht)
    obtain ⟨j, hj⟩ := List.mem_iff_getElem?.mp (h s List.mem_cons_self)
    refine ⟨j :: js, by rw [List.length_cons, List.length_cons, h1], fun i k t e1 e2 => ?_⟩
    cases i with
    | zero =>
      obtain rfl := Option.some.inj e1
      obtain rfl := Option.some.inj e2
      exact hj
    | succ i => exact h2 i k t e1 e2
/-- a row is said: some g turns the shapes into rows, the first into this one, and keeps the conditions -/
def SaidG (rs : List (List Str)) (k : Pledge) (s : List Str) : Prop := ∃ g : Str → Str, k.s.map (app g) = s ∧ (∀ t ∈ k.s :: k.ss, t.map (app g) ∈ rs) ∧ ∀ e ∈ k.es, g (keyS e.1) ∈ e.2.2
end Sw
namespace Sw
open PySem PySem.Spec PyProof.Rows L2
theorem said_iff {rs : List (List Str)} {k : Pledge} (hh : ∀ t ∈ k.s :: k.ss, HeadOk t) (hk : ∀ e ∈ k.es, isV (keyS e.1) = true ∧ keyS e.1 ∈ termsOf (k.s :: k.ss)) (s : List Str) : s ∈ saidOf rs k ↔ SaidG rs k s := by
  unfold saidOf SaidG
  constructor
  · intro h
    obtain ⟨w, hw, rfl⟩ := List.mem_map.mp h
    obtain ⟨hw1, hw2⟩ := List.mem_filter.mp hw
    have wo := ways_sound (rs := rs) (k.s :: k.ss) [] [([], [])] hh (fun w hw => by
      rw [List.mem_singleton.mp hw]
      exact ⟨keyV_nil, rfl, fun j hj => (nomatch hj), fun s hs => (nomatch hs)⟩) w hw1
    rw [List.nil_append] at wo
    have pl := ways_all hw1
    have ea : ∀ t : List Str, t.map (app (turnS w.1)) = t.map (turnS w.1) := fun t => List.map_congr_left fun z _ => (turn_app wo.kv z).symm
    refine ⟨turnS w.1, ?_, fun t ht => ?_, fun e he => ?_⟩
    · rw [ea]
      have h1 := wo.at_
      cases e : w.2 with
      | nil => rw [e] at h1; cases h1
      | cons j js =>
        rw [e] at h1
        exact (List.cons.inj h1).1.symm
    · rw [ea]
      have h1 : t.map (turnS w.1) ∈ w.2.map fun j => rs.getD j [] := by
        rw [wo.at_]
        exact List.mem_map.mpr ⟨t, ht, rfl⟩
      obtain ⟨j, hj, ej⟩ := List.mem_map.mp h1
      rw [← ej, getD_of (List.getElem?_eq_getElem (wo.lt j hj))]
      exact List.getElem_mem _
    · have h1 := List.all_eq_true.mp hw2 e he
      unfold okE at h1
      obtain ⟨u, hu⟩ := pl.bnd _ (hk e he).2 (hk e he).1
      rw [hu] at h1
      rw [turn_of hu]
      exact of_decide_eq_true h1
  · rintro ⟨g, rfl, h2, h3⟩
    obtain ⟨js, hl, hj⟩ := places (rs := rs) (f := fun s : List Str => s.map (app g)) (k.s :: k.ss) h2
    obtain ⟨w, hw, aw, ew⟩ := ways_complete (rs := rs) (g := g) (k.s :: k.ss) [([], [])] (fun s hs => ⟨hh s hs, h2 s hs⟩) ⟨_, List.mem_singleton.mpr rfl, agr_nil g⟩ js hl hj _ (List.mem_singleton.mpr rfl) (agr_nil g)
    have pl := ways_all hw
    refine List.mem_map.mpr ⟨w, List.mem_filter.mpr ⟨hw, List.all_eq_true.mpr fun e he => ?_⟩, ?_⟩
    · obtain ⟨u, hu⟩ := pl.bnd _ (hk e he).2 (hk e he).1
      unfold okE
      rw [hu]
      have := aw _ _ hu
      exact decide_eq_true (by rw [← this]; exact h3 e he)
    · rw [ew, List.nil_append]
      cases js with
      | nil => cases hl
      | cons j js => exact getD_of (hj 0 j k.s rfl rfl)
end Sw
/-! ## the program's own matches -/
namespace Sw
open PySem PySem.Spec PyProof.Rows L2
/-- at a: a list or a tuple -/
def Sq (K : PySem.W.Frag) (H : Hp) (a : Addr) (xs : List V) : Prop := SqL K H a xs ∨ SqT K H a xs
theorem Sq.same {K : PySem.W.Frag} {H H' : Hp} {a : Addr} {xs : List V} (h : Sq K H a xs) (s : Same H H') : Sq K H' a xs := h.imp s.seq (same_seqT s)
/-- fit(pattern, terms, among, match) -/
def spFit (K : PySem.W.Frag) : Sp := fun vs H Q _ => ∃ (a r L b : Addr) (s t : List Str) (m : Sub) (ts : List Ent), vs = [.ref a, .ref r, .ref L, .ref b] ∧ SqT K H a (s.map V.str) ∧ SqT K H r (t.map V.str) ∧ TDict H L ts ∧ H b = some (.dK (kvS m)) ∧ KeyV m ∧ s.length ≤ 100 ∧ m.length ≤ 1000 ∧
  (fitS ts s t m = none → ∀ H' : Hp, Same H H' → Q .non H') ∧ ∀ m', fitS ts s t m = some m' → ∀ (H' : Hp) (D : Addr), Same H H' → H D = none → H' D = some (.dK (kvS m')) → Q (.ref D) H'
/-- None, or a match at an address -/
def OptV (H : Hp) (v : V) (o : Option Sub) : Prop := match o with | none => v = .non | some m => ∃ a, v = .ref a ∧ H a = some (.dK (kvS m))
theorem OptV.same {H H' : Hp} {v : V} {o : Option Sub} (h : OptV H v o) (s : Same H H') : OptV H' v o := by
  cases o with
  | none => exact h
  | some m => obtain ⟨a, h1, h2⟩ := h; exact ⟨a, h1, s _ _ h2⟩
theorem OptV.lst {H : Hp} {v : V} {o : Option Sub} {D : Addr} {xs : List V} {u : HO} (h : OptV H v o) (hD : H D = some (.lst xs)) : OptV (upd H D u) v o := by
  cases o with
  | none => exact h
  | some m => obtain ⟨a, h1, h2⟩ := h; exact ⟨a, h1, by rw [upd_ne (ne_of h2 hD fun z => nomatch z)]; exact h2⟩
/-- matches that may be None -/
structure OptsV (H : Hp) (vs : List V) (os : List (Option Sub)) : Prop where
  len : vs.length = os.length
  all : ∀ (i : Nat) (v : V), vs[i]? = some v → ∃ o, os[i]? = some o ∧ OptV H v o
theorem OptsV.nil {H : Hp} : OptsV H [] [] := ⟨rfl, fun _ _ e => (nomatch e)⟩
theorem OptsV.same {H H' : Hp} {vs : List V} {os : List (Option Sub)} (h : OptsV H vs os) (s : Same H H') : OptsV H' vs os := ⟨h.len, fun i v e => let ⟨o, h1, h2⟩ := h.all i v e; ⟨o, h1, h2.same s⟩⟩
theorem OptsV.lst {H : Hp} {vs xs : List V} {os : List (Option Sub)} {D : Addr} {u : HO} (h : OptsV H vs os) (hD : H D = some (.lst xs)) : OptsV (upd H D u) vs os := ⟨h.len, fun i v e => let ⟨o, h1, h2⟩ := h.all i v e; ⟨o, h1, h2.lst hD⟩⟩
theorem OptsV.snoc {H : Hp} {vs : List V} {os : List (Option Sub)} {v : V} {o : Option Sub} (h : OptsV H vs os) (q : OptV H v o) : OptsV H (vs ++ [v]) (os ++ [o]) := by
  refine ⟨by rw [List.length_append, List.length_append, h.len]; rfl, fun i u e => ?_⟩
  by_cases hi : i < vs.length
  · rw [List.getElem?_append_left hi] at e
    obtain ⟨o', h1, h2⟩ := h.all i u e
    exact ⟨o', by rw [List.getElem?_append_left (by rw [← h.len]; exact hi)]; exact h1, h2⟩
  · have ei : i = vs.length := by
      have := (List.getElem?_eq_some_iff.mp e).1
      rw [List.length_append] at this
      simp at this
      omega
    subst ei
    rw [List.getElem?_append_right (Nat.le_refl _), Nat.sub_self] at e
    obtain rfl : v = u := Option.some.inj e
    exact ⟨o, by rw [h.len, List.getElem?_append_right (Nat.le_refl _), Nat.sub_self]; rfl, q⟩
/-- fits(pattern, parts, among, match) -/
def spFits (K : PySem.W.Frag) : Sp := fun vs H Q _ => ∃ (a R L b : Addr) (s : List Str) (xs : List V) (ss : List (List Str)) (m : Sub) (ts : List Ent), vs = [.ref a, .ref R, .ref L, .ref b] ∧ SqT K H a (s.map V.str) ∧ Sq K H R xs ∧ PartsV K H xs ss ∧ TDict H L ts ∧ H b = some (.dK (kvS m)) ∧ KeyV m ∧ s.length ≤ 100 ∧ m.length ≤ 1000 ∧ ss.length ≤ 1000 ∧
  ∀ (H' : Hp) (D : Addr) (ds : List V), Same H H' → H D = none → H' D = some (.lst ds) → OptsV H' ds ((ss.filterMap fun t => fitS ts s t m).map some) → Q (.ref D) H'
/-- fewest(choices) -/
def spFewest (K : PySem.W.Frag) : Sp := fun vs H Q _ => ∃ (C : Addr) (xs : List V), vs = [.ref C] ∧ SqL K H C xs ∧ xs ≠ [] ∧ xs.length ≤ 100 ∧ (∀ v ∈ xs, ∃ a ys, v = .ref a ∧ SqL K H a ys) ∧ ∀ (H' : Hp) (n : Nat), Same H H' → n < xs.length → Q (.int (n : Int)) H'
/-- full_match(match, patterns, parts, among) -/
def spFull (K : PySem.W.Frag) (d : Nat) : Sp := fun vs H Q _ => ∃ (b A R L : Addr) (m : Sub) (ys xs : List V) (pats ss : List (List Str)) (ts : List Ent), vs = [.ref b, .ref A, .ref R, .ref L] ∧ H b = some (.dK (kvS m)) ∧ KeyV m ∧ m.length + 100 * d ≤ 1000 ∧ SqT K H A ys ∧ PartsV K H ys pats ∧ pats.length < d ∧ (∀ s ∈ pats, s.length ≤ 100) ∧ Sq K H R xs ∧ PartsV K H xs ss ∧ ss.length ≤ 1000 ∧ TDict H L ts ∧
  ((¬ ∃ g, Agr m g ∧ SatG ts ss pats g) → ∀ H' : Hp, Same H H' → Q .non H') ∧ ∀ (H' : Hp) (D : Addr) (m' : Sub), Same H H' → H' D = some (.dK (kvS m')) → KeyV m' → Ext m m' → SatM ts ss pats m' → m'.length ≤ m.length + 100 * d → Q (.ref D) H'
theorem walk_zipT {K : PySem.W.Frag} {a b : Addr} {xs ys : List V} {n : Nat} (hn : n = min xs.length ys.length) : Walk (RZ.ItzT K a b) n (fun H => SqT K H a xs ∧ SqT K H b ys) (YPair (fun i => xs[i]?) (fun i => ys[i]?)) := by
  subst hn
  refine ⟨fun i _ hi q => ?_, fun _ q => ⟨xs, ys, q.1, q.2, by omega⟩, fun i H v H' _ q y => ?_⟩
  · have h1 : i < xs.length := by omega
    have h2 : i < ys.length := by omega
    exact ⟨xs, ys, xs[i], ys[i], q.1, q.2, by simp [h1], by simp [h2]⟩
  · obtain ⟨T, x, z, h1, h2, h3, h4, h5⟩ := y
    exact ⟨T, x, z, h1, h2, h3, h4 xs q.1, h5 ys q.2⟩
end Sw
namespace Sw
theorem ite_both {c : Prop} [Decidable c] {M Y : Prop} (hY : Y) (hM : c → Y → M) : if c then M else Y := by
  by_cases h : c
  · rw [if_pos h]
    exact hM h hY
  · rw [if_neg h]
    exact hY
end Sw
/-! ## lists or tuples; whole slices and sums of tuples -/
namespace Sw
open PySem PySem.Spec PyProof.Rows L2
def iSq (K : PySem.W.Frag) (te : TE) : TI := fun σ H R => te σ H fun v H1 => ∃ a xs, v = .ref a ∧ Sq K H1 a xs ∧ ∀ (J : It) (G : Hp → Prop), Walk J xs.length G (YAt xs) → (∀ H', Same H1 H' → G H') → R J H1
theorem pi_sq {X : Cx} {tg e : Expr} {t : TE} (h : PE X e t) : PI X tg e (iSq X.K t) := by
  refine ⟨fun pins s σ H R I q => ?_⟩
  have h2 : PE X e (fun σ' H' Q => σ' = σ ∧ H' = H ∧ t σ' H' fun v H1 => ∃ a xs, v = .ref a ∧ Sq X.K H1 a xs ∧ Q v H1 ∧ ∀ (J : It) (G : Hp → Prop), Walk J xs.length G (YAt xs) → (∀ H', Same H1 H' → G H') → R J H1) := ⟨fun pins s σ H Q I ⟨_, _, q⟩ => thn (h.run pins s σ H _ I q) fun v s1 ⟨x, H1, I1, r1, a, xs, e, _, qq, _⟩ => ⟨x, H1, I1, r1, qq⟩⟩
  refine thn (h.run pins s σ H _ I q) fun v s1 ⟨x, H1, I1, r1, q1⟩ => ?_
  obtain ⟨a, xs, e, hq, q⟩ := q1
  subst e
  cases r1
  rcases hq with hq | hq
  · obtain ⟨its, rv, p, hz⟩ := I1.list hq
    refine wpAny_pyIter_list p.isList ?_
    refine ⟨s1.heap.objs.size, [s1.heap.objs.size], _, _, H1, rfl, I1.kept (t' := s1.toks) fun b o e => Heap.get?_push_of_some _ e, turn_list a _, ⟨_, Heap.get?_push_size _ rfl, rfl, rfl⟩, fun b hb => ?_, q _ _ walk_list fun H' s => s.seq hq⟩
    have e : b = s1.heap.objs.size := by simpa using hb
    subst e
    exact I1.fpOk (Nat.le_refl _) (I1.hok.fresh (Nat.le_refl _))
  · obtain ⟨its, rv, p, hz⟩ := I1.tuple hq
    refine wpAny_pyIter_tuple (show s1.heap.IsTuple a its.toArray from p) ?_
    refine ⟨s1.heap.objs.size, [s1.heap.objs.size], _, _, H1, rfl, I1.kept (t' := s1.toks) fun b o e => Heap.get?_push_of_some _ e, turn_tuple a _, ⟨_, Heap.get?_push_size _ rfl, rfl, rfl⟩, fun b hb => ?_, q _ _ walk_tup fun H' s => same_seqT s hq⟩
    have e : b = s1.heap.objs.size := by simpa using hb
    subst e
    exact I1.fpOk (Nat.le_refl _) (I1.hok.fresh (Nat.le_refl _))
def rNN : R2 := fun x y H Q => y = .non ∧ Q (.bl (!decide (x = .non))) H
theorem op_NN {X : Cx} : OpR X (compareOp .IsNot) rNN := op_notN
theorem cut_whole {xs : List V} {lo hi : Option Int} (h : HT.sIx xs.length 0 lo = 0 ∧ HT.sIx xs.length xs.length hi = xs.length) : cutV xs lo hi = xs := by
  unfold cutV
  rw [h.1, h.2]
  simp
theorem sl_use {K : PySem.W.Frag} {H : Hp} {a : Addr} {xs : List V} {lo hi : Option Int} {Q : VK} (h : SqT K H a xs) (q : ∀ (H' : Hp) (p : Addr), Same H H' → SqT K H' p (cutV xs lo hi) → Q (.ref p) H') : rSlA K (.ref a) lo hi H Q :=
  ⟨a, xs, rfl, h, fun c => q H a (Same.refl _) (by rw [cut_whole c]; exact h), fun _ p np => q _ p (same_new np) (SqT.of upd_same)⟩
theorem cat_use {K : PySem.W.Frag} {H : Hp} {a b : Addr} {xs ys : List V} {Q : VK} (h1 : SqT K H a xs) (h2 : SqT K H b ys) (hl : xs.length + ys.length ≤ sizeLine) (q : ∀ (H' : Hp) (p : Addr), Same H H' → SqT K H' p (xs ++ ys) → Q (.ref p) H') : rCatA K (.ref a) (.ref b) H Q :=
  ⟨a, b, xs, ys, rfl, rfl, h1, h2, hl, fun e => q H b (Same.refl _) (by rw [e]; exact h2), fun _ e => q H a (Same.refl _) (by rw [e, List.append_nil]; exact h1), fun _ _ p np => q _ p (same_new np) (SqT.of upd_same)⟩
theorem cut_from2 (xs : List V) (k : Nat) : cutV xs (some (k : Int)) none = xs.drop k := by
  unfold cutV
  rw [HT.sIx_none, HT.sIx_nat]
  by_cases h : k ≤ xs.length
  · rw [Nat.min_eq_left h, List.take_of_length_le]
    rw [List.length_drop]
    exact Nat.le_refl _
  · rw [Nat.min_eq_right (by omega), Nat.sub_self, List.take_zero, List.drop_eq_nil_of_le (by omega)]
theorem PartsV.takeV {K : PySem.W.Frag} {H : Hp} {xs : List V} {ss : List (List Str)} (h : PartsV K H xs ss) (n : Nat) : PartsV K H (xs.take n) (ss.take n) := by
  refine ⟨by rw [List.length_take, List.length_take, h.len], fun i v e => ?_⟩
  rw [List.getElem?_take] at e
  by_cases c : i < n
  · rw [if_pos c] at e
    obtain ⟨s, h1, q, h2, h3⟩ := h.all i v e
    exact ⟨s, by rw [List.getElem?_take, if_pos c]; exact h1, q, h2, h3⟩
  · rw [if_neg c] at e
    cases e
theorem PartsV.dropV {K : PySem.W.Frag} {H : Hp} {xs : List V} {ss : List (List Str)} (h : PartsV K H xs ss) (n : Nat) : PartsV K H (xs.drop n) (ss.drop n) := by
  refine ⟨by rw [List.length_drop, List.length_drop, h.len], fun i v e => ?_⟩
  rw [List.getElem?_drop] at e
  obtain ⟨s, h1, q, h2, h3⟩ := h.all (n + i) v e
  exact ⟨s, by rw [List.getElem?_drop]; exact h1, q, h2, h3⟩
theorem PartsV.app {K : PySem.W.Frag} {H : Hp} {xs ys : List V} {ss ts : List (List Str)} (h : PartsV K H xs ss) (h' : PartsV K H ys ts) : PartsV K H (xs ++ ys) (ss ++ ts) := by
  refine ⟨by rw [List.length_append, List.length_append, h.len, h'.len], fun i v e => ?_⟩
  by_cases c : i < xs.length
  · rw [List.getElem?_append_left c] at e
    obtain ⟨s, h1, q, h2, h3⟩ := h.all i v e
    exact ⟨s, by rw [List.getElem?_append_left (by rw [← h.len]; exact c)]; exact h1, q, h2, h3⟩
  · rw [List.getElem?_append_right (by omega)] at e
    obtain ⟨s, h1, q, h2, h3⟩ := h'.all _ v e
    exact ⟨s, by rw [List.getElem?_append_right (by rw [← h.len]; omega), ← h.len]; exact h1, q, h2, h3⟩
theorem PartsV.hop {K : PySem.W.Frag} {H : Hp} {D : Addr} {xs zs : List V} {ss : List (List Str)} {o : HO} (h : PartsV K H xs ss) (hD : H D = some (.lst zs)) : PartsV K (upd H D o) xs ss :=
  ⟨h.len, fun i v e => let ⟨s, h1, q, h2, h3⟩ := h.all i v e; ⟨s, h1, q, h2, sqT_upd h3 hD (fun ys => ⟨fun z => (nomatch z), fun u z => (nomatch z)⟩)⟩⟩
/-- choices: for each pattern the list of its ways -/
structure ChoicesV (H : Hp) (vs : List V) (cs : List (List Sub)) : Prop where
  len : vs.length = cs.length
  all : ∀ (i : Nat) (v : V), vs[i]? = some v → ∃ c, cs[i]? = some c ∧ ∃ a ds, v = .ref a ∧ H a = some (.lst ds) ∧ OptsV H ds (c.map some)
theorem ChoicesV.nil {H : Hp} : ChoicesV H [] [] := ⟨rfl, fun _ _ e => (nomatch e)⟩
theorem ChoicesV.same {H H' : Hp} {vs : List V} {cs : List (List Sub)} (h : ChoicesV H vs cs) (s : Same H H') : ChoicesV H' vs cs := ⟨h.len, fun i v e => let ⟨c, h1, a, ds, h2, h3, h4⟩ := h.all i v e; ⟨c, h1, a, ds, h2, s _ _ h3, h4.same s⟩⟩
/-- a list that is changed and holds none of its own -/
theorem ChoicesV.far {H : Hp} {vs xs : List V} {cs : List (List Sub)} {D : Addr} {u : HO} (h : ChoicesV H vs cs) (hD : H D = some (.lst xs)) (n : ∀ v ∈ vs, v ≠ .ref D) : ChoicesV (upd H D u) vs cs := ⟨h.len, fun i v e => by
  obtain ⟨c, h1, a, ds, rfl, h3, h4⟩ := h.all i v e
  have na : a ≠ D := fun z => n _ (List.mem_of_getElem? e) (by rw [z])
  exact ⟨c, h1, a, ds, rfl, by rw [upd_ne na]; exact h3, h4.lst hD⟩⟩
theorem ChoicesV.snoc {H : Hp} {vs ds : List V} {cs : List (List Sub)} {a : Addr} {c : List Sub} (h : ChoicesV H vs cs) (ha : H a = some (.lst ds)) (q : OptsV H ds (c.map some)) : ChoicesV H (vs ++ [.ref a]) (cs ++ [c]) := by
  refine ⟨by rw [List.length_append, List.length_append, h.len]; rfl, fun i u e => ?_⟩
  by_cases hi : i < vs.length
  · rw [List.getElem?_append_left hi] at e
    obtain ⟨o', h1, h2⟩ := h.all i u e
    exact ⟨o', by rw [List.getElem?_append_left (by rw [← h.len]; exact hi)]; exact h1, h2⟩
  · have ei : i = vs.length := by
      have := (List.getElem?_eq_some_iff.mp e).1
      rw [List.length_append] at this
      simp at this
      omega
    subst ei
    rw [List.getElem?_append_right (Nat.le_refl _), Nat.sub_self] at e
    obtain rfl : V.ref a = u := Option.some.inj e
    exact ⟨c, by rw [h.len, List.getElem?_append_right (Nat.le_refl _), Nat.sub_self]; rfl, a, ds, rfl, ha, q⟩
end Sw
/-! ## what a promise says -/
namespace Sw
open PySem PySem.Spec PyProof.Rows L2
/-- some g turns the part into this row and the partners into rows, and keeps the conditions -/
def SaysG (ts : List Ent) (s : List Str) (ss rs : List (List Str)) (t : List Str) : Prop := ∃ g : Str → Str, s.map (app g) = t ∧ (∀ z ∈ s, isV z = true → condOk ts z (g z) = true) ∧ SatG ts rs ss g
/-- a promise of a size that calls bear -/
structure PromOk (s : List Str) (ss : List (List Str)) : Prop where
  sl : s.length ≤ 100
  two : ss.length ≤ 2
  sls : ∀ p ∈ ss, p.length ≤ 100
/-- promise.match_for(row, world) -/
def spMatchFor (K : PySem.W.Frag) (CP : Addr) : Sp := fun vs H Q _ => ∃ (x p qA lA r W : Addr) (s : List Str) (xs : List V) (ss : List (List Str)) (ts : List Ent) (t : List Str) (ys : List V) (rs : List (List Str)), vs = [.ref x, .ref r, .ref W] ∧ PromAt K CP H x p qA lA s xs ss ts ∧ PromOk s ss ∧ SqT K H r (t.map V.str) ∧ Sq K H W ys ∧ PartsV K H ys rs ∧ rs.length ≤ 1000 ∧
  ((¬ SaysG ts s ss rs t) → ∀ H' : Hp, Same H H' → Q .non H') ∧ ∀ (H' : Hp) (D : Addr) (m : Sub), Same H H' → H' D = some (.dK (kvS m)) → KeyV m → s.map (turnS m) = t → Good (condOk ts) m s → SatM ts rs ss m → m.length ≤ 1000 → Q (.ref D) H'
/-- promise.says(row, world) -/
def spSays (K : PySem.W.Frag) (CP : Addr) : Sp := fun vs H Q _ => ∃ (x p qA lA r W : Addr) (s : List Str) (xs : List V) (ss : List (List Str)) (ts : List Ent) (t : List Str) (ys : List V) (rs : List (List Str)), vs = [.ref x, .ref r, .ref W] ∧ PromAt K CP H x p qA lA s xs ss ts ∧ PromOk s ss ∧ SqT K H r (t.map V.str) ∧ Sq K H W ys ∧ PartsV K H ys rs ∧ rs.length ≤ 1000 ∧
  ∀ (H' : Hp) (k : Bool), Same H H' → (k = true ↔ SaysG ts s ss rs t) → Q (.bl k) H'
/-- promise.kept(world, store) -/
def spKept (K : PySem.W.Frag) (CP : Addr) : Sp := fun vs H Q _ => ∃ (x p qA lA W T : Addr) (s : List Str) (xs : List V) (ss : List (List Str)) (ts : List Ent) (lw lt : List PR), vs = [.ref x, .ref W, .ref T] ∧ PromAt K CP H x p qA lA s xs ss ts ∧ PromOk s ss ∧ SqL K H W (lw.map rv) ∧ RowsP K H lw ∧ lw.length ≤ 1000 ∧ SqL K H T (lt.map rv) ∧ RowsP K H lt ∧
  ∀ (H' : Hp) (k : Bool), Same H H' → (k = true ↔ ∀ t ∈ lw.map (·.2), t ∉ lt.map (·.2) → ¬ SaysG ts s ss (lw.map (·.2)) t) → Q (.bl k) H'
theorem says_of {ts : List Ent} {s : List Str} {ss rs : List (List Str)} {t : List Str} {m : Sub} (k : KeyV m) (h1 : s.map (turnS m) = t) (h2 : Good (condOk ts) m s) (h3 : SatM ts rs ss m) : SaysG ts s ss rs t :=
  ⟨turnS m, by rw [← h1]; exact List.map_congr_left fun z _ => (turn_app k z).symm, fun z hz hv => (h2 z hz hv).2, h3.g k⟩
/-- what it says, told by the conditions as they were given -/
theorem cond_iff {es ts : List Ent} {parts : List (List Str)} (al : Alike es ts) (nd : (es.map (·.1)).Nodup) (hk : ∀ e ∈ es, isV (keyS e.1) = true ∧ e.1 = (Sum.inr (keyS e.1) : Key) ∧ ∃ p ∈ parts, keyS e.1 ∈ p) (g : Str → Str) : (∀ p ∈ parts, ∀ z ∈ p, isV z = true → condOk ts z (g z) = true) ↔ ∀ e ∈ es, g (keyS e.1) ∈ e.2.2 := by
  have fnd : ∀ e ∈ es, ∃ r, (ts.find? fun r => decide (r.1 = e.1)) = some r ∧ ∀ x, x ∈ r.2.2 ↔ x ∈ e.2.2 := by
    intro e he
    unfold Alike at al
    induction al with
    | nil => cases he
    | cons h _ ih =>
      rename_i e0 r0 es0 rs0 tl
      have nd' : (e0.1 :: es0.map (·.1)).Nodup := nd
      obtain ⟨n1, n2⟩ := List.nodup_cons.mp nd'
      rcases List.mem_cons.mp he with rfl | he
      · exact ⟨r0, by rw [List.find?_cons_of_pos (by exact decide_eq_true h.1)], h.2⟩
      · have ne : e0.1 ≠ e.1 := fun z => n1 (by rw [z]; exact List.mem_map.mpr ⟨e, he, rfl⟩)
        obtain ⟨r, hr, hx⟩ := ih n2 (fun e he => hk e (List.mem_cons_of_mem _ he)) he
        refine ⟨r, ?_, hx⟩
        rw [List.find?_cons_of_neg (by rw [h.1, decide_eq_false ne]; decide)]
        exact hr
  have back : ∀ r ∈ ts, ∃ e ∈ es, e.1 = r.1 := by
    intro r hr
    have hk := al.keys
    have : r.1 ∈ ts.map (·.1) := List.mem_map.mpr ⟨r, hr, rfl⟩
    rw [hk] at this
    exact List.mem_map.mp this
  constructor
  · intro h e he
    obtain ⟨h1, h2, p, hp, hz⟩ := hk e he
    have := h p hp _ hz h1
    unfold condOk at this
    obtain ⟨r, hr, hx⟩ := fnd e he
    rw [← h2, hr] at this
    exact (hx _).mp (of_decide_eq_true this)
  · intro h p hp z hz hv
    unfold condOk
    cases hf : ts.find? fun r => decide (r.1 = (Sum.inr z : Key)) with
    | none => rfl
    | some r =>
      have hrm := List.mem_of_find?_eq_some hf
      have hrk := List.find?_some hf
      obtain ⟨e, he, ee⟩ := back r hrm
      have ez : e.1 = (Sum.inr z : Key) := by rw [ee]; exact of_decide_eq_true hrk
      obtain ⟨r', hr', hx⟩ := fnd e he
      rw [ez, hf] at hr'
      obtain rfl := Option.some.inj hr'
      have hk2 : keyS e.1 = z := by rw [ez]; rfl
      have := h e he
      rw [hk2] at this
      exact decide_eq_true ((hx _).mpr this)
end Sw
/-! ## k09: both sides say the same -/
namespace Sw
open PySem PySem.Spec PyProof.Rows L2
theorem PartGood.headOk {rows : List Rw} {s : List Str} (p : PartGood rows s) (nv : ∀ r ∈ rows, isV r.nm = false) : HeadOk s := by
  obtain ⟨r, hr, h1, _⟩ := p.row
  cases s with
  | nil => cases h1
  | cons a t =>
    obtain rfl := Option.some.inj h1
    exact ⟨List.cons_ne_nil _ _, nv r hr⟩
theorem mem_terms {z : Str} {ss : List (List Str)} (h : z ∈ termsOf ss) : ∃ p ∈ ss, z ∈ p := by
  unfold termsOf at h
  obtain ⟨p, hp, hz⟩ := List.mem_flatMap.mp h
  exact ⟨p, hp, List.mem_of_mem_tail hz⟩
theorem PledgeOk.keyz {rows : List Rw} {vals : List Str} {k : Pledge} (ok : PledgeOk rows vals k) : ∀ e ∈ k.es, isV (keyS e.1) = true ∧ e.1 = (Sum.inr (keyS e.1) : Key) ∧ keyS e.1 ∈ termsOf (k.s :: k.ss) := fun e he => by
  obtain ⟨v, ev, hv, _⟩ := ok.kv e he
  have e1 : keyS e.1 = v := by rw [ev]; rfl
  rw [e1]
  refine ⟨hv, ev, ok.good.ks v ?_ (by rw [← isV_isVar]; exact hv)⟩
  have h1 : (Sum.inr v : Key) ∈ k.es.map (·.1) := List.mem_map.mpr ⟨e, he, ev⟩
  rw [ok.keys] at h1
  obtain ⟨y, hy, hy2⟩ := List.mem_map.mp h1
  rw [← Sum.inr.inj hy2]
  exact hy
theorem says_said {rows : List Rw} {vals : List Str} {k : Pledge} {ts : List Ent} (ok : PledgeOk rows vals k) (nv : ∀ r ∈ rows, isV r.nm = false) (nd : (k.es.map (·.1)).Nodup) (al : Alike k.es ts) (rs : List (List Str)) (t : List Str) : (t ∈ rs ∧ SaysG ts k.s k.ss rs t) ↔ t ∈ saidOf rs k := by
  rw [said_iff (fun t ht => (ok.good.parts t ht).headOk nv) (fun e he => ⟨(ok.keyz e he).1, (ok.keyz e he).2.2⟩)]
  have ci := cond_iff (parts := k.s :: k.ss) al nd fun e he => ⟨(ok.keyz e he).1, (ok.keyz e he).2.1, mem_terms (ok.keyz e he).2.2⟩
  unfold SaysG SaidG
  constructor
  · rintro ⟨ht, g, h1, h2, h3⟩
    refine ⟨g, h1, fun p hp => ?_, (ci g).mp fun p hp => ?_⟩
    · rcases List.mem_cons.mp hp with rfl | hp
      · rw [h1]
        exact ht
      · exact (h3 p hp).1
    · rcases List.mem_cons.mp hp with rfl | hp
      · exact h2
      · exact (h3 p hp).2
  · rintro ⟨g, h1, h2, h3⟩
    have c := (ci g).mpr h3
    exact ⟨by rw [← h1]; exact h2 _ List.mem_cons_self, g, h1, c _ List.mem_cons_self, fun p hp => ⟨h2 p (List.mem_cons_of_mem _ hp), c p (List.mem_cons_of_mem _ hp)⟩⟩
/-- the pledges that a list's values are -/
theorem pick_list {α β : Type} {P : α → β → Prop} : ∀ {l : List α}, (∀ v ∈ l, ∃ k, P v k) → ∃ ks : List β, l.length = ks.length ∧ ∀ (i : Nat) (v : α), l[i]? = some v → ∃ k, ks[i]? = some k ∧ P v k
  | [], _ => ⟨[], rfl, fun i v e => (nomatch e)⟩
  | a :: r, h => by
    obtain ⟨k, hk⟩ := h a List.mem_cons_self
    obtain ⟨ks, h1, h2⟩ := pick_list (l := r) fun v hv => h v (List.mem_cons_of_mem _ hv)
    refine ⟨k :: ks, by rw [List.length_cons, List.length_cons, h1], fun i v e => ?_⟩
    cases i with
    | zero =>
      obtain rfl := Option.some.inj e
      exact ⟨k, rfl, hk⟩
    | succ i => exact h2 i v e
theorem shaped2 {a b : List (List Str)} (ha : ∀ s ∈ a, ∀ z ∈ s, SOk z) (hb : ∀ s ∈ b, ∀ z ∈ s, SOk z) : SeqAt.shaped (.list [.list (shD a), .list (shD b)]) = true := by
  obtain ⟨h1, h2⟩ := canShapes ha
  obtain ⟨h3, h4⟩ := canShapes hb
  unfold SeqAt.shaped
  have e1 : PySem.PyData.canLay0 (.list [.list (shD a), .list (shD b)]) = true := by
    show (PySem.PyData.canLayAll0 (shD a) && (PySem.PyData.canLayAll0 (shD b) && true)) = true
    rw [h1, h3]
    rfl
  have e2 : PySem.PyData.depth (.list [.list (shD a), .list (shD b)]) = max (PySem.PyData.depthAll (shD a) + 1) (max (PySem.PyData.depthAll (shD b) + 1) 0) + 1 := rfl
  rw [e1, e2, decide_eq_true (by omega)]
  rfl
theorem eqv2 (a b : List (List Str)) : PyData.eqv (.list [.list (shD a), .list (shD b)]) (.list [.list (shD a), .list (shD b)]) = true := by
  show (PyData.eqvAll (shD a) (shD a) && (PyData.eqvAll (shD b) (shD b) && true)) = true
  rw [eqv_rows, eqv_rows, decide_eq_true rfl, decide_eq_true rfl]
  rfl
end Sw
/-! ## `in` where the items have an own == -/
namespace Sw
open PySem PySem.Spec PyProof.Rows L2
open PySem.AutoSeq1 (wpAny_loadPart')
open PySem.MeetsSeq PySem.MeetsSeq2 PySem.MeetsSeq3 PySem.SeqRoads2
section
variable {prog : Program} {w : World} {A : Around} {R : Result → Shared → Prop}
/-- at each turn the list is read anew: N items, the i-th == x answers e i -/
def HasI (prog : Program) (w : World) (A : Around) (E : Value → Shared → Prop) (l : Addr) (x : Value) (N : Nat) (e : Nat → Bool) (I : Nat → Shared → Prop) : Prop :=
  ∀ i s, I i s → ∃ (items : Array Value) (n : Nat) (dd : Option Addr) (sl : Array (Option Value)), s.heap.get? l = some { cls := .type "list", dict := dd, data := .seq items n, slots := sl } ∧ items.size = N ∧
    ∀ (h1 : i < items.size), wpAny (model prog w) A.in1 (eqBool items[i] x) (fun r s' => r = e i ∧ I (i + 1) s') E s
theorem has_loopG (l : Addr) (x : Value) (N : Nat) (e : Nat → Bool) (I : Nat → Shared → Prop) (hl : HasI prog w A (fun er s' => R (.error er) s') l x N e I)
    (fin : ∀ i s, I i s → R (.ok (.ret (.bool ((List.range N).any e)))) s) (k : Nat) :
    ∀ i : Nat, N - i = k → i ≤ N → (∀ j, j < i → e j = false) → ∀ s, I i s →
      wpAny (model prog w) A.in1 (Builtin.«list.__contains__.loop» ⟨[.ref l, x, rawInt i], []⟩) (GQ.FinOf prog w A R) (fun er s' => R (.error er) s') s := by
  induction k with
  | zero =>
    intro i hk hi hno s h
    obtain ⟨items, n, dd, sl, hl1, hs1, _⟩ := hl _ _ h
    have hi' : i = N := by omega
    have hR := fin i s h
    have ea : (List.range N).any e = false := by
      rw [Bool.eq_false_iff]
      intro q
      obtain ⟨j, hj, hj2⟩ := List.any_eq_true.mp q
      rw [hno j (by rw [hi']; exact List.mem_range.mp hj)] at hj2
      cases hj2
    rw [ea] at hR
    obtain ⟨hp, g, d, tk, os⟩ := s
    wp_walk using wpAny_loadPart' hl1
    rw [show items[((i : Nat) : Int).toNat]? = none by simp; omega]
    wp_walk
    exact hR
  | succ k ih =>
    intro i hk hi hno s h
    obtain ⟨items, n, dd, sl, hl1, hs1, turn⟩ := hl _ _ h
    have lt : i < items.size := by omega
    have ht := turn lt
    obtain ⟨hp, g, d, tk, os⟩ := s
    wp_walk using wpAny_loadPart' hl1
    rw [show items[((i : Nat) : Int).toNat]? = some items[i] by simp [lt]]
    refine wpAny_bind (wpAny_mono ht (fun r s2 h2 => ?_) fun _ _ x => x)
    obtain ⟨hr, h2⟩ := h2
    subst hr
    cases he : e i with
    | true =>
      have hR := fin (i + 1) s2 h2
      have ea : (List.range N).any e = true := List.any_eq_true.mpr ⟨i, List.mem_range.mpr (by omega), he⟩
      rw [ea] at hR
      obtain ⟨hp2, g2, d2, tk2, os2⟩ := s2
      wp_walk
      exact hR
    | false =>
      have hrec := ih (i + 1) (by omega) (by omega) (fun j hj => by
        rcases Nat.lt_succ_iff_lt_or_eq.mp hj with hj | rfl
        · exact hno j hj
        · exact he) s2 h2
      obtain ⟨hp2, g2, d2, tk2, os2⟩ := s2
      wp_walk
      rw [show ((i : Int) + 1) = ((i + 1 : Nat) : Int) by omega]
      exact ⟨plainId_quiet plain_contains_loop _, codeAny_builtin entry_contains_loop (by
        rw [Around.under_plainId plain_contains_loop _]
        exact hrec)⟩
theorem has_listG (l : Addr) (x : Value) (N : Nat) (e : Nat → Bool) (I : Nat → Shared → Prop) (hl : HasI prog w A (fun er s' => R (.error er) s') l x N e I)
    (fin : ∀ i s, I i s → R (.ok (.ret (.bool ((List.range N).any e)))) s) {s : Shared} (h : I 0 s) :
    wpAny (model prog w) A.in1 (Builtin.«list.__contains__» ⟨[.ref l, x], []⟩) (GQ.FinOf prog w A R) (fun er s' => R (.error er) s') s := by
  obtain ⟨items, n, dd, sl, hl1, hs1, _⟩ := hl _ _ h
  have hrec := has_loopG (A := A) (R := R) l x N e I hl fin _ 0 rfl (Nat.zero_le _) (fun j hj => absurd hj (Nat.not_lt_zero _)) s h
  obtain ⟨hp, g, d, tk, os⟩ := s
  wp_walk using wpAny_loadPart' hl1
  exact ⟨plainId_quiet plain_contains_loop _, codeAny_builtin entry_contains_loop (by
    rw [Around.under_plainId plain_contains_loop _]
    exact hrec)⟩
theorem has_tupG (l : Addr) (x : Value) (items : Array Value) (n : Nat) (dd : Option Addr) (sl : Array (Option Value)) (e : Nat → Bool) (I : Nat → Shared → Prop)
    (turn : ∀ i (h1 : i < items.size) s, I i s → wpAny (model prog w) A.in1 (eqBool items[i] x) (fun r s' => r = e i ∧ I (i + 1) s') (fun er s' => R (.error er) s') s)
    (fin : ∀ i s, I i s → R (.ok (.ret (.bool ((List.range items.size).any e)))) s) {s : Shared} (hl1 : s.heap.get? l = some { cls := .type "tuple", dict := dd, data := .seq items n, slots := sl }) (h : I 0 s) :
    wpAny (model prog w) A.in1 (Builtin.«tuple.__contains__» ⟨[.ref l, x], []⟩) (GQ.FinOf prog w A R) (fun er s' => R (.error er) s') s := by
  have h0 := h
  obtain ⟨hp, g, d, tk, os⟩ := s
  wp_walk using wpAny_loadPart' hl1, wpAny_forIn_array _ (fun rest b s' => b.1 = none ∧ ∃ i, rest = items.toList.drop i ∧ i ≤ items.size ∧ (∀ j, j < i → e j = false) ∧ I i s') _
  case turn =>
    rintro y rest b s' ⟨hb', i, hz, hi, hno, hI⟩
    have h1 : i < items.size := by
      rcases Nat.lt_or_ge i items.toList.length with h' | h'
      · simpa using h'
      · rw [List.drop_of_length_le h'] at hz; cases hz
    have h1' : i < items.toList.length := by simpa using h1
    rw [List.drop_eq_getElem_cons h1'] at hz
    injection hz with hy hrest
    have hy : y = items[i] := by simpa using hy
    subst hy
    refine wpAny_bind (wpAny_mono (turn i h1 s' hI) (fun r s2 q2 => ?_) fun _ _ x => x)
    obtain ⟨hr, q2⟩ := q2
    subst hr
    cases he : e i with
    | true =>
      have hR := fin (i + 1) s2 q2
      have ea : (List.range items.size).any e = true := List.any_eq_true.mpr ⟨i, List.mem_range.mpr h1, he⟩
      rw [ea] at hR
      wp_walk
      exact hR
    | false =>
      wp_walk
      exact ⟨rfl, i + 1, hrest, h1, fun j hj => by
        rcases Nat.lt_succ_iff_lt_or_eq.mp hj with hj | rfl
        · exact hno j hj
        · exact he, q2⟩
  case fin =>
    rintro ⟨b1, b2⟩ s' ⟨hb', i, hz, hi, hno, hI⟩
    simp only at hb'
    subst hb'
    have hi' : i = items.size := by
      rcases Nat.lt_or_ge i items.toList.length with h' | h'
      · rw [List.drop_eq_getElem_cons h'] at hz; cases hz
      · have : items.toList.length = items.size := by simp
        omega
    have hR := fin i s' hI
    have ea : (List.range items.size).any e = false := by
      rw [Bool.eq_false_iff]
      intro q
      obtain ⟨j, hj, hj2⟩ := List.any_eq_true.mp q
      rw [hno j (by rw [hi']; exact List.mem_range.mp hj)] at hj2
      cases hj2
    rw [ea] at hR
    wp_walk
    exact hR
  case h =>
    exact ⟨rfl, 0, rfl, Nat.zero_le _, fun j hj => absurd hj (Nat.not_lt_zero _), h0⟩
end
end Sw
namespace Sw
open PySem PySem.Spec PyProof.Rows L2
open PySem.SeqRoads2
/-- == gives the answer that D says, and only makes objects -/
def EqB (X : Cx) (n : Nat) (D : Bool → V → V → Hp → Prop) : Prop :=
  ∀ (A : Around) (pins : List (Addr × Obj)) (s : Shared) (σ : L2.St) (H : Hp) (x y : V) (u v : Value) (b : Bool), L2.Sub X n A → Inv X pins σ H s → RelV x u → RelV y v → D b x y H →
    wpAny (model X.prog X.w) A (eqBool u v) (fun r s' => r = b ∧ ∃ H', Inv X pins σ H' s' ∧ Same H H') X.xe s
/-- what an own == promises -/
def spOwnEq (R : Addr → Addr → Bool → Hp → Prop) : Sp := fun vs H Q _ => ∃ a b k, vs = [.ref a, .ref b] ∧ R a b k H ∧ ∀ H', Same H H' → Q (.bl k) H'
section
variable {X : Cx} {n : Nat}
theorem eqB_ins {CX : CXT} {C f : Addr} {fd : FuncData} {ps : List Str} {R : Addr → Addr → Bool → Hp → Prop} {E : XK} (F : FnOk X.prog X.w X.K X.mg X.base CX n f fd ps (spOwnEq R))
    (hs : PySem.W.findIn X.K (.ref C) "__eq__" = some (some (.ref f))) (hf : PySem.W.isFn X.K (.ref f) = true) (hb : Binds X.K fd ps []) (hx : Passes CX X E) (hsame : ∀ a k H, R a a k H → k = true) :
    EqB X n (fun k x y H => ∃ a b dx dy fs gs, x = .ref a ∧ y = .ref b ∧ H a = some (.ins C dx fs) ∧ H b = some (.ins C dy gs) ∧ R a b k H) := by
  intro A pins s σ H x y u v k sb I rx ry d
  obtain ⟨a, b, dx, dy, fs, gs, rfl, rfl, ha, hb', hr⟩ := d
  cases rx
  cases ry
  by_cases hab : a = b
  · subst hab
    obtain rfl := hsame _ _ _ hr
    exact SeqAt.EqAt.same (A := A) (s := s) (.ref a) X.prog X.w X.xe _ ⟨rfl, H, I, Same.refl _⟩
  refine GQ.eqBool_refG hab ?_
  obtain ⟨mA, J, _⟩ := ins_get I.hok ha
  obtain ⟨mB, J', _⟩ := ins_get I.hok hb'
  obtain ⟨od, J, _⟩ := J.look
  obtain ⟨od', J', _⟩ := J'.look
  obtain ⟨m, hF⟩ := I.fr
  refine PySem.W.cmp_K (op := .Eq) (tb := .ref C) sb.room.units0 hF I.ok.mod.kin J J'.type (by simp [PySem.W.notFirst]) hs hf ?_
  have hsp : spOwnEq R [.ref a, .ref b] H (fun v H' => v = .bl k ∧ Same H H') E := ⟨a, b, k, rfl, hr, fun H' e => ⟨rfl, e⟩⟩
  have e0 : Env0 X.prog X.w X.K X.mg X.base A X.stack s H := by
    have e := I.env0
    exact ⟨by rw [sb.fr]; exact e.frames, e.mod, e.bs, e.bsz, e.funs, e.frf, e.hok, e.bare⟩
  have hl := F.len _ _ _ _ hsp
  have r2 : Vals [V.ref a, V.ref b] [Value.ref a, Value.ref b] := .cons rfl (.cons rfl .nil)
  refine wpAny_call (codeAny_mono (F.run A X.stack s H ⟨[.ref a, .ref b], []⟩ [.ref a, .ref b] [.ref a, .ref b] _ E sb.room e0 (by
    have := hb s [.ref a, .ref b] I.kIn (by simpa using hl)
    simpa using this) r2 hsp) fun r s' hq => ?_)
  cases r with
  | error e => exact hx pins σ H s e s' I hq
  | ok fl =>
    cases fl with
    | ret w =>
      obtain ⟨z, H', I', rz, ez, ex⟩ := I.after hq
      subst ez
      cases rz
      exact ⟨k, rfl, rfl, H', I', ex⟩
    | next => exact False.elim hq
    | brk => exact False.elim hq
    | cont => exact False.elim hq
/-- x in a list or tuple of instances of C, by C's own == -/
def rInOwn (K : PySem.W.Frag) (C : Addr) (R : Addr → Addr → Bool → Hp → Prop) (neg : Bool) : R2 := fun x y H Q => ∃ (p b : Addr) (as : List Addr) (ks : List Bool), x = .ref b ∧ y = .ref p ∧ (SqL K H p (as.map V.ref) ∨ SqT K H p (as.map V.ref)) ∧ ks.length = as.length ∧ (∃ dx fs, H b = some (.ins C dx fs)) ∧
  (∀ (i : Nat) (a : Addr), as[i]? = some a → (∃ dx fs, H a = some (.ins C dx fs)) ∧ ∃ k, ks[i]? = some k ∧ R a b k H) ∧ ∀ H', Same H H' → Q (.bl (if neg then !ks.any id else ks.any id)) H'
theorem any_at (ks : List Bool) (d : Bool) : (List.range ks.length).any (fun i => ks.getD i d) = ks.any id := by
  rw [Bool.eq_iff_iff, List.any_eq_true, List.any_eq_true]
  constructor
  · rintro ⟨i, hi, h⟩
    have hl := List.mem_range.mp hi
    rw [List.getD_eq_getElem?_getD, List.getElem?_eq_getElem hl] at h
    exact ⟨_, List.getElem_mem hl, h⟩
  · rintro ⟨b, hb, h⟩
    obtain ⟨i, hi⟩ := List.mem_iff_getElem?.mp hb
    refine ⟨i, List.mem_range.mpr (List.getElem?_eq_some_iff.mp hi).1, ?_⟩
    rw [List.getD_eq_getElem?_getD, hi]
    exact h
theorem has_own {C : Addr} {R : Addr → Addr → Bool → Hp → Prop} (hE : EqB X n (fun k x y H => ∃ a b dx dy fs gs, x = .ref a ∧ y = .ref b ∧ H a = some (.ins C dx fs) ∧ H b = some (.ins C dy gs) ∧ R a b k H)) (hR : ∀ a b k H H', Same H H' → R a b k H → R a b k H') (hr : Room (n + 1) X.A)
    {pins : List (Addr × Obj)} {s : Shared} {σ : L2.St} {H : Hp} {p b : Addr} {as : List Addr} {ks : List Bool} (I : Inv X pins σ H s) (hp : SqL X.K H p (as.map V.ref) ∨ SqT X.K H p (as.map V.ref)) (hl : ks.length = as.length) (hb : ∃ dx fs, H b = some (.ins C dx fs))
    (hall : ∀ (i : Nat) (a : Addr), as[i]? = some a → (∃ dx fs, H a = some (.ins C dx fs)) ∧ ∃ k, ks[i]? = some k ∧ R a b k H) {Q : Bool → Shared → Prop} (q : ∀ s' H', Inv X pins σ H' s' → Same H H' → Q (ks.any id) s') :
    wpAny (model X.prog X.w) X.A (contains (.ref p) (.ref b)) Q X.xe s := by
  have turn : ∀ {its : List Value}, Vals (as.map V.ref) its → ∀ i (h1 : i < its.toArray.size) (s' : Shared), (∃ H', Inv X pins σ H' s' ∧ Same H H') → wpAny (model X.prog X.w) X.A.in1 (eqBool its.toArray[i] (.ref b)) (fun r s2 => r = ks.getD i false ∧ ∃ H', Inv X pins σ H' s2 ∧ Same H H') X.xe s' := by
    rintro its r i h1 s' ⟨H1, I1, e1⟩
    have hi : i < its.length := by simpa using h1
    have g1 : its[i]? = some its.toArray[i] := by rw [List.getElem?_eq_getElem hi] <;> simp
    have k1 : i < (as.map V.ref).length := by rw [r.length]; exact hi
    obtain ⟨u, hu, ru⟩ := r.get (List.getElem?_eq_getElem k1)
    rw [g1] at hu
    rw [Option.some.inj hu]
    have k2 : i < as.length := by rw [List.length_map] at k1; exact k1
    obtain ⟨⟨dx, fs, ha⟩, k, hk, hra⟩ := hall i as[i] (List.getElem?_eq_getElem k2)
    obtain ⟨dy, gs, hb⟩ := hb
    have ek : ks.getD i false = k := by rw [List.getD_eq_getElem?_getD, hk]; rfl
    rw [ek]
    refine wpAny_mono (hE X.A.in1 pins s' σ H1 _ (.ref b) u (.ref b) k ⟨hr.in1, rfl⟩ I1 ru rfl ⟨as[i], b, dx, dy, fs, gs, by rw [List.getElem_map], rfl, e1 _ _ ha, e1 _ _ hb, hR _ _ _ _ _ e1 hra⟩) (fun r s2 q => ?_) fun _ _ x => x
    obtain ⟨hr', H2, I2, e2⟩ := q
    exact ⟨hr', H2, I2, e1.trans e2⟩
  rcases hp with hp | hp
  · obtain ⟨its, r, pl, _⟩ := I.list hp
    obtain ⟨⟨cls, dd, data, sl⟩, ho, hc, nn, hd⟩ := id pl.isList
    simp only at hc hd
    subst hc hd
    refine wpAny_contains_slot (T := "list") ⟨_, ho, rfl⟩ F.slot_list_contains (GQ.call_here F.slot_list_contains ⟨_, ho, rfl⟩ F.entry_list_contains (F.args_list_contains_2 _ _) ?_)
    have hlen : ks.length = its.length := by rw [hl, ← List.length_map (f := V.ref) (as := as), r.length]
    refine has_listG (A := X.A) (R := wants (fun r s' => wpAny (model X.prog X.w) X.A (truthy r) Q X.xe s') X.xe) p (.ref b) its.length (fun i => ks.getD i false) (fun _ s' => ∃ H', Inv X pins σ H' s' ∧ Same H H') (fun i s' hI => ?_) (fun i s' hI => ?_) ⟨H, I, Same.refl _⟩
    · obtain ⟨H1, I1, e1⟩ := id hI
      have hp1 := e1.seq hp
      obtain ⟨its1, r1, pl1, _⟩ := I1.list hp1
      obtain ⟨⟨cls1, dd1, data1, sl1⟩, ho1, hc1, nn1, hd1⟩ := id pl1.isList
      simp only at hc1 hd1
      subst hc1 hd1
      have l1 : its1.length = its.length := by rw [← r1.length, r.length]
      exact ⟨its1.toArray, nn1, dd1, sl1, ho1, by rw [List.size_toArray, l1], fun h1 => turn r1 i h1 s' hI⟩
    · obtain ⟨H1, I1, e1⟩ := hI
      have ea : (List.range its.length).any (fun i => ks.getD i false) = ks.any id := by rw [← hlen, any_at]
      show wpAny _ _ (truthy (.bool _)) _ _ _
      rw [ea]
      exact wpAny_truthy_bool (q _ H1 I1 e1)
  · obtain ⟨its, r, pl, _⟩ := I.tuple hp
    obtain ⟨⟨cls, dd, data, sl⟩, ho, hc, nn, hd⟩ := id pl
    simp only at hc hd
    subst hc hd
    refine wpAny_contains_slot (T := "tuple") ⟨_, ho, rfl⟩ F.slot_tuple_contains (GQ.call_here F.slot_tuple_contains ⟨_, ho, rfl⟩ F.entry_tuple_contains (F.args_tuple_contains_2 _ _) ?_)
    have hlen : ks.length = its.length := by rw [hl, ← List.length_map (f := V.ref) (as := as), r.length]
    refine has_tupG (A := X.A) (R := wants (fun r s' => wpAny (model X.prog X.w) X.A (truthy r) Q X.xe s') X.xe) p (.ref b) its.toArray nn dd sl (fun i => ks.getD i false) (fun _ s' => ∃ H', Inv X pins σ H' s' ∧ Same H H') (fun i h1 s' hI => turn r i h1 s' hI) (fun i s' hI => ?_) ho ⟨H, I, Same.refl _⟩
    obtain ⟨H1, I1, e1⟩ := hI
    have ea : (List.range its.toArray.size).any (fun i => ks.getD i false) = ks.any id := by rw [List.size_toArray, ← hlen, any_at]
    show wpAny _ _ (truthy (.bool _)) _ _ _
    rw [ea]
    exact wpAny_truthy_bool (q _ H1 I1 e1)
theorem op_inOwn {C : Addr} {R : Addr → Addr → Bool → Hp → Prop} (hE : EqB X n (fun k x y H => ∃ a b dx dy fs gs, x = .ref a ∧ y = .ref b ∧ H a = some (.ins C dx fs) ∧ H b = some (.ins C dy gs) ∧ R a b k H)) (hR : ∀ a b k H H', Same H H' → R a b k H → R a b k H') (hr : Room (n + 1) X.A) : OpR X (compareOp .In) (rInOwn X.K C R false) := by
  intro pins s σ H x y v u Q I rx ry h
  obtain ⟨p, b, as, ks, rfl, rfl, hp, hl, hb, hall, q⟩ := h
  cases (show v = Value.ref b from rx)
  cases (show u = Value.ref p from ry)
  show wpAny _ X.A (do return Value.bool (← contains (.ref p) (.ref b))) _ _ s
  exact wpAny_bind (has_own hE hR hr I hp hl hb hall fun s' H' I' e => wpAny_pure ⟨.bl _, H', I', rfl, q H' e⟩)
theorem op_notInOwn {C : Addr} {R : Addr → Addr → Bool → Hp → Prop} (hE : EqB X n (fun k x y H => ∃ a b dx dy fs gs, x = .ref a ∧ y = .ref b ∧ H a = some (.ins C dx fs) ∧ H b = some (.ins C dy gs) ∧ R a b k H)) (hR : ∀ a b k H H', Same H H' → R a b k H → R a b k H') (hr : Room (n + 1) X.A) : OpR X (compareOp .NotIn) (rInOwn X.K C R true) := by
  intro pins s σ H x y v u Q I rx ry h
  obtain ⟨p, b, as, ks, rfl, rfl, hp, hl, hb, hall, q⟩ := h
  cases (show v = Value.ref b from rx)
  cases (show u = Value.ref p from ry)
  show wpAny _ X.A (do return Value.bool (!(← contains (.ref p) (.ref b)))) _ _ s
  exact wpAny_bind (has_own hE hR hr I hp hl hb hall fun s' H' I' e => wpAny_pure ⟨.bl _, H', I', rfl, q H' e⟩)
end
end Sw
/-! ## comparing what holds lists and dicts: the answer -/
namespace Sw
open PySem PySem.Spec PyProof.Rows L2
open PySem.SeqRoads2
/-- == of the two ends with this answer, nesting at most n -/
inductive EqV (K : PySem.W.Frag) (H : Hp) : Nat → V → V → Bool → Prop
  | data {n : Nat} {x y : V} {d e : PyData} : Dp K H x d → Dp K H y e → d.canLay0 = true → e.canLay0 = true → min d.depth e.depth ≤ n → EqV K H n x y (PyData.eqv d e)
  | same {n : Nat} {x : V} {v : V} : x = v → (∃ a, x = .ref a) → EqV K H n x v true
  | lists {n : Nat} {a b : Addr} {xs ys : List V} {e : Nat → Bool} : a ≠ b → SqL K H a xs → SqL K H b ys → xs.length = ys.length → (∀ (i : Nat) (u v : V), xs[i]? = some u → ys[i]? = some v → EqV K H n u v (e i)) → EqV K H (n + 1) (.ref a) (.ref b) ((List.range xs.length).all e)
  | listsLen {n : Nat} {a b : Addr} {xs ys : List V} : a ≠ b → SqL K H a xs → SqL K H b ys → xs.length ≠ ys.length → EqV K H (n + 1) (.ref a) (.ref b) false
  | dicts {n : Nat} {a b : Addr} {ks ls : List (Key × V)} {e : Key → Bool} : a ≠ b → H a = some (.dK ks) → H b = some (.dK ls) → (∀ p ∈ ks, ∀ u, valV ls p.1 = some u → EqV K H n p.2 u (e p.1)) → EqV K H (n + 1) (.ref a) (.ref b) (ks.length == ls.length && ks.all fun p => (valV ls p.1).isSome && e p.1)
theorem kv_all {kvs : List (Key × V)} {vb : List (Key × Value)} (r : KV kvs vb) (f : Key → Bool) : (vb.all fun p => f p.1) = kvs.all fun p => f p.1 := by
  unfold KV at r
  induction r with
  | nil => rfl
  | @cons p q ps qs hh _ ih => rw [List.all_cons, List.all_cons, ih, hh.1]
theorem kv_some {kvs : List (Key × V)} {vb : List (Key × Value)} (r : KV kvs vb) (k : Key) : (valueAt vb k).isSome = (valV kvs k).isSome := by
  have := r.val k
  cases e1 : valV kvs k <;> cases e2 : valueAt vb k <;> rw [e1, e2] at this <;> first | rfl | exact this.elim
section
variable {X : Cx} {pins : List (Addr × Obj)} {σ : L2.St} {H : Hp} {s : Shared}
theorem eqv_tree (I : Inv X pins σ H s) {n : Nat} {x y : V} {b : Bool} (h : EqV X.K H n x y b) : ∀ {v u : Value}, RelV x v → RelV y u → PySem.W.EqTree X.prog X.w s n v u b := by
  induction h with
  | @data n x y d e hd he ld le hn =>
    intro v u rx ry
    obtain ⟨as, r1⟩ := Dp.reads I d x v hd rx
    obtain ⟨bs, r2⟩ := Dp.reads I e y u he ry
    exact .leaf fun A hA => SeqAt.eqAt_reads d e A s v u as bs r1 r2 ld le (by omega)
  | same hxv hr =>
    intro v u rx ry
    obtain ⟨a, rfl⟩ := hr
    subst hxv
    cases (show v = Value.ref a from rx)
    cases (show u = Value.ref a from ry)
    exact .same
  | @lists n a b xs ys e ne ha hb hl _ ih =>
    intro v u rx ry
    cases (show v = Value.ref a from rx)
    cases (show u = Value.ref b from ry)
    obtain ⟨us, r1, p1, _⟩ := I.list ha
    obtain ⟨ws, r2, p2, _⟩ := I.list hb
    have l1 := r1.length
    have l2 := r2.length
    have := PySem.W.EqTree.lists (prog := X.prog) (w := X.w) (s := s) (n := n) (e := e) ne p1.isList p2.isList (by rw [List.size_toArray, List.size_toArray]; omega) fun j h1 h2 => by
      have g1 : us[j]? = some us.toArray[j] := by simpa using h1
      have g2 : ws[j]? = some ws.toArray[j] := by simpa using h2
      obtain ⟨x, hx, rx'⟩ := vals_at r1 g1
      obtain ⟨y, hy, ry'⟩ := vals_at r2 g2
      exact ih j x y hx hy rx' ry'
    rw [List.size_toArray, ← l1] at this
    exact this
  | @listsLen n a b xs ys ne ha hb hl =>
    intro v u rx ry
    cases (show v = Value.ref a from rx)
    cases (show u = Value.ref b from ry)
    obtain ⟨us, r1, p1, _⟩ := I.list ha
    obtain ⟨ws, r2, p2, _⟩ := I.list hb
    have l1 := r1.length
    have l2 := r2.length
    exact .listsLen ne p1.isList p2.isList (by simp; omega)
  | @dicts n a b ks ls e ne ha hb _ ih =>
    intro v u rx ry
    cases (show v = Value.ref a from rx)
    cases (show u = Value.ref b from ry)
    obtain ⟨_, ya, va, ra, da⟩ := (show ObjOk X.prog X.w H s.heap a (.dK ks) from I.hok a _ ha)
    obtain ⟨_, yb, vb, rb, db⟩ := (show ObjOk X.prog X.w H s.heap b (.dK ls) from I.hok b _ hb)
    have := PySem.W.EqTree.dicts (s := s) (knd := mixKind X.prog X.w) (n := n) (e := e) ne ya yb da db fun k v y hm hv => by
      obtain ⟨p, hp, rfl, rv⟩ := kv_at ra hm
      have rr := rb.val p.1
      rw [hv] at rr
      cases eu : valV ls p.1 with
      | none => rw [eu] at rr; exact (show False from rr).elim
      | some uu =>
        rw [eu] at rr
        exact ih p hp uu eu rv rr
    have e1 : va.length = ks.length := ra.length.symm
    have e2 : vb.length = ls.length := rb.length.symm
    have e3 : (va.all fun p => (valueAt vb p.1).isSome && e p.1) = ks.all fun p => (valV ls p.1).isSome && e p.1 := by
      rw [kv_all ra fun k => (valueAt vb k).isSome && e k]
      exact congrArg (fun F => List.all ks F) (funext fun p => by rw [kv_some rb])
    rw [e1, e2, e3] at this
    exact this
end
section
variable {X : Cx}
/-- == of two dicts -/
def rEqDct (K : PySem.W.Frag) : R2 := fun x y H Q => ∃ (n : Nat) (a b : Addr) (ks ls : List (Key × V)) (e : Key → Bool), n ≤ 60 ∧ x = .ref a ∧ y = .ref b ∧ H a = some (.dK ks) ∧ H b = some (.dK ls) ∧ (∀ p ∈ ks, ∀ u, valV ls p.1 = some u → EqV K H n p.2 u (e p.1)) ∧ Q (.bl (ks.length == ls.length && ks.all fun p => (valV ls p.1).isSome && e p.1)) H
theorem op_eqDct (hu : X.A.units + 64 < cLine) : OpR X (compareOp .Eq) (rEqDct X.K) := by
  intro pins s σ H x y v u Q I rx ry h
  obtain ⟨n, a, b, ks, ls, e, hn, rfl, rfl, ha, hb, hc, q⟩ := h
  cases (show v = Value.ref a from rx)
  cases (show u = Value.ref b from ry)
  obtain ⟨_, ya, va, ra, da⟩ := (show ObjOk X.prog X.w H s.heap a (.dK ks) from I.hok a _ ha)
  obtain ⟨_, yb, vb, rb, db⟩ := (show ObjOk X.prog X.w H s.heap b (.dK ls) from I.hok b _ hb)
  refine PySem.W.eq_dictsT (knd := mixKind X.prog X.w) (n := n) (e := e) ya yb da db (fun k v y hm hv => ?_) (by omega) ?_
  · obtain ⟨p, hp, rfl, rv⟩ := kv_at ra hm
    have rr := rb.val p.1
    rw [hv] at rr
    cases eu : valV ls p.1 with
    | none => rw [eu] at rr; exact (show False from rr).elim
    | some uu =>
      rw [eu] at rr
      exact eqv_tree I (hc p hp uu eu) rv rr
  · have e1 : va.length = ks.length := ra.length.symm
    have e2 : vb.length = ls.length := rb.length.symm
    have e3 : (va.all fun p => (valueAt vb p.1).isSome && e p.1) = ks.all fun p => (valV ls p.1).isSome && e p.1 := by
      rw [kv_all ra fun k => (valueAt vb k).isSome && e k]
      exact congrArg (fun F => List.all ks F) (funext fun p => by rw [kv_some rb])
    rw [e1, e2, e3]
    exact ⟨.bl _, H, I, rfl, q⟩
/-- == of two lists -/
def rEqLst (K : PySem.W.Frag) : R2 := fun x y H Q => ∃ (n : Nat) (a b : Addr) (xs ys : List V) (e : Nat → Bool), n ≤ 60 ∧ x = .ref a ∧ y = .ref b ∧ SqL K H a xs ∧ SqL K H b ys ∧ (xs.length = ys.length → ∀ (i : Nat) (u v : V), xs[i]? = some u → ys[i]? = some v → EqV K H n u v (e i)) ∧ Q (.bl (decide (xs.length = ys.length) && (List.range xs.length).all e)) H
theorem op_eqLst (hu : X.A.units + 64 < cLine) : OpR X (compareOp .Eq) (rEqLst X.K) := by
  intro pins s σ H x y v u Q I rx ry h
  obtain ⟨n, a, b, xs, ys, e, hn, rfl, rfl, ha, hb, hc, q⟩ := h
  cases (show v = Value.ref a from rx)
  cases (show u = Value.ref b from ry)
  obtain ⟨us, r1, p1, _⟩ := I.list ha
  obtain ⟨ws, r2, p2, _⟩ := I.list hb
  have l1 := r1.length
  have l2 := r2.length
  by_cases hl : xs.length = ys.length
  · rw [decide_eq_true hl, Bool.true_and] at q
    refine PySem.W.eq_listsT (n := n) (e := e) p1.isList p2.isList (by rw [List.size_toArray, List.size_toArray]; omega) (fun j h1 h2 => ?_) (by omega) ?_
    · have g1 : us[j]? = some us.toArray[j] := by simpa using h1
      have g2 : ws[j]? = some ws.toArray[j] := by simpa using h2
      obtain ⟨x, hx, rx'⟩ := vals_at r1 g1
      obtain ⟨y, hy, ry'⟩ := vals_at r2 g2
      exact eqv_tree I (hc hl j x y hx hy) rx' ry'
    · rw [List.size_toArray, ← l1]
      exact ⟨.bl _, H, I, rfl, q⟩
  · rw [decide_eq_false hl, Bool.false_and] at q
    exact SeqAt.RcAt.lists_lengths p1.isList p2.isList (by simp; omega) (by omega) _ _ _ _ ⟨.bl _, H, I, rfl, q⟩
/-- x in a list, by the answers -/
def rInV (K : PySem.W.Frag) (neg : Bool) : R2 := fun x y H Q => ∃ (n : Nat) (b : Addr) (ys : List V) (e : Nat → Bool), n ≤ 60 ∧ y = .ref b ∧ SqL K H b ys ∧ (∀ (i : Nat) (v : V), ys[i]? = some v → EqV K H n v x (e i)) ∧ Q (.bl (if neg then !(List.range ys.length).any e else (List.range ys.length).any e)) H
theorem has_V (hu : X.A.units + 65 < cLine) {pins : List (Addr × Obj)} {σ : L2.St} {H : Hp} {s : Shared} (I : Inv X pins σ H s) {n : Nat} {b : Addr} {x : V} {v : Value} {ys : List V} {e : Nat → Bool} (rx : RelV x v) (hn : n ≤ 60) (hb : SqL X.K H b ys) (hc : ∀ (i : Nat) (v : V), ys[i]? = some v → EqV X.K H n v x (e i))
    {Q : Bool → Shared → Prop} (q : Q ((List.range ys.length).any e) s) : wpAny (model X.prog X.w) X.A (contains (.ref b) v) Q X.xe s := by
  obtain ⟨ws, r2, p2, _⟩ := I.list hb
  obtain ⟨⟨cls, dd, data, sl⟩, ho, hcl, nn, hd⟩ := id p2.isList
  simp only at hcl hd
  subst hcl hd
  have l2 := r2.length
  refine wpAny_contains_slot (T := "list") ⟨_, ho, rfl⟩ F.slot_list_contains (GQ.call_here F.slot_list_contains ⟨_, ho, rfl⟩ F.entry_list_contains (F.args_list_contains_2 _ _) ?_)
  refine has_listG (A := X.A) (R := wants (fun r s' => wpAny (model X.prog X.w) X.A (truthy r) Q X.xe s') X.xe) b v ys.length e (fun _ s' => s' = s) (fun i s' hI => ?_) (fun i s' hI => ?_) rfl
  · subst hI
    refine ⟨ws.toArray, nn, dd, sl, ho, by rw [List.size_toArray, ← l2], fun h1 => ?_⟩
    have g1 : ws[i]? = some ws.toArray[i] := by simpa using h1
    obtain ⟨y, hy, ry'⟩ := vals_at r2 g1
    exact (eqv_tree I (hc i y hy) ry' rx).at X.A.in1 (by show X.A.units + 1 + n < cLine; omega) _ _ ⟨rfl, rfl⟩
  · subst hI
    exact wpAny_truthy_bool q
theorem op_inV (hu : X.A.units + 65 < cLine) : OpR X (compareOp .In) (rInV X.K false) := by
  intro pins s σ H x y v u Q I rx ry h
  obtain ⟨n, b, ys, e, hn, rfl, hb, hc, q⟩ := h
  cases (show u = Value.ref b from ry)
  show wpAny _ X.A (do return Value.bool (← contains (.ref b) v)) _ _ s
  exact wpAny_bind (has_V hu I rx hn hb hc (wpAny_pure ⟨.bl _, H, I, rfl, q⟩))
theorem op_notInV (hu : X.A.units + 65 < cLine) : OpR X (compareOp .NotIn) (rInV X.K true) := by
  intro pins s σ H x y v u Q I rx ry h
  obtain ⟨n, b, ys, e, hn, rfl, hb, hc, q⟩ := h
  cases (show u = Value.ref b from ry)
  show wpAny _ X.A (do return Value.bool (!(← contains (.ref b) v))) _ _ s
  exact wpAny_bind (has_V hu I rx hn hb hc (wpAny_pure ⟨.bl _, H, I, rfl, q⟩))
end
end Sw
/-! ## promises as data, and books -/
namespace Sw
open PySem PySem.Spec PyProof.Rows L2
theorem room64 {k : Nat} {A : Around} (r : Room k A) : A.units + 64 < cLine := by have := r.un; omega
/-- what a promise is: its part, its partners, its conditions -/
structure PD where
  s : List Str
  ss : List (List Str)
  ts : List Ent
def eqPD (d d' : PD) : Bool := decide (d.s = d'.s) && (decide (d.ss = d'.ss) && dEqB d.ts d'.ts)
theorem cond_words {ts : List Ent} (z x : Str) : condOk ts z x = (!(entOf ts (Sum.inr z : Key)).isSome || decide (x ∈ wordsAt ts (Sum.inr z))) := by
  unfold condOk wordsAt
  show (match entOf ts (Sum.inr z : Key) with | some e => decide (x ∈ e.2.2) | none => true) = _
  cases entOf ts (Sum.inr z : Key) with
  | none => rfl
  | some e => rfl
/-- equal promises say the same -/
theorem eqPD_says {d d' : PD} (n1 : (d.ts.map (·.1)).Nodup) (n2 : (d'.ts.map (·.1)).Nodup) (h : eqPD d d' = true) (rs : List (List Str)) (t : List Str) : SaysG d.ts d.s d.ss rs t ↔ SaysG d'.ts d'.s d'.ss rs t := by
  unfold eqPD at h
  rw [Bool.and_eq_true, Bool.and_eq_true] at h
  obtain ⟨h1, h2, h3⟩ := h
  have e1 := of_decide_eq_true h1
  have e2 := of_decide_eq_true h2
  have e3 : ∀ z x, condOk d.ts z x = condOk d'.ts z x := fun z x => by
    obtain ⟨q1, q2⟩ := dEqB_words n1 n2 h3 (Sum.inr z)
    rw [cond_words, cond_words, q1, q2]
  unfold SaysG SatG
  simp only [e1, e2, e3]
/-- at x: a promise with these data -/
structure PromD (K : PySem.W.Frag) (CP : Addr) (H : Hp) (x : Addr) (d : PD) : Prop where
  ex : ∃ p qA lA xs, PromAt K CP H x p qA lA d.s xs d.ss d.ts
  ok : PromOk d.s d.ss
  sok : ∀ z ∈ d.s, SOk z
  sok2 : ∀ p ∈ d.ss, ∀ z ∈ p, SOk z
  nd : (d.ts.map (·.1)).Nodup
  tok : ∀ e ∈ d.ts, ∀ z ∈ e.2.2, SOk z
theorem PromD.same {K : PySem.W.Frag} {CP x : Addr} {H H' : Hp} {d : PD} (h : PromD K CP H x d) (s : Same H H') : PromD K CP H' x d := { h with ex := let ⟨p, qA, lA, xs, g⟩ := h.ex; ⟨p, qA, lA, xs, g.same s⟩ }
theorem PromD.but {K : PySem.W.Frag} {CP x y C dx : Addr} {H H' : Hp} {d : PD} {fs : List (Str × V)} (h : PromD K CP H x d) (ne : x ≠ y) (e : SBut y H H') (hy : H y = some (.ins C dx fs)) : PromD K CP H' x d := by
  obtain ⟨p, qA, lA, xs, ⟨dp, g⟩, g1, g2, g3, g4⟩ := h.ex
  refine { h with ex := ⟨p, qA, lA, xs, ⟨dp, e _ _ ne g⟩, sqT_ins g1 e hy, sqT_ins g2 e hy, g3.but e hy, ⟨e _ _ (ne_of g4.at_ hy fun z => nomatch z) g4.at_, fun r hr => ⟨e _ _ (ne_of (g4.all r hr).1 hy fun z => nomatch z) (g4.all r hr).1, (g4.all r hr).2⟩⟩⟩ }
theorem PromD.ins {K : PySem.W.Frag} {CP x : Addr} {H : Hp} {d : PD} (h : PromD K CP H x d) : ∃ dx fs, H x = some (.ins CP dx fs) ∧ fs.map (·.1) = (["part", "partners", "among"] : List Str) := by
  obtain ⟨p, qA, lA, xs, ⟨dp, g⟩, _⟩ := h.ex
  exact ⟨dp, _, g, rfl⟩
theorem PromD.of_vow {K : PySem.W.Frag} {CP x p qA lA : Addr} {H : Hp} {rows : List Rw} {vals : List Str} {k : Pledge} {xs : List V} {ts : List Ent} (pa : PromAt K CP H x p qA lA k.s xs k.ss ts) (al : Alike k.es ts) (ok : PledgeOk rows vals k) (nd : (k.es.map (·.1)).Nodup) (vls : ∀ z ∈ vals, SOk z) : PromD K CP H x ⟨k.s, k.ss, ts⟩ := by
  refine ⟨⟨p, qA, lA, xs, pa⟩, ⟨by have := (ok.good.parts k.s List.mem_cons_self).len; show k.s.length ≤ 100; omega, ok.two, fun q hq => by have := (ok.good.parts q (List.mem_cons_of_mem _ hq)).len; omega⟩, ok.sok k.s List.mem_cons_self, fun q hq => ok.sok q (List.mem_cons_of_mem _ hq), by show (ts.map (·.1)).Nodup; rw [al.keys]; exact nd, fun e he z hz => ?_⟩
  have back : ∀ {es rs : List Ent}, Alike es rs → ∀ r ∈ rs, ∃ e ∈ es, ∀ x, x ∈ r.2.2 ↔ x ∈ e.2.2 := by
    intro es rs h
    unfold Alike at h
    induction h with
    | nil => exact fun r hr => nomatch hr
    | cons h _ ih =>
      intro r hr
      rcases List.mem_cons.mp hr with rfl | hr
      · exact ⟨_, List.mem_cons_self, h.2⟩
      · obtain ⟨e, he, hx⟩ := ih r hr
        exact ⟨e, List.mem_cons_of_mem _ he, hx⟩
  obtain ⟨e', he', hx⟩ := back al e he
  exact vls z ((ok.ev e' he').2 z ((hx z).mp hz))
/-- what == of two promises answers -/
def PEq (K : PySem.W.Frag) (CP : Addr) : Addr → Addr → Bool → Hp → Prop := fun a b k H => ∃ d d', PromD K CP H a d ∧ PromD K CP H b d' ∧ (a = b → d = d') ∧ k = eqPD d d'
theorem PEq.mono {K : PySem.W.Frag} {CP : Addr} : ∀ a b k H H', Same H H' → PEq K CP a b k H → PEq K CP a b k H' := fun a b k H H' s ⟨d, d', h1, h2, h3, h4⟩ => ⟨d, d', h1.same s, h2.same s, h3, h4⟩
theorem PEq.refl {K : PySem.W.Frag} {CP : Addr} : ∀ a k H, PEq K CP a a k H → k = true := fun a k H ⟨d, d', h1, h2, h3, h4⟩ => by
  obtain rfl := h3 rfl
  rw [h4]
  unfold eqPD
  rw [decide_eq_true rfl, decide_eq_true rfl, dEqB_refl _ h1.nd]
  rfl
abbrev PA2 := Addr × PD
/-- a list of promises: the i-th is this one or equal to it -/
def hasP (bs : List PA2) (d : PD) : Bool := bs.any fun u => eqPD u.2 d
def addP (bs : List PA2) (u : PA2) : List PA2 := if hasP bs u.2 = true then bs else bs ++ [u]
def dedupP (bs : List PA2) : List PA2 := bs.foldl addP []
def bookF (S t : Addr) : List (Str × V) := [("schema", .ref S), ("promises", .ref t)]
/-- at x: a book of these promises -/
structure BookAt (K : PySem.W.Frag) (CB CP : Addr) (H : Hp) (x S : Addr) (bs : List PA2) : Prop where
  ex : ∃ dx t, H x = some (.ins CB dx (bookF S t)) ∧ SqT K H t (bs.map fun u => V.ref u.1)
  all : ∀ u ∈ bs, PromD K CP H u.1 u.2
theorem BookAt.same {K : PySem.W.Frag} {CB CP x S : Addr} {H H' : Hp} {bs : List PA2} (h : BookAt K CB CP H x S bs) (s : Same H H') : BookAt K CB CP H' x S bs := ⟨let ⟨dx, t, h1, h2⟩ := h.ex; ⟨dx, t, s _ _ h1, same_seqT s h2⟩, fun u hu => (h.all u hu).same s⟩
theorem BookAt.ne {K : PySem.W.Frag} {CB CP x S a : Addr} {H : Hp} {bs : List PA2} {d : PD} (h : BookAt K CB CP H x S bs) (p : PromD K CP H a d) : a ≠ x := by
  obtain ⟨dx, t, h1, _⟩ := h.ex
  obtain ⟨dp, fs, h2, h3⟩ := p.ins
  refine ne_of h2 h1 fun z => ?_
  injection z with _ _ z
  rw [z] at h3
  exact absurd (congrArg List.length h3) (show ¬ (2 : Nat) = 3 by decide)
/-- what the class Book is -/
structure BookC (K : PySem.W.Frag) (CB : Addr) : Prop where
  cl : Cls K CB
  n1 : NoAttr K CB "schema"
  n2 : NoAttr K CB "promises"
/-- Book.__init__, its values in the order self, schema, promises -/
def spBookB (K : PySem.W.Frag) (CB CP : Addr) : Sp := fun vs H Q _ => ∃ (x dx S p : Addr) (bs : List PA2), vs = [.ref x, .ref S, .ref p] ∧ H x = some (.ins CB dx []) ∧ SqT K H p (bs.map fun u => V.ref u.1) ∧ (∀ u ∈ bs, PromD K CP H u.1 u.2) ∧ (∀ u ∈ bs, ∀ v ∈ bs, u.1 = v.1 → u.2 = v.2) ∧ bs.length ≤ 100 ∧
  ∀ H' : Hp, SBut x H H' → BookAt K CB CP H' x S (dedupP bs) → Q .non H'
/-- Book(schema, promise, ..) -/
def spBook (K : PySem.W.Frag) (CB CP : Addr) : Sp := fun vs H Q _ => ∃ (x dx S : Addr) (bs : List PA2), vs = .ref x :: .ref S :: bs.map (fun u => V.ref u.1) ∧ H x = some (.ins CB dx []) ∧ (∀ u ∈ bs, PromD K CP H u.1 u.2) ∧ (∀ u ∈ bs, ∀ v ∈ bs, u.1 = v.1 → u.2 = v.2) ∧ bs.length ≤ 100 ∧
  ∀ H' : Hp, SBut x H H' → BookAt K CB CP H' x S (dedupP bs) → Q .non H'
/-- book.make(promise) -/
def spMake (K : PySem.W.Frag) (CB CP : Addr) : Sp := fun vs H Q _ => ∃ (x b S : Addr) (bs : List PA2) (d : PD), vs = [.ref x, .ref b] ∧ BookAt K CB CP H x S bs ∧ PromD K CP H b d ∧ (∀ u ∈ bs, u.1 = b → u.2 = d) ∧ bs.length ≤ 100 ∧
  ∀ H' : Hp, SBut x H H' → BookAt K CB CP H' x S (addP bs (b, d)) → Q (.bl (!hasP bs d)) H'
/-- promise in book -/
def spHasP (K : PySem.W.Frag) (CB CP : Addr) : Sp := fun vs H Q _ => ∃ (x b S : Addr) (bs : List PA2) (d : PD), vs = [.ref x, .ref b] ∧ BookAt K CB CP H x S bs ∧ PromD K CP H b d ∧ (∀ u ∈ bs, u.1 = b → u.2 = d) ∧ bs.length ≤ 100 ∧
  ∀ H' : Hp, Same H H' → Q (.bl (hasP bs d)) H'
theorem any_PEq {K : PySem.W.Frag} {CP : Addr} {H : Hp} {bs : List PA2} {b : Addr} {d : PD} (hall : ∀ u ∈ bs, PromD K CP H u.1 u.2) (hb : PromD K CP H b d) (hc : ∀ u ∈ bs, u.1 = b → u.2 = d) :
    ((bs.map fun u => eqPD u.2 d).length = (bs.map fun u => u.1).length) ∧ (∃ dx fs, H b = some (.ins CP dx fs)) ∧ (∀ (i : Nat) (a : Addr), (bs.map fun u => u.1)[i]? = some a → (∃ dx fs, H a = some (.ins CP dx fs)) ∧ ∃ k, (bs.map fun u => eqPD u.2 d)[i]? = some k ∧ PEq K CP a b k H) ∧ (bs.map fun u => eqPD u.2 d).any id = hasP bs d := by
  refine ⟨by rw [List.length_map, List.length_map], let ⟨dx, fs, h, _⟩ := hb.ins; ⟨dx, fs, h⟩, fun i a h => ?_, ?_⟩
  · rw [List.getElem?_map] at h
    obtain ⟨u, hu, rfl⟩ := Option.map_eq_some_iff.mp h
    have hum := List.mem_of_getElem? hu
    refine ⟨let ⟨dx, fs, h, _⟩ := (hall u hum).ins; ⟨dx, fs, h⟩, eqPD u.2 d, by rw [List.getElem?_map, hu]; rfl, u.2, d, hall u hum, hb, hc u hum, rfl⟩
  · rw [List.any_map]
    rfl
theorem addP_mem {bs : List PA2} {u v : PA2} (h : v ∈ addP bs u) : v ∈ bs ∨ v = u := by
  unfold addP at h
  by_cases c : hasP bs u.2 = true
  · rw [if_pos c] at h
    exact .inl h
  · rw [if_neg c] at h
    rcases List.mem_append.mp h with h | h
    · exact .inl h
    · exact .inr (List.mem_singleton.mp h)
theorem addP_len {bs : List PA2} {u : PA2} : (addP bs u).length ≤ bs.length + 1 := by
  unfold addP
  by_cases c : hasP bs u.2 = true
  · rw [if_pos c]
    exact Nat.le_succ _
  · rw [if_neg c, List.length_append]
    exact Nat.le_refl _
theorem foldP_snoc (l : List PA2) (u : PA2) (acc : List PA2) : (l ++ [u]).foldl addP acc = addP (l.foldl addP acc) u := by
  rw [List.foldl_append]
  rfl
/-- book.kept(world, store) -/
def spBKept (K : PySem.W.Frag) (CT CS CB CP : Addr) : Sp := fun vs H Q _ => ∃ (x S W T : Addr) (bs : List PA2) (lw lt : List PR) (rows : List Rw) (l : List Tb), vs = [.ref x, .ref W, .ref T] ∧ BookAt K CB CP H x S bs ∧ bs.length ≤ 100 ∧ HoldIn K CT CS H S W (lw.map rv) (lw.map (·.2)) rows l ∧ RowsP K H lw ∧ SqL K H T (lt.map rv) ∧ RowsP K H lt ∧ lt.length ≤ 1000 ∧
  ∀ (H' : Hp) (k : Bool), Same H H' → (k = true ↔ holdsP rows (lw.map (·.2)) = true ∧ (∀ t ∈ lt.map (·.2), t ∈ lw.map (·.2)) ∧ ∀ u ∈ bs, ∀ t ∈ lw.map (·.2), t ∉ lt.map (·.2) → ¬ SaysG u.2.ts u.2.s u.2.ss (lw.map (·.2)) t) → Q (.bl k) H'
theorem shapedTupRows {ss : List (List Str)} (h : ∀ s ∈ ss, ∀ z ∈ s, SOk z) : SeqAt.shaped (.tuple (shD ss)) = true := by
  obtain ⟨h1, h2⟩ := canShapes h
  unfold SeqAt.shaped
  have e1 : PySem.PyData.canLay0 (.tuple (shD ss)) = true := h1
  have e2 : PySem.PyData.depth (.tuple (shD ss)) = PySem.PyData.depthAll (shD ss) + 1 := rfl
  rw [e1, e2, decide_eq_true (by omega)]
  rfl
end Sw
namespace Sw
open PySem PySem.Spec PyProof.Rows L2
theorem addP_keep {bs : List PA2} {u v : PA2} (h : v ∈ bs) : v ∈ addP bs u := by
  unfold addP
  by_cases c : hasP bs u.2 = true
  · rw [if_pos c]
    exact h
  · rw [if_neg c]
    exact List.mem_append.mpr (.inl h)
theorem addP_has {bs : List PA2} {u : PA2} : ∃ v ∈ addP bs u, v = u ∨ eqPD v.2 u.2 = true := by
  unfold addP
  by_cases c : hasP bs u.2 = true
  · rw [if_pos c]
    obtain ⟨v, hv, h⟩ := List.any_eq_true.mp c
    exact ⟨v, hv, .inr h⟩
  · rw [if_neg c]
    exact ⟨u, List.mem_append.mpr (.inr List.mem_cons_self), .inl rfl⟩
theorem fold_keep : ∀ {l acc : List PA2} {v : PA2}, v ∈ acc → v ∈ l.foldl addP acc
  | [], _, _, h => h
  | u :: r, acc, v, h => fold_keep (l := r) (addP_keep h)
theorem fold_has : ∀ {l acc : List PA2} {u : PA2}, u ∈ l → ∃ v ∈ l.foldl addP acc, v = u ∨ eqPD v.2 u.2 = true
  | a :: r, acc, u, h => by
    rcases List.mem_cons.mp h with rfl | h
    · obtain ⟨v, hv, q⟩ := addP_has (bs := acc) (u := u)
      exact ⟨v, fold_keep (l := r) hv, q⟩
    · exact fold_has (l := r) h
theorem fold_mem : ∀ {l acc : List PA2} {v : PA2}, v ∈ l.foldl addP acc → v ∈ acc ∨ v ∈ l
  | [], _, _, h => .inl h
  | a :: r, acc, v, h => by
    rcases fold_mem (l := r) (acc := addP acc a) h with h | h
    · rcases addP_mem h with h | rfl
      · exact .inl h
      · exact .inr List.mem_cons_self
    · exact .inr (List.mem_cons_of_mem _ h)
theorem fold_len : ∀ {l acc : List PA2}, (l.foldl addP acc).length ≤ acc.length + l.length
  | [], _ => Nat.le_refl _
  | a :: r, acc => by
    have h1 := fold_len (l := r) (acc := addP acc a)
    have h2 := addP_len (bs := acc) (u := a)
    show (r.foldl addP (addP acc a)).length ≤ acc.length + (r.length + 1)
    omega
/-- the promise of a pledge -/
def OfPl (k : Pledge) (d : PD) : Prop := d.s = k.s ∧ d.ss = k.ss ∧ Alike k.es d.ts
/-- the promises of pledges, one behind another -/
def OfPls (ks : List Pledge) (us : List PA2) : Prop := us.length = ks.length ∧ ∀ (i : Nat) (k : Pledge), ks[i]? = some k → ∃ u, us[i]? = some u ∧ OfPl k u.2
theorem OfPls.snoc {ks : List Pledge} {us : List PA2} {k : Pledge} {u : PA2} (h : OfPls ks us) (q : OfPl k u.2) : OfPls (ks ++ [k]) (us ++ [u]) := by
  refine ⟨by rw [List.length_append, List.length_append, h.1]; rfl, fun i k' e => ?_⟩
  by_cases hi : i < ks.length
  · rw [List.getElem?_append_left hi] at e
    obtain ⟨u', h1, h2⟩ := h.2 i k' e
    exact ⟨u', by rw [List.getElem?_append_left (by rw [h.1]; exact hi)]; exact h1, h2⟩
  · have ei : i = ks.length := by
      have := (List.getElem?_eq_some_iff.mp e).1
      rw [List.length_append] at this
      simp at this
      omega
    subst ei
    rw [List.getElem?_append_right (Nat.le_refl _), Nat.sub_self] at e
    obtain rfl : k = k' := Option.some.inj e
    exact ⟨u, by rw [← h.1, List.getElem?_append_right (Nat.le_refl _), Nat.sub_self]; rfl, q⟩
/-- _law_volume(schema, pledges) -/
def spVolume (K : PySem.W.Frag) (CT CS CB CP : Addr) : Sp := fun vs H Q _ => ∃ (S L : Addr) (ps : List V) (ks : List Pledge) (rows : List Rw) (vals : List Str) (l : List Tb), vs = [.ref S, .ref L] ∧ SchOf K CT CS H S rows l ∧ SqL K H L ps ∧ ps.length = ks.length ∧ ks.length ≤ 50 ∧ (∀ (i : Nat) (v : V), ps[i]? = some v → ∃ k k0, ks[i]? = some k0 ∧ PledgeAt K H v k ∧ PledgeOk rows vals k0 ∧ (k0.es.map (·.1)).Nodup ∧ k.s = k0.s ∧ k.ss = k0.ss ∧ Alike k0.es k.es ∧ ∀ e ∈ k.es, e.2.2.length ≤ 3) ∧ (∀ z ∈ vals, SOk z) ∧
  ∀ (H' : Hp) (x : Addr) (us : List PA2), Same H H' → H x = none → BookAt K CB CP H' x S (dedupP us) → OfPls ks us → (∀ u ∈ us, PromD K CP H' u.1 u.2) → (∀ u ∈ us, H u.1 = none) → (∀ u ∈ us, ∀ v ∈ us, u.1 = v.1 → u.2 = v.2) → Q (.ref x) H'
theorem mk_book0 {K : PySem.W.Frag} {CB CP S x dx : Addr} {H : Hp} {Q : Hp → Prop} {E : XK} (nx : H x = none) (ndx : H dx = none) (ne : dx ≠ x) (q : ∀ H' : Hp, Same H H' → BookAt K CB CP H' x S [] → Q H') :
    spBook K CB CP [V.ref x, V.ref S] (upd (upd H dx (.own x)) x (.ins CB dx [])) (fun v H2 => v = .non ∧ Q H2) E := by
  have s1 : Same H (upd (upd H dx (.own x)) x (.ins CB dx [])) := (same_new ndx).trans (same_new (by rw [upd_ne ne.symm]; exact nx))
  exact ⟨x, dx, S, [], rfl, upd_same, fun u hu => (nomatch hu), fun u hu => (nomatch hu), Nat.zero_le _, fun H' sb ba => ⟨rfl, q H' (fun b o e => sb b o (ne_of_none e nx) (s1 b o e)) ba⟩⟩
end Sw
namespace Sw
open PySem PySem.Spec PyProof.Rows L2
/-- what the book of some pledges says is what the pledges say -/
theorem vol_iff {rows : List Rw} {vals : List Str} {ks : List Pledge} {us : List PA2} (nv : ∀ r ∈ rows, isV r.nm = false) (oks : ∀ k ∈ ks, PledgeOk rows vals k ∧ (k.es.map (·.1)).Nodup) (ho : OfPls ks us) (nds : ∀ u ∈ us, (u.2.ts.map (·.1)).Nodup) (rs lt : List (List Str)) :
    (∀ u ∈ dedupP us, ∀ t ∈ rs, t ∉ lt → ¬ SaysG u.2.ts u.2.s u.2.ss rs t) ↔ ∀ k ∈ ks, ∀ t ∈ saidOf rs k, t ∈ lt := by
  have one : ∀ k ∈ ks, ∀ u : PA2, OfPl k u.2 → ∀ t, (t ∈ rs ∧ SaysG u.2.ts u.2.s u.2.ss rs t) ↔ t ∈ saidOf rs k := fun k hk u ⟨e1, e2, al⟩ t => by
    rw [e1, e2]
    exact says_said (oks k hk).1 nv (oks k hk).2 al rs t
  constructor
  · intro h k hk t ht
    obtain ⟨i, hi⟩ := List.mem_iff_getElem?.mp hk
    obtain ⟨u, hu, op⟩ := ho.2 i k hi
    have hum := List.mem_of_getElem? hu
    obtain ⟨h1, h2⟩ := (one k hk u op t).mpr ht
    obtain ⟨v, hv, q⟩ := fold_has (acc := []) hum
    have hs : SaysG v.2.ts v.2.s v.2.ss rs t := by
      rcases q with rfl | q
      · exact h2
      · have hvm : v ∈ us := (fold_mem hv).elim (fun z => nomatch z) id
        exact (eqPD_says (nds v hvm) (nds u hum) q rs t).mpr h2
    exact Classical.byContradiction fun c => h v hv t h1 c hs
  · intro h u hu t ht hn hs
    have hum : u ∈ us := (fold_mem hu).elim (fun z => nomatch z) id
    obtain ⟨i, hi⟩ := List.mem_iff_getElem?.mp hum
    have hil := (List.getElem?_eq_some_iff.mp hi).1
    have hk := List.getElem?_eq_getElem (show i < ks.length by rw [← ho.1]; exact hil)
    obtain ⟨u', hu', op⟩ := ho.2 i _ hk
    rw [hi] at hu'
    obtain rfl := Option.some.inj hu'
    exact hn (h _ (List.getElem_mem _) t ((one _ (List.getElem_mem _) u op t).mp ⟨ht, hs⟩))
end Sw
/-! ## own __iter__ that gives a tuple's iterator, own __contains__, iter(t) -/
namespace Sw
open PySem PySem.Spec PyProof.Rows L2
/-- at it: an iterator of the tuple at t -/
def TiO (t it : Addr) (i : Nat) : HO := .ext fun h => h.IsTupleIter it t i
theorem tiO_ok {P : Program} {w : World} {H : Hp} {h : Heap} {t it : Addr} {i : Nat} (e : h.IsTupleIter it t i) : ObjOk P w H h it (TiO t it i) := ⟨e, (let ⟨o, ho, _⟩ := e; ⟨o, ho⟩), fun h1 h2 q k => let ⟨o, ho, r⟩ := q; ⟨o, k _ ho, r⟩⟩
section
variable {X : Cx}
/-- iter(t), t a tuple -/
def rIterT (K : PySem.W.Frag) (n : Nat) : List V → Hp → VK → Prop := fun xs H Q => ∃ (t : Addr) (ys : List V), xs = [.ref t] ∧ SqT K H t ys ∧ ∀ it, H it = none → n ≤ it → Q (.ref it) (upd H it (TiO t it 0))
theorem call_iterT : CallR X (.builtin "iter") (rIterT X.K X.s_0.heap.objs.size) := by
  intro pins s σ H xs us Q I r h
  obtain ⟨t, ys, rfl, hq, q⟩ := h
  obtain ⟨u, rfl, ru⟩ := vals1 r
  cases ru
  obtain ⟨its, rv, pl, hz⟩ := I.tuple hq
  refine Calls.call_function_entry (by decide +kernel) (by decide +kernel) PySem.W.kdk_entry_iter (PySem.W.kdk_args_iter _) ?_
  unfold Builtin.«iter»
  refine wpAny_bind (m := someArgs "iter" 1 2 _) (wpAny_of_eq (a := [Value.ref t]) (by first | rfl | kernel_rfl!) ?_)
  show wpAny _ _ (pyIter (.ref t) >>= _) _ _ _
  refine wpAny_bind (wpAny_pyIter_tuple (show s.heap.IsTuple t its.toArray from pl) ?_)
  refine wpAny_pure ⟨_, rfl, .ref s.heap.objs.size, _, I.laid (t' := s.toks) (fun b u e => Heap.get?_push_of_some _ e) (Nat.le_refl _) (tiO_ok (t := t) (i := 0) ⟨_, Heap.get?_push_size _ rfl, rfl, rfl⟩), rfl, q _ (I.hok.fresh (Nat.le_refl _)) I.sz⟩
end
/-- a def's promise that may speak of the heap's size at its call -/
structure FnOkN (P : Program) (w : World) (K : PySem.W.Frag) (mg : Str → Option Value) (base : Heap) (CX : CXT) (k : Nat) (f : Addr) (fd : FuncData) (ps : List Str) (sp : Nat → Sp) : Prop where
  len : ∀ n vs H Q E, sp n vs H Q E → vs.length = ps.length
  run : ∀ (A : Around) (outer : List Env) (s : Shared) (H : Hp) (args : Args) (us : List Value) (vs : List V) (Q : VK) (E : XK), Room k A → Env0 P w K mg base A outer s H → BindsTo s fd args (ps.zip us) → Vals vs us → sp s.heap.objs.size vs H Q E →
    codeAny (model P w) A (.call (.ref f) args) (CR CX outer P w H s Q E) s
theorem fn_ofN {CX : CXT} {P : Program} {w : World} {K : PySem.W.Frag} {mg : Str → Option Value} {base : Heap} {k : Nat} {f : Addr} {name qual : Str} {params : Arguments} {body : List Stmt} {scope : Scope} {dV kV doc pm cdv ct oc : Value} {an od : Option Addr}
    {osl : Array (Option Value)} {N ps : List Str} {sp : Nat → Sp} (lk : K.lookup f = some ⟨oc, od, .func (PySem.W.fnOf name qual params body scope dV kV doc pm an cdv ct), osl⟩) (hcd : PySem.W.codeIn K cdv qual = true) (S : FnScope N ps scope)
    (len : ∀ n vs H Q E, sp n vs H Q E → vs.length = ps.length)
    (hbody : ∀ (A : Around) (outer : List Env) (s : Shared) (H : Hp) (vs : List V) (Q : VK) (E : XK), Room k (A.deeper (envOfC qual scope s.heap.objs.size f cdv)) → sp s.heap.objs.size vs H Q E →
      ∃ t, PSs (cxOf CX P w K mg base N qual scope f cdv A outer s H E) body t ∧ t { nx := fun _ H' => Q .non H', rt := Q } (L2.start N vs) H) :
    FnOkN P w K mg base CX (k + 1) f (PySem.W.fnOf name qual params body scope dV kV doc pm an cdv ct) ps sp := by
  refine ⟨len, fun A outer s H args us vs Q E hr e0 hb r hsp => ?_⟩
  have hl := len _ _ _ _ _ hsp
  have KX : K.In s.heap := e0.mod.kin.keeps fun b o e => (e0.bs b o e).1
  have lim : s.heap.NoLimit := e0.mod.nolimit.keeps fun b o e => (e0.bs b o e).1
  have hkind : ∀ y ∈ ps.zip us, scope.names.lookup y.1 = some .local ∨ (scope.names.lookup y.1 = some .cell ∧ ((cellsFrom (s.heap.objs.size + 1) scope.names []).lookup y.1).isSome = true) := fun ⟨n, v⟩ hy => by
    rcases S.par n (List.of_mem_zip hy).1 with q | q
    · exact .inl q
    · exact .inr ⟨q, PySem.W.cellsFrom_some _ _ _ (.inl q)⟩
  refine codeAny_call_function hr.depth (KX _ _ lk) rfl S.co S.gen rfl (PySem.W.codeRec_of KX hcd) (hb _ _ _ _ ?_)
  refine wpAny_newFunctionEnv_cells S.kind hkind fun env he s1 x => ?_
  subst he
  refine ⟨lim.keeps x.toInCall.keep, codeAny_func ?_⟩
  obtain ⟨t, ht, hq⟩ := hbody A outer s H vs Q E (hr.deeper _) hsp
  have I : Inv (cxOf CX P w K mg base N qual scope f cdv A outer s H E) [] (L2.start N vs) H s1 := inv_start S hr.hd e0 hl r x
  refine wpAny_mono (ht.run [] s1 (L2.start N vs) H _ I hq) (fun fl s' hs => ?_) fun e s' hs => hs
  have fin : ∀ {σ' : L2.St} {H' : Hp} {v : V} {u : Value}, Inv (cxOf CX P w K mg base N qual scope f cdv A outer s H E) [] σ' H' s' → RelV v u → Q v H' → CE outer P w H s Q u s' :=
    fun {σ' H' v u} J rv q => ⟨v, H', J.os, J.bare, J.base, J.hok, rv, q⟩
  cases fl with
  | ret u =>
    obtain ⟨v, σ', H', J, rv, q⟩ := hs
    exact fin J rv q
  | next =>
    obtain ⟨σ', H', J, q⟩ := hs
    exact fin (v := V.non) (u := Value.none) J rfl q
  | brk =>
    obtain ⟨_, _, _, q⟩ := hs
    exact False.elim q
  | cont =>
    obtain ⟨_, _, _, q⟩ := hs
    exact False.elim q
section
variable {X : Cx}
/-- for x in e, e an instance whose own __iter__ gives a tuple's iterator -/
def iOwn (K : PySem.W.Frag) (C : Addr) (sp : Nat → Sp) (E : XK) (te : TE) : TI := fun σ H R => te σ H fun v H1 => ∃ a dx fs, v = .ref a ∧ H1 a = some (.ins C dx fs) ∧
  ∀ n, sp n [.ref a] H1 (fun u H2 => ∃ it t ys, u = .ref it ∧ n ≤ it ∧ H2 it = some (TiO t it 0) ∧ SqT K H2 t ys ∧ R (Itt K t) (ItX.dropH H2 it)) E
theorem pi_own {CX : CXT} {C f : Addr} {fd : FuncData} {ps : List Str} {sp : Nat → Sp} {E : XK} {k : Nat} {tg e : Expr} {te : TE} (hs : PySem.W.findIn X.K (.ref C) "__iter__" = some (some (.ref f))) (hf : PySem.W.isFn X.K (.ref f) = true) (F : FnOkN X.prog X.w X.K X.mg X.base CX k f fd ps sp) (bF : Binds X.K fd ps []) (hx : Passes CX X E) (hr : Room k X.A) (he : PE X e te) :
    PI X tg e (iOwn X.K C sp E te) := by
  refine ⟨fun pins s0 σ H0 R I0 h => ?_⟩
  refine thn (he.run pins s0 σ H0 _ I0 h) fun v s ⟨x, H, I, r1, a, dx, fs, ex, ha, hsp⟩ => ?_
  subst ex
  cases r1
  obtain ⟨mA, J, _⟩ := ins_get I.hok ha
  obtain ⟨od, J, _⟩ := J.look
  obtain ⟨m, hF⟩ := I.fr
  refine PySem.W.owit_iter hF I.ok.mod.kin J hs hf ?_
  have hsp := hsp s.heap.objs.size
  have hl := F.len _ _ _ _ _ hsp
  have r2 : Vals [V.ref a] [Value.ref a] := .cons rfl .nil
  refine wpAny_call (codeAny_mono (F.run X.A X.stack s H ⟨[.ref a], []⟩ [.ref a] [.ref a] _ E hr I.env0 (by
    have := bF s [.ref a] I.kIn (by simpa using hl)
    simpa using this) r2 hsp) fun r s' hq => ?_)
  cases r with
  | error e => exact hx pins σ H s e s' I hq
  | ok fl =>
    cases fl with
    | next => exact False.elim hq
    | brk => exact False.elim hq
    | cont => exact False.elim hq
    | ret u =>
      obtain ⟨v, H', os, bare, un, hok, rv, it, t, ys, rfl, hn, hit, hys, q⟩ := hq
      cases rv
      have I' : Inv X pins σ H' s' := I.call' os un hok bare (fun b z => absurd z (by simp))
      have st : s'.heap.IsTupleIter it t 0 := (I'.hok it _ hit).1
      have hT : s'.TypeIs (.ref it) "tuple_iterator" := st.typeIs
      have big : X.s_0.heap.objs.size ≤ it := Nat.le_trans I.sz hn
      unfold PySem.W.OwitIt
      refine wpAny_specialOf (name := Str.ofString "__next__") hT PySem.F.slot_tuple_iterator_next.lookup ?_
      have hit' := hit
      unfold TiO at hit'
      refine ⟨it, [it], _, _, ItX.dropH H' it, rfl, ItX.inv_drop I' hit', turn_tuple t it, st, fun b hb => ?_, q⟩
      have e : b = it := by simpa using hb
      rw [e]
      exact ItX.inv_fp I' hit big
end
end Sw
/-! ## own __contains__, list(o) of an own iterable, != of what holds lists -/
namespace Sw
open PySem PySem.Spec PyProof.Rows L2
open PySem.SeqRoads2
section
variable {X : Cx}
/-- x in o, by o's own __contains__ -/
def rInK (C : Addr) (sp : Sp) (E : XK) : R2 := fun x y H Q => ∃ a dx fs, y = .ref a ∧ H a = some (.ins C dx fs) ∧ sp [.ref a, x] H (fun u H2 => ∃ b, u = .bl b ∧ Q (.bl b) H2) E
theorem op_inK {CX : CXT} {C f : Addr} {fd : FuncData} {ps : List Str} {sp : Sp} {E : XK} {k : Nat} (hs : PySem.W.findIn X.K (.ref C) "__contains__" = some (some (.ref f))) (hf : PySem.W.isFn X.K (.ref f) = true) (F : FnOk X.prog X.w X.K X.mg X.base CX k f fd ps sp) (bF : Binds X.K fd ps []) (hx : Passes CX X E) (hr : Room k X.A) : OpR X (compareOp .In) (rInK C sp E) := by
  intro pins s σ H x y v u Q I rx ry h
  obtain ⟨a, dx, fs, rfl, ha, hsp⟩ := h
  cases (show u = Value.ref a from ry)
  obtain ⟨mA, J, _⟩ := ins_get I.hok ha
  obtain ⟨od, J, _⟩ := J.look
  obtain ⟨m, hF⟩ := I.fr
  refine PySem.W.in_K hF I.ok.mod.kin J hs hf ?_
  have hl := F.len _ _ _ _ hsp
  have r2 : Vals [V.ref a, x] [Value.ref a, v] := .cons rfl (.cons rx .nil)
  refine wpAny_call (codeAny_mono (F.run X.A X.stack s H ⟨[.ref a, v], []⟩ [.ref a, v] [.ref a, x] _ E hr I.env0 (by
    have := bF s [.ref a, v] I.kIn (by simpa using hl)
    simpa using this) r2 hsp) fun r s' hq => ?_)
  cases r with
  | error e => exact hx pins σ H s e s' I hq
  | ok fl =>
    cases fl with
    | next => exact False.elim hq
    | brk => exact False.elim hq
    | cont => exact False.elim hq
    | ret w =>
      obtain ⟨z, H', I', rz, b, ez, q⟩ := I.after hq
      subst ez
      cases rz
      exact wpAny_truthy_bool ⟨.bl b, H', I', rfl, q⟩
/-- list.extend.loop over a tuple's iterator -/
theorem tl_loop {pins : List (Addr × Obj)} {σ : L2.St} {H : Hp} {A1 : Around} {Rs : Result → Shared → Prop} {q it t : Addr} {xs : List V} (hh : A1.in1.handled = none) (hne : q ≠ it) (hlen : xs.length ≤ sizeLine) (hqt : t ≠ q)
    (ht : ∀ i, SqT X.K (upd H q (.lst (xs.take i))) t xs) (hdone : ∀ s, Inv X pins σ (upd H q (.lst xs)) s → Rs (.ok (.ret .none)) s) :
    ∀ (m i : Nat) (s : Shared), xs.length - i = m → i ≤ xs.length → Inv X pins σ (upd H q (.lst (xs.take i))) s → FpOk X pins (upd H q (.lst (xs.take i))) it → s.heap.IsTupleIter it t i →
      codeAny (model X.prog X.w) A1 (.builtin "list.extend.loop" ⟨[.ref q, .ref it, .none], []⟩) Rs s := by
  intro m
  induction m with
  | zero =>
    intro i s hm hi I hf st
    have e : i = xs.length := by omega
    obtain ⟨its, rv, p, hz⟩ := I.tuple (ht i)
    obtain ⟨f0, f1, f2, f3, f4, f5⟩ := hf
    have hl := rv.length
    refine codeAny_builtin PySem.F.entry_extend_loop ?_
    rw [Around.under_plainId PySem.F.plain_extend_loop _]
    show wpAny _ A1.in1 (pyNext (.ref it) >>= _) _ _ s
    refine wpAny_bind (wpAny_pyNext_tuple_end hh st (show s.heap.IsTuple t its.toArray from p) (by simp; omega) fun h' eb => ?_)
    have I1 : Inv X pins σ (upd H q (.lst (xs.take i))) { s with heap := h' } := I.turned (t' := s.toks) (fun b o hb e => eb b o hb e) f0 f1 f3 f4 f5
    rw [e, List.take_length] at I1
    exact wpAny_pure (hdone _ I1)
  | succ m ih =>
    intro i s hm hi I hf st
    obtain ⟨its, rv, p, hz⟩ := I.tuple (ht i)
    have hil : i < xs.length := by omega
    obtain ⟨u, hu, ru⟩ := rv.get (List.getElem?_eq_getElem hil)
    obtain ⟨f0, f1, f2, f3, f4, f5⟩ := id hf
    refine codeAny_builtin PySem.F.entry_extend_loop ?_
    rw [Around.under_plainId PySem.F.plain_extend_loop _]
    show wpAny _ A1.in1 (pyNext (.ref it) >>= _) _ _ s
    refine wpAny_bind (wpAny_pyNext_tuple_item st (show s.heap.IsTuple t its.toArray from p) (x := u) (by simpa using hu) fun h' st' sb => ?_)
    have I1 : Inv X pins σ (upd H q (.lst (xs.take i))) { s with heap := h' } := I.turned (t' := s.toks) (fun b o hb e => (sb.2 b hb).trans e) f0 f1 f3 f4 f5
    show wpAny _ A1.in1 (updateSeq q (·.push u) >>= _) _ _ _
    obtain ⟨z, js, k, r2, hl, e⟩ := I1.lstM upd_same
    have hjl := r2.length
    rw [List.length_take] at hjl
    have I2 := I1.lset (f := (·.push u)) (its' := js ++ [u]) (ys := xs.take i ++ [xs[i]]) (t' := s.toks) upd_same e (by simp) (r2.append (.cons ru .nil)) (by rw [List.length_append, List.length_take, List.length_singleton]; omega)
    rw [upd_upd, ← take_snoc (List.getElem?_eq_getElem hil)] at I2
    refine wpAny_bind (wpAny_updateSeq e rfl (wpAny_pure ⟨plainId_quiet PySem.F.plain_extend_loop _, ?_⟩) (by rw [List.size_toArray]; omega) (by show (js.toArray.push u).size ≤ sizeLine + 1; rw [Array.size_push, List.size_toArray]; omega))
    exact ih (i + 1) _ (by omega) (by omega) I2 ⟨by rw [upd_ne hne.symm]; rw [upd_ne hne.symm] at f0; exact f0, f1, f2, f3, f4, f5⟩ (st'.at fun o eo => (Heap.get?_update_other _ _ hne).trans eo)
/-- nothing is said of the length -/
theorem own_hint2 {M : Model} {A : Around} {E : Value → Shared → Prop} {Q : Bool → Shared → Prop} {K : PySem.W.Frag} {s : Shared} {a C : Addr} {ox : Obj} {od : Option Obj} (h1 : PySem.W.findIn K (.ref C) "__len__" = some none) (h2 : PySem.W.findIn K (.ref C) "__length_hint__" = some none) (hK : K.In s.heap) (J : PySem.W.InstAt s.heap a ox C od) (h : Q true s) :
    wpAny M A (Builtin.List.listLengthHint (.ref a)) Q E s := by
  unfold Builtin.List.listLengthHint
  refine wpAny_bind (wpAny_bind (J.type.here ((PySem.W.looks_findIn hK h1).here ?_)))
  refine PySem.W.KFB.if_not rfl ?_
  refine PySem.W.KFB.if_not rfl ?_
  refine wpAny_bind (wpAny_bind (J.type.here ((PySem.W.looks_findIn hK h2).here ?_)))
  exact wpAny_pure h
/-- list(o), o's own __iter__ gives a tuple's iterator -/
def rListO (K : PySem.W.Frag) (C : Addr) (sp : Nat → Sp) (E : XK) : List V → Hp → VK → Prop := fun xs H Q => ∃ a dx fs, xs = [.ref a] ∧ H a = some (.ins C dx fs) ∧ ∀ l, H l = none → ∀ n, l < n →
  sp n [.ref a] (upd H l (.lst [])) (fun u H2 => ∃ it t ys, u = .ref it ∧ n ≤ it ∧ H2 it = some (TiO t it 0) ∧ H2 l = some (.lst []) ∧ SqT K (ItX.dropH H2 it) t ys ∧ ItX.dropH H2 it a = some (.ins C dx fs) ∧ ys.length ≤ 1000 ∧ Q (.ref l) (upd (ItX.dropH H2 it) l (.lst ys))) E
theorem call_listO {CX : CXT} {C f : Addr} {fd : FuncData} {ps : List Str} {sp : Nat → Sp} {E : XK} {k : Nat} (hs : PySem.W.findIn X.K (.ref C) "__iter__" = some (some (.ref f))) (hf : PySem.W.isFn X.K (.ref f) = true) (n1 : PySem.W.findIn X.K (.ref C) "__len__" = some none) (n2 : PySem.W.findIn X.K (.ref C) "__length_hint__" = some none)
    (F : FnOkN X.prog X.w X.K X.mg X.base CX k f fd ps sp) (bF : Binds X.K fd ps []) (hx : Passes CX X E) (hc : X.calm = true) (hr : Room (k + 2) X.A) : CallR X (.type "list") (rListO X.K C sp E) := by
  intro pins s σ H xs us Q I rv h
  obtain ⟨a, dx, fs, rfl, ha, hq⟩ := h
  obtain ⟨u, rfl, ru⟩ := rv.one
  cases ru
  have sb : L2.Sub X k X.A.in1.in1 := (L2.Sub.in1 (L2.Sub.in1 (⟨hr, rfl⟩ : L2.Sub X (k + 2) X.A)))
  refine callType_codes (Q₁ := fun obj s₁ => obj = .ref s.heap.objs.size ∧ s₁ = { s with heap := s.heap.push { cls := .type "list", data := .seq #[] } }) PySem.F.called_list (PySem.F.typeCall_list_1 _) PySem.F.entry_list_init
    (code_list_new _ ⟨rfl, rfl⟩) fun obj s₁ h₁ => ?_
  obtain ⟨rfl, rfl⟩ := h₁
  have hS : (s.heap.push { cls := .type "list", data := .seq #[] }).get? s.heap.objs.size = some { cls := .type "list", data := .seq #[] } := Heap.get?_push_size _ rfl
  refine ⟨⟨_, hS, rfl⟩, PySem.F.args_list_init_2 _ _, ?_⟩
  have fr : H s.heap.objs.size = none := I.hok.fresh (Nat.le_refl _)
  have I1 : Inv X pins σ (upd H s.heap.objs.size (.lst [])) { s with heap := s.heap.push { cls := .type "list", data := .seq #[] } } := I.lnew (its := []) (t' := s.toks) .nil (Nat.zero_le _)
  show wpAny _ _ (do let old ← Builtin.List.listItems (.ref s.heap.objs.size); Builtin.List.listUpdate (.ref s.heap.objs.size) (fun _ => #[]); letGo old.toList.reverse; Builtin.List.listExtendWith (.ref s.heap.objs.size) (.ref a) .none) _ _ _
  refine wpAny_bind ?_
  unfold Builtin.List.listItems
  refine wpAny_bind (wpAny_seqItems hS rfl (wpAny_pure ?_))
  show wpAny _ _ (updateSeq s.heap.objs.size (fun _ => #[]) >>= fun _ => letGo (#[] : Array Value).toList.reverse >>= fun _ => Builtin.List.listExtendWith (.ref s.heap.objs.size) (.ref a) .none) _ _ _
  refine wpAny_bind (wpAny_updateSeq hS rfl ?_)
  have I2 := I1.lset (f := fun _ => #[]) (its := []) (its' := []) (ys := []) (t' := s.toks) upd_same hS rfl .nil (Nat.zero_le _)
  rw [upd_upd] at I2
  refine wpAny_bind (wpAny_letGo ?_)
  have ha2 : upd H s.heap.objs.size (.lst []) a = some (.ins C dx fs) := by rw [upd_ne (ne_of_none ha fr)]; exact ha
  have hsz : s.heap.objs.size < ((s.heap.push { cls := .type "list", data := .seq #[] }).update s.heap.objs.size (Obj.mapSeq (fun _ => (#[] : Array Value)))).objs.size := by
    exact Heap.lt_size (Heap.get?_update_self (Obj.mapSeq (fun _ => (#[] : Array Value))) hS rfl)
  generalize ((s.heap.push { cls := .type "list", data := .seq #[] }).update s.heap.objs.size (Obj.mapSeq (fun _ => (#[] : Array Value)))) = hp1 at I2 hsz ⊢
  have hne : s.heap.objs.size ≠ a := ne_of upd_same ha2 (fun z => nomatch z)
  have hsp := hq _ fr _ hsz
  generalize s.heap.objs.size = q at *
  obtain ⟨mA, J, _⟩ := ins_get I2.hok ha2
  obtain ⟨od, J, _⟩ := J.look
  obtain ⟨m0, hF⟩ := I2.fr
  unfold Builtin.List.listExtendWith
  refine wpAny_bind (J.type.here ?_)
  have h1 : Builtin.List.listSameRef (.ref q) (.ref a) = false := by simp [Builtin.List.listSameRef, hne]
  have h2 : (Value.ref C == Value.type "list") = false := rfl
  have h3 : (Value.ref C == Value.type "tuple") = false := rfl
  simp only [h1, h2, h3, Bool.or_false, Bool.false_eq_true, if_false]
  refine wpAny_bind (PySem.W.owit_iter hF I2.ok.mod.kin J hs hf ?_)
  have e0 : Env0 X.prog X.w X.K X.mg X.base X.A.in1.in1 X.stack { s with heap := hp1 } (upd H q (.lst [])) := by
    have e := I2.env0
    exact ⟨by rw [sb.fr]; exact e.frames, e.mod, e.bs, e.bsz, e.funs, e.frf, e.hok, e.bare⟩
  have hl := F.len _ _ _ _ _ hsp
  have r2 : Vals [V.ref a] [Value.ref a] := .cons rfl .nil
  refine wpAny_call (codeAny_mono (F.run X.A.in1.in1 X.stack { s with heap := hp1 } _ ⟨[.ref a], []⟩ [.ref a] [.ref a] _ E sb.room e0 (by
    have := bF { s with heap := hp1 } [.ref a] I2.kIn (by simpa using hl)
    simpa using this) r2 hsp) fun r s' hq' => ?_)
  cases r with
  | error e => exact hx pins σ _ _ e s' I2 hq'
  | ok fl =>
    cases fl with
    | next => exact False.elim hq'
    | brk => exact False.elim hq'
    | cont => exact False.elim hq'
    | ret u =>
      obtain ⟨v, H', os, bare, un, hok, rv, it, t, ys, rfl, hn, hit, hql, hys, haI, hlen, qq⟩ := hq'
      cases rv
      have I3 : Inv X pins σ H' s' := I2.call' os un hok bare (fun b z => absurd z (by simp))
      have st : s'.heap.IsTupleIter it t 0 := (I3.hok it _ hit).1
      have hT : s'.TypeIs (.ref it) "tuple_iterator" := st.typeIs
      have big : X.s_0.heap.objs.size ≤ it := Nat.le_trans I2.sz hn
      unfold PySem.W.OwitIt
      refine wpAny_specialOf (name := Str.ofString "__next__") hT PySem.F.slot_tuple_iterator_next.lookup ?_
      have hit' := hit
      unfold TiO at hit'
      have hqi : q ≠ it := Nat.ne_of_lt (Nat.lt_of_lt_of_le hsz hn)
      have ID := ItX.inv_drop I3 hit'
      have hf := ItX.inv_fp I3 hit big
      have hqd : ItX.dropH H' it q = some (.lst []) := by rw [ItX.dropH_ne hqi]; exact hql
      have htq : t ≠ q := by
        rintro rfl
        obtain ⟨its1, _, pl1, _⟩ := ID.tuple hys
        obtain ⟨_, its2, k2, _, _, e2⟩ := ID.lstM hqd
        obtain ⟨o1, ho1, hc1, _⟩ := pl1
        rw [e2] at ho1
        obtain rfl := Option.some.inj ho1
        exact absurd (Value.type.inj hc1) (by decide)
      have hup : upd (ItX.dropH H' it) q (.lst []) = ItX.dropH H' it := by
        funext b
        by_cases hb : b = q
        · rw [hb, upd_same, hqd]
        · rw [upd_ne hb]
      have nt : ∀ zs, HO.lst [] ≠ .tup zs ∧ ∀ u, HO.lst ([] : List V) ≠ .frz u (.tup zs) := fun zs => ⟨fun z => (nomatch z), fun u z => (nomatch z)⟩
      have main : ∀ (s2 : Shared), Inv X pins σ (ItX.dropH H' it) s2 → s2.heap.IsTupleIter it t 0 → codeAny (model X.prog X.w) X.A.in1 (.builtin "list.extend.loop" ⟨[.ref q, .ref it, .none], []⟩) (wants (fun r s₂ => r = .none ∧ EP X pins σ Q (.ref q) s₂) X.xe) s2 := fun s2 J2 st2 => by
        refine tl_loop (H := ItX.dropH H' it) (xs := ys) (σ := σ) (pins := pins) (show X.A.in1.in1.handled = none from I.ok.hd hc) hqi (Nat.le_of_lt (small1000 hlen)) htq (fun i => sqT_upd hys hqd nt) (fun s3 J3 => ⟨rfl, .ref q, _, J3, rfl, qq⟩) ys.length 0 s2 (by omega) (Nat.zero_le _) (by rw [List.take_zero, hup]; exact J2) (by rw [List.take_zero, hup]; exact hf) st2
      obtain ⟨mA', J', _⟩ := ins_get ID.hok haI
      obtain ⟨od', J', _⟩ := J'.look
      refine wpAny_bind (wpAny_holding (own_hint2 n1 n2 ID.kIn J' ?_))
      obtain ⟨z, its, kk, r3, hl3, e3⟩ := ID.lstM hqd
      cases r3
      refine wpAny_ite_split (fun _ => ?_) (fun _ => wpAny_pure ⟨plainId_quiet PySem.F.plain_extend_loop _, main _ ID st⟩)
      refine wpAny_bind (wpAny_rule ?_)
      refine wpAny_bind ?_
      show wpAny _ _ (updateSeq q (·.push .none) >>= fun _ => updateSeq q (·.pop)) _ _ _
      refine wpAny_bind (wpAny_updateSeq e3 rfl ?_)
      have J2 := ID.lset (f := (·.push Value.none)) (its' := [Value.none]) (ys := [.non]) (t' := s'.toks) hqd e3 (by simp) (.cons rfl .nil) (by rw [List.length_singleton, sizeLine_eq]; decide)
      obtain ⟨z4, its4, k4, r4, hl4, e4⟩ := J2.lstM upd_same
      obtain ⟨u4, rfl, ru4⟩ := r4.one
      refine wpAny_updateSeq e4 rfl ?_ (by show 1 ≤ sizeLine; rw [sizeLine_eq]; decide) (by show 0 ≤ sizeLine + 1; exact Nat.zero_le _)
      have J3 := J2.lset (f := (·.pop)) (its := [u4]) (its' := []) (ys := []) (t' := s'.toks) upd_same e4 (by rfl) .nil (Nat.zero_le _)
      rw [upd_upd, hup] at J3
      exact wpAny_pure ⟨plainId_quiet PySem.F.plain_extend_loop _, main _ J3 (st.at fun o eo => (Heap.get?_update_other _ _ hqi).trans ((Heap.get?_update_other _ _ hqi).trans eo))⟩
end
end Sw
/-! ## what the laws of books make and ask: a pledge mirrored, a book looked at -/
namespace Sw
open PySem PySem.Spec PyProof.Rows L2
/-- the same keys, the words the other way round -/
def Mirr (es rs : List Ent) : Prop := Paired (fun (e r : Ent) => r.1 = e.1 ∧ r.2.2 = e.2.2.reverse) es rs
theorem Mirr.none : Mirr [] [] := Paired.nil
theorem Mirr.snoc {es rs : List Ent} {e r : Ent} (h : Mirr es rs) (h1 : r.1 = e.1) (h2 : r.2.2 = e.2.2.reverse) : Mirr (es ++ [e]) (rs ++ [r]) := by
  unfold Mirr at h ⊢
  induction h with
  | nil => exact .cons ⟨h1, h2⟩ .nil
  | cons a _ ih => exact .cons a ih
theorem Mirr.alike {es rs : List Ent} (h : Mirr es rs) : Alike es rs := by
  unfold Mirr at h
  unfold Alike
  induction h with
  | nil => exact .nil
  | cons a _ ih => exact .cons ⟨a.1, fun x => by rw [a.2]; exact List.mem_reverse⟩ ih
theorem Mirr.len {es rs : List Ent} (h : Mirr es rs) : ∀ r ∈ rs, ∃ e ∈ es, r.2.2.length = e.2.2.length := by
  unfold Mirr at h
  induction h with
  | nil => exact fun r hr => nomatch hr
  | cons a _ ih =>
    intro r hr
    rcases List.mem_cons.mp hr with rfl | hr
    · exact ⟨_, List.mem_cons_self, by rw [a.2, List.length_reverse]⟩
    · obtain ⟨e, he, h⟩ := ih r hr
      exact ⟨e, List.mem_cons_of_mem _ he, h⟩
/-- _law_mirror(pledge) -/
def spMirror (K : PySem.W.Frag) : Sp := fun vs H Q _ => ∃ (v : V) (k : Pledge), vs = [v] ∧ PledgeAt K H v k ∧ k.es.length ≤ 100 ∧ (∀ e ∈ k.es, e.2.2.length ≤ 3) ∧
  ∀ (H' : Hp) (k' : Pledge), Same H H' → H k'.a = none → PledgeAt K H' (.ref k'.a) k' → k'.s = k.s → k'.ss = k.ss → Mirr k.es k'.es → k'.sh = k.sh → (∀ e ∈ k'.es, H e.2.1 = none) → Q (.ref k'.a) H'
theorem alike_words {es ts : List Ent} (h : Alike es ts) (a : ∀ e ∈ es, AscS e.2.2) (b : ∀ e ∈ ts, AscS e.2.2) : ts.map (fun e => (e.1, e.2.2)) = es.map (fun e => (e.1, e.2.2)) := by
  unfold Alike at h
  induction h with
  | nil => rfl
  | @cons e r es' rs' q _ ih =>
    rw [List.map_cons, List.map_cons, ih (fun e he => a e (List.mem_cons_of_mem _ he)) (fun e he => b e (List.mem_cons_of_mem _ he)), q.1, ascS_unique (b r List.mem_cons_self) (a e List.mem_cons_self) q.2]
theorem entOf_words {es ts : List Ent} (h : ts.map (fun e => (e.1, e.2.2)) = es.map (fun e => (e.1, e.2.2))) (k : Key) : (entOf ts k).isSome = (entOf es k).isSome ∧ wordsAt ts k = wordsAt es k := by
  unfold wordsAt entOf
  induction ts generalizing es with
  | nil =>
    cases es with
    | nil => exact ⟨rfl, rfl⟩
    | cons e r => cases h
  | cons t ts ih =>
    cases es with
    | nil => cases h
    | cons e es =>
      rw [List.map_cons, List.map_cons] at h
      injection h with h1 h2
      injection h1 with h3 h4
      rw [List.find?_cons, List.find?_cons, h3]
      cases decide (e.1 = k) with
      | true => exact ⟨rfl, h4⟩
      | false => exact ih h2
theorem dEqB_words_eq {es ts es' ts' : List Ent} (h : ts.map (fun e => (e.1, e.2.2)) = es.map (fun e => (e.1, e.2.2))) (h' : ts'.map (fun e => (e.1, e.2.2)) = es'.map (fun e => (e.1, e.2.2))) : dEqB ts ts' = dEqB es es' := by
  have l1 : ts.length = es.length := by have := congrArg List.length h; rwa [List.length_map, List.length_map] at this
  have l2 : ts'.length = es'.length := by have := congrArg List.length h'; rwa [List.length_map, List.length_map] at this
  have main : ∀ (us vs : List Ent), us.map (fun e => (e.1, e.2.2)) = vs.map (fun e => (e.1, e.2.2)) → (us.all fun e => (entOf ts' e.1).isSome && decide (wordsAt ts e.1 = wordsAt ts' e.1)) = (vs.all fun e => (entOf es' e.1).isSome && decide (wordsAt es e.1 = wordsAt es' e.1)) := by
    intro us
    induction us with
    | nil =>
      intro vs hv
      cases vs with
      | nil => rfl
      | cons e r => cases hv
    | cons u us ih =>
      intro vs hv
      cases vs with
      | nil => cases hv
      | cons e vs =>
        rw [List.map_cons, List.map_cons] at hv
        injection hv with h1 h2
        injection h1 with h3 h4
        rw [List.all_cons, List.all_cons, ih vs h2, h3, (entOf_words h' e.1).1, (entOf_words h' e.1).2, (entOf_words h e.1).2]
  unfold dEqB
  rw [l1, l2, main ts es h]
/-- the promises are equal as their pledges are -/
theorem of_eq {k k' : Pledge} {d d' : PD} (o : OfPl k d) (o' : OfPl k' d') (a : ∀ e ∈ k.es, AscS e.2.2) (a' : ∀ e ∈ k'.es, AscS e.2.2) (b : ∀ e ∈ d.ts, AscS e.2.2) (b' : ∀ e ∈ d'.ts, AscS e.2.2) : eqPD d d' = eqPl k k' := by
  unfold eqPD eqPl
  rw [o.1, o.2.1, o'.1, o'.2.1, dEqB_words_eq (alike_words o.2.2 a b) (alike_words o'.2.2 a' b')]
theorem PromD.asc {K : PySem.W.Frag} {CP x : Addr} {H : Hp} {d : PD} (h : PromD K CP H x d) : ∀ e ∈ d.ts, AscS e.2.2 := by
  obtain ⟨p, qA, lA, xs, g⟩ := h.ex
  exact fun e he => (g.ts.all e he).2
/-- iter(book) -/
def spBIter (K : PySem.W.Frag) (CB CP : Addr) : Nat → Sp := fun n vs H Q _ => ∃ (x S : Addr) (bs : List PA2), vs = [.ref x] ∧ BookAt K CB CP H x S bs ∧
  ∀ it t, H it = none → n ≤ it → SqT K H t (bs.map fun u => V.ref u.1) → Q (.ref it) (upd H it (TiO t it 0))
end Sw
/-! ## == of two pledges, with its answer; what a book's rows are -/
namespace Sw
open PySem PySem.Spec PyProof.Rows L2
theorem ents_of {H : Hp} {es es' : List Ent} (h : es.map (fun e : Ent => (e.1, V.ref e.2.1)) = es'.map (fun e : Ent => (e.1, V.ref e.2.1))) (a : ∀ e ∈ es, H e.2.1 = some (.lst (e.2.2.map V.str))) (b : ∀ e ∈ es', H e.2.1 = some (.lst (e.2.2.map V.str))) : es = es' := by
  induction es generalizing es' with
  | nil =>
    cases es' with
    | nil => rfl
    | cons e r => cases h
  | cons x r ih =>
    cases es' with
    | nil => cases h
    | cons y r' =>
      rw [List.map_cons, List.map_cons] at h
      injection h with h1 h2
      injection h1 with h3 h4
      injection h4 with h5
      obtain ⟨x1, x2, x3⟩ := x
      obtain ⟨y1, y2, y3⟩ := y
      dsimp only at h3 h5
      subst h3 h5
      have q1 := a _ List.mem_cons_self
      have q2 := b _ List.mem_cons_self
      dsimp only at q1 q2
      rw [q1] at q2
      have q3 := (List.map_inj_right (fun _ _ h => V.str.inj h)).mp (HO.lst.inj (Option.some.inj q2))
      rw [q3, ih h2 (fun e he => a e (List.mem_cons_of_mem _ he)) (fun e he => b e (List.mem_cons_of_mem _ he))]
theorem pledge_parts {K : PySem.W.Frag} {H : Hp} {rows : List Rw} {vals : List Str} {v u : V} {k k' : Pledge} (p : PledgeAt K H v k) (ok : PledgeOk rows vals k) (p' : PledgeAt K H u k') (ok' : PledgeOk rows vals k') (vl : ∀ z ∈ vals, SOk z) :
    ∃ (xs ys : List V) (e : Nat → Bool), SqL K H k.a xs ∧ SqL K H k'.a ys ∧ xs.length = ys.length ∧ (∀ (i : Nat) (x y : V), xs[i]? = some x → ys[i]? = some y → EqV K H 7 x y (e i)) ∧ (List.range xs.length).all e = eqPl k k' := by
  obtain ⟨q, li, xs, h1, h2, h3, h4, h5⟩ := p.ex
  obtain ⟨q', li', xs', g1, g2, g3, g4, g5⟩ := p'.ex
  have e3 : eqPl k k' = (List.range 3).all fun i => match i with | 0 => decide (k.s = k'.s) | 1 => decide (k.ss = k'.ss) | _ => dEqB k.es k'.es := by
    show _ = (decide (k.s = k'.s) && (decide (k.ss = k'.ss) && (dEqB k.es k'.es && true)))
    rw [Bool.and_true]
    rfl
  refine ⟨[.ref q, .ref k.sh, .ref li], [.ref q', .ref k'.sh, .ref li'], _, SqL.of h1, SqL.of g1, rfl, fun i w w' e e' => ?_, e3.symm⟩
  match i, e, e' with
  | 0, e, e' =>
    obtain rfl := Option.some.inj e
    obtain rfl := Option.some.inj e'
    show EqV K H 7 (.ref q) (.ref q') (decide (k.s = k'.s))
    rw [← eqv_row]
    refine .data (.tup h2 (dpStrs k.s)) (.tup g2 (dpStrs k'.s)) (SeqAt.canLay_of_shaped (shapedStrs (ok.sok _ List.mem_cons_self)).1) (SeqAt.canLay_of_shaped (shapedStrs (ok'.sok _ List.mem_cons_self)).1) ?_
    have e : PyData.depth (.tuple (k.s.map .str)) = PyData.depthAll (k.s.map .str) + 1 := rfl
    rw [e, depth_strs]
    omega
  | 1, e, e' =>
    obtain rfl := Option.some.inj e
    obtain rfl := Option.some.inj e'
    show EqV K H 7 (.ref k.sh) (.ref k'.sh) (decide (k.ss = k'.ss))
    rw [← eqv_rows]
    have z : EqV K H 7 (.ref k.sh) (.ref k'.sh) (PyData.eqv (.list (shD k.ss)) (.list (shD k'.ss))) := by
      refine .data (.lst (SqL.of h3) h4.dp) (.lst (SqL.of g3) g4.dp) (canShapes fun s hs => ok.sok s (List.mem_cons_of_mem _ hs)).1 (canShapes fun s hs => ok'.sok s (List.mem_cons_of_mem _ hs)).1 ?_
      have e : PyData.depth (.list (shD k.ss)) = PyData.depthAll (shD k.ss) + 1 := rfl
      have := depth_parts k.ss
      rw [e]
      omega
    exact z
  | 2, e, e' =>
    obtain rfl := Option.some.inj e
    obtain rfl := Option.some.inj e'
    show EqV K H 7 (.ref li) (.ref li') (dEqB k.es k'.es)
    by_cases hl : li = li'
    · subst hl
      rw [h5] at g5
      have := ents_of (HO.dK.inj (Option.some.inj g5)) p.all p'.all
      rw [← this, dEqB_refl _ p.nd]
      exact .same rfl ⟨_, rfl⟩
    have ed : dEqB k.es k'.es = ((k.es.map fun e : Ent => (e.1, V.ref e.2.1)).length == (k'.es.map fun e : Ent => (e.1, V.ref e.2.1)).length && (k.es.map fun e : Ent => (e.1, V.ref e.2.1)).all fun pp => (valV (k'.es.map fun e : Ent => (e.1, V.ref e.2.1)) pp.1).isSome && decide (wordsAt k.es pp.1 = wordsAt k'.es pp.1)) := by
      unfold dEqB
      rw [List.length_map, List.length_map, List.all_map]
      congr 2
      funext e
      show _ = ((valV (k'.es.map fun e : Ent => (e.1, V.ref e.2.1)) e.1).isSome && _)
      rw [valV_find, Option.isSome_map]
      rfl
    rw [ed]
    refine EqV.dicts (e := fun kk => decide (wordsAt k.es kk = wordsAt k'.es kk)) hl h5 g5 fun pp hp u hu => ?_
    obtain ⟨e, he, rfl⟩ := List.mem_map.mp hp
    rw [valV_find] at hu
    obtain ⟨e', he', rfl⟩ := Option.map_eq_some_iff.mp hu
    obtain ⟨m1, m2⟩ := entOf_some (ts := k'.es) (k := e.1) he'
    have w1 : wordsAt k.es e.1 = e.2.2 := by unfold wordsAt; rw [entOf_mem p.nd he]; rfl
    have w2 : wordsAt k'.es e.1 = e'.2.2 := by unfold wordsAt; rw [show entOf k'.es e.1 = some e' from he']; rfl
    have hw : decide (wordsAt k.es e.1 = wordsAt k'.es e.1) = PyData.eqv (.list (e.2.2.map .str)) (.list (e'.2.2.map .str)) := by
      rw [w1, w2]
      exact (eqv_row e.2.2 e'.2.2).symm
    show EqV _ _ 6 (V.ref e.2.1) (V.ref e'.2.1) (decide (wordsAt k.es e.1 = wordsAt k'.es e.1))
    rw [hw]
    refine .data (.lst (SqL.of (p.all e he)) (dpStrs e.2.2)) (.lst (SqL.of (p'.all e' m1)) (dpStrs e'.2.2)) (SeqAt.canLay_of_shaped (shapedL fun z hz => vl z ((ok.ev e he).2 z hz))) (SeqAt.canLay_of_shaped (shapedL fun z hz => vl z ((ok'.ev e' m1).2 z hz))) ?_
    have e : PyData.depth (.list (e.2.2.map .str)) = PyData.depthAll (e.2.2.map .str) + 1 := rfl
    rw [e, depth_strs]
    omega
  | i + 3, e, e' => cases e
theorem pledge_eqv {K : PySem.W.Frag} {H : Hp} {rows : List Rw} {vals : List Str} {v u : V} {k k' : Pledge} (p : PledgeAt K H v k) (ok : PledgeOk rows vals k) (p' : PledgeAt K H u k') (ok' : PledgeOk rows vals k') (vl : ∀ z ∈ vals, SOk z) (same : v = u → k = k') : EqV K H 8 v u (eqPl k k') := by
  by_cases huv : v = u
  · rw [← same huv, eqPl_refl p.nd]
    exact .same huv ⟨_, p.ref⟩
  have ne : k.a ≠ k'.a := fun z => huv (by rw [p.ref, p'.ref, z])
  obtain ⟨xs, ys, e, h1, h2, h3, h4, h5⟩ := pledge_parts p ok p' ok' vl
  rw [p.ref, p'.ref, ← h5]
  exact .lists ne h1 h2 h3 h4
/-- a tuple of a part and its partners -/
structure MadeAt (K : PySem.W.Frag) (H : Hp) (v : V) (r : List Str × List (List Str)) : Prop where
  ex : ∃ a p b xs, v = .ref a ∧ SqT K H a [.ref p, .ref b] ∧ SqT K H p (r.1.map V.str) ∧ SqT K H b xs ∧ PartsV K H xs r.2
theorem MadeAt.same {K : PySem.W.Frag} {H H' : Hp} {v : V} {r : List Str × List (List Str)} (h : MadeAt K H v r) (s : Same H H') : MadeAt K H' v r :=
  ⟨let ⟨a, p, b, xs, e, h1, h2, h3, h4⟩ := h.ex; ⟨a, p, b, xs, e, same_seqT s h1, same_seqT s h2, same_seqT s h3, h4.same s⟩⟩
theorem MadeAt.upd {K : PySem.W.Frag} {H : Hp} {M : Addr} {v : V} {r : List Str × List (List Str)} {vs ws : List V} (h : MadeAt K H v r) (hM : H M = some (.lst vs)) : MadeAt K (upd H M (.lst ws)) v r := by
  obtain ⟨a, p, b, xs, e, h1, h2, h3, h4⟩ := h.ex
  have nt : ∀ ys, HO.lst vs ≠ .tup ys ∧ ∀ u, HO.lst vs ≠ .frz u (.tup ys) := fun ys => ⟨fun z => (nomatch z), fun u z => (nomatch z)⟩
  exact ⟨a, p, b, xs, e, sqT_upd h1 hM nt, sqT_upd h2 hM nt, sqT_upd h3 hM nt, ⟨h4.len, fun i v w => let ⟨s1, g1, b, g2, g3⟩ := h4.all i v w; ⟨s1, g1, b, g2, sqT_upd g3 hM nt⟩⟩⟩
def rowD (r : List Str × List (List Str)) : PyData := .tuple [.tuple (r.1.map .str), .tuple (shD r.2)]
structure MadeV (K : PySem.W.Frag) (H : Hp) (vs : List V) (rs : List (List Str × List (List Str))) : Prop where
  len : vs.length = rs.length
  all : ∀ (i : Nat) (v : V), vs[i]? = some v → ∃ r, rs[i]? = some r ∧ MadeAt K H v r
theorem MadeV.same {K : PySem.W.Frag} {H H' : Hp} {vs : List V} {rs : List (List Str × List (List Str))} (h : MadeV K H vs rs) (s : Same H H') : MadeV K H' vs rs := ⟨h.len, fun i v e => let ⟨r, h1, h2⟩ := h.all i v e; ⟨r, h1, h2.same s⟩⟩
theorem MadeV.upd {K : PySem.W.Frag} {H : Hp} {M : Addr} {us : List V} {rs : List (List Str × List (List Str))} {vs ws : List V} (h : MadeV K H us rs) (hM : H M = some (.lst vs)) : MadeV K (upd H M (.lst ws)) us rs := ⟨h.len, fun i v e => let ⟨r, h1, h2⟩ := h.all i v e; ⟨r, h1, h2.upd hM⟩⟩
theorem MadeV.snoc {K : PySem.W.Frag} {H : Hp} {us : List V} {v : V} {rs : List (List Str × List (List Str))} {r : List Str × List (List Str)} (h : MadeV K H us rs) (g : MadeAt K H v r) : MadeV K H (us ++ [v]) (rs ++ [r]) := by
  refine ⟨by rw [List.length_append, List.length_append, h.len]; rfl, fun i w e => ?_⟩
  by_cases c : i < us.length
  · rw [List.getElem?_append_left c] at e
    obtain ⟨r', h1, h2⟩ := h.all i w e
    exact ⟨r', by rw [List.getElem?_append_left (by rw [← h.len]; exact c)]; exact h1, h2⟩
  · rw [List.getElem?_append_right (Nat.le_of_not_lt c)] at e
    have hz : i - us.length = 0 := by
      have := (List.getElem?_eq_some_iff.mp e).1
      rw [List.length_singleton] at this
      omega
    rw [hz] at e
    obtain rfl := Option.some.inj e
    exact ⟨r, by rw [List.getElem?_append_right (by rw [← h.len]; exact Nat.le_of_not_lt c), ← h.len, hz]; rfl, g⟩
theorem MadeV.dp {K : PySem.W.Frag} {H : Hp} : ∀ {vs : List V} {rs : List (List Str × List (List Str))}, MadeV K H vs rs → DpAll K H vs (rs.map rowD)
  | [], [], _ => .nil
  | [], _ :: _, h => nomatch h.len
  | _ :: _, [], h => nomatch h.len
  | v :: vs, r :: rs, h => by
    obtain ⟨r', h1, h2⟩ := h.all 0 v rfl
    obtain rfl := Option.some.inj h1
    obtain ⟨a, p, b, xs, rfl, g1, g2, g3, g4⟩ := h2.ex
    exact .cons (.tup g1 (.cons (.tup g2 (dpStrs r.1)) (.cons (.tup g3 g4.dp) .nil))) (MadeV.dp ⟨by have := h.len; rw [List.length_cons, List.length_cons] at this; omega, fun i w e => h.all (i + 1) w e⟩)
theorem shapedMade {rs : List (List Str × List (List Str))} (h : ∀ r ∈ rs, (∀ z ∈ r.1, SOk z) ∧ ∀ s ∈ r.2, ∀ z ∈ s, SOk z) : SeqAt.shaped (.list (rs.map rowD)) = true := by
  have main : ∀ (rs : List (List Str × List (List Str))), (∀ r ∈ rs, (∀ z ∈ r.1, SOk z) ∧ ∀ s ∈ r.2, ∀ z ∈ s, SOk z) → PySem.PyData.canLayAll0 (rs.map rowD) = true ∧ PySem.PyData.depthAll (rs.map rowD) ≤ 3 := by
    intro rs
    induction rs with
    | nil => exact fun _ => ⟨rfl, Nat.zero_le _⟩
    | cons r rs ih =>
      intro h
      obtain ⟨i1, i2⟩ := ih fun r hr => h r (List.mem_cons_of_mem _ hr)
      obtain ⟨a1, a2⟩ := h r List.mem_cons_self
      obtain ⟨h1, h2⟩ := canStrs a1
      obtain ⟨h3, h4⟩ := canShapes a2
      constructor
      · show ((PySem.PyData.canLayAll0 (r.1.map .str) && (PySem.PyData.canLayAll0 (shD r.2) && true)) && PySem.PyData.canLayAll0 (rs.map rowD)) = true
        rw [h1, h3, i1]
        rfl
      · show max (max (PySem.PyData.depthAll (r.1.map .str) + 1) (max (PySem.PyData.depthAll (shD r.2) + 1) 0) + 1) (PySem.PyData.depthAll (rs.map rowD)) ≤ 3
        omega
  obtain ⟨h1, h2⟩ := main rs h
  unfold SeqAt.shaped
  have e1 : PySem.PyData.canLay0 (.list (rs.map rowD)) = true := h1
  have e2 : PySem.PyData.depth (.list (rs.map rowD)) = PySem.PyData.depthAll (rs.map rowD) + 1 := rfl
  rw [e1, e2, decide_eq_true (by omega)]
  rfl
/-- _law_book_is(schema, book, kept, pool): so it is -/
def spBookIs (K : PySem.W.Frag) (CT CS CB CP : Addr) : Sp := fun vs H Q _ => ∃ (S x L M : Addr) (bs : List PA2) (vk vp : List V) (kf : V → Pledge) (rows : List Rw) (vals : List Str) (l : List Tb), vs = [.ref S, .ref x, .ref L, .ref M] ∧ SchOf K CT CS H S rows l ∧ BookAt K CB CP H x S bs ∧ OfPls (vk.map kf) bs ∧
  SqL K H L vk ∧ vk.length ≤ 50 ∧ SqL K H M vp ∧ vp.length ≤ 50 ∧ PlAt K H rows vals kf vk ∧ PlAt K H rows vals kf vp ∧ (∀ z ∈ vals, SOk z) ∧ ∀ H' : Hp, Same H H' → Q (.bl true) H'
end Sw
/-! ## != of two lists that hold lists and dicts: the answer -/
namespace Sw
open PySem PySem.Spec PyProof.Rows L2
open PySem.AutoSeq1 (wpAny_loadPart')
open PySem.MeetsSeq PySem.MeetsSeq2 PySem.MeetsSeq3 PySem.SeqRoads2
open PySem.SeqAt (EqIn)
section
variable {prog : Program} {w : World} {A : Around} {R : Result → Shared → Prop} {s : Shared}
theorem differ_loop (l b : Addr) (xs ys : Array Value) (n m : Nat) (dl db : Option Addr) (sl sb : Array (Option Value)) (e : Nat → Bool) (hl : s.heap.get? l = some { cls := .type "list", dict := dl, data := .seq xs n, slots := sl })
    (hb : s.heap.get? b = some { cls := .type "list", dict := db, data := .seq ys m, slots := sb }) (hsz : xs.size = ys.size) (he : ∀ j (h1 : j < xs.size) (h2 : j < ys.size), EqIn prog w A.in1 s xs[j] ys[j] (e j)) (hR : R (.ok (.ret (.bool (!(List.range xs.size).all e)))) s) (k : Nat) :
    ∀ i : Nat, xs.size - i = k → i ≤ xs.size → (∀ j, j < i → e j = true) →
      wpAny (model prog w) A.in1 (Builtin.«list.__eq__.loop» ⟨[.ref l, .ref b, rawInt i, rawInt 3], []⟩) (GQ.FinOf prog w A R) (fun er s' => R (.error er) s') s := by
  induction k with
  | zero =>
    intro i hk hi hall
    have ei : i = xs.size := by omega
    have ea : (List.range xs.size).all e = true := List.all_eq_true.mpr fun j hj => hall j (by rw [ei]; exact List.mem_range.mp hj)
    rw [ea] at hR
    have n1 : xs[((i : Nat) : Int).toNat]? = none := by simp; omega
    have n2 : ys[((i : Nat) : Int).toNat]? = none := by simp; omega
    obtain ⟨hp, g, d, tk, os⟩ := s
    wp_walk using wpAny_loadPart' hl, wpAny_loadPart' hb
    rw [n1, n2]
    wp_walk using wpAny_loadPart' hl, wpAny_loadPart' hb
    show R (.ok (.ret (.bool (xs.size != ys.size)))) _
    rw [hsz, bne_self_eq_false]
    exact hR
  | succ k ih =>
    intro i hk hi hall
    have h1 : i < xs.size := by omega
    have h2 : i < ys.size := by omega
    have n1 : xs[((i : Nat) : Int).toNat]? = some xs[i] := by simp [h1]
    have n2 : ys[((i : Nat) : Int).toNat]? = some ys[i] := by simp [h2]
    have hturn := he i h1 h2
    have hrec := fun (q : e i = true) => ih (i + 1) (by omega) (by omega) fun j hj => by
      rcases Nat.lt_succ_iff_lt_or_eq.mp hj with hj | rfl
      · exact hall j hj
      · exact q
    obtain ⟨hp, g, d, tk, os⟩ := s
    wp_walk using wpAny_loadPart' hl, wpAny_loadPart' hb
    rw [n1, n2]
    refine wpAny_bind (hturn _ _ ?_)
    cases hv : e i with
    | true =>
      have hc : ((i : Int) + 1) = ((i + 1 : Nat) : Int) := by omega
      wp_walk
      rw [hc]
      exact ⟨plainId_quiet plain_eq_loop _, codeAny_builtin entry_eq_loop (by
        rw [Around.under_plainId plain_eq_loop _]
        exact hrec hv)⟩
    | false =>
      have ea : (List.range xs.size).all e = false := by
        rw [Bool.eq_false_iff]
        intro z
        rw [List.all_eq_true] at z
        rw [z i (List.mem_range.mpr h1)] at hv
        cases hv
      rw [ea] at hR
      wp_walk using wpAny_loadPart' hl, wpAny_loadPart' hb
      rw [n1, n2]
      wp_walk
      exact hR
theorem differ_lists {l b : Addr} {xs ys : Array Value} {e : Nat → Bool} {E : Value → Shared → Prop} {Q : Value → Shared → Prop} (hl : s.heap.IsList l xs) (hb : s.heap.IsList b ys) (hsz : xs.size = ys.size) (hu : A.units < cLine)
    (he : ∀ j (h1 : j < xs.size) (h2 : j < ys.size), EqIn prog w A.in1 s xs[j] ys[j] (e j)) (h : Q (.bool (!(List.range xs.size).all e)) s) : wpAny (model prog w) A (richCompare .NotEq (.ref l) (.ref b)) Q E s := by
  obtain ⟨⟨cls, dd, data, sl⟩, ho, hc, n, hd⟩ := id hl
  obtain ⟨⟨cls2, dd2, data2, sl2⟩, ho2, hc2, n2, hd2⟩ := id hb
  simp only at hc hd hc2 hd2
  subst hc hd hc2 hd2
  refine wpAny_richCompare_same_room (T := "list") (op := .NotEq) ⟨_, ho, rfl⟩ ⟨_, ho2, rfl⟩ F.slot_list_ne (GQ.call_here F.slot_list_ne ⟨_, ho, rfl⟩ F.entry_list_ne (F.args_list_ne_2 _ _) ?_) hu
  have hrec := differ_loop (A := A) (R := wants (fun r s' => r ≠ Value.notImplemented ∧ Q r s') E) l b xs ys n n2 dd dd2 sl sl2 e ho ho2 hsz he ⟨(fun z => nomatch z), h⟩ _ 0 rfl (Nat.zero_le _) fun j hj => absurd hj (Nat.not_lt_zero _)
  have f3 := AutoSeq1.sub_list_list
  have hne : ¬ (xs.size != ys.size) = true := by rw [hsz, bne_self_eq_false]; decide
  obtain ⟨hp, g, d, tk, os⟩ := s
  wp_walk using wpAny_loadPart' ho, wpAny_loadPart' ho2
  exact ⟨plainId_quiet plain_eq_loop _, codeAny_builtin entry_eq_loop (by
    rw [Around.under_plainId plain_eq_loop _]
    exact hrec)⟩
end
section
variable {X : Cx}
/-- != of two lists -/
def rNeLst (K : PySem.W.Frag) : R2 := fun x y H Q => ∃ (n : Nat) (a b : Addr) (xs ys : List V) (e : Nat → Bool), n ≤ 60 ∧ x = .ref a ∧ y = .ref b ∧ SqL K H a xs ∧ SqL K H b ys ∧ xs.length = ys.length ∧ (∀ (i : Nat) (u v : V), xs[i]? = some u → ys[i]? = some v → EqV K H n u v (e i)) ∧ Q (.bl (!(List.range xs.length).all e)) H
theorem op_neLst (hu : X.A.units + 64 < cLine) : OpR X (compareOp .NotEq) (rNeLst X.K) := by
  intro pins s σ H x y v u Q I rx ry h
  obtain ⟨n, a, b, xs, ys, e, hn, rfl, rfl, ha, hb, hl, hc, q⟩ := h
  cases (show v = Value.ref a from rx)
  cases (show u = Value.ref b from ry)
  obtain ⟨us, r1, p1, _⟩ := I.list ha
  obtain ⟨ws, r2, p2, _⟩ := I.list hb
  have l1 := r1.length
  have l2 := r2.length
  refine differ_lists (e := e) p1.isList p2.isList (by rw [List.size_toArray, List.size_toArray]; omega) (by omega) (fun j h1 h2 => ?_) ?_
  · have g1 : us[j]? = some us.toArray[j] := by simpa using h1
    have g2 : ws[j]? = some ws.toArray[j] := by simpa using h2
    obtain ⟨x, hx, rx'⟩ := vals_at r1 g1
    obtain ⟨y, hy, ry'⟩ := vals_at r2 g2
    exact (eqv_tree I (hc j x y hx hy) rx' ry').at X.A.in1 (by show X.A.units + 1 + n < cLine; omega)
  · rw [List.size_toArray, ← l1]
    exact ⟨.bl _, H, I, rfl, q⟩
end
end Sw
/-! ## the pool of different pledges -/
namespace Sw
open PySem PySem.Spec PyProof.Rows L2
theorem rows_wd {vals : List Str} {rows : List Rw} (h : RowsOk vals rows) : ∀ r ∈ rows, r.wd ≤ 3 := fun r hr => (h.own r hr).wd.2
theorem vars_three {rows : List Rw} {ss : List (List Str)} (h : ∀ s ∈ ss, PartGood rows s) (w : ∀ r ∈ rows, r.wd ≤ 3) : (allVars ss).length ≤ ss.length * 3 := by
  induction ss with
  | nil => exact Nat.zero_le _
  | cons s r ih =>
    have h1 := ih fun t ht => h t (List.mem_cons_of_mem _ ht)
    obtain ⟨r0, hr0, _, hl⟩ := (h s List.mem_cons_self).row
    have h2 := w r0 hr0
    have h3 : (s.tail.filter isV).length ≤ s.tail.length := List.length_filter_le _ _
    have e : allVars (s :: r) = s.tail.filter isV ++ allVars r := rfl
    rw [e, List.length_append, List.length_cons]
    omega
theorem own_ok {K : PySem.W.Frag} {H : Hp} {R : Addr} {many : Nat} {xs : List V} {rows : List Rw} {vals tms : List Str} {k : Ask} (b : BeginAt K H R many xs rows vals tms k) (hm : many ≤ 3) {s0 : List Str} {rest : List (List Str)} (hs : k.ss = s0 :: rest) (O Sl : Addr) : PledgeOk rows vals ⟨O, Sl, s0, rest, k.es⟩ ∧ (k.es.map (·.1)).Nodup := by
  obtain ⟨good, keq⟩ := b.good (by omega)
  obtain ⟨T, Va, Tm, A, h1, h2, h3, h4, t, sh, li, ys, a1, a2, a3, a4⟩ := b.ex
  have nm := b.ask.nm
  have l3 : k.ss.length ≤ 3 := by omega
  have vl := vars_three good.parts (rows_wd b.ok)
  have ke : k.es.length ≤ 12 := by
    have := nodup_leA (fs := k.es.map (·.1)) (ns := (allVars k.ss).map Sum.inr) a4.nd fun z hz => by
      obtain ⟨e, he, rfl⟩ := List.mem_map.mp hz
      obtain ⟨v, hv1, hv2⟩ := (a4.all e he).2.2.2.2
      exact List.mem_map.mpr ⟨v, hv2, hv1.symm⟩
    rw [List.length_map, List.length_map] at this
    omega
  rw [hs] at good l3
  refine ⟨⟨⟨good.n1, good.n10, good.parts, Nat.zero_le _, good.kl, fun z hz => (nomatch hz), good.ks⟩, keq, by rw [List.length_cons] at l3; show rest.length ≤ 2; omega, ke, fun e he => ⟨(a4.all e he).2.2.1, (a4.all e he).2.2.2.1⟩, ?_, fun e he => ?_, fun e he => (a4.all e he).2.1⟩, a4.nd⟩
  · intro s hs' z hz
    rw [← show k.ss = s0 :: rest from hs] at hs'
    obtain ⟨i, hi⟩ := List.mem_iff_getElem?.mp hs'
    have hil : i < ys.length := by rw [a3.len]; exact (List.getElem?_eq_some_iff.mp hi).1
    obtain ⟨s', q1, _, _, _, q2⟩ := a3.all i _ (List.getElem?_eq_getElem hil)
    rw [hi] at q1
    obtain rfl := Option.some.inj q1
    exact q2 z hz
  · obtain ⟨v, hv1, hv2⟩ := (a4.all e he).2.2.2.2
    unfold allVars at hv2
    obtain ⟨s, hs', hv3⟩ := List.mem_flatMap.mp hv2
    obtain ⟨hv4, hv5⟩ := List.mem_filter.mp hv3
    refine ⟨v, hv1, hv5, ?_⟩
    obtain ⟨i, hi⟩ := List.mem_iff_getElem?.mp hs'
    have hil : i < ys.length := by rw [a3.len]; exact (List.getElem?_eq_some_iff.mp hi).1
    obtain ⟨s', q1, _, _, _, q2⟩ := a3.all i _ (List.getElem?_eq_getElem hil)
    rw [hi] at q1
    obtain rfl := Option.some.inj q1
    exact q2 v (List.mem_of_mem_tail hv4)
/-- _law_pool_of(setup) -/
def spPoolOf (K : PySem.W.Frag) : Sp := fun vs H Q _ => ∃ (R : Addr) (many : Nat) (xs : List V) (rows : List Rw) (vals tms : List Str) (k : Ask) (ps : List V), vs = [.ref R] ∧ PrepAt K H R many xs rows vals tms k ps ∧ many ≤ 3 ∧
  ∀ (H' : Hp) (M : Addr) (vp : List V) (kf : V → Pledge), Same H H' → H M = none → SqL K H' M vp → 1 ≤ vp.length → vp.length ≤ 6 → PlAt K H' rows vals kf vp → PlDiff kf vp → Q (.ref M) H'
end Sw
/-! ## a book beside lists that change -/
namespace Sw
open PySem PySem.Spec PyProof.Rows L2
theorem PrepAt.same {K : PySem.W.Frag} {H H' : Hp} {R : Addr} {many : Nat} {xs : List V} {rows : List Rw} {vals tms : List Str} {k : Ask} {vs : List V} (p : PrepAt K H R many xs rows vals tms k vs) (s : Same H H') : PrepAt K H' R many xs rows vals tms k vs :=
  ⟨let ⟨R0, T, Va, Tm, A, D, h1, h2, h3, h4, h5⟩ := p.ex; ⟨R0, T, Va, Tm, A, D, s _ _ h1, s _ _ h2, h3.same s, s _ _ h4, h5.same s⟩, p.len, let ⟨kf, h1, h2⟩ := p.df; ⟨kf, h1.same s, h2⟩⟩
theorem PromD.upd {K : PySem.W.Frag} {CP x M : Addr} {H : Hp} {d : PD} {vs ws : List V} (h : PromD K CP H x d) (hM : H M = some (.lst vs)) : PromD K CP (upd H M (.lst ws)) x d := by
  have nt : ∀ ys, HO.lst vs ≠ .tup ys ∧ ∀ u, HO.lst vs ≠ .frz u (.tup ys) := fun ys => ⟨fun z => (nomatch z), fun u z => (nomatch z)⟩
  obtain ⟨p, qA, lA, xs, ⟨dp, g⟩, g1, g2, g3, g4⟩ := h.ex
  exact { h with ex := ⟨p, qA, lA, xs, ⟨dp, by rw [upd_ne (ne_of g hM fun z => nomatch z)]; exact g⟩, sqT_upd g1 hM nt, sqT_upd g2 hM nt, ⟨g3.len, fun i v w => let ⟨s1, q1, b, q2, q3⟩ := g3.all i v w; ⟨s1, q1, b, q2, sqT_upd q3 hM nt⟩⟩, ⟨by rw [upd_ne (ne_of g4.at_ hM fun z => nomatch z)]; exact g4.at_, fun r hr => ⟨by rw [upd_ne (ne_of (g4.all r hr).1 hM fun z => nomatch z)]; exact (g4.all r hr).1, (g4.all r hr).2⟩⟩⟩ }
theorem BookAt.upd {K : PySem.W.Frag} {CB CP x S M : Addr} {H : Hp} {bs : List PA2} {vs ws : List V} (h : BookAt K CB CP H x S bs) (hM : H M = some (.lst vs)) : BookAt K CB CP (upd H M (.lst ws)) x S bs := by
  have nt : ∀ ys, HO.lst vs ≠ .tup ys ∧ ∀ u, HO.lst vs ≠ .frz u (.tup ys) := fun ys => ⟨fun z => (nomatch z), fun u z => (nomatch z)⟩
  obtain ⟨dx, t, h1, h2⟩ := h.ex
  exact ⟨⟨dx, t, by rw [upd_ne (ne_of h1 hM fun z => nomatch z)]; exact h1, sqT_upd h2 hM nt⟩, fun u hu => (h.all u hu).upd hM⟩
theorem BookAt.hand0 {K : PySem.W.Frag} {CB CP x S p : Addr} {H H' : Hp} (h : BookAt K CB CP H x S []) (hh : HandAt H p) (e : SBut p H H') : BookAt K CB CP H' x S [] := by
  obtain ⟨dx, t, h1, h2⟩ := h.ex
  obtain ⟨ns, h3, _⟩ := id hh
  exact ⟨⟨dx, t, e _ _ (ne_of h1 h3 fun z => nomatch z) h1, sqT_hand h2 hh e⟩, fun u hu => (nomatch hu)⟩
/-- a book of the pledges kept, one more made -/
theorem kept_any {kf : V → Pledge} {vk : List V} {bs : List PA2} {v : V} {d : PD} (ho : OfPls (vk.map kf) bs) (o : OfPl (kf v) d) (a : ∀ w ∈ vk, ∀ e ∈ (kf w).es, AscS e.2.2) (a' : ∀ e ∈ (kf v).es, AscS e.2.2) (b : ∀ u ∈ bs, ∀ e ∈ u.2.ts, AscS e.2.2) (b' : ∀ e ∈ d.ts, AscS e.2.2) :
    hasP bs d = (List.range vk.length).any fun i => eqPl (kf (vk.getD i V.non)) (kf v) := by
  have bl : bs.length = vk.length := by rw [ho.1, List.length_map]
  have main : ∀ (i : Nat) (u : PA2), bs[i]? = some u → eqPD u.2 d = eqPl (kf (vk.getD i V.non)) (kf v) := fun i u hu => by
    have hil : i < vk.length := by rw [← bl]; exact (List.getElem?_eq_some_iff.mp hu).1
    have hw := List.getElem?_eq_getElem hil
    obtain ⟨u', h1, h2⟩ := ho.2 i (kf vk[i]) (by rw [List.getElem?_map, hw]; rfl)
    rw [hu] at h1
    obtain rfl := Option.some.inj h1
    rw [getD_of hw]
    exact of_eq h2 o (a _ (List.getElem_mem hil)) a' (b u (List.mem_of_getElem? hu)) b'
  unfold hasP
  rw [Bool.eq_iff_iff, List.any_eq_true, List.any_eq_true]
  constructor
  · rintro ⟨u, hu, hg⟩
    obtain ⟨i, hi⟩ := List.mem_iff_getElem?.mp hu
    exact ⟨i, List.mem_range.mpr (by rw [← bl]; exact (List.getElem?_eq_some_iff.mp hi).1), by rw [← main i u hi]; exact hg⟩
  · rintro ⟨i, hi, hf⟩
    have hil : i < bs.length := by rw [bl]; exact List.mem_range.mp hi
    exact ⟨bs[i], List.getElem_mem hil, by rw [main i _ (List.getElem?_eq_getElem hil)]; exact hf⟩
theorem OfPls.snoc1 {kf : V → Pledge} {vk : List V} {bs : List PA2} {v : V} {u : PA2} (h : OfPls (vk.map kf) bs) (o : OfPl (kf v) u.2) : OfPls ((vk ++ [v]).map kf) (bs ++ [u]) := by
  rw [List.map_append]
  exact h.snoc o
theorem mk_book {K : PySem.W.Frag} {CB CP S x dx : Addr} {H : Hp} {Q : Hp → Prop} {E : XK} {bs : List PA2} (nx : H x = none) (ndx : H dx = none) (ne : dx ≠ x) (hall : ∀ u ∈ bs, PromD K CP H u.1 u.2) (hd : ∀ u ∈ bs, ∀ v ∈ bs, u.1 = v.1 → u.2 = v.2) (hl : bs.length ≤ 100) (q : ∀ H' : Hp, Same H H' → BookAt K CB CP H' x S (dedupP bs) → Q H') :
    spBook K CB CP (V.ref x :: V.ref S :: bs.map fun u => V.ref u.1) (upd (upd H dx (.own x)) x (.ins CB dx [])) (fun v H2 => v = .non ∧ Q H2) E := by
  have s1 : Same H (upd (upd H dx (.own x)) x (.ins CB dx [])) := (same_new ndx).trans (same_new (by rw [upd_ne ne.symm]; exact nx))
  exact ⟨x, dx, S, bs, rfl, upd_same, fun u hu => (hall u hu).same s1, hd, hl, fun H' sb ba => ⟨rfl, q H' (fun b o e => sb b o (ne_of_none e nx) (s1 b o e)) ba⟩⟩
abbrev natV (o : Nat) : V := V.int (o : Int)
abbrev natD (o : Nat) : PyData := .int (o : Int)
theorem dpNats {K : PySem.W.Frag} {H : Hp} : ∀ os : List Nat, DpAll K H (os.map natV) (os.map natD)
  | [] => .nil
  | o :: r => .cons (.int _) (dpNats r)
theorem shapedNats (os : List Nat) : SeqAt.shaped (.list (os.map natD)) = true := by
  have main : ∀ os : List Nat, PySem.PyData.canLayAll0 (os.map natD) = true ∧ PySem.PyData.depthAll (os.map natD) = 0 := by
    intro os
    induction os with
    | nil => exact ⟨rfl, rfl⟩
    | cons o r ih =>
      obtain ⟨h1, h2⟩ := ih
      constructor
      · show (PySem.PyData.canLay0 (natD o) && PySem.PyData.canLayAll0 (r.map natD)) = true
        rw [h1]
        rfl
      · show max (PySem.PyData.depth (natD o)) (PySem.PyData.depthAll (r.map natD)) = 0
        rw [h2]
        rfl
  obtain ⟨h1, h2⟩ := main os
  unfold SeqAt.shaped
  have e1 : PySem.PyData.canLay0 (.list (os.map natD)) = true := h1
  have e2 : PySem.PyData.depth (.list (os.map natD)) = PySem.PyData.depthAll (os.map natD) + 1 := rfl
  rw [e1, e2, h2]
  rfl
theorem any_nats (o : Nat) : ∀ os : List Nat, ((os.map natD).any fun z => PyData.eqv z (natD o)) = decide (o ∈ os)
  | [] => rfl
  | a :: r => by
    show (((a : Int) == (o : Int)) || (r.map natD).any fun z => PyData.eqv z (natD o)) = _
    rw [any_nats o r]
    by_cases e : a = o
    · subst e
      rw [beq_self_eq_true, Bool.true_or]
      exact (decide_eq_true List.mem_cons_self).symm
    · have h1 : ((a : Int) == (o : Int)) = false := beq_eq_false_iff_ne.mpr fun z => e (Int.ofNat.inj z)
      rw [h1, Bool.false_or]
      refine decide_eq_decide.mpr ⟨fun h => List.mem_cons_of_mem _ h, fun h => ?_⟩
      rcases List.mem_cons.mp h with rfl | h
      · exact absurd rfl e
      · exact h
end Sw
/-! ## a | b, a & b of two instances of one class, by its own method -/
namespace Sw
open PySem PySem.Spec PyProof.Rows L2
section
variable {X : Cx}
def rBinK (C : Addr) (sp : Sp) (E : XK) : R2 := fun x y H Q => ∃ (a b dx dy : Addr) (fs gs : List (Str × V)), x = .ref a ∧ y = .ref b ∧ H a = some (.ins C dx fs) ∧ H b = some (.ins C dy gs) ∧ sp [.ref a, .ref b] H (fun u H2 => ∃ r, u = .ref r ∧ Q (.ref r) H2) E
theorem op_binK {op : Operator} {CX : CXT} {C f : Addr} {fd : FuncData} {ps : List Str} {sp : Sp} {E : XK} {k : Nat} (hc : PySem.W.selfFirst X.K C = true) (hs : PySem.W.findIn X.K (.ref C) (PySem.dunder op.info.2) = some (some (.ref f))) (hf : PySem.W.isFn X.K (.ref f) = true) (F : FnOk X.prog X.w X.K X.mg X.base CX k f fd ps sp) (bF : Binds X.K fd ps []) (hx : Passes CX X E) (hr : Room k X.A) : OpR X (binaryOp op) (rBinK C sp E) := by
  intro pins s σ H x y v u Q I rx ry h
  obtain ⟨a, b, dx, dy, fs, gs, rfl, rfl, ha, hb, hsp⟩ := h
  cases (show v = Value.ref a from rx)
  cases (show u = Value.ref b from ry)
  obtain ⟨mA, J, _⟩ := ins_get I.hok ha
  obtain ⟨od, J, _⟩ := J.look
  obtain ⟨mB, J2, _⟩ := ins_get I.hok hb
  obtain ⟨od2, J2, _⟩ := J2.look
  obtain ⟨m, hF⟩ := I.fr
  refine PySem.W.binop_K hF I.ok.mod.kin J J2.type hc hs hf ?_
  have hl := F.len _ _ _ _ hsp
  have r2 : Vals [V.ref a, V.ref b] [Value.ref a, Value.ref b] := .cons rfl (.cons rfl .nil)
  refine wpAny_call (codeAny_mono (F.run X.A X.stack s H ⟨[.ref a, .ref b], []⟩ [.ref a, .ref b] [.ref a, .ref b] _ E hr I.env0 (by
    have := bF s [.ref a, .ref b] I.kIn (by simpa using hl)
    simpa using this) r2 hsp) fun r s' hq => ?_)
  cases r with
  | error e => exact hx pins σ H s e s' I hq
  | ok fl =>
    cases fl with
    | next => exact False.elim hq
    | brk => exact False.elim hq
    | cont => exact False.elim hq
    | ret w =>
      obtain ⟨z, H', I', rz, t, ez, q⟩ := I.after hq
      subst ez
      cases rz
      exact ⟨.ref t, H', I', rfl, q⟩
open PyProof.Rows in
/-- C(e, .., *y), C a class of the module -/
theorem pe_makeRS {CX : CXT} {k : Nat} {f C : Addr} {sp : Sp} {E : XK} {x : Str} {e : Expr} {es : List Expr} {t : TA} {p pos : Pos} (M : Mk X.K C f) (F : FnR X.prog X.w X.K X.mg X.base CX k f sp) (hr : Room (k + 1) X.A) (hg : Gl X x) (hm : X.mg x = some (.ref C)) (hx : Passes CX X E) (ha : PA X (e :: es) t) (hdb : (x == ("__debug__" : Str)) = false := by decide)
    (he : starEach (e :: es) X.env = (false, eval e X.env) :: starEach es X.env := by rfl) (hst : (backTo pos (starEach es X.env)).any (·.1) = true := by rfl) : PE X (.Call (.Name x p) (e :: es) [] pos) (StX.tMakeR C sp E t) := by
  refine ⟨fun pins s σ H Q I h => ?_⟩
  refine wpAny_Call_Name_kw (ld_glob I hg hm ?_ hdb)
  refine PySem.W.callWith_S2 (h₀ := X.base) I.ok.mod.kin M.kp (thn (ha.run pos pins s σ H _ I h) fun us s1 ⟨vs, H1, I1, r, q⟩ => ⟨I1.kIn, ?_⟩) he hst
  exact StX.run_makeR M F hr hx I1 r q
end
end Sw
namespace Sw
open PySem PySem.Spec PyProof.Rows L2
/-- one promise at one place -/
def OneD (bs : List PA2) : Prop := ∀ u ∈ bs, ∀ v ∈ bs, u.1 = v.1 → u.2 = v.2
/-- book | other -/
def spBOr (K : PySem.W.Frag) (CB CP : Addr) : Sp := fun vs H Q _ => ∃ (x y S S' : Addr) (bs cs : List PA2), vs = [.ref x, .ref y] ∧ BookAt K CB CP H x S bs ∧ BookAt K CB CP H y S' cs ∧ OneD (bs ++ cs) ∧ (bs ++ cs).length ≤ 100 ∧
  ∀ (H' : Hp) (z : Addr), Same H H' → H z = none → BookAt K CB CP H' z S (dedupP (bs ++ cs)) → Q (.ref z) H'
/-- book & other -/
def spBAnd (K : PySem.W.Frag) (CB CP : Addr) : Sp := fun vs H Q _ => ∃ (x y S S' : Addr) (bs cs : List PA2), vs = [.ref x, .ref y] ∧ BookAt K CB CP H x S bs ∧ BookAt K CB CP H y S' cs ∧ OneD (bs ++ cs) ∧ (bs ++ cs).length ≤ 100 ∧
  ∀ (H' : Hp) (z : Addr), Same H H' → H z = none → BookAt K CB CP H' z S (dedupP (bs.filter fun u => hasP cs u.2)) → Q (.ref z) H'
end Sw
namespace Sw
open PySem PySem.Spec PyProof.Rows L2
/-- _law_some(hand, many): different numbers below many -/
def spSome : Sp := fun vs H Q _ => ∃ (h : Addr) (m : Nat), vs = [.ref h, .int (m : Int)] ∧ HandAt H h ∧ 1 ≤ m ∧ m ≤ 100 ∧
  ∀ (H' : Hp) (D : Addr) (os : List Nat), HandAt H' h → SBut h H H' → H D = none → H' D = some (.lst (os.map natV)) → (∀ o ∈ os, o < m) → os.Nodup → os.length ≤ m → Q (.ref D) H'
end Sw
/-! ## lists of numbers of pledges, and the books of them -/
namespace Sw
open PySem PySem.Spec PyProof.Rows L2
def addN (acc : List Nat) (o : Nat) : List Nat := if o ∈ acc then acc else acc ++ [o]
def firstsN (os : List Nat) : List Nat := os.foldl addN []
def wv (vp : List V) (os : List Nat) : List V := os.map fun o => vp.getD o V.non
theorem wv_take {vp : List V} {os : List Nat} {i o : Nat} (h : os[i]? = some o) : wv vp (os.take (i + 1)) = wv vp (os.take i) ++ [vp.getD o V.non] := by
  unfold wv
  rw [take_snoc h, List.map_append]
  rfl
theorem wv_in {vp : List V} {os : List Nat} (h : ∀ o ∈ os, o < vp.length) : ∀ v ∈ wv vp os, v ∈ vp := fun v hv => by
  obtain ⟨o, ho, rfl⟩ := List.mem_map.mp hv
  rw [getD_of (List.getElem?_eq_getElem (h o ho))]
  exact List.getElem_mem _
theorem fold_addN : ∀ (b acc : List Nat), b.Nodup → b.foldl addN acc = acc ++ b.filter fun o => !decide (o ∈ acc)
  | [], acc, _ => by rw [List.filter_nil, List.append_nil]; rfl
  | o :: r, acc, nd => by
    obtain ⟨n1, n2⟩ := List.nodup_cons.mp nd
    show r.foldl addN (addN acc o) = _
    rw [fold_addN r _ n2]
    unfold addN
    by_cases c : o ∈ acc
    · rw [if_pos c, List.filter_cons_of_neg (by rw [decide_eq_true c]; decide)]
    · rw [if_neg c, List.filter_cons_of_pos (by rw [decide_eq_false c]; decide), List.append_assoc]
      refine congrArg (acc ++ ·) (congrArg (o :: ·) (List.filter_congr fun z hz => ?_))
      have hne : z ≠ o := fun e => n1 (by rw [← e]; exact hz)
      congr 1
      refine decide_eq_decide.mpr ⟨fun h => ?_, fun h => List.mem_append.mpr (.inl h)⟩
      rcases List.mem_append.mp h with h | h
      · exact h
      · exact absurd (List.mem_singleton.mp h) hne
theorem firsts_nodup {os : List Nat} (nd : os.Nodup) : firstsN os = os := by
  unfold firstsN
  rw [fold_addN os [] nd, List.nil_append]
  exact List.filter_eq_self.mpr fun o _ => rfl
theorem firsts_app {a b : List Nat} (na : a.Nodup) (nb : b.Nodup) : firstsN (a ++ b) = a ++ b.filter fun o => !decide (o ∈ a) := by
  have e := firsts_nodup na
  unfold firstsN at e ⊢
  rw [List.foldl_append, e, fold_addN b a nb]
theorem firsts_sub {os : List Nat} : ∀ {acc : List Nat} {z : Nat}, z ∈ os.foldl addN acc → z ∈ acc ∨ z ∈ os := by
  induction os with
  | nil => exact fun h => .inl h
  | cons o r ih =>
    intro acc z h
    rcases ih (show z ∈ r.foldl addN (addN acc o) from h) with h | h
    · unfold addN at h
      by_cases c : o ∈ acc
      · rw [if_pos c] at h
        exact .inl h
      · rw [if_neg c] at h
        rcases List.mem_append.mp h with h | h
        · exact .inl h
        · exact .inr (by rw [List.mem_singleton.mp h]; exact List.mem_cons_self)
    · exact .inr (List.mem_cons_of_mem _ h)
theorem OfPls.app {ks js : List Pledge} {us ws : List PA2} (h : OfPls ks us) (g : OfPls js ws) : OfPls (ks ++ js) (us ++ ws) := by
  refine ⟨by rw [List.length_append, List.length_append, h.1, g.1], fun i k e => ?_⟩
  by_cases c : i < ks.length
  · rw [List.getElem?_append_left c] at e
    obtain ⟨u, h1, h2⟩ := h.2 i k e
    exact ⟨u, by rw [List.getElem?_append_left (by rw [h.1]; exact c)]; exact h1, h2⟩
  · rw [List.getElem?_append_right (Nat.le_of_not_lt c)] at e
    obtain ⟨u, h1, h2⟩ := g.2 _ k e
    exact ⟨u, by rw [List.getElem?_append_right (by rw [h.1]; exact Nat.le_of_not_lt c), h.1]; exact h1, h2⟩
/-- the book of some pledges of the pool has each of them once -/
theorem dedup_ofs {kg : V → Pledge} {vp : List V} (df : PlDiff kg vp) (nd : ∀ v ∈ vp, ((kg v).es.map (·.1)).Nodup) (asc : ∀ v ∈ vp, ∀ e ∈ (kg v).es, AscS e.2.2) {os : List Nat} {us : List PA2} (oin : ∀ o ∈ os, o < vp.length) (ho : OfPls ((wv vp os).map kg) us) (au : ∀ u ∈ us, ∀ e ∈ u.2.ts, AscS e.2.2) :
    OfPls ((wv vp (firstsN os)).map kg) (dedupP us) := by
  have ul : us.length = os.length := by rw [ho.1, List.length_map]; unfold wv; rw [List.length_map]
  have main : ∀ n, n ≤ os.length → OfPls ((wv vp (firstsN (os.take n))).map kg) (dedupP (us.take n)) := by
    intro n
    induction n with
    | zero => exact fun _ => ⟨rfl, fun i k e => (nomatch e)⟩
    | succ n ih =>
      intro hn
      have h0 := ih (by omega)
      have hon := List.getElem?_eq_getElem (show n < os.length by omega)
      obtain ⟨o, ho1⟩ : ∃ o, os[n]? = some o := ⟨_, hon⟩
      have hov := oin o (List.mem_of_getElem? ho1)
      have hw := List.getElem?_eq_getElem hov
      obtain ⟨w, hwe⟩ : ∃ w, vp[o]? = some w := ⟨_, hw⟩
      have hwm := List.mem_of_getElem? hwe
      obtain ⟨u, hu, hof⟩ := ho.2 n (kg w) (by unfold wv; rw [List.getElem?_map, List.getElem?_map, ho1]; show some (kg (vp.getD o V.non)) = _; rw [getD_of hwe])
      have fin : ∀ z ∈ firstsN (os.take n), z < vp.length := fun z hz => by
        rcases firsts_sub (acc := []) hz with h | h
        · cases h
        · exact oin z (List.mem_of_mem_take h)
      have e1 : firstsN (os.take (n + 1)) = addN (firstsN (os.take n)) o := by unfold firstsN; rw [take_snoc ho1, List.foldl_append]; rfl
      have e2 : dedupP (us.take (n + 1)) = addP (dedupP (us.take n)) u := by unfold dedupP; rw [take_snoc hu, foldP_snoc]
      have key : hasP (dedupP (us.take n)) u.2 = decide (o ∈ firstsN (os.take n)) := by
        rw [kept_any h0 hof (fun z hz => asc z (wv_in fin z hz)) (asc w hwm) (fun z hz => ?_) (au u (List.mem_of_getElem? hu)), Bool.eq_iff_iff, List.any_eq_true, decide_eq_true_eq]
        · constructor
          · rintro ⟨m, hm, he⟩
            have hml : m < (firstsN (os.take n)).length := by have := List.mem_range.mp hm; unfold wv at this; rwa [List.length_map] at this
            have hz := List.getElem?_eq_getElem hml
            have hzv := fin _ (List.getElem_mem hml)
            have hzw := List.getElem?_eq_getElem hzv
            have e3 : (wv vp (firstsN (os.take n))).getD m V.non = vp[(firstsN (os.take n))[m]] := by
              refine getD_of ?_
              unfold wv
              rw [List.getElem?_map, hz]
              show some (vp.getD _ V.non) = _
              rw [getD_of hzw]
            rw [e3] at he
            by_cases eo : (firstsN (os.take n))[m] = o
            · rw [← eo]
              exact List.getElem_mem hml
            · rw [df _ o _ w eo hzw hwe] at he
              cases he
          · intro hm
            obtain ⟨m, hm2⟩ := List.mem_iff_getElem?.mp hm
            refine ⟨m, List.mem_range.mpr (by unfold wv; rw [List.length_map]; exact (List.getElem?_eq_some_iff.mp hm2).1), ?_⟩
            have e3 : (wv vp (firstsN (os.take n))).getD m V.non = w := by
              refine getD_of ?_
              unfold wv
              rw [List.getElem?_map, hm2]
              show some (vp.getD o V.non) = _
              rw [getD_of hwe]
            rw [e3]
            exact eqPl_refl (nd w hwm)
        · rcases fold_mem (l := us.take n) (acc := []) hz with h | h
          · cases h
          · exact au z (List.mem_of_mem_take h)
      rw [e1, e2]
      unfold addN addP
      by_cases c : o ∈ firstsN (os.take n)
      · rw [if_pos c, if_pos (by rw [key]; exact decide_eq_true c)]
        exact h0
      · rw [if_neg c, if_neg (by rw [key]; rw [decide_eq_false c]; decide)]
        have e4 : wv vp (firstsN (os.take n) ++ [o]) = wv vp (firstsN (os.take n)) ++ [w] := by
          unfold wv
          rw [List.map_append]
          show _ ++ [vp.getD o V.non] = _
          rw [getD_of hwe]
        rw [e4]
        exact h0.snoc1 hof
  have := main os.length (Nat.le_refl _)
  rw [List.take_length, ← ul, List.take_length] at this
  exact this
theorem OfPls.cons {k : Pledge} {ks : List Pledge} {u : PA2} {us : List PA2} : OfPls (k :: ks) (u :: us) ↔ OfPl k u.2 ∧ OfPls ks us := by
  constructor
  · intro h
    refine ⟨?_, by have := h.1; rw [List.length_cons, List.length_cons] at this; omega, fun i j e => h.2 (i + 1) j e⟩
    obtain ⟨v, h1, h2⟩ := h.2 0 k rfl
    obtain rfl := Option.some.inj h1
    exact h2
  · rintro ⟨h1, h2⟩
    refine ⟨by rw [List.length_cons, List.length_cons, h2.1], fun i j e => ?_⟩
    cases i with
    | zero =>
      obtain rfl := Option.some.inj e
      exact ⟨u, rfl, h1⟩
    | succ i => exact h2.2 i j e
theorem OfPls.filt {kg : V → Pledge} {vp : List V} {p : PA2 → Bool} {q : Nat → Bool} : ∀ {os : List Nat} {us : List PA2}, OfPls ((wv vp os).map kg) us → (∀ (i o : Nat) (u : PA2), os[i]? = some o → us[i]? = some u → p u = q o) → OfPls ((wv vp (os.filter q)).map kg) (us.filter p)
  | [], [], h, _ => ⟨rfl, fun i k e => (nomatch e)⟩
  | [], _ :: _, h, _ => absurd h.1 (by intro z; cases z)
  | _ :: _, [], h, _ => absurd h.1 (by intro z; cases z)
  | o :: os, u :: us, h, g => by
    obtain ⟨h1, h2⟩ := OfPls.cons.mp (show OfPls (kg (vp.getD o V.non) :: (wv vp os).map kg) (u :: us) from h)
    have ih := OfPls.filt h2 fun i o' u' e1 e2 => g (i + 1) o' u' e1 e2
    have e := g 0 o u rfl rfl
    cases c : q o with
    | true =>
      have ep : p u = true := e.trans c
      rw [List.filter_cons_of_pos (p := q) c, List.filter_cons_of_pos (p := p) ep]
      exact OfPls.cons.mpr ⟨h1, ih⟩
    | false =>
      have ep : p u = false := e.trans c
      rw [List.filter_cons_of_neg (p := q) (by rw [c]; decide), List.filter_cons_of_neg (p := p) (by rw [ep]; decide)]
      exact ih
/-- the book of some of the pool has a promise of it, if its number is among theirs -/
theorem has_number {kg : V → Pledge} {vp : List V} (df : PlDiff kg vp) (nd : ∀ v ∈ vp, ((kg v).es.map (·.1)).Nodup) (asc : ∀ v ∈ vp, ∀ e ∈ (kg v).es, AscS e.2.2) {os : List Nat} {bs : List PA2} (oin : ∀ o ∈ os, o < vp.length) (ho : OfPls ((wv vp os).map kg) bs) (au : ∀ u ∈ bs, ∀ e ∈ u.2.ts, AscS e.2.2)
    {o : Nat} {w : V} {d : PD} (hwe : vp[o]? = some w) (hof : OfPl (kg w) d) (ad : ∀ e ∈ d.ts, AscS e.2.2) : hasP bs d = decide (o ∈ os) := by
  have hwm := List.mem_of_getElem? hwe
  rw [kept_any ho hof (fun z hz => asc z (wv_in oin z hz)) (asc w hwm) au ad, Bool.eq_iff_iff, List.any_eq_true, decide_eq_true_eq]
  constructor
  · rintro ⟨m, hm, he⟩
    have hml : m < os.length := by have := List.mem_range.mp hm; unfold wv at this; rwa [List.length_map] at this
    have hzv := oin _ (List.getElem_mem hml)
    have hzw := List.getElem?_eq_getElem hzv
    have e3 : (wv vp os).getD m V.non = vp[os[m]] := by
      refine getD_of ?_
      unfold wv
      rw [List.getElem?_map, List.getElem?_eq_getElem hml]
      show some (vp.getD _ V.non) = _
      rw [getD_of hzw]
    rw [e3] at he
    by_cases eo : os[m] = o
    · rw [← eo]
      exact List.getElem_mem hml
    · rw [df _ o _ w eo hzw hwe] at he
      cases he
  · intro hm
    obtain ⟨m, hm2⟩ := List.mem_iff_getElem?.mp hm
    refine ⟨m, List.mem_range.mpr (by unfold wv; rw [List.length_map]; exact (List.getElem?_eq_some_iff.mp hm2).1), ?_⟩
    have e3 : (wv vp os).getD m V.non = w := by
      refine getD_of ?_
      unfold wv
      rw [List.getElem?_map, hm2]
      show some (vp.getD o V.non) = _
      rw [getD_of hwe]
    rw [e3]
    exact eqPl_refl (nd w hwm)
end Sw
/-! ## a != b of two instances of one class with an own == (no own !=) -/
namespace Sw
open PySem PySem.Spec PyProof.Rows
open PySem.W (findIn mroIn isFn ifBound_K looks_findIn looks_mroIn InstAt Frag check_slot)
theorem type_one : typeOf (.builtin "object.__ne__") = pure (.type "wrapper_descriptor") := by show builtinType _ = _; rw [builtinType_eq_fast]; kernel_rfl
section
variable {prog : Program} {w : World} {A : Around} {E : Value → Shared → Prop} {s : Shared} {K : Frag} {x y C f L : Addr} {h₀ : Heap} {m : Str → Option Value} {ox oy : Obj} {od od2 : Option Obj}
theorem ne_entry {Q : Fin → Shared → Prop} (hu : A.units < cLine) (X : K.In s.heap) (I : InstAt s.heap x ox C od) (hs : findIn K (.ref C) "__eq__" = some (some (.ref f))) (hf : isFn K (.ref f) = true)
    (h : wpAny (model prog w) A (call (.ref f) [.ref x, .ref y]) (fun r s' => ∃ k, r = .bool k ∧ Q (.done (.ret (.bool (!k)))) s') E s) :
    wpAny (model prog w) A (Builtin.«object.__ne__» ⟨[.ref x, .ref y], []⟩) Q E s := by
  unfold Builtin.«object.__ne__»
  refine wpAny_bind (m := slotArgs _ _ _) (wpAny_of_eq (a := (Value.ref x, [Value.ref y])) (by rfl) ?_)
  refine wpAny_bind (wpAny_cRoomFor hu ?_)
  refine wpAny_bind (ifBound_K X I hs hf (wpAny_mono h (fun r s' ⟨k, e, q⟩ => ?_) fun _ _ z => z))
  subst e
  show wpAny _ _ (truthy (.bool k) >>= fun b => ret (.bool (!b))) _ _ _
  exact wpAny_bind (wpAny_truthy_bool (wpAny_pure q))
theorem try_ne {Q : Option Value → Shared → Prop} (hu : A.units + 1 < cLine) (X : K.In s.heap) (I : InstAt s.heap x ox C od) (hn : findIn K (.ref C) "__ne__" = some (some (.builtin "object.__ne__"))) (hm : mroIn K C (.type "object") = some true) (hs : findIn K (.ref C) "__eq__" = some (some (.ref f))) (hf : isFn K (.ref f) = true)
    (h : wpAny (model prog w) A.in1 (call (.ref f) [.ref x, .ref y]) (fun r s' => ∃ k, r = .bool k ∧ Q (some (.bool (!k))) s') E s) :
    wpAny (model prog w) A (tryCompare (.ref x) "__ne__" (.ref y)) Q E s := by
  have fin : wpAny (model prog w) A (call (.builtin "object.__ne__") [.ref x, .ref y]) (fun r s' => ∃ k : Bool, r = .bool k ∧ Q (some (.bool k)) s') E s := by
    refine wpAny_call (codeAny_call_builtin (by decide +kernel) F.cmpEntry_ne (@check_slot (model prog w) _ _ s "object.__ne__" "object" "__ne__" (.ref x) [.ref y] [] _ F.cmpKind_ne F.cmpSplit_ne ?_ (F.cmpArgs_ne _ _) ?_))
    · exact I.type.andThen (looks_mroIn X hm)
    · refine ne_entry (A := A.in1) hu X I hs hf (wpAny_mono h (fun r s' ⟨k, e, q⟩ => ⟨k, e, ?_⟩) fun _ _ z => z)
      exact ⟨!k, rfl, q⟩
  have bnd : ∀ {E' : Value → Shared → Prop} {Q' : Value × List Value → Shared → Prop}, Q' (.builtin "object.__ne__", [.ref x]) s → wpAny (model prog w) A (bindSpecial (.builtin "object.__ne__") (.ref x)) Q' E' s := fun {E' Q'} q => by
    unfold bindSpecial
    rw [type_one]
    exact wpAny_bind (wpAny_pure (wpAny_pure q))
  have last : wpAny (model prog w) A (call (.builtin "object.__ne__") ([.ref x] ++ [.ref y]) >>= fun v => pure (some v)) (fun r s' => wpAny (model prog w) A (match r with | some .notImplemented | none => pure none | some v => pure (some v)) Q E s') E s := wpAny_bind (wpAny_mono fin (fun v s' ⟨k, e, q⟩ => by subst e; exact wpAny_pure (wpAny_pure q)) fun _ _ z => z)
  simp only [tryCompare, callSpecialIfBound?, bindSpecialIfBound?]
  refine wpAny_bind ?_
  refine wpAny_holding (wpAny_bind (wpAny_bind (wpAny_bind (I.type.here ((looks_findIn X hn).here ?_)))))
  refine wpAny_bind (wpAny_askSetting (wpAny_ite ?_))
  split
  · exact wpAny_bind (bnd (wpAny_pure last))
  · exact wpAny_tryCatch (wpAny_bind (bnd (wpAny_pure last)))
theorem ne_inst {Q : Value → Shared → Prop} (hu : A.units + 1 < cLine) (X : K.In s.heap) (I : InstAt s.heap x ox C od) (J : InstAt s.heap y oy C od2) (hn : findIn K (.ref C) "__ne__" = some (some (.builtin "object.__ne__"))) (hm : mroIn K C (.type "object") = some true) (hs : findIn K (.ref C) "__eq__" = some (some (.ref f))) (hf : isFn K (.ref f) = true)
    (h : wpAny (model prog w) A.in1 (call (.ref f) [.ref x, .ref y]) (fun r s' => ∃ k, r = .bool k ∧ Q (.bool (!k)) s') E s) : wpAny (model prog w) A (compareOp .NotEq (.ref x) (.ref y)) Q E s := by
  show wpAny _ _ (richCompare .NotEq (.ref x) (.ref y)) _ _ _
  unfold richCompare
  simp only [oneThing_ref]
  refine wpAny_holding (wpAny_bind (wpAny_cRoomFor (Nat.lt_of_succ_lt hu) ?_))
  rw [cmpInfo_NotEq]
  dsimp only
  refine wpAny_bind (I.type.here (wpAny_bind (J.type.here ?_)))
  rw [show (Value.ref C != Value.ref C) = false from by simp]
  simp only [Bool.false_eq_true, if_false]
  refine wpAny_bind (wpAny_pure ?_)
  simp only [Bool.false_eq_true, if_false]
  refine wpAny_bind (try_ne hu X I hn hm hs hf (wpAny_mono h (fun v s' ⟨k, e, q⟩ => ⟨k, e, ?_⟩) fun _ _ e => e))
  first | exact wpAny_pure q | exact wpAny_pure (wpAny_pure q)
end
section
open L2
variable {X : Cx} {n : Nat}
/-- a != b, by C's own == -/
def rNeOwn (C : Addr) (R : Addr → Addr → Bool → Hp → Prop) : R2 := fun x y H Q => ∃ (a b : Addr) (k : Bool), x = .ref a ∧ y = .ref b ∧ (∃ dx fs, H a = some (.ins C dx fs)) ∧ (∃ dy gs, H b = some (.ins C dy gs)) ∧ R a b k H ∧ ∀ H', Same H H' → Q (.bl (!k)) H'
theorem op_neOwn {CX : CXT} {C f : Addr} {fd : FuncData} {ps : List Str} {R : Addr → Addr → Bool → Hp → Prop} {E : XK} (F : FnOk X.prog X.w X.K X.mg X.base CX n f fd ps (spOwnEq R))
    (hn : findIn X.K (.ref C) "__ne__" = some (some (.builtin "object.__ne__"))) (hm : mroIn X.K C (.type "object") = some true) (hs : findIn X.K (.ref C) "__eq__" = some (some (.ref f))) (hf : isFn X.K (.ref f) = true) (hb : Binds X.K fd ps []) (hx : Passes CX X E) (hr : Room (n + 1) X.A) : OpR X (compareOp .NotEq) (rNeOwn C R) := by
  intro pins s σ H x y v u Q I rx ry h
  obtain ⟨a, b, k, rfl, rfl, ⟨dx, fs, ha⟩, ⟨dy, gs, hbb⟩, hR, q⟩ := h
  cases (show v = Value.ref a from rx)
  cases (show u = Value.ref b from ry)
  obtain ⟨mA, J, _⟩ := ins_get I.hok ha
  obtain ⟨od, J, _⟩ := J.look
  obtain ⟨mB, J2, _⟩ := ins_get I.hok hbb
  obtain ⟨od2, J2, _⟩ := J2.look
  have sb : L2.Sub X n X.A.in1 := L2.Sub.in1 (⟨hr, rfl⟩ : L2.Sub X (n + 1) X.A)
  refine ne_inst (by have := sb.room.units0; exact this) I.kIn J J2 hn hm hs hf ?_
  have hsp : spOwnEq R [.ref a, .ref b] H (fun v H' => v = .bl k ∧ Same H H') E := ⟨a, b, k, rfl, hR, fun H' e => ⟨rfl, e⟩⟩
  have e0 : Env0 X.prog X.w X.K X.mg X.base X.A.in1 X.stack s H := by
    have e := I.env0
    exact ⟨by rw [sb.fr]; exact e.frames, e.mod, e.bs, e.bsz, e.funs, e.frf, e.hok, e.bare⟩
  have hl := F.len _ _ _ _ hsp
  have r2 : Vals [V.ref a, V.ref b] [Value.ref a, Value.ref b] := .cons rfl (.cons rfl .nil)
  refine wpAny_call (codeAny_mono (F.run X.A.in1 X.stack s H ⟨[.ref a, .ref b], []⟩ [.ref a, .ref b] [.ref a, .ref b] _ E sb.room e0 (by
    have := hb s [.ref a, .ref b] I.kIn (by simpa using hl)
    simpa using this) r2 hsp) fun r s' hq => ?_)
  cases r with
  | error e => exact hx pins σ H s e s' I hq
  | ok fl =>
    cases fl with
    | ret w =>
      obtain ⟨z, H', I', rz, ez, ex⟩ := I.after hq
      subst ez
      cases rz
      exact ⟨k, rfl, .bl _, H', I', rfl, q H' ex⟩
    | next => exact False.elim hq
    | brk => exact False.elim hq
    | cont => exact False.elim hq
end
end Sw
/-! ## what holds whatever lists do; a promise withdrawn -/
namespace Sw
open PySem PySem.Spec PyProof.Rows L2
theorem HandAt.notL {H H' : Hp} {h : Addr} (hh : HandAt H h) (e : SBut h H H') : NotL H H' := fun b o hb hn => e b o (fun z => by
  obtain ⟨ns, h1, _⟩ := id hh
  rw [z, h1] at hb
  exact hn _ (Option.some.inj hb).symm) hb
theorem upd_notL {H : Hp} {M : Addr} {vs : List V} {o : HO} (hM : H M = some (.lst vs)) : NotL H (upd H M o) := fun b o' hb hn => by
  rw [upd_ne fun z => by rw [z, hM] at hb; exact hn _ (Option.some.inj hb).symm]
  exact hb
theorem PartsV.notL {K : PySem.W.Frag} {H H' : Hp} {xs : List V} {ss : List (List Str)} (q : PartsV K H xs ss) (e : NotL H H') : PartsV K H' xs ss :=
  ⟨q.len, fun i v w => let ⟨s, h1, b, h2, h3⟩ := q.all i v w; ⟨s, h1, b, h2, e.tup h3⟩⟩
theorem PromD.notL {K : PySem.W.Frag} {CP x : Addr} {H H' : Hp} {d : PD} (h : PromD K CP H x d) (e : NotL H H') : PromD K CP H' x d := by
  obtain ⟨p, qA, lA, xs, ⟨dp, g⟩, g1, g2, g3, g4⟩ := h.ex
  exact { h with ex := ⟨p, qA, lA, xs, ⟨dp, e _ _ g (fun _ z => nomatch z)⟩, e.tup g1, e.tup g2, g3.notL e, ⟨e _ _ g4.at_ (fun _ z => nomatch z), fun r hr => ⟨e _ _ (g4.all r hr).1 (fun _ z => nomatch z), (g4.all r hr).2⟩⟩⟩ }
theorem BookAt.notL {K : PySem.W.Frag} {CB CP x S : Addr} {H H' : Hp} {bs : List PA2} (h : BookAt K CB CP H x S bs) (e : NotL H H') : BookAt K CB CP H' x S bs :=
  ⟨let ⟨dx, t, h1, h2⟩ := h.ex; ⟨dx, t, e _ _ h1 (fun _ z => nomatch z), e.tup h2⟩, fun u hu => (h.all u hu).notL e⟩
/-- whatever the value -/
def PAny (_ : V) (_ : Hp) : Prop := True
def outP (bs : List PA2) (d : PD) : List PA2 := bs.filter fun u => !eqPD u.2 d
/-- book.withdraw(promise) -/
def spWithdraw (K : PySem.W.Frag) (CB CP D : Addr) : Sp := fun vs H Q E => ∃ (x b S : Addr) (bs : List PA2) (d : PD), vs = [.ref x, .ref b] ∧ BookAt K CB CP H x S bs ∧ PromD K CP H b d ∧ (∀ u ∈ bs, u.1 = b → u.2 = d) ∧ bs.length ≤ 100 ∧
  (hasP bs d = true → ∀ H' : Hp, SBut x H H' → BookAt K CB CP H' x S (outP bs d) → Q .non H') ∧ (hasP bs d = false → ∀ (H1 : Hp) (dd : Addr), Same H H1 → H1 dd = none → E (.ref D) (some dd) (upd H1 dd (.xd [("promise", .ref b)])))
end Sw
namespace Sw
open PySem PySem.Spec PyProof.Rows L2
theorem outP_none {bs : List PA2} {d : PD} (h : hasP bs d = false) : outP bs d = bs := by
  unfold outP
  refine List.filter_eq_self.mpr fun u hu => ?_
  cases c : eqPD u.2 d with
  | false => rfl
  | true =>
    have : (bs.any fun u => eqPD u.2 d) = true := List.any_eq_true.mpr ⟨u, hu, c⟩
    unfold hasP at h
    rw [h] at this
    cases this
theorem OfPls.out {kf : V → Pledge} {k0 : Pledge} {d : PD} : ∀ {vk : List V} {bs : List PA2}, OfPls (vk.map kf) bs → (∀ (i : Nat) (v : V) (u : PA2), vk[i]? = some v → bs[i]? = some u → eqPD u.2 d = eqPl (kf v) k0) → OfPls ((vk.filter fun v => !eqPl (kf v) k0).map kf) (outP bs d)
  | [], [], h, _ => ⟨rfl, fun i k e => (nomatch e)⟩
  | [], _ :: _, h, _ => absurd h.1 (by intro z; cases z)
  | _ :: _, [], h, _ => absurd h.1 (by intro z; cases z)
  | v :: vk, u :: bs, h, g => by
    obtain ⟨h1, h2⟩ := OfPls.cons.mp (show OfPls (kf v :: vk.map kf) (u :: bs) from h)
    have ih := OfPls.out h2 fun i v' u' e1 e2 => g (i + 1) v' u' e1 e2
    have e := g 0 v u rfl rfl
    unfold outP at ih ⊢
    cases c : eqPl (kf v) k0 with
    | false =>
      rw [c] at e
      rw [List.filter_cons_of_pos (by rw [c]; rfl), List.filter_cons_of_pos (by rw [e]; rfl)]
      exact OfPls.cons.mpr ⟨h1, ih⟩
    | true =>
      rw [c] at e
      rw [List.filter_cons_of_neg (by rw [c]; decide), List.filter_cons_of_neg (by rw [e]; decide)]
      exact ih
end Sw
/-! ## a & t, a an instance with its own method, t a tuple -/
namespace Sw
open PySem PySem.Spec PySem.Calls PyProof.Rows
open PySem.W (findIn selfFirst isFn subIn InstAt Frag Looks looks_findIn looks_subIn fills_K)
section
variable {prog : Program} {w : World} {A : Around} {E : Value → Shared → Prop} {s : Shared} {K : Frag} {x C L f : Addr} {h₀ : Heap} {m : Str → Option Value} {ox : Obj} {od : Option Obj} {T : String}
theorem bin_other {op : Operator} {b : Value} {Q : Value → Shared → Prop} (F : Fr h₀ L s.heap m) (X₀ : K.In h₀) (I : InstAt s.heap x ox C od) (hb : ∀ {hh : Heap}, hh = s.heap → Looks (model prog w) hh (typeOf b) (.type T)) (hc : selfFirst K C = true)
    (hs : findIn K (.ref C) (PySem.dunder op.info.2) = some (some (.ref f))) (hf : isFn K (.ref f) = true) (hr : findIn K (.ref C) (dunderR op.info.2) = some none)
    (h1 : findIn K (.type T) (PySem.dunder op.info.2) = some none) (h2 : findIn K (.type T) (dunderR op.info.2) = some none) (hsub : subIn K (.type T) (.ref C) = some false)
    (h : wpAny (model prog w) A (call (.ref f) [.ref x, b]) (PySem.W.CmpBack Q) E s) : wpAny (model prog w) A (binaryOp op (.ref x) b) Q E s := by
  have X := X₀.keeps F.keep
  obtain ⟨cd, rest, hcd, hm⟩ := PySem.W.ksp_first hc
  rcases hi : op.info with ⟨sym, nm'⟩
  rw [hi] at hs hr h1 h2; dsimp only at hs hr h1 h2
  have one := PySem.W.ksp_try X I hs hf h; have hb' := hb rfl
  obtain ⟨hh, g, d, tt, os⟩ := s
  have a1 : Looks (model prog w) hh (typeOf (.ref x)) (.ref C) := I.type; have a2 : Looks (model prog w) hh (typeOf b) (.type T) := hb'
  have a3 : Looks (model prog w) hh (fillsNumberSlot (.ref C) nm') true := fills_K X hcd hm hs
  have a4 : Looks (model prog w) hh (fillsNumberSlot (.type T) nm') false := PySem.W.ksp_fillsT X h1 h2
  have a5 : Looks (model prog w) hh (isSubtype (.type T) (.ref C)) false := looks_subIn X hsub; have a6 : Looks (model prog w) hh (numberSlotInPython (.ref C) nm') true := PySem.W.ksp_inPy X hs hr (.inl rfl)
  have a7 : Looks (model prog w) hh (numberSlotInPython (.type T) nm') false := .of_pure rfl; have a8 : Looks (model prog w) hh (typeLookup (.type T) (dunderR nm')) none := looks_findIn X h2
  have hne : (Value.ref C == Value.type T) = false := Bool.eq_false_iff.mpr (fun q => by cases beq_iff_eq.mp q)
  simp only [binaryOp, hi]; refine wpAny_holding (wpAny_bind ?_); unfold binaryOp1
  refine wpAny_bind (a1.at (wpAny_bind (a2.at (wpAny_bind (a3.at ?_))))); simp only [hne, Bool.false_eq_true, if_false]
  ksp_lk
  refine wpAny_mono one (fun r s' q => ?_) (fun _ _ e => e); obtain ⟨v, rfl, hq⟩ := q
  ksp_lk
  exact hq
end
section
open L2
variable {X : Cx}
/-- x & t -/
def rAndTup (K : Frag) (C : Addr) (sp : Sp) (E : XK) : R2 := fun x y H Q => ∃ (a b dx : Addr) (fs : List (Str × V)) (xs : List V), x = .ref a ∧ y = .ref b ∧ H a = some (.ins C dx fs) ∧ SqT K H b xs ∧ sp [.ref a, .ref b] H (fun u H2 => ∃ r, u = .ref r ∧ Q (.ref r) H2) E
theorem op_andTup {op : Operator} {CX : CXT} {C f : Addr} {fd : FuncData} {ps : List Str} {sp : Sp} {E : XK} {k : Nat} (hc : selfFirst X.K C = true) (hs : findIn X.K (.ref C) (PySem.dunder op.info.2) = some (some (.ref f))) (hf : isFn X.K (.ref f) = true)
    (hr0 : findIn X.K (.ref C) (dunderR op.info.2) = some none) (h1 : findIn X.K (.type "tuple") (PySem.dunder op.info.2) = some none) (h2 : findIn X.K (.type "tuple") (dunderR op.info.2) = some none) (hsub : subIn X.K (.type "tuple") (.ref C) = some false)
    (F : FnOk X.prog X.w X.K X.mg X.base CX k f fd ps sp) (bF : Binds X.K fd ps []) (hx : Passes CX X E) (hr : Room k X.A) : OpR X (binaryOp op) (rAndTup X.K C sp E) := by
  intro pins s σ H x y v u Q I rx ry h
  obtain ⟨a, b, dx, fs, xs, rfl, rfl, ha, hb, hsp⟩ := h
  cases (show v = Value.ref a from rx)
  cases (show u = Value.ref b from ry)
  obtain ⟨mA, J, _⟩ := ins_get I.hok ha
  obtain ⟨od, J, _⟩ := J.look
  obtain ⟨its, _, ⟨o, hgo, hcl, _⟩, _⟩ := I.tuple hb
  obtain ⟨m, hF⟩ := I.fr
  refine bin_other (T := "tuple") hF I.ok.mod.kin J (fun e => by subst e; intro A Q E s' k q; exact wpAny_typeOf_ref (k _ _ hgo) (by rw [hcl]; exact q)) hc hs hf hr0 h1 h2 hsub ?_
  have hl := F.len _ _ _ _ hsp
  have r2 : Vals [V.ref a, V.ref b] [Value.ref a, Value.ref b] := .cons rfl (.cons rfl .nil)
  refine wpAny_call (codeAny_mono (F.run X.A X.stack s H ⟨[.ref a, .ref b], []⟩ [.ref a, .ref b] [.ref a, .ref b] _ E hr I.env0 (by
    have := bF s [.ref a, .ref b] I.kIn (by simpa using hl)
    simpa using this) r2 hsp) fun r s' hq => ?_)
  cases r with
  | error e => exact hx pins σ H s e s' I hq
  | ok fl =>
    cases fl with
    | next => exact False.elim hq
    | brk => exact False.elim hq
    | cont => exact False.elim hq
    | ret w =>
      obtain ⟨z, H', I', rz, t, ez, q⟩ := I.after hq
      subst ez
      cases rz
      exact ⟨.ref t, H', I', rfl, q⟩
end
end Sw
/-! ## C(e, .., *y, k = ..): stars and keywords in one call -/
namespace Sw
open PySem PySem.Spec PySem.Calls PyProof.Rows L2
theorem call_starKW {M : Model} {A : Around} {E : Value → Shared → Prop} {s : Shared} {K : PySem.W.Frag} {f : Value} {first : List Value} {pos : Pos} {Q : Value → Shared → Prop} {args : List (Bool × Sem Value)} {kws : List (Option Str × Sem Value)} (hst : (args.any (·.1) || kws.any (·.1.isNone)) = true) (hk : PySem.W.keepIn K f = true)
    (h : wpAny M A (evalArgs f true args kws) (fun a s₁ => K.In s₁.heap ∧ wpAny M A (call f (first ++ a.pos) a.kw) Q E s₁) E s) : wpAny M A (callWith pos f first args kws) Q E s := by
  unfold callWith
  refine wpAny_bind (wpAny_holding (wpAny_mono h (fun a s1 h1 => wpAny_bind (wpAny_standAt ?_)) (fun _ _ z => z)))
  obtain ⟨k, hk', L⟩ := PySem.W.keeps_K hk _ h1.1
  simp only [hst]
  refine wpAny_bind (L.here ?_)
  have tail : ∀ {t : Sem Value}, wpAny M A t Q E s1 → wpAny M A (t >>= fun r => holding [r] point >>= fun _ => pure r) Q E s1 :=
    fun ht => wpAny_bind (wpAny_mono ht (fun r s2 q => wpAny_bind (wpAny_holding (wpAny_point (wpAny_pure q)))) (fun _ _ z => z))
  have marked : ∀ mk : Value, wpAny M A (callMarked mk f (first ++ a.pos) a.kw) Q E s1 := fun mk => by
    unfold callMarked
    exact wpAny_keep h1.2
  rcases hk' with rfl | rfl | rfl <;> (dsimp only; first | exact tail (marked _) | exact tail (wpAny_operating h1.2))
section
variable {X : Cx} {CX : CXT} {k : Nat} {f C : Addr} {ks : List Str} {sp : List V → List V → Hp → VK → XK → Prop} {E : XK} {x : Str} {p pos : Pos} {e : Expr} {es : List Expr} {kws : List Keyword} {t tk : TA}
theorem pe_makeRKS (M : Mk X.K C f) (F : FnRK X.prog X.w X.K X.mg X.base CX k f ks sp) (hr : Room (k + 1) X.A) (hg : Gl X x) (hm : X.mg x = some (.ref C)) (hx : Passes CX X E) (ha : PA X (e :: es) t) (hkw : PK X kws tk)
    (h1 : (backToKw pos (keywordEach kws X.env)).all (·.1.isSome) = true := by rfl) (h2 : (backToKw pos (keywordEach kws X.env)).filterMap (·.1) = ks := by rfl) (h3 : (x == ("__debug__" : Str)) = false := by decide)
    (h4 : starEach (e :: es) X.env = (false, eval e X.env) :: starEach es X.env := by rfl) (h5 : ((backTo pos (starEach (e :: es) X.env)).any (·.1) || (backToKw pos (keywordEach kws X.env)).any (·.1.isNone)) = true := by rfl) :
    PE X (.Call (.Name x p) (e :: es) kws pos) (tMakeRK C ks.length sp E t tk) := by
  refine ⟨fun pins s σ H Q I h => wpAny_Call_Name_kw (ld_glob I hg hm ?_ h3)⟩
  refine call_starKW (K := X.K) h5 M.kp (evalArgs_kw2 h1 (thn (ha.run pos pins s σ H _ I h) fun us s1 ⟨vs, H1, I1, r, q⟩ => ?_) h4)
  refine thn (hkw.run pos pins s1 σ H1 _ I1 q) fun ws s2 ⟨zs, H2, I2, rz, l2, q2⟩ => ⟨I2.kIn, ?_⟩
  rw [h2]
  exact run_makeRK M F hr hx I2 r rz l2 q2
end
end Sw
/-! ## a question with one more part or condition -/
namespace Sw
open PySem PySem.Spec PyProof.Rows L2
section
variable {X : Cx}
def rInT (K : PySem.W.Frag) (neg : Bool) : R2 := fun x y H Q => ∃ d ds, Dp K H x d ∧ Dp K H y (.tuple ds) ∧ SeqAt.shaped d = true ∧ SeqAt.shaped (.tuple ds) = true ∧ Q (.bl (if neg then !(ds.any fun z => PyData.eqv z d) else ds.any fun z => PyData.eqv z d)) H
theorem op_inT (hu : X.A.units + 65 < cLine) : OpR X (compareOp .In) (rInT X.K false) := by
  intro pins s σ H x y v u Q I rx ry h
  obtain ⟨d, ds, hd, he, sd, se, q⟩ := h
  obtain ⟨as, r1⟩ := Dp.reads I d x v hd rx
  obtain ⟨bs, r2⟩ := Dp.reads I (.tuple ds) y u he ry
  exact SeqAt.in_tuple_reads r2 r1 (SeqAt.canLay_of_shaped se) (SeqAt.canLay_of_shaped sd) (room_in_shaped sd hu) ⟨.bl _, H, I, rfl, q⟩
theorem op_notInT (hu : X.A.units + 65 < cLine) : OpR X (compareOp .NotIn) (rInT X.K true) := by
  intro pins s σ H x y v u Q I rx ry h
  obtain ⟨d, ds, hd, he, sd, se, q⟩ := h
  obtain ⟨as, r1⟩ := Dp.reads I d x v hd rx
  obtain ⟨bs, r2⟩ := Dp.reads I (.tuple ds) y u he ry
  exact SeqAt.notIn_tuple_reads r2 r1 (SeqAt.canLay_of_shaped se) (SeqAt.canLay_of_shaped sd) (room_in_shaped sd hu) ⟨.bl _, H, I, rfl, q⟩
end
/-- an option: a part, or a condition -/
inductive Opt where
  | part (s : List Str)
  | cond (v : Str) (us : List Str)
def OptAt (K : PySem.W.Frag) (H : Hp) (p : Addr) : Opt → Prop
  | .part s => SqT K H p (s.map V.str)
  | .cond v us => ∃ t, SqT K H p [.str v, .ref t] ∧ SqT K H t (us.map V.str)
theorem OptAt.same {K : PySem.W.Frag} {H H' : Hp} {p : Addr} {o : Opt} (h : OptAt K H p o) (s : Same H H') : OptAt K H' p o := by
  cases o with
  | part _ => exact same_seqT s h
  | cond v us => exact let ⟨t, h1, h2⟩ := h; ⟨t, same_seqT s h1, same_seqT s h2⟩
def optS (ss : List (List Str)) : Opt → List (List Str)
  | .part s => if s ∈ ss then ss else ss ++ [s]
  | .cond _ _ => ss
/-- an entry put in -/
def putEnt (es : List Ent) (k : Key) (a : Addr) (ws : List Str) : List Ent := if (es.any fun e => decide (e.1 = k)) = true then es.map (fun e => if e.1 = k then (e.1, a, ws) else e) else es ++ [(k, a, ws)]
theorem putEnt_kv (es : List Ent) (k : Key) (a : Addr) (ws : List Str) : (putEnt es k a ws).map (fun e => (e.1, V.ref e.2.1)) = putK (es.map fun e => (e.1, V.ref e.2.1)) k (.ref a) := by
  unfold putEnt putK
  rw [List.any_map]
  by_cases c : (es.any fun e => decide (e.1 = k)) = true
  · rw [if_pos c, if_pos (by exact c), List.map_map, List.map_map]
    refine List.map_congr_left fun e _ => ?_
    show (fun e : Ent => (e.1, V.ref e.2.1)) (if e.1 = k then (e.1, a, ws) else e) = if e.1 = k then (e.1, V.ref a) else (e.1, V.ref e.2.1)
    by_cases h : e.1 = k
    · rw [if_pos h, if_pos h]
    · rw [if_neg h, if_neg h]
  · rw [if_neg c, if_neg (by exact c), List.map_append]
    rfl
theorem putEnt_keys (es : List Ent) (k : Key) (a : Addr) (ws : List Str) : (putEnt es k a ws).map (·.1) = if (es.any fun e => decide (e.1 = k)) = true then es.map (·.1) else es.map (·.1) ++ [k] := by
  unfold putEnt
  by_cases c : (es.any fun e => decide (e.1 = k)) = true
  · rw [if_pos c, if_pos c, List.map_map]
    refine List.map_congr_left fun e _ => ?_
    show (if e.1 = k then ((e.1, a, ws) : Ent) else e).1 = e.1
    by_cases h : e.1 = k
    · rw [if_pos h]
    · rw [if_neg h]
  · rw [if_neg c, if_neg c, List.map_append]
    rfl
theorem putEnt_mem {es : List Ent} {k : Key} {a : Addr} {ws : List Str} {e : Ent} (h : e ∈ putEnt es k a ws) : (e ∈ es ∧ e.1 ≠ k) ∨ e = (k, a, ws) := by
  unfold putEnt at h
  by_cases c : (es.any fun e => decide (e.1 = k)) = true
  · rw [if_pos c] at h
    obtain ⟨u, hu, rfl⟩ := List.mem_map.mp h
    by_cases hk : u.1 = k
    · rw [if_pos hk, hk]
      exact .inr rfl
    · rw [if_neg hk]
      exact .inl ⟨hu, hk⟩
  · rw [if_neg c] at h
    rcases List.mem_append.mp h with h | h
    · refine .inl ⟨h, fun z => c (List.any_eq_true.mpr ⟨e, h, decide_eq_true z⟩)⟩
    · exact .inr (List.mem_singleton.mp h)
theorem putEnt_nd {es : List Ent} {k : Key} {a : Addr} {ws : List Str} (nd : (es.map (·.1)).Nodup) : ((putEnt es k a ws).map (·.1)).Nodup := by
  rw [putEnt_keys]
  by_cases c : (es.any fun e => decide (e.1 = k)) = true
  · rw [if_pos c]
    exact nd
  · rw [if_neg c]
    refine List.nodup_append.mpr ⟨nd, List.nodup_cons.mpr ⟨fun z => (nomatch z), List.nodup_nil⟩, fun x hx y hy => ?_⟩
    rw [List.mem_singleton.mp hy]
    rintro rfl
    obtain ⟨e, he, e1⟩ := List.mem_map.mp hx
    exact c (List.any_eq_true.mpr ⟨e, he, decide_eq_true e1⟩)
theorem putEnt_len (es : List Ent) (k : Key) (a : Addr) (ws : List Str) : (putEnt es k a ws).length ≤ es.length + 1 := by
  unfold putEnt
  by_cases c : (es.any fun e => decide (e.1 = k)) = true
  · rw [if_pos c, List.length_map]
    exact Nat.le_succ _
  · rw [if_neg c, List.length_append]
    exact Nat.le_refl _
/-- the two sides put in entries with the same words -/
theorem Alike.put {es ts : List Ent} {k : Key} {a b : Addr} {ws us : List Str} (h : Alike es ts) (hw : ∀ x, x ∈ us ↔ x ∈ ws) : Alike (putEnt es k a ws) (putEnt ts k b us) := by
  have ka : (ts.any fun e => decide (e.1 = k)) = (es.any fun e => decide (e.1 = k)) := by
    have e : ∀ l : List Ent, (l.any fun e => decide (e.1 = k)) = ((l.map (·.1)).any fun x => decide (x = k)) := fun l => by rw [List.any_map]; rfl
    rw [e, e, h.keys]
  unfold putEnt
  rw [ka]
  by_cases c : (es.any fun e => decide (e.1 = k)) = true
  · rw [if_pos c, if_pos c]
    clear c ka
    unfold Alike at h ⊢
    induction h with
    | nil => exact .nil
    | @cons e r es' rs' q _ ih =>
      refine .cons ?_ ih
      dsimp only
      by_cases hk : e.1 = k
      · rw [if_pos hk, if_pos (q.1.trans hk)]
        exact ⟨q.1, hw⟩
      · rw [if_neg hk, if_neg fun z => hk (q.1.symm.trans z)]
        exact q
  · rw [if_neg c, if_neg c]
    clear c ka
    unfold Alike at h ⊢
    induction h with
    | nil => exact .cons ⟨rfl, hw⟩ .nil
    | cons q _ ih => exact .cons q ih
/-- which of the option's words the variable keeps -/
def keptW (ts : List Ent) (v : Str) (us : List Str) : List Str := us.filter fun x => match entOf ts (Sum.inr v : Key) with | some e => decide (x ∈ e.2.2) | none => true
/-- the conditions handed on -/
def OptE (ts : List Ent) : Opt → List Ent → Prop
  | .part _, es => es = ts
  | .cond v us, es => ∃ a, es = putEnt ts (Sum.inr v) a (keptW ts v us)
/-- the question with the option is good -/
structure OptOk (rows : List Rw) (hd : List Str) (ss : List (List Str)) (ts : List Ent) (o : Opt) : Prop where
  nd : (ts.map (·.1)).Nodup
  keq : ts.map (·.1) = (keysOf ts).map Sum.inr
  tl : ts.length ≤ 60
  tw : ∀ e ∈ ts, e.2.2.length ≤ 60
  sok : ∀ s ∈ ss, ∀ z ∈ s, SOk z
  sl : ss.length ≤ 60
  good : AskGood rows hd ss (keysOf ts)
  opt : match o with
    | .part s => (∃ z r, s = z :: r ∧ isVar z = false) ∧ (∀ z ∈ s, SOk z) ∧ (s ∉ ss → AskGood rows hd (ss ++ [s]) (keysOf ts))
    | .cond v us => isVar v = true ∧ us.length ≤ 60 ∧ ∀ a, AskGood rows hd ss (keysOf (putEnt ts (Sum.inr v) a (keptW ts v us)))
/-- question & option -/
def spQAnd (K : PySem.W.Frag) (CT CS CQ : Addr) : Sp := fun vs H Q _ => ∃ (x p S hA pA lA : Addr) (hd : List Str) (ss : List (List Str)) (ts : List Ent) (dup : Bool) (xs : List V) (rows : List Rw) (l : List Tb) (o : Opt), vs = [.ref x, .ref p] ∧ QuesAt K CQ H x S hd ss ts dup hA pA lA xs ∧ SchOf K CT CS H S rows l ∧ OptAt K H p o ∧ OptOk rows hd ss ts o ∧
  ∀ (H' : Hp) (y lA' pA' : Addr) (xs' : List V) (es ts' : List Ent), Same H H' → H y = none → QuesAt K CQ H' y S hd (optS ss o) ts' dup hA pA' lA' xs' → OptE ts o es → Alike es ts' → Q (.ref y) H'
end Sw
namespace Sw
open PySem PySem.Spec PyProof.Rows L2
theorem PartsV.snocP {K : PySem.W.Frag} {H : Hp} {xs : List V} {ss : List (List Str)} {p : Addr} {s : List Str} (h : PartsV K H xs ss) (hp : SqT K H p (s.map V.str)) : PartsV K H (xs ++ [.ref p]) (ss ++ [s]) := by
  refine ⟨by rw [List.length_append, List.length_append, h.len]; rfl, fun i w e => ?_⟩
  by_cases c : i < xs.length
  · rw [List.getElem?_append_left c] at e
    obtain ⟨r, h1, h2⟩ := h.all i w e
    exact ⟨r, by rw [List.getElem?_append_left (by rw [← h.len]; exact c)]; exact h1, h2⟩
  · rw [List.getElem?_append_right (Nat.le_of_not_lt c)] at e
    have hz : i - xs.length = 0 := by
      have := (List.getElem?_eq_some_iff.mp e).1
      rw [List.length_singleton] at this
      omega
    rw [hz] at e
    obtain rfl := Option.some.inj e
    exact ⟨s, by rw [List.getElem?_append_right (by rw [← h.len]; exact Nat.le_of_not_lt c), ← h.len, hz]; rfl, p, rfl, hp⟩
theorem any_shapes (ss : List (List Str)) (s : List Str) : ((shD ss).any fun z => PyData.eqv z (.tuple (s.map .str))) = decide (s ∈ ss) := by
  unfold shD
  rw [List.any_map, Bool.eq_iff_iff, List.any_eq_true, decide_eq_true_eq]
  constructor
  · rintro ⟨u, hu, h⟩
    have h : PyData.eqv (.tuple (u.map .str)) (.tuple (s.map .str)) = true := h
    rw [eqv_row, decide_eq_true_eq] at h
    rw [← h]
    exact hu
  · intro h
    refine ⟨s, h, ?_⟩
    show PyData.eqv (.tuple (s.map .str)) (.tuple (s.map .str)) = true
    rw [eqv_row, decide_eq_true_eq]
end Sw
/-! ## drawn options, and questions with them as the laws make them -/
namespace Sw
open PySem PySem.Spec PyProof.Rows L2
/-- a drawn question, its lists by where they stand -/
structure AskX (K : PySem.W.Frag) (H : Hp) (a t sh li : Addr) (ys : List V) (vals : List Str) (k : Ask) : Prop where
  at_ : H a = some (.lst [.ref t, .ref sh, .ref li, .bl k.dup])
  hd : H t = some (.tup (k.hd.map V.str))
  sh : ShapesAt K H sh ys k.ss
  li : Lims K H li vals (allVars k.ss) k.es
theorem AskX.same {K : PySem.W.Frag} {H H' : Hp} {a t sh li : Addr} {ys : List V} {vals : List Str} {k : Ask} (h : AskX K H a t sh li ys vals k) (s : Same H H') : AskX K H' a t sh li ys vals k := ⟨s _ _ h.at_, s _ _ h.hd, h.sh.same s, h.li.same s⟩
theorem AskX.hand {K : PySem.W.Frag} {H H' : Hp} {h a t sh li : Addr} {ys : List V} {vals : List Str} {k : Ask} (q : AskX K H a t sh li ys vals k) (hh : HandAt H h) (e : SBut h H H') : AskX K H' a t sh li ys vals k :=
  ⟨e _ _ (hand_short hh (.inl ⟨_, q.at_, by show 4 ≤ 5; decide⟩)) q.at_, hh.notL e _ _ q.hd (fun _ z => nomatch z), q.sh.hand hh e, q.li.hand hh e⟩
/-- it is not this list, nor holds it -/
def FarX (K : PySem.W.Frag) (a sh : Addr) (ys : List V) (es : List Ent) (M : Addr) : Prop := a ≠ M ∧ (sh ≠ M ∨ ∀ H' : Hp, SqL K H' sh ys) ∧ ∀ e ∈ es, e.2.1 ≠ M
theorem AskX.far {K : PySem.W.Frag} {H : Hp} {a t sh li : Addr} {ys : List V} {vals : List Str} {k : Ask} {M : Addr} (q : AskX K H a t sh li ys vals k) (n : H M = none) : FarX K a sh ys k.es M := by
  refine ⟨ne_of_none q.at_ n, ?_, fun e he => ne_of_none (q.li.all e he).1 n⟩
  rcases q.sh.at_ with (h | ⟨u, h⟩) | h
  · exact .inl (ne_of_none h n)
  · exact .inl (ne_of_none h n)
  · exact .inr fun H' => .inr h
theorem AskX.upd {K : PySem.W.Frag} {H : Hp} {a t sh li M : Addr} {ys : List V} {vals : List Str} {k : Ask} {vs ws : List V} (q : AskX K H a t sh li ys vals k) (f : FarX K a sh ys k.es M) (hM : H M = some (.lst vs)) : AskX K (upd H M (.lst ws)) a t sh li ys vals k := by
  have nt : ∀ ys, HO.lst vs ≠ .tup ys ∧ ∀ u, HO.lst vs ≠ .frz u (.tup ys) := fun ys => ⟨fun z => (nomatch z), fun u z => (nomatch z)⟩
  refine ⟨by rw [upd_ne f.1]; exact q.at_, upd_notL hM _ _ q.hd (fun _ z => nomatch z), ⟨?_, q.sh.len, q.sh.sml, fun i v e => let ⟨s, h1, ⟨b, h2, h3⟩, h4⟩ := q.sh.all i v e; ⟨s, h1, ⟨b, h2, sqT_upd h3 hM nt⟩, h4⟩⟩, upd_notL hM _ _ q.li.at_ (fun _ z => nomatch z), q.li.nd, fun e he => ⟨by rw [upd_ne (f.2.2 e he)]; exact (q.li.all e he).1, (q.li.all e he).2⟩⟩
  rcases f.2.1 with f2 | f2
  · rcases q.sh.at_ with (h | ⟨u, h⟩) | h
    · exact .inl (.inl (by rw [upd_ne f2]; exact h))
    · exact .inl (.inr ⟨u, by rw [upd_ne f2]; exact h⟩)
    · exact .inr h
  · exact f2 _
/-- what a question with options keeps -/
structure AskFine (rows : List Rw) (vals : List Str) (k : Ask) : Prop where
  good : AskGood rows k.hd k.ss (keysOf k.es)
  keq : k.es.map (·.1) = (keysOf k.es).map Sum.inr
  n3 : k.ss.length ≤ 3
  el : k.es.length ≤ 40
/-- what is known of a drawn option -/
def OptGood (rows : List Rw) (vals : List Str) (k : Ask) : Opt → Prop
  | .part s => PartGood rows s ∧ (∀ z ∈ s, SOk z) ∧ (s ∈ k.ss ∨ k.ss.length < 3)
  | .cond v us => v ∈ allVars k.ss ∧ us.length ≤ 3 ∧ ∀ z ∈ us, z ∈ vals
/-- a drawn part is good -/
theorem BeginAt.partGood {K : PySem.W.Frag} {H : Hp} {R : Addr} {many n : Nat} {xs : List V} {rows : List Rw} {vals tms : List Str} {k : Ask} (b : BeginAt K H R many xs rows vals tms k) {s : List Str} (h : PartOk rows (tms ++ vals.take n) s) : PartGood rows s := by
  obtain ⟨r, hr, g1, g2, g3⟩ := h
  have own := b.ok.own r hr
  have w := own.wd
  have es2 : ∀ z ∈ s.tail, (∃ y, z = ("?" : Str) ++ y ∧ Wd sgn y) ∨ Wd sgn z := fun z hz => by
    rcases g3 z hz with h | ⟨e, he, h⟩
    · rcases List.mem_append.mp h with h | h
      · exact .inl (b.twd z h)
      · exact .inr (b.vwd z (List.mem_of_mem_take h))
    · exact .inr (b.vwd z ((own.es e he).2.2.2.2 z h))
  obtain ⟨c, d, rfl⟩ : ∃ c d, s = c :: d := by
    cases s with
    | nil => cases g1
    | cons c d => exact ⟨c, d, rfl⟩
  obtain rfl : c = r.nm := Option.some.inj g1
  have g2' : (d.length : Int) = r.wd := g2
  refine ⟨⟨r, hr, g1, g2⟩, fun z hz => ?_, fun z hz => ?_, by rw [List.length_cons]; omega, by rw [List.length_cons]; omega⟩
  · rcases List.mem_cons.mp hz with h | h
    · rw [h]
      exact (b.nms r hr).1
    · rcases es2 z h with ⟨y, rfl, hy⟩ | hy
      · rw [len_tl, q_tl, List.length_cons]
        have := hy.2.1
        omega
      · rw [len_tl]
        have := hy.2.1
        omega
  · rcases es2 z hz with ⟨y, rfl, hy⟩ | hy
    · exact q_term hy
    · exact wd_term hy
/-- _law_choice(hand, setup, ask, most) -/
def spChoice (K : PySem.W.Frag) : Sp := fun vs H Q _ => ∃ (h R a t sh li : Addr) (many : Nat) (xs ys : List V) (rows : List Rw) (vals tms : List Str) (k0 k : Ask), vs = [.ref h, .ref R, .ref a, .int 3] ∧ HandAt H h ∧ BeginAt K H R many xs rows vals tms k0 ∧ AskX K H a t sh li ys vals k ∧ AskFine rows vals k ∧
  ∀ (H' : Hp) (p : Addr) (o : Opt), HandAt H' h → SBut h H H' → OptAt K H' p o → OptGood rows vals k o → Q (.ref p) H'
theorem eqv_nilS (us : List Str) : PySem.PyData.eqv (.list (us.map .str)) (.list []) = us.isEmpty := by
  cases us <;> rfl
end Sw
namespace Sw
open PySem PySem.Spec PyProof.Rows L2
theorem askGood_more {rows : List Rw} {hd : List Str} {ss : List (List Str)} {ks : List Str} {s : List Str} (g : AskGood rows hd ss ks) (p : PartGood rows s) (h : ss.length < 10) : AskGood rows hd (ss ++ [s]) ks := by
  have sub : ∀ z ∈ termsOf ss, z ∈ termsOf (ss ++ [s]) := fun z hz => by
    unfold termsOf at hz ⊢
    rw [List.flatMap_append]
    exact List.mem_append.mpr (.inl hz)
  refine ⟨by rw [List.length_append]; have := g.n1; omega, by rw [List.length_append]; exact h, fun t ht => ?_, g.hl, g.kl, fun z hz hv => sub z (g.hd z hz hv), fun z hz hv => sub z (g.ks z hz hv)⟩
  rcases List.mem_append.mp ht with ht | ht
  · exact g.parts t ht
  · rw [List.mem_singleton.mp ht]
    exact p
theorem keysOf_of {es ts : List Ent} (h : ts.map (·.1) = es.map (·.1)) : keysOf ts = keysOf es := by
  have e : ∀ l : List Ent, keysOf l = (l.map (·.1)).filterMap fun k => match k with | .inr v => some v | .inl _ => none := fun l => by
    unfold keysOf
    rw [List.filterMap_map]
    rfl
  rw [e, e, h]
theorem mem_keysOf {es : List Ent} {v : Str} : v ∈ keysOf es ↔ (Sum.inr v : Key) ∈ es.map (·.1) := by
  unfold keysOf
  rw [List.mem_filterMap, List.mem_map]
  constructor
  · rintro ⟨e, he, h⟩
    refine ⟨e, he, ?_⟩
    cases h1 : e.1 with
    | inl _ => rw [h1] at h; cases h
    | inr u => rw [h1] at h; rw [Option.some.inj h]
  · rintro ⟨e, he, h⟩
    exact ⟨e, he, by rw [h]⟩
theorem askGood_keys {rows : List Rw} {hd : List Str} {ss : List (List Str)} {ks ks' : List Str} (g : AskGood rows hd ss ks) (kl : ks'.length < 64) (h : ∀ z ∈ ks', isVar z = true → z ∈ termsOf ss) : AskGood rows hd ss ks' := ⟨g.n1, g.n10, g.parts, g.hl, kl, g.hd, h⟩
theorem keysOf_len (es : List Ent) : (keysOf es).length ≤ es.length := List.length_filterMap_le _ _
/-- a drawn question with an option, as the law has it -/
def JoinE (es : List Ent) : Opt → List Ent → Prop
  | .part _, es' => es' = es
  | .cond v us, es' => ∃ a ws, es' = putEnt es (Sum.inr v) a ws ∧ ∀ x, x ∈ ws ↔ x ∈ us ∧ ∀ e, entOf es (Sum.inr v : Key) = some e → x ∈ e.2.2
theorem optS_sub {ss : List (List Str)} {o : Opt} : ∀ z ∈ allVars ss, z ∈ allVars (optS ss o) := fun z hz => by
  cases o with
  | cond v us => exact hz
  | part s =>
    show z ∈ allVars (if s ∈ ss then ss else ss ++ [s])
    by_cases c : s ∈ ss
    · rw [if_pos c]
      exact hz
    · rw [if_neg c]
      unfold allVars at hz ⊢
      rw [List.flatMap_append]
      exact List.mem_append.mpr (.inl hz)
/-- so the question stays good -/
theorem AskFine.join {rows : List Rw} {vals : List Str} {k k' : Ask} {o : Opt} (f : AskFine rows vals k) (g : OptGood rows vals k o) (hs : k'.ss = optS k.ss o) (hh : k'.hd = k.hd) (j : JoinE k.es o k'.es) (nd : (k'.es.map (·.1)).Nodup) (sub : ∀ e ∈ k'.es, ∃ v, e.1 = Sum.inr v ∧ v ∈ allVars k'.ss) : AskFine rows vals k' := by
  have n3 : k'.ss.length ≤ 3 := by
    rw [hs]
    cases o with
    | cond v us => exact f.n3
    | part s =>
      show (if s ∈ k.ss then k.ss else k.ss ++ [s]).length ≤ 3
      by_cases c : s ∈ k.ss
      · rw [if_pos c]
        exact f.n3
      · rw [if_neg c, List.length_append]
        rcases g.2.2 with h | h
        · exact absurd h c
        · exact h
  have keq := keysOf_eq (es := k'.es) fun e he => let ⟨v, h, _⟩ := sub e he; ⟨v, h⟩
  have good0 : AskGood rows k'.hd k'.ss (keysOf k.es) := by
    rw [hs, hh]
    cases o with
    | cond v us => exact f.good
    | part s =>
      show AskGood rows k.hd (if s ∈ k.ss then k.ss else k.ss ++ [s]) _
      by_cases c : s ∈ k.ss
      · rw [if_pos c]
        exact f.good
      · rw [if_neg c]
        exact askGood_more f.good g.1 (by have := f.n3; omega)
  have el : k'.es.length ≤ 40 := by
    have h1 := nodup_leA (fs := k'.es.map (·.1)) (ns := (allVars k'.ss).map Sum.inr) nd fun z hz => by
      obtain ⟨e, he, rfl⟩ := List.mem_map.mp hz
      obtain ⟨v, h1, h2⟩ := sub e he
      exact List.mem_map.mpr ⟨v, h2, h1.symm⟩
    have h2 := allVars_len (ss := k'.ss) fun s hs => (good0.parts s hs).len
    rw [List.length_map, List.length_map] at h1
    omega
  refine ⟨askGood_keys good0 (by have := keysOf_len k'.es; omega) fun z hz hv => ?_, keq, n3, el⟩
  obtain ⟨e, he, e1⟩ := List.mem_map.mp (mem_keysOf.mp hz)
  obtain ⟨v, h1, h2⟩ := sub e he
  rw [h1] at e1
  obtain rfl := Sum.inr.inj e1
  exact vars_terms h2
/-- _law_joined(ask, option) -/
def spJoined (K : PySem.W.Frag) : Sp := fun vs H Q _ => ∃ (a t sh li p : Addr) (ys : List V) (rows : List Rw) (vals : List Str) (k : Ask) (o : Opt), vs = [.ref a, .ref p] ∧ AskX K H a t sh li ys vals k ∧ AskFine rows vals k ∧ (∀ r ∈ rows, isV r.nm = false) ∧ OptAt K H p o ∧ OptGood rows vals k o ∧ (∀ z ∈ vals, SOk z) ∧
  ∀ (H' : Hp) (a' sh' li' : Addr) (ys' : List V) (k' : Ask), Same H H' → H a' = none → H sh' = none → (∀ e ∈ k'.es, e ∈ k.es ∨ H e.2.1 = none) → AskX K H' a' t sh' li' ys' vals k' → AskFine rows vals k' → k'.hd = k.hd → k'.dup = k.dup → k'.ss = optS k.ss o → JoinE k.es o k'.es → Q (.ref a') H'
/-- _law_question_is(question, ask): so it is -/
def spQuesIs (K : PySem.W.Frag) (CQ : Addr) : Sp := fun vs H Q _ => ∃ (x S hA pA lA a t sh li : Addr) (ts : List Ent) (xs ys : List V) (vals : List Str) (k : Ask), vs = [.ref x, .ref a] ∧ QuesAt K CQ H x S k.hd k.ss ts k.dup hA pA lA xs ∧ AskX K H a t sh li ys vals k ∧ Alike k.es ts ∧ (∀ z ∈ vals, SOk z) ∧ (∀ z ∈ k.hd, SOk z) ∧ k.es.length ≤ 100 ∧ ∀ H' : Hp, Same H H' → Q (.bl true) H'
end Sw
namespace Sw
open PySem PySem.Spec PyProof.Rows L2
theorem ShapesAt.opt {K : PySem.W.Frag} {H : Hp} {sh R : Addr} {ys : List V} {ss : List (List Str)} {p : Addr} {s : List Str} (h : ShapesAt K H sh ys ss) (hp : SqT K H p (s.map V.str)) (hl : ss.length < 10) (l2 : 2 ≤ s.length) (l10 : s.length ≤ 10) (hz : ∀ z ∈ s, SOk z) (hR : H R = some (.lst (ys ++ List.replicate (if s ∈ ss then 0 else 1) (V.ref p)))) :
    ShapesAt K H R (ys ++ List.replicate (if s ∈ ss then 0 else 1) (V.ref p)) (optS ss (.part s)) := by
  have e : optS ss (.part s) = if s ∈ ss then ss else ss ++ [s] := rfl
  rw [e]
  by_cases c : s ∈ ss
  · rw [if_pos c] at hR ⊢
    rw [if_pos c]
    have e0 : ys ++ List.replicate 0 (V.ref p) = ys := List.append_nil _
    rw [e0] at hR ⊢
    exact ⟨SqL.of hR, h.len, h.sml, h.all⟩
  · rw [if_neg c] at hR ⊢
    rw [if_neg c]
    refine ⟨SqL.of hR, by rw [List.length_append, List.length_append, h.len]; rfl, by rw [List.length_append]; exact hl, fun i v hv => ?_⟩
    by_cases hi : i < ys.length
    · rw [List.getElem?_append_left hi] at hv
      obtain ⟨s', h1, h2⟩ := h.all i v hv
      exact ⟨s', by rw [List.getElem?_append_left (by rw [← h.len]; exact hi)]; exact h1, h2⟩
    · rw [List.getElem?_append_right (Nat.le_of_not_lt hi)] at hv
      have hz0 : i - ys.length = 0 := by
        have := (List.getElem?_eq_some_iff.mp hv).1
        rw [List.length_replicate] at this
        omega
      rw [hz0] at hv
      obtain rfl : V.ref p = v := Option.some.inj hv
      exact ⟨s, by rw [List.getElem?_append_right (by rw [← h.len]; exact Nat.le_of_not_lt hi), ← h.len, hz0]; rfl, ⟨p, rfl, hp⟩, l2, l10, hz⟩
end Sw
namespace Sw
open PySem PySem.Spec PyProof.Rows L2
theorem TDict.notL {H H' : Hp} {lA : Addr} {ts : List Ent} (h : TDict H lA ts) (e : NotL H H') : TDict H' lA ts := ⟨e _ _ h.at_ (fun _ z => nomatch z), fun r hr => ⟨e _ _ (h.all r hr).1 (fun _ z => nomatch z), (h.all r hr).2⟩⟩
theorem QuesAt.notL {K : PySem.W.Frag} {CQ x S hA pA lA : Addr} {H H' : Hp} {hd : List Str} {ss : List (List Str)} {ts : List Ent} {dup : Bool} {xs : List V} (h : QuesAt K CQ H x S hd ss ts dup hA pA lA xs) (e : NotL H H') : QuesAt K CQ H' x S hd ss ts dup hA pA lA xs :=
  ⟨let ⟨dx, g⟩ := h.ex; ⟨dx, e _ _ g (fun _ z => nomatch z)⟩, e.tup h.hd, e.tup h.ps, h.pv.notL e, h.ts.notL e⟩
theorem OptAt.notL {K : PySem.W.Frag} {H H' : Hp} {p : Addr} {o : Opt} (h : OptAt K H p o) (e : NotL H H') : OptAt K H' p o := by
  cases o with
  | part _ => exact e.tup h
  | cond v us => exact let ⟨t, h1, h2⟩ := h; ⟨t, e.tup h1, e.tup h2⟩
theorem OptAt.tup {K : PySem.W.Frag} {H : Hp} {p : Addr} {o : Opt} (h : OptAt K H p o) : ∃ xs, SqT K H p xs := by
  cases o with
  | part _ => exact ⟨_, h⟩
  | cond v us => exact let ⟨t, h1, h2⟩ := h; ⟨_, h1⟩
theorem alike_entOf {es ts : List Ent} (h : Alike es ts) (k : Key) : (entOf es k = none ∧ entOf ts k = none) ∨ ∃ e r, entOf es k = some e ∧ entOf ts k = some r ∧ ∀ x, x ∈ r.2.2 ↔ x ∈ e.2.2 := by
  unfold Alike at h
  unfold entOf
  induction h with
  | nil => exact .inl ⟨rfl, rfl⟩
  | @cons e r es' rs' q _ ih =>
    by_cases c : e.1 = k
    · refine .inr ⟨e, r, ?_, ?_, q.2⟩
      · rw [List.find?_cons_of_pos (by exact decide_eq_true c)]
      · rw [List.find?_cons_of_pos (by exact decide_eq_true (q.1.trans c))]
    · rw [List.find?_cons_of_neg (by rw [decide_eq_true_eq]; exact c), List.find?_cons_of_neg (by rw [decide_eq_true_eq]; exact fun z => c (q.1.symm.trans z))]
      exact ih
theorem keptW_mem {es ts : List Ent} (h : Alike es ts) (v : Str) (us : List Str) (x : Str) : x ∈ keptW ts v us ↔ x ∈ us ∧ ∀ e, entOf es (Sum.inr v : Key) = some e → x ∈ e.2.2 := by
  unfold keptW
  rw [List.mem_filter]
  rcases alike_entOf h (Sum.inr v) with ⟨h1, h2⟩ | ⟨e, r, h1, h2, h3⟩
  · rw [h1, h2]
    exact ⟨fun q => ⟨q.1, fun e z => (nomatch z)⟩, fun q => ⟨q.1, rfl⟩⟩
  · rw [h1, h2]
    show (x ∈ us ∧ decide (x ∈ r.2.2) = true) ↔ _
    rw [decide_eq_true_eq, h3 x]
    exact ⟨fun q => ⟨q.1, fun e' z => by rw [← Option.some.inj z]; exact q.2⟩, fun q => ⟨q.1, q.2 e rfl⟩⟩
theorem alike_len {es ts : List Ent} (h : Alike es ts) : ts.length = es.length := by have := congrArg List.length h.keys; rwa [List.length_map, List.length_map] at this
/-- the question's own side -/
theorem optOk_of {rows : List Rw} {vals : List Str} {k k' : Ask} {o : Opt} {ts : List Ent} (f : AskFine rows vals k) (f' : AskFine rows vals k') (nv : ∀ r ∈ rows, isV r.nm = false) (g : OptGood rows vals k o) (hs : k'.ss = optS k.ss o) (hh : k'.hd = k.hd) (j : JoinE k.es o k'.es) (al : Alike k.es ts) (nd : (k.es.map (·.1)).Nodup)
    (asc : ∀ e ∈ ts, AscS e.2.2) (el : ∀ e ∈ k.es, e.2.2.length ≤ 3) (sok : ∀ s ∈ k.ss, ∀ z ∈ s, SOk z) : OptOk rows k.hd k.ss ts o := by
  have kk := keysOf_of al.keys
  have tkeq : ts.map (·.1) = (keysOf ts).map Sum.inr := by rw [al.keys, kk]; exact f.keq
  refine ⟨by rw [al.keys]; exact nd, tkeq, by rw [alike_len al]; have := f.el; omega, fun e he => ?_, sok, by have := f.n3; omega, by rw [kk]; exact f.good, ?_⟩
  · obtain ⟨i, hi⟩ := List.mem_iff_getElem?.mp he
    have hil : i < k.es.length := by rw [← alike_len al]; exact (List.getElem?_eq_some_iff.mp hi).1
    obtain ⟨r, h1, h2, h3⟩ := paired_get al (List.getElem?_eq_getElem hil)
    rw [hi] at h1
    obtain rfl := Option.some.inj h1
    have h4 := nodup_le (asc_nd (asc e he)) fun z hz => (h3 z).mp hz
    have h5 := el _ (List.getElem_mem hil)
    omega
  · cases o with
    | part s =>
      obtain ⟨pg, sk, _⟩ := g
      refine ⟨?_, sk, fun c => ?_⟩
      · obtain ⟨r, hr, h1, _⟩ := pg.row
        cases s with
        | nil => cases h1
        | cons z rs =>
          obtain rfl := Option.some.inj h1
          exact ⟨_, rs, rfl, by rw [← isV_isVar]; exact nv r hr⟩
      · have e1 : k'.ss = k.ss ++ [s] := by rw [hs]; exact if_neg c
        have e2 : k'.es = k.es := j
        have := f'.good
        rw [e1, e2, hh] at this
        rw [kk]
        exact this
    | cond v us =>
      obtain ⟨hv, u3, _⟩ := g
      refine ⟨?_, by omega, fun a => ?_⟩
      · obtain ⟨s, _, h⟩ := List.mem_flatMap.mp hv
        rw [← isV_isVar]
        exact (List.mem_filter.mp h).2
      · obtain ⟨b, ws, e1, _⟩ := j
        have e2 : k'.ss = k.ss := hs
        have := f'.good
        rw [e2, hh, e1] at this
        rw [keysOf_of (es := putEnt k.es (Sum.inr v) b ws) (by
          rw [putEnt_keys, putEnt_keys, al.keys]
          have e : ∀ l : List Ent, (l.any fun e => decide (e.1 = (Sum.inr v : Key))) = ((l.map (·.1)).any fun x => decide (x = (Sum.inr v : Key))) := fun l => by rw [List.any_map]; rfl
          rw [e ts, e k.es, al.keys])]
        exact this
/-- .. and so it is like the law's -/
theorem alike_join {k k' : Ask} {o : Opt} {ts es ts' : List Ent} (al : Alike k.es ts) (j : JoinE k.es o k'.es) (he : OptE ts o es) (h : Alike es ts') : Alike k'.es ts' := by
  cases o with
  | part s =>
    have e1 : k'.es = k.es := j
    have e2 : es = ts := he
    rw [e1]
    rw [e2] at h
    exact al.trans h
  | cond v us =>
    obtain ⟨a, ws, e1, hw⟩ := j
    obtain ⟨b, e2⟩ := he
    rw [e1]
    rw [e2] at h
    exact (al.put fun x => (keptW_mem al v us x).trans (hw x).symm).trans h
/-- one of the law's questions and one of the program's -/
structure Row15 (K : PySem.W.Frag) (CQ S : Addr) (rows : List Rw) (vals : List Str) (H : Hp) (As Qs : Addr) (va vq : V) : Prop where
  ex : ∃ (a t sh li : Addr) (ys : List V) (k : Ask) (x hA pA lA : Addr) (ts : List Ent) (xs : List V), va = .ref a ∧ vq = .ref x ∧ AskX K H a t sh li ys vals k ∧ AskFine rows vals k ∧ FarX K a sh ys k.es As ∧ FarX K a sh ys k.es Qs ∧ QuesAt K CQ H x S k.hd k.ss ts k.dup hA pA lA xs ∧ Alike k.es ts ∧ ∀ z ∈ k.hd, SOk z
theorem Row15.same {K : PySem.W.Frag} {CQ S As Qs : Addr} {rows : List Rw} {vals : List Str} {H H' : Hp} {va vq : V} (h : Row15 K CQ S rows vals H As Qs va vq) (s : Same H H') : Row15 K CQ S rows vals H' As Qs va vq :=
  ⟨let ⟨a, t, sh, li, ys, k, x, hA, pA, lA, ts, xs, e1, e2, h1, h2, h3, h4, h5, h6, h7⟩ := h.ex; ⟨a, t, sh, li, ys, k, x, hA, pA, lA, ts, xs, e1, e2, h1.same s, h2, h3, h4, h5.same s, h6, h7⟩⟩
theorem Row15.hand {K : PySem.W.Frag} {CQ S As Qs p : Addr} {rows : List Rw} {vals : List Str} {H H' : Hp} {va vq : V} (h : Row15 K CQ S rows vals H As Qs va vq) (hh : HandAt H p) (s : SBut p H H') : Row15 K CQ S rows vals H' As Qs va vq :=
  ⟨let ⟨a, t, sh, li, ys, k, x, hA, pA, lA, ts, xs, e1, e2, h1, h2, h3, h4, h5, h6, h7⟩ := h.ex; ⟨a, t, sh, li, ys, k, x, hA, pA, lA, ts, xs, e1, e2, h1.hand hh s, h2, h3, h4, h5.notL (hh.notL s), h6, h7⟩⟩
theorem Row15.upA {K : PySem.W.Frag} {CQ S As Qs : Addr} {rows : List Rw} {vals : List Str} {H : Hp} {va vq : V} {vs ws : List V} (h : Row15 K CQ S rows vals H As Qs va vq) (hM : H As = some (.lst vs)) : Row15 K CQ S rows vals (upd H As (.lst ws)) As Qs va vq :=
  ⟨let ⟨a, t, sh, li, ys, k, x, hA, pA, lA, ts, xs, e1, e2, h1, h2, h3, h4, h5, h6, h7⟩ := h.ex; ⟨a, t, sh, li, ys, k, x, hA, pA, lA, ts, xs, e1, e2, h1.upd h3 hM, h2, h3, h4, h5.notL (upd_notL hM), h6, h7⟩⟩
theorem Row15.upQ {K : PySem.W.Frag} {CQ S As Qs : Addr} {rows : List Rw} {vals : List Str} {H : Hp} {va vq : V} {vs ws : List V} (h : Row15 K CQ S rows vals H As Qs va vq) (hM : H Qs = some (.lst vs)) : Row15 K CQ S rows vals (upd H Qs (.lst ws)) As Qs va vq :=
  ⟨let ⟨a, t, sh, li, ys, k, x, hA, pA, lA, ts, xs, e1, e2, h1, h2, h3, h4, h5, h6, h7⟩ := h.ex; ⟨a, t, sh, li, ys, k, x, hA, pA, lA, ts, xs, e1, e2, h1.upd h4 hM, h2, h3, h4, h5.notL (upd_notL hM), h6, h7⟩⟩
end Sw
namespace Sw
open PySem PySem.Spec PyProof.Rows L2 NdefX
def topS (i : Nat) : Stmt := PySem.Challenge.pw_surelywhole_k15_question_and_option.main.body.getD i (.Pass ⟨0, 0, 0, 0⟩)
end Sw
namespace Sw
open PySem PySem.Spec PyProof.Rows L2
abbrev sDeal : Stmt := topS 41
abbrev sTake : Stmt := topS 42
abbrev sSpell : Stmt := topS 43
abbrev nDeal : List Str := ["_law_script", "_law_k", "_law_cell", "_law_hand", "_law_rest", "_law_n", "_law_mixed"]
theorem scDeal : FnScope nDeal ["_law_script", "_law_k"] (defScope sDeal) := ⟨rfl, rfl, rfl, by decide +kernel, rfl, by decide +kernel, by decide +kernel⟩
theorem scTake : FnScope ["_law_hand", "_law_many"] ["_law_hand", "_law_many"] (defScope sTake) := ⟨rfl, rfl, rfl, by decide +kernel, rfl, by decide +kernel, by decide +kernel⟩
section
variable {P : Program} {w : World} {K : PySem.W.Frag} {mg : Str → Option Value} {base : Heap}
theorem ok_take {f : Addr} {fd : FuncData} (F : Fun K "_law_take" "_law_take" sTake f fd) (B : Blt mg) : FnOk P w K mg base CX0 1 f fd ["_law_hand", "_law_many"] spTake := by
  refine F.ok scTake (fun vs H Q E h => ?_) (fun cdv A outer s H vs Q E hr h => ?_)
  · obtain ⟨a, m, rfl, _⟩ := h
    rfl
  · obtain ⟨a, m, rfl, ⟨ns, hH, hl⟩, hm, q⟩ := h
    refine ⟨_, pss_cons (ps_asg (pe_op op_add (pe_ix ix_list (pv 0) pe_int (fun _ _ => rfl)) pe_int) (pg_sub (pv 0) pe_int set_list))
      (pss_one (ps_ret (pe_op op_mod (pe_callTy call_int1 (by rfl) B.int bInt (pa_cons (pe_ix ix_list (pv 0)
        (pe_op op_add pe_int (pe_op op_mod (pe_callTy call_int1 (by rfl) B.int bInt (pa_cons (pe_ix ix_list (pv 0) pe_int (fun _ _ => rfl)) pa_nil)) pe_int)) (fun _ _ => rfl)) pa_nil)) (pv 1)))), ?_⟩
    have h0 : (ns.map V.int)[0]? = some (V.int (ns[0]'(by omega))) := intV_get (by omega)
    refine ⟨_, rfl, a, _, _, _, rfl, rfl, SqL.of hH, atI_nat (j := 0) h0, _, _, rfl, rfl, ?_⟩
    refine ⟨_, rfl, a, _, _, 0, rfl, rfl, hH, by rw [List.length_map, hl]; rfl, ?_⟩
    have e1 : (ns.map V.int).set 0 (V.int (ns[0]'(by omega) + 1)) = (ns.set 0 (ns[0]'(by omega) + 1)).map V.int := by rw [List.map_set]
    rw [e1]
    generalize hns : ns.set 0 (ns[0]'(by omega) + 1) = ms
    have hl2 : ms.length = 61 := by rw [← hns, List.length_set, hl]
    have h02 : (ms.map V.int)[0]? = some (V.int (ms[0]'(by omega))) := intV_get (by omega)
    refine ⟨_, rfl, _, rfl, a, _, _, _, rfl, rfl, SqL.of upd_same, atI_nat (j := 0) h02, .inl ⟨_, rfl, ?_⟩⟩
    have hz : 0 ≤ (1 : Int) + ms[0]'(by omega) % 60 ∧ (1 : Int) + ms[0]'(by omega) % 60 < ms.length := by
      have h1 := Int.emod_nonneg (ms[0]'(by omega)) (show (60 : Int) ≠ 0 by decide)
      have h2 := Int.emod_lt_of_pos (ms[0]'(by omega)) (show (0 : Int) < 60 by decide)
      omega
    obtain ⟨c, hc⟩ := atI_int hz.1 hz.2
    refine ⟨_, _, rfl, rfl, (by show (0 : Int) < 60; decide), _, _, rfl, rfl, a, _, _, _, rfl, rfl, SqL.of upd_same, hc, .inl ⟨_, rfl, ?_⟩⟩
    refine ⟨_, rfl, _, _, rfl, rfl, hm, ?_⟩
    exact q _ _ (Int.emod_nonneg _ (by omega)) (Int.emod_lt_of_pos _ hm) ⟨ms, upd_same, hl2⟩ (but_upd (but_refl a H))
theorem ok_deal {f : Addr} {fd : FuncData} (F : Fun K "_law_deal" "_law_deal" sDeal f fd) (B : Blt mg) : FnOk P w K mg base CX0 1 f fd ["_law_script", "_law_k"] (spDeal K) := by
  refine F.ok scDeal (fun vs H Q E h => ?_) (fun cdv A outer s H vs Q E hr h => ?_)
  · obtain ⟨a, ns, k, rfl, _⟩ := h
    rfl
  · obtain ⟨a, ns, k, rfl, hS, hlen, hk, q⟩ := h
    refine ⟨_, pss_cons (ps_set (i := 2) scDeal.nd rfl (.inl rfl) (pe_ix ix_list (pe_op op_joinL (pv 0) (pe_lst (pa_cons pe_int (pa_cons pe_int (pa_cons pe_int (pa_cons pe_int (pa_cons pe_int (pa_cons pe_int (pa_cons pe_int pa_nil))))))))) (pv 1) (fun _ _ => rfl)))
      (pss_cons (ps_set (i := 3) scDeal.nd rfl (.inl rfl) (pe_lst (pa_cons pe_int pa_nil)))
      (pss_cons (ps_set (i := 4) scDeal.nd rfl (.inl rfl) (pe_op op_mul (pv 2) (pe_callTy call_int1 (by rfl) B.int bInt (pa_cons (pe_cmpR op_ge (pv 2) (pe_op op_pow pe_int pe_int) (nomark _)) pa_nil))))
      (pss_cons (ps_for PassesOwn.never rfl (pi_range1 rfl B.range (pa_cons pe_int pa_nil)) (pg_name (i := 5) scDeal.nd rfl (.inl rfl))
        (pss_cons (ps_set (i := 6) scDeal.nd rfl (.inl rfl) (pe_op op_mod (pe_callTy call_int1 (by rfl) B.int bInt (pa_cons (pe_op op_add (pe_op op_mul (pe_op op_add (pe_op op_add (pv 2) (pv 1)) (pv 5)) (pe_op op_add pe_int (pe_op op_mul pe_int (pv 5)))) (pe_op op_mul (pv 1) pe_int)) pa_nil)) pe_int))
        (pss_cons (ps_set (i := 6) scDeal.nd rfl (.inl rfl) (pe_op op_mod (pe_callTy call_int1 (by rfl) B.int bInt (pa_cons (pe_op op_mul (pv 6) (pe_op op_add (pe_op op_add (pe_op op_fdiv (pv 6) pe_int) pe_int) (pv 5))) pa_nil)) pe_int))
        (pss_cons (ps_expr (pe_bm PySem.F.plainAttrs_list PySem.F.slot_list_append PySem.F.type_list_append mt_append (pv 3) (pa_cons (pe_op op_mod (pe_callTy call_int1 (by rfl) B.int bInt (pa_cons (pe_ix ix_list (pe_lst (pa_cons (pe_op op_fdiv (pv 6) pe_int) (pa_cons (pv 4) pa_nil))) (pe_callTy call_int1 (by rfl) B.int bInt (pa_cons (pe_cmpR op_gt (pv 4) pe_int (nomark _)) pa_nil)) (fun _ _ => rfl)) pa_nil)) pe_int) pa_nil)))
        (pss_one (ps_set (i := 4) scDeal.nd rfl (.inl rfl) (pe_op op_fdiv (pv 4) pe_int)))))))
      (pss_one (ps_ret (pv 3)))))), ?_⟩
    -- the cell
    obtain ⟨c, hc⟩ := cell_at (ns := ns) hk
    refine ⟨_, rfl, (by show 7 ≤ sizeLine; decide), fun p0 n0 => ?_⟩
    have s0 : Same H (upd H p0 (.lst [V.int 0, V.int 0, V.int 0, V.int 0, V.int 0, V.int 0, V.int 0])) := same_new n0
    refine ⟨a, p0, _, _, rfl, rfl, s0.seq hS, SqL.of upd_same, ?_, fun p1 n1 => ?_⟩
    · rw [List.length_map]
      exact Nat.le_trans (Nat.add_le_add_right hlen _) (by show 63 + 7 ≤ sizeLine; decide)
    have s1 := s0.trans (same_new (o := .lst (ns.map V.int ++ [V.int 0, V.int 0, V.int 0, V.int 0, V.int 0, V.int 0, V.int 0])) n1)
    refine ⟨_, rfl, p1, _, _, _, rfl, rfl, SqL.of upd_same, atI_nat hc, ?_⟩
    -- hand = [0]
    generalize hH1 : upd (upd H p0 (.lst [V.int 0, V.int 0, V.int 0, V.int 0, V.int 0, V.int 0, V.int 0])) p1 (.lst (ns.map V.int ++ [V.int 0, V.int 0, V.int 0, V.int 0, V.int 0, V.int 0, V.int 0])) = H1 at s1 ⊢
    refine ⟨(by show 1 ≤ sizeLine; decide), fun p np => ?_⟩
    have hp0 : H p = none := s1.free np
    have s2 := s1.trans (same_new (o := .lst [V.int 0]) np)
    -- rest
    refine ⟨_, rfl, _, rfl, _, _, rfl, rfl, ⟨by decide, by decide, by decide⟩, _, _, rfl, rfl, .inr ⟨_, rfl, _, _, rfl, rfl, .inr ?_, ?_⟩⟩
    · split <;> exact ⟨by decide, by decide⟩
    -- the loop
    refine ⟨_, rfl, by decide, by decide, for_range (n := 60) (fun i σ H2 => ∃ (ms : List Int) (r : Int) (o5 o6 : Option V), σ = [some (.ref a), some (.int (k : Int)), some (.int c), some (.ref p), some (.int r), o5, o6] ∧ H2 p = some (.lst (ms.map V.int)) ∧ ms.length = i + 1 ∧ Same H H2)
      ⟨[0], _, none, none, rfl, upd_same, rfl, s2⟩ ?_ ?_⟩
    · rintro i σ H2 hi ⟨ms, r, o5, o6, rfl, hp, hl, s3⟩
      have hb : (-(2 ^ 64) < (48271 : Int) + 1361 * (0 + (i : Int)) ∧ (48271 : Int) + 1361 * (0 + (i : Int)) < 2 ^ 64) := by
        constructor <;> omega
      refine ⟨_, rfl, _, rfl, _, _, rfl, rfl, _, rfl, _, _, rfl, rfl, _, rfl, _, _, rfl, rfl, .inl ⟨by decide, by decide⟩, _, _, rfl, rfl, _, _, rfl, rfl, .inr hb, _, rfl, _, _, rfl, rfl, .inr ⟨by decide, by decide⟩, _, _, rfl, rfl, .inl ⟨_, rfl, _, _, rfl, rfl, (by show (0 : Int) < 2147483647; decide), ?_⟩⟩
      refine ⟨_, rfl, _, rfl, _, _, rfl, rfl, ⟨by decide, by decide⟩, _, _, rfl, rfl, _, rfl, _, _, rfl, rfl, _, _, rfl, rfl, .inl (mod_small _), .inl ⟨_, rfl, _, _, rfl, rfl, (by show (0 : Int) < 2147483399; decide), ?_⟩⟩
      -- hand.append(..)
      refine ⟨.ref p, rfl, .inl ⟨rfl, _, SqL.of hp⟩, _, rfl, _, _, rfl, rfl, ⟨by decide, by decide⟩, _, rfl, (by show 2 ≤ sizeLine; decide), fun t nt => ?_⟩
      have s4 : ∀ o, Same H2 (upd H2 t o) := fun o => same_new nt
      refine ⟨_, rfl, _, _, rfl, rfl, .inr ⟨_, rfl, t, _, _, _, rfl, rfl, SqL.of upd_same, pick2 _ _, .inl ⟨_, rfl, _, _, rfl, rfl, (by show (0 : Int) < 1000; decide), ?_⟩⟩⟩
      refine ⟨p, _, _, rfl, rfl, s4 _ _ _ hp, ?_, ?_⟩
      · rw [List.length_map, hl]
        exact Nat.lt_of_lt_of_le (show i + 1 < 70 by omega) (by show 70 ≤ sizeLine; decide)
      refine ⟨_, rfl, _, _, rfl, rfl, ⟨by decide, by decide⟩, ?_⟩
      exact ⟨ms ++ [_], _, _, _, rfl, by rw [upd_same, List.map_append]; rfl, by rw [List.length_append, hl]; rfl, same_mut (s3.trans (s4 _)) hp0⟩
    · rintro σ H2 ⟨ms, r, o5, o6, rfl, hp, hl, s3⟩
      exact ⟨_, rfl, q _ _ s3 hp0 ⟨ms, hp, hl⟩⟩
abbrev nSpell : List Str := ["_law_hand", "_law_many", "_law_signs", "_law_size", "_law_base", "_law_place", "_law_shift", "_law_tails", "_law_words", "_law_k", "_law_sign", "_law_n"]
theorem scSpell : FnScope nSpell ["_law_hand", "_law_many", "_law_signs"] (defScope sSpell) := ⟨rfl, rfl, rfl, by decide +kernel, rfl, by decide +kernel, by decide +kernel⟩
theorem ok_spell {f fT : Addr} {fd fdT : FuncData} (F : Fun K "_law_spell" "_law_spell" sSpell f fd) (B : Blt mg) (FT : Fun K "_law_take" "_law_take" sTake fT fdT) (bT : Binds K fdT ["_law_hand", "_law_many"] []) (mT : mg "_law_take" = some (.ref fT)) :
    FnOk P w K mg base CX0 2 f fd ["_law_hand", "_law_many", "_law_signs"] spSpell := by
  have GT : FnOk P w K mg base CX0 1 fT fdT ["_law_hand", "_law_many"] spTake := ok_take FT B
  refine F.ok scSpell (fun vs H Q E h => ?_) (fun cdv A outer s H vs Q E hr h => ?_)
  · obtain ⟨a, m, sg, rfl, _⟩ := h
    rfl
  · obtain ⟨a, m, sg, rfl, hH, h5, hm, nd, q⟩ := h
    refine ⟨_, pss_cons (ps_set (i := 3) scSpell.nd rfl (.inl rfl) (pe_call GT hr rfl mT FT.kp bT .nil pass0 (pa_cons (pv 0) (pa_cons pe_int pa_nil))))
      (pss_cons (ps_set (i := 4) scSpell.nd rfl (.inl rfl) (pe_join pe_str (pe_lc (own := [("_law_n", 11)]) (g := gName 11) (tt := tYes) rfl scSpell.nd (pi_range1 rfl B.range (pa_cons (pv 3) pa_nil)) (blkOk_by (N := nSpell) (sc := defScope sSpell) (by decide +kernel))
        (fun _ _ _ _ _ => pg_name (i := 11) scSpell.nd rfl (Or.inl rfl)) (fun _ _ _ _ _ => pts_nil)
        (fun _ _ _ _ _ => pe_ix ix_str (pv 2) (pe_call GT hr rfl mT FT.kp bT .nil pass0 (pa_cons (pv 0) (pa_cons (pe_callB call_len_str (by rfl) B.len PySem.boot_len (pa_cons (pv 2) pa_nil)) pa_nil))) (fun _ _ => rfl)))))
      (pss_cons (ps_set (i := 5) scSpell.nd rfl (.inl rfl) (pe_call GT hr rfl mT FT.kp bT .nil pass0 (pa_cons (pv 0) (pa_cons (pe_op op_add (pv 3) pe_int) pa_nil))))
      (pss_cons (ps_set (i := 6) scSpell.nd rfl (.inl rfl) (pe_call GT hr rfl mT FT.kp bT .nil pass0 (pa_cons (pv 0) (pa_cons pe_int pa_nil))))
      (pss_cons (ps_set (i := 7) scSpell.nd rfl (.inl rfl) (pe_lst (pa_cons (pe_slice sl_str (pv 4) (po_some (pv 5)) po_none) (pa_cons (pe_op op_str01 (pe_slice sl_str (pv 4) (po_some (pv 5)) po_none) (pe_call GT hr rfl mT FT.kp bT .nil pass0 (pa_cons (pv 0) (pa_cons pe_int pa_nil)))) pa_nil))))
      (pss_cons (ps_set (i := 8) scSpell.nd rfl (.inl rfl) (pe_lst pa_nil))
      (pss_cons (ps_for PassesOwn.never rfl (pi_range1 rfl B.range (pa_cons (pv 1) pa_nil)) (pg_name (i := 9) scSpell.nd rfl (.inl rfl))
        (pss_cons (ps_set (i := 10) scSpell.nd rfl (.inl rfl) (pe_ix ix_str (pv 2) (pe_op op_mod (pe_callTy call_int1 (by rfl) B.int bInt (pa_cons (pe_op op_add (pv 6) (pe_op op_mul pe_int (pv 9))) pa_nil)) (pe_callB call_len_str (by rfl) B.len PySem.boot_len (pa_cons (pv 2) pa_nil))) (fun _ _ => rfl)))
        (pss_one (ps_expr (pe_bm PySem.F.plainAttrs_list PySem.F.slot_list_append PySem.F.type_list_append mt_append (pv 8) (pa_cons (pe_op op_add_str (pe_op op_add_str (pe_slice sl_str (pv 4) po_none (po_some (pv 5))) (pv 10)) (pe_ix ix_list (pv 7) (pe_op op_mod (pv 9) pe_int) (fun _ _ => rfl))) pa_nil))))))
      (pss_one (ps_ret (pv 8))))))))), ?_⟩
    have lsg : sg.length = (TL.tl sg).length := len_tl sg
    have lsz : sg.length ≤ sizeLine := by rw [lsg]; exact Nat.le_trans (by omega) (show 36 ≤ sizeLine by decide)
    -- size
    refine ⟨_, rfl, a, 8, rfl, hH, by decide, fun size H1 z0 z8 hH1 b1 => ?_⟩
    obtain ⟨sz, rfl⟩ := Int.eq_ofNat_of_zero_le z0
    have s1 : SBut a H H1 := b1.sbut
    -- base
    refine ⟨⟨_, rfl⟩, _, rfl, _, rfl, by omega, by omega, fun D nD => ?_⟩
    obtain ⟨nD0, nDa⟩ := s1.free hH1 nD
    have hsz : ((sz : Nat) : Int).toNat = sz := Int.toNat_natCast sz
    refine lc_range (lo := 0) (fun i H2 => ∃ cs : List Nat, H2 D = some (.lst (cs.map fun c => V.str ⟨#[c]⟩)) ∧ cs.length = i ∧ (∀ c ∈ cs, c ∈ TL.tl sg) ∧ HandAt H2 a ∧ SBut a H H2)
      ⟨[], upd_same, rfl, fun _ h => (by cases h), hH1.upd nDa, s1.mut nD0⟩ ?_ ?_
    · rintro i H2 hi ⟨cs, hD, hl, hc, hH2, s2⟩
      refine ⟨rfl, _, rfl, _, rfl, _, rfl, _, rfl, (by rw [lsg]; exact Nat.le_trans (by omega) (show 36 ≤ sizeLine by decide)), a, (sg.length : Int), rfl, hH2, by omega, fun v H3 v0 v1 hH3 b3 => ?_⟩
      obtain ⟨c, e, hcs⟩ := sign_at (sg := sg) v0 (by rw [← lsg]; exact v1)
      refine ⟨_, _, c, rfl, rfl, (by rw [lsg]; exact Nat.le_trans (by omega) (show 36 ≤ sizeLine by decide)), e, ?_⟩
      refine ⟨_, by rw [b3 D nDa]; exact hD, ?_, cs ++ [c], ?_, ?_, ?_, ?_, ?_⟩
      · rw [List.length_map, hl]
        exact Nat.lt_of_lt_of_le (show i < 9 by omega) (by show 9 ≤ sizeLine; decide)
      · rw [upd_same, List.map_append]
        rfl
      · rw [List.length_append, hl]
        rfl
      · intro x hx
        rcases List.mem_append.mp hx with h | h
        · exact hc x h
        · rw [List.mem_singleton.mp h]
          exact hcs
      · exact hH3.upd nDa
      · exact (s2.trans b3.sbut).mut nD0
    rintro H2 ⟨cs, hD, hl, hc, hH2, s2⟩
    rw [hsz] at hl
    have lcs : (cs.map fun c => (⟨#[c]⟩ : Str)).map (·.length) = cs.map fun _ => 1 := by rw [List.map_map]; rfl
    refine ⟨Str.empty, D, cs.map fun c => (⟨#[c]⟩ : Str), rfl, rfl, .inl (SqL.of (by rw [hD, List.map_map]; rfl)), ?_, ?_⟩
    · rw [lcs, List.length_map]
      rw [sum_ones]
      show cs.length + cs.length * 0 ≤ 16777216
      omega
    have tb : TL.tl (baseOf cs) = cs := tl_base cs
    unfold baseOf at tb
    generalize Txt.join Str.empty (cs.map fun c => (⟨#[c]⟩ : Str)) = bs at tb ⊢
    -- place, shift
    refine ⟨_, rfl, _, rfl, _, _, rfl, rfl, a, _, rfl, hH2, by omega, fun pl H3 p0 p1 hH3 b3 => ?_⟩
    obtain ⟨pl, rfl⟩ := Int.eq_ofNat_of_zero_le p0
    refine ⟨_, rfl, a, 99, rfl, hH3, by decide, fun sh H4 h0 h1 hH4 b4 => ?_⟩
    obtain ⟨sh, rfl⟩ := Int.eq_ofNat_of_zero_le h0
    have s4 : SBut a H H4 := (s2.trans b3.sbut).trans b4.sbut
    have hpl : pl ≤ (TL.tl bs).length := by rw [tb]; omega
    have lb : bs.length ≤ sizeLine := by
      rw [len_tl, tb]
      exact Nat.le_trans (show cs.length ≤ 8 by omega) (by decide)
    -- tails
    refine ⟨_, rfl, _, rfl, _, rfl, _, rfl, lb, _, rfl, _, rfl, _, rfl, _, rfl, lb, _, rfl, a, 2, rfl, hH4, by decide, fun z H5 z0 z1 hH5 b5 => ?_⟩
    refine ⟨_, z, rfl, rfl, z0, z1, (by show 2 ≤ sizeLine; decide), fun T nT => ?_⟩
    have s5 := s4.trans b5.sbut
    obtain ⟨nT0, nTa⟩ := s5.free hH5 nT
    generalize ht0 : cutS bs (some (pl : Int)) none = t0
    generalize ht1 : (if z = 0 then Str.empty else t0) = t1
    have et0 : TL.tl t0 = (TL.tl bs).drop pl := by rw [← ht0]; exact tl_cut_from _ _ hpl
    have et1 : TL.tl t1 = [] ∨ TL.tl t1 = (TL.tl bs).drop pl := by
      rw [← ht1]
      split
      · exact .inl rfl
      · exact .inr et0
    have s6 : SBut a H (upd H5 T (.lst [V.str t0, V.str t1])) := s5.mut nT0
    have h6 : HandAt (upd H5 T (.lst [V.str t0, V.str t1])) a := hH5.upd nTa
    -- words
    refine ⟨Nat.zero_le _, fun W nW => ?_⟩
    obtain ⟨nW0, nWa⟩ := s6.free h6 nW
    have nTW : T ≠ W := ne_of_none upd_same nW
    have lt0 : (TL.tl t0).length ≤ 8 := by rw [et0, List.length_drop, tb]; omega
    have lt1 : (TL.tl t1).length ≤ 8 := by
      rcases et1 with e | e
      · rw [e]
        decide
      · rw [e, List.length_drop, tb]
        omega
    refine ⟨_, rfl, _, rfl, by omega, by omega, for_range (lo := 0) (fun i σ H7 => ∃ (o9 o10 : Option V), σ = [some (.ref a), some (.int (m : Int)), some (.str sg), some (.int (sz : Int)), some (.str bs), some (.int (pl : Int)), some (.int (sh : Int)), some (.ref T), some (.ref W), o9, o10, none] ∧
      H7 W = some (.lst (((List.range i).map (wordAt bs sg pl sh t0 t1)).map V.str)) ∧ H7 T = some (.lst [V.str t0, V.str t1]) ∧ HandAt H7 a ∧ SBut a H H7) ⟨none, none, rfl, upd_same, (by rw [upd_ne nTW]; exact upd_same), h6.upd nWa, s6.mut nW0⟩ ?_ ?_⟩
    · rintro i σ H7 hi ⟨o9, o10, rfl, hW, hT, hH7, s7⟩
      refine ⟨_, rfl, _, rfl, _, rfl, _, _, rfl, rfl, .inl ⟨by decide, by decide⟩, _, _, rfl, rfl, .inl ⟨_, rfl, _, rfl, _, rfl, lsz, _, _, rfl, rfl, (by show (0 : Int) < ((sg.length : Nat) : Int); omega), _, _, _, rfl, rfl, lsz, sign_ix (by omega), ?_⟩⟩
      have lw0 : (cutS bs none (some (pl : Int))).length ≤ 8 := by
        rw [len_tl, tl_cut_to _ _ hpl, List.length_take, tb]
        omega
      have lw1 : (cutS bs none (some (pl : Int)) ++ (⟨#[(TL.tl sg).getD ((sh + 5 * i) % (TL.tl sg).length) 0]⟩ : Str)).length ≤ 9 := by
        rw [len_tl, TL.tl_append, List.length_append, ← len_tl]
        exact Nat.add_le_add_right lw0 1
      have lt2 : (if i % 2 = 0 then t0 else t1).length ≤ 8 := by
        rw [len_tl]
        split
        · exact lt0
        · exact lt1
      refine ⟨.ref W, rfl, .inl ⟨rfl, _, SqL.of hW⟩, _, rfl, _, rfl, _, rfl, _, rfl, lb, _, rfl, _, _, rfl, rfl, ?_, _, rfl, _, rfl, _, _, rfl, rfl, (by show (0 : Int) < 2; decide), T, _, _, _, rfl, rfl, SqL.of hT, tail_ix, _, _, rfl, rfl, ?_, W, _, _, rfl, rfl, hW, ?_, ?_⟩
      · exact Nat.le_trans (Nat.add_le_add lw0 (Nat.le_refl 1)) (by decide)
      · exact Nat.le_trans (Nat.add_le_add lw1 lt2) (by decide)
      · rw [List.length_map, List.length_map, List.length_range]
        exact Nat.lt_of_lt_of_le (show i < 6 by omega) (by show 6 ≤ sizeLine; decide)
      refine ⟨_, _, rfl, ?_, (by rw [upd_ne nTW]; exact hT), hH7.upd nWa, s7.mut nW0⟩
      rw [upd_same, List.range_succ, List.map_append, List.map_append]
      rfl
    · rintro σ H7 ⟨o9, o10, rfl, hW, hT, hH7, s7⟩
      have em : ((m : Nat) : Int).toNat = m := Int.toNat_natCast m
      rw [em] at hW
      refine ⟨_, rfl, q H7 W _ hH7 s7 nW0 nWa hW (by rw [List.length_map, List.length_range]) (words_nodup hpl hm nd h5) ?_⟩
      intro w hw
      obtain ⟨j, _, rfl⟩ := List.mem_map.mp hw
      exact word_wd hpl (by rw [tb]; omega) (by rw [tb]; exact hc) (by omega) et0 et1
end
end Sw
namespace Sw
open PySem PySem.Spec PyProof.Rows L2 NdefX
abbrev sOnce : Stmt := topS 13
abbrev nOnce : List Str := ["things", "thing"]
theorem scOnce : FnScope nOnce ["things"] (defScope sOnce) := ⟨rfl, rfl, rfl, by decide +kernel, rfl, by decide +kernel, by decide +kernel⟩
section
variable {P : Program} {w : World} {K : PySem.W.Frag} {mg : Str → Option Value} {base : Heap}
theorem ok_once {f : Addr} {fd : FuncData} (F : Fun K "once" "once" sOnce f fd) (bl : mg "list" = none) : FnOk P w K mg base CX0 1 f fd ["things"] (spOnce K) := by
  refine F.ok scOnce (fun vs H Q E h => ?_) (fun cdv A outer s H vs Q E hr h => ?_)
  · obtain ⟨a, ws, rfl, _⟩ := h
    rfl
  · obtain ⟨a, ws, rfl, hW, h64, q⟩ := h
    refine ⟨_, pss_one (ps_ret (pe_callTy (call_listD rfl) (by rfl) bl bList (pa_cons (PE.or
        (pe_dc (own := [("thing", 1)]) (g := gName 1) (tt := tYes) rfl scOnce.nd (PI.or (pi_list (pv 0)) (pi_tup (pv 0))) (blkOk_by (N := nOnce) (sc := defScope sOnce) (by decide +kernel)) (fun _ _ _ _ _ => pg_name (i := 1) scOnce.nd rfl (Or.inl rfl)) (fun _ _ _ _ _ => pts_nil) (fun _ _ _ _ _ => pv 1) (fun _ _ _ _ _ => pe_bl))
        (pe_lock (pe_dc (own := [("thing", 1)]) (g := gName 1) (tt := tYes) rfl scOnce.nd (pi_keys (pv 0)) (blkOk_by (N := nOnce) (sc := defScope sOnce) (by decide +kernel)) (fun _ _ _ _ _ => pg_name (i := 1) scOnce.nd rfl (Or.inl rfl)) (fun _ _ _ _ _ => pts_nil) (fun _ _ _ _ _ => pv 1) (fun _ _ _ _ _ => pe_bl)))) pa_nil))), ?_⟩
    have h1000 : ws.length ≤ 1000 := by omega
    have injS : ∀ x y : Str, (Sum.inr x : Key) = Sum.inr y → x = y := fun _ _ e => Sum.inr.inj e
    have fin : ∀ (D : Addr) (us : List Str), H D = none → Once us ws → ∀ L, upd H D (.dK (onceK Sum.inr us)) L = none →
        Q (.ref L) (upd (upd H D (.dK (onceK Sum.inr us))) L (.lst ((onceK (Sum.inr : Str → Key) us).map fun kv => kV kv.1))) := by
      intro D us nD o L nL
      have e : ((onceK (Sum.inr : Str → Key) us).map fun kv => kV kv.1) = us.map V.str := by
        unfold onceK
        rw [List.map_map]
        rfl
      rw [e]
      have s1 := (same_new (o := .dK (onceK Sum.inr us)) nD).trans (same_new (o := .lst (us.map V.str)) nL)
      exact q _ L us s1 ((same_new nD).free nL) upd_same o
    rcases hW with (hL | hT) | ⟨kvs, hd, hk⟩
    · refine .inl (.inl ⟨_, rfl, a, rfl, ⟨_, hL⟩, fun D nD => dc_once (f := (Sum.inr : Str → Key)) injS (wk_list (val := V.str)) (by show 1 < 2; decide) (fun o => (same_new nD).seq hL) h1000 fun us o => ?_⟩)
      exact ⟨D, _, rfl, .inl upd_same, fun L nL => fin D us nD o L nL⟩
    · refine .inl (.inr ⟨_, rfl, a, rfl, ⟨_, hT⟩, fun D nD => dc_once (f := (Sum.inr : Str → Key)) injS (wk_tup (val := V.str)) (by show 1 < 2; decide) (fun o => same_seqT (same_new nD) hT) h1000 fun us o => ?_⟩)
      exact ⟨D, _, rfl, .inl upd_same, fun L nL => fin D us nD o L nL⟩
    · refine .inr ⟨a, _, hd, True.intro, fun od => ⟨_, rfl, a, od, rfl, .inl ⟨kvs, upd_same, fun D nD => dc_once (f := (Sum.inr : Str → Key)) injS (wk_keys hk) (by show 1 < 2; decide) (fun o => by rw [upd_ne (ne_of_none upd_same nD)]; exact upd_same) h1000 fun us o => ?_⟩⟩⟩
      refine ⟨by rw [upd_ne (ne_of_none upd_same nD)]; exact upd_same, ?_⟩
      have nD0 : H D = none := free_lock hd nD
      rw [unlock_new hd nD]
      exact ⟨D, _, rfl, .inl upd_same, fun L nL => fin D us nD0 o L nL⟩
end
end Sw
namespace Sw
open PySem PySem.Spec PyProof.Rows L2 NdefX
abbrev sAsc : Stmt := topS 14
abbrev nAsc : List Str := ["words", "word"]
theorem scAsc : FnScope nAsc ["words"] (defScope sAsc) := ⟨rfl, rfl, rfl, by decide +kernel, rfl, by decide +kernel, by decide +kernel⟩
section
variable {P : Program} {w : World} {K : PySem.W.Frag} {mg : Str → Option Value} {base : Heap}
theorem ok_asc {f fO : Addr} {fd fdO : FuncData} (F : Fun K "ascending" "ascending" sAsc f fd) (B : Blt2 mg) (GO : FnOk P w K mg base CX0 1 fO fdO ["things"] (spOnce K)) (mO : mg "once" = some (.ref fO)) (kO : PySem.W.keepIn K (.ref fO) = true) (bO : Binds K fdO ["things"] []) :
    FnOk P w K mg base CX0 2 f fd ["words"] (spAsc K) := by
  refine F.ok scAsc (fun vs H Q E h => ?_) (fun cdv A outer s H vs Q E hr h => ?_)
  · obtain ⟨a, ws, rfl, _⟩ := h
    rfl
  · obtain ⟨a, ws, rfl, hW, h64, q⟩ := h
    refine ⟨_, pss_one (ps_ret (pe_callTy call_tuple_of (by rfl) B.tuple bTuple (pa_cons (pe_callB cr_sortedS (by rfl) B.sorted bSorted (pa_cons
        (pe_lc (own := [("word", 1)]) (g := gName 1) (tt := tYes) rfl scAsc.nd (pi_list (pe_call GO hr rfl mO kO bO .nil pass0 (pa_cons (pv 0) pa_nil))) (blkOk_by (N := nAsc) (sc := defScope sAsc) (by decide +kernel)) (fun _ _ _ _ _ => pg_name (i := 1) scAsc.nd rfl (Or.inl rfl)) (fun _ _ _ _ _ => pts_nil)
          (fun _ _ _ _ _ => pe_callTy SkE.call_str_str (by rfl) B.str bStr (pa_cons (pv 1) pa_nil))) pa_nil)) pa_nil))), ?_⟩
    refine ⟨_, rfl, a, ws, rfl, hW, h64, fun H1 L0 us s1 nL0 hL0 o => ?_⟩
    have hus : us.length ≤ 63 := Nat.le_trans o.len (by omega)
    refine ⟨L0, rfl, ⟨_, SqL.of hL0⟩, fun L nL => ?_⟩
    refine lc_pure (val := V.str) (out := V.str) (l := us) wk_list (fun o => (same_new nL).seq (SqL.of hL0)) (by omega) (fun i u acc Q _ q => ⟨_, wipe_var (by show 1 < 2; decide) _, u, rfl, q⟩) ?_
    refine ⟨L, us, rfl, SqL.of upd_same, by omega, fun ys p pm so np => ?_⟩
    refine ⟨p, _, rfl, .inl ⟨SqL.of upd_same, fun T nT => ?_⟩⟩
    have nd : ys.Nodup := pm.nodup_iff.mpr o.nd
    have s2 := (s1.trans (same_new (o := .lst (us.map V.str)) nL)).trans (same_new (o := .lst (ys.map V.str)) np)
    exact q _ T ys (s2.trans (same_new nT)) (s2.free nT) upd_same (asc_of_sorted so nd) fun x => by rw [pm.mem_iff, o.mem]
end
end Sw
namespace Sw
open PySem PySem.Spec PyProof.Rows L2 NdefX
abbrev sWA : Stmt := topS 15
abbrev nWA : List Str := ["values", "at"]
theorem scWA : FnScope nWA ["values"] (defScope sWA) := ⟨rfl, rfl, rfl, by decide +kernel, rfl, by decide +kernel, by decide +kernel⟩
section
variable {P : Program} {w : World} {K : PySem.W.Frag} {mg : Str → Option Value} {base : Heap}
theorem ok_wa {f fA : Addr} {fd fdA : FuncData} (F : Fun K "with_ascending" "with_ascending" sWA f fd) (GA : FnOk P w K mg base CX0 2 fA fdA ["words"] (spAsc K)) (kA : PySem.W.keepIn K (.ref fA) = true) (bA : Binds K fdA ["words"] []) (mA : mg "ascending" = some (.ref fA)) :
    FnOk P w K mg base CX0 3 f fd ["values"] (spWA K) := by
  refine F.ok scWA (fun vs H Q E h => ?_) (fun cdv A outer s H vs Q E hr h => ?_)
  · obtain ⟨v, es, rfl, _⟩ := h
    rfl
  · obtain ⟨v, es, rfl, hv, q⟩ := h
    have hu := hu_of hr
    refine ⟨_, pss_cons (ps_if (pt_cmpR op_isN (pv 0) pe_non (nomark _)) (pss_one (ps_ret pe_dnewK)) pss_nil)
      (pss_one (ps_ret (pe_lock (pe_dc (own := [("at", 1)]) (g := gName 1) (tt := tYes) rfl scWA.nd (pi_keys (pv 0)) (blkOk_by (N := nWA) (sc := defScope sWA) (by decide +kernel)) (fun _ _ _ _ _ => pg_name (i := 1) scWA.nd rfl (Or.inl rfl)) (fun _ _ _ _ _ => pts_nil) (fun _ _ _ _ _ => pv 1)
        (fun _ _ _ _ _ => pe_call GA hr rfl mA kA bA .nil pass0 (pa_cons (pe_dget hu (pv 0) (pv 1) (fun _ _ => rfl)) pa_nil)))))), ?_⟩
    rcases hv with ⟨rfl, rfl⟩ | ⟨a, rfl, hd⟩
    · refine ⟨_, rfl, rfl, _, rfl, ?_⟩
      refine iteT (fun d nd => ?_)
      exact q _ d [] (same_new nd) nd ⟨upd_same, fun r hr => (nomatch hr)⟩ .nil
    · refine ⟨_, rfl, rfl, _, rfl, ?_⟩
      refine iteF ?_
      have ek : (es.map fun e : Ent => (e.1, V.ref e.2.1)).map (·.1) = es.map (·.1) := by rw [List.map_map]; rfl
      refine ⟨a, _, hd.at_, True.intro, fun od => ⟨_, rfl, a, od, rfl, .inl ⟨_, upd_same, fun D nD => ?_⟩⟩⟩
      have nD0 := free_lock hd.at_ nD
      have neD : a ≠ D := ne_of_none upd_same nD
      refine dc_it (wk_keys (l := es) (f := fun e => e.1) ek) (fun i Hc => ∃ rs : List Ent, Same (upd H a (.frz od (.dK (es.map fun e : Ent => (e.1, V.ref e.2.1))))) Hc ∧ Hc D = some (.dK (rs.map fun e : Ent => (e.1, V.ref e.2.1))) ∧ Alike (es.take i) rs ∧ ∀ r ∈ rs, Hc r.2.1 = some (.tup (r.2.2.map V.str)) ∧ AscS r.2.2)
        ⟨[], same_new nD, upd_same, .nil, fun r hr => (nomatch hr)⟩ (fun i Hc _ ⟨rs, sm, _⟩ => sm _ _ upd_same) ?_ ?_
      · rintro i x Hc Hc' hi ⟨rs, sm, hD, al, hr⟩ ⟨rfl, e, he, rfl⟩
        have hem : e ∈ es := List.mem_of_getElem? he
        refine ⟨rfl, _, rfl, ?_⟩
        have hv : valV (es.map fun e : Ent => (e.1, V.ref e.2.1)) e.1 = some (V.ref e.2.1) := valV_of_nd (by rw [ek]; exact hd.nd) (List.mem_map.mpr ⟨e, hem, rfl⟩)
        refine ⟨_, rfl, _, rfl, a, V.ref e.2.1, rfl, .inl ⟨_, _, .inr ⟨od, sm _ _ upd_same⟩, rfl, hv.symm⟩, ?_⟩
        refine ⟨e.2.1, e.2.2, rfl, .inl ?_, (hd.all e hem).2, fun H5 p us s5 np hp5 ha5 hm5 => ?_⟩
        · rcases (hd.all e hem).1 with z | z
          · exact .inl (sm.seq (sqL_lock hd.at_ z))
          · exact .inr (same_seqT sm (sqT_lock hd.at_ z))
        have hD5 := s5 _ _ hD
        have hlen : rs.length = (es.take i).length := by
          have z := congrArg List.length al.keys
          rw [List.length_map, List.length_map] at z
          exact z
        have hnk : valV (rs.map fun e : Ent => (e.1, V.ref e.2.1)) e.1 = none := by
          cases z : valV (rs.map fun e : Ent => (e.1, V.ref e.2.1)) e.1 with
          | none => rfl
          | some v =>
            have m := valV_in z
            have e2 : (rs.map fun e : Ent => (e.1, V.ref e.2.1)).map (·.1) = (es.take i).map (·.1) := by
              rw [List.map_map, ← al.keys]
              rfl
            rw [e2] at m
            have nd2 : ((es.take (i + 1)).map (·.1)).Nodup := hd.nd.sublist ((List.take_sublist _ _).map _)
            rw [take_snoc he, List.map_append] at nd2
            exact absurd rfl ((List.nodup_append.mp nd2).2.2 e.1 m e.1 List.mem_cons_self)
        have neP : ∀ (q : Addr) (xs : List V), H5 q = some (.tup xs) → q ≠ D := fun q xs z => ne_of z hD5 (fun y => nomatch y)
        refine ⟨_, e.1, rfl, hD5, ?_, rs ++ [(e.1, p, us)], ?_, ?_, ?_, ?_⟩
        · rw [List.length_map, hlen, List.length_take]
          exact Nat.lt_of_le_of_lt (Nat.min_le_right _ _) (small1000 (Nat.le_trans hd.len (by decide)))
        · exact same_mut (sm.trans s5) nD
        · rw [upd_same, putK_new _ hnk, List.map_append]
          rfl
        · rw [take_snoc he]
          exact al.snoc rfl hm5
        · intro r hrm
          rcases List.mem_append.mp hrm with z | z
          · rw [upd_ne (neP _ _ (s5 _ _ (hr r z).1))]
            exact ⟨s5 _ _ (hr r z).1, (hr r z).2⟩
          · rw [List.mem_singleton.mp z, upd_ne (neP _ _ hp5)]
            exact ⟨hp5, ha5⟩
      · rintro Hc ⟨rs, sm, hD, al, hr⟩
        rw [List.take_length] at al
        have hfz := sm _ _ upd_same
        refine ⟨hfz, q _ D rs (unlock_same hd.at_ sm) nD0 ⟨?_, fun r hrm => ?_⟩ al⟩
        · rw [upd_ne neD.symm]
          exact hD
        · rw [upd_ne (ne_of (hr r hrm).1 hfz (fun y => nomatch y))]
          exact hr r hrm
end
end Sw
namespace Sw
open PySem PySem.Spec PyProof.Rows L2 NdefX
abbrev sTab : Stmt := inClass (topS 37) 0
abbrev pTab : List Str := ["self", "name", "width", "key", "lists", "refers"]
abbrev nTab : List Str := ["self", "name", "width", "key", "lists", "refers", "columns", "column"]
theorem scTab : FnScope nTab pTab (defScope sTab) := ⟨rfl, rfl, rfl, by decide +kernel, rfl, by decide +kernel, by decide +kernel⟩
section
variable {P : Program} {w : World} {K : PySem.W.Frag} {mg : Str → Option Value} {base : Heap}
abbrev FunTab (K : PySem.W.Frag) (T0 T1 f : Addr) (fd : FuncData) : Prop := FunD K "__init__" "Table.__init__" (defArgs sTab) (defBody sTab) (defScope sTab) [] [("key", .ref T0), ("lists", .non), ("refers", .ref T1)] f fd
theorem ok_tabN {f CT T0 T1 fW : Addr} {fd fdW : FuncData} (F : FunTab K T0 T1 f fd) (B : Blt2 mg) (C : TabC K CT) (GW : FnOk P w K mg base CX0 3 fW fdW ["values"] (spWA K)) (kW : PySem.W.keepIn K (.ref fW) = true) (bW : Binds K fdW ["values"] []) (mW : mg "with_ascending" = some (.ref fW)) :
    FnOk P w K mg base CX0 4 f fd pTab (spTabN K CT) := by
  refine F.ok scTab (fun vs H Q E h => ?_) (fun cdv A outer s H vs Q E hr h => ?_)
  · obtain ⟨x, dx, kA, rA, nm, wd, ks, lv, es, rs, rfl, _⟩ := h
    rfl
  · obtain ⟨x, dx, kA, rA, nm, wd, ks, lv, es, rs, rfl, hx, hk, hkl, hl, hrA, q⟩ := h
    refine ⟨_, PSs.nox (pss_cons (ps_setDc (i := 6) (own := [("column", 7)]) (g := gName 7) (tt := tYes) rfl scTab.nd rfl rfl (sw_dict rfl rfl rfl (by decide +kernel)) (pi_tup (pv 3)) (blkOk_by (N := nTab) (sc := defScope sTab) (by decide +kernel)) (fun _ _ _ _ _ => pg_name (i := 7) scTab.nd rfl (Or.inl rfl)) (fun _ _ _ _ _ => pts_nil) (fun _ _ _ _ _ => pv 7) (fun _ _ _ _ _ => pe_bl))
      (pss_cons (ps_fld (pv 0) (pv 1) rfl) (pss_cons (ps_fld (pv 0) (pv 2) rfl)
      (pss_cons (ps_fld (pv 0) (pe_callTy call_tuple_of (by rfl) B.tuple bTuple (pa_cons (pe_callB cr_sortedI (by rfl) B.sorted bSorted (pa_cons
        (pe_lock (pe_lc (own := [("column", 7)]) (g := gName 7) (tt := tYes) rfl scTab.nd (pi_keys (pv 6)) (blkOk_by (N := nTab) (sc := defScope sTab) (by decide +kernel)) (fun _ _ _ _ _ => pg_name (i := 7) scTab.nd rfl (Or.inl rfl)) (fun _ _ _ _ _ => pts_nil)
          (fun _ _ _ _ _ => pe_callTy call_int1 (by rfl) B.int bInt (pa_cons (pv 7) pa_nil)))) pa_nil)) pa_nil)) rfl)
      (pss_cons (ps_fld (pv 0) (pe_call GW hr rfl mW kW bW .nil pass0 (pa_cons (pv 4) pa_nil)) rfl)
      (pss_one (ps_fld (pv 0) (pe_callTy call_tupleT (by rfl) B.tuple bTuple (pa_cons (pv 5) pa_nil)) rfl))))))), ?_⟩
    have injI : ∀ a b : Int, (Sum.inl a : Key) = Sum.inl b → a = b := fun _ _ e => Sum.inl.inj e
    refine ⟨_, rfl, kA, rfl, ⟨_, hk⟩, fun D nD => dc_once (f := (Sum.inl : Int → Key)) injI (wk_tup (val := V.int)) (by show 7 < 8; decide) (fun o => same_seqT (same_new nD) hk) (by omega) fun us o => ?_⟩
    have neD : x ≠ D := ne_of_none hx nD
    have hus : us.length ≤ 1000 := Nat.le_trans o.len (by omega)
    have s1 : SBut x H (upd H D (.dK (onceK Sum.inl us))) := Same.sbut (same_new nD)
    -- name, width
    refine ⟨_, rfl, _, rfl, x, CT, dx, _, rfl, (by rw [upd_ne neD]; exact hx), C.cl, C.n1, (by show 0 < 1000; decide), ?_⟩
    refine ⟨_, rfl, _, rfl, x, CT, dx, _, rfl, upd_same, C.cl, C.n2, (by show 1 < 1000; decide), ?_⟩
    rw [upd_upd]
    have s3 := s1.step (o := .ins CT dx (putF "width" (.int wd) (putF "name" (.str nm) [])))
    generalize hH3 : upd (upd H D (.dK (onceK Sum.inl us))) x (.ins CT dx (putF "width" (.int wd) (putF "name" (.str nm) []))) = H3 at s3 ⊢
    have hx3 : H3 x = some (.ins CT dx (putF "width" (.int wd) (putF "name" (.str nm) []))) := by rw [← hH3]; exact upd_same
    have hD3 : H3 D = some (.dK (onceK Sum.inl us)) := by rw [← hH3, upd_ne neD.symm]; exact upd_same
    -- key
    have ek : (onceK (Sum.inl : Int → Key) us).map (·.1) = us.map Sum.inl := by
      unfold onceK
      rw [List.map_map]
      rfl
    refine ⟨D, _, hD3, True.intro, fun od => ⟨_, rfl, D, od, rfl, .inl ⟨_, upd_same, fun L nL => ?_⟩⟩⟩
    refine lc_pure (val := V.int) (out := V.int) (l := us) (wk_keys ek) (fun o => by rw [upd_ne (ne_of_none upd_same nL)]; exact upd_same) hus (fun i u acc Q _ q => ⟨_, wipe_var (by show 7 < 8; decide) _, .inl ⟨u, rfl, q⟩⟩) ?_
    refine ⟨by rw [upd_ne (ne_of_none upd_same nL)]; exact upd_same, ?_⟩
    have nL2 := free_lock hD3 nL
    rw [unlock_new hD3 nL]
    refine ⟨L, us, rfl, SqL.of upd_same, fun ys p pm so np => ⟨p, _, rfl, .inl ⟨SqL.of upd_same, fun T nT => ?_⟩⟩⟩
    have s6 := ((same_new (o := .lst (us.map V.int)) nL2).trans (same_new (o := .lst (ys.map V.int)) np)).trans (same_new (o := .tup (ys.map V.int)) nT)
    generalize hH6 : upd (upd (upd H3 L (.lst (us.map V.int))) p (.lst (ys.map V.int))) T (.tup (ys.map V.int)) = H6 at s6 ⊢
    have hT6 : H6 T = some (.tup (ys.map V.int)) := by rw [← hH6]; exact upd_same
    have neT : x ≠ T := ne_of (s6 _ _ hx3) hT6 (fun z => nomatch z)
    refine ⟨_, rfl, x, CT, dx, _, rfl, s6 _ _ hx3, C.cl, C.n3, (by show 2 < 1000; decide), ?_⟩
    have s7 := (s3.same s6).step (o := .ins CT dx (putF "key" (.ref T) (putF "width" (.int wd) (putF "name" (.str nm) []))))
    generalize hH7 : upd H6 x (.ins CT dx (putF "key" (.ref T) (putF "width" (.int wd) (putF "name" (.str nm) [])))) = H7 at s7 ⊢
    have hx7 : H7 x = some (.ins CT dx (putF "key" (.ref T) (putF "width" (.int wd) (putF "name" (.str nm) [])))) := by rw [← hH7]; exact upd_same
    have hT7 : H7 T = some (.tup (ys.map V.int)) := by rw [← hH7, upd_ne neT.symm]; exact hT6
    -- lists
    refine ⟨_, rfl, lv, es, rfl, ?_, fun H8 lA ts s8 nl hts hal => ?_⟩
    · rcases hl with z | ⟨a, z, hd⟩
      · exact .inl z
      · exact .inr ⟨a, z, hd.but s7 hx⟩
    have nex : x ≠ lA := ne_of_none hx7 nl
    refine ⟨_, rfl, x, CT, dx, _, rfl, s8 _ _ hx7, C.cl, C.n4, (by show 3 < 1000; decide), ?_⟩
    have s9 := (s7.same s8).step (o := .ins CT dx (putF "lists" (.ref lA) (putF "key" (.ref T) (putF "width" (.int wd) (putF "name" (.str nm) [])))))
    -- refers
    refine ⟨_, rfl, rA, rs, rfl, sqT_ins hrA s9 hx, _, rfl, x, CT, dx, _, rfl, upd_same, C.cl, C.n5, (by show 4 < 1000; decide), ?_⟩
    have nd : ys.Nodup := pm.nodup_iff.mpr o.nd
    have s10 := s9.step (o := .ins CT dx (putF "refers" (.ref rA) (putF "lists" (.ref lA) (putF "key" (.ref T) (putF "width" (.int wd) (putF "name" (.str nm) []))))))
    refine q _ ys ts s10 ⟨⟨dx, T, lA, rA, upd_same, ?_, ?_, sqT_ins hrA s10 hx⟩, ascI_of so nd⟩ (fun z => by rw [pm.mem_iff, o.mem]) hal (fun dy kB lB rB e => ?_)
    · rw [upd_ne neT.symm, upd_ne neT.symm]
      exact s8 _ _ hT7
    · refine ⟨?_, fun r hr => ?_⟩
      · rw [upd_ne nex.symm, upd_ne nex.symm]
        exact hts.at_
      · have ne : r.2.1 ≠ x := ne_of (hts.all r hr).1 (s8 _ _ hx7) (fun z => nomatch z)
        rw [upd_ne ne, upd_ne ne]
        exact hts.all r hr
    · have e2 := (HO.ins.inj (Option.some.inj (e.symm.trans upd_same))).2.2
      have e3 : lB = lA := by
        have := congrArg (fun fs : List (Str × V) => fs.lookup ("lists" : Str)) e2
        exact V.ref.inj (Option.some.inj this)
      rw [e3]
      cases z : H lA with
      | none => rfl
      | some o => exact absurd (s7 lA o nex.symm z) (by rw [nl]; intro y; cases y)
theorem ok_tab {f CT T0 T1 fW : Addr} {fd fdW : FuncData} (F : FunTab K T0 T1 f fd) (B : Blt2 mg) (C : TabC K CT) (GW : FnOk P w K mg base CX0 3 fW fdW ["values"] (spWA K)) (kW : PySem.W.keepIn K (.ref fW) = true) (bW : Binds K fdW ["values"] []) (mW : mg "with_ascending" = some (.ref fW)) :
    FnOk P w K mg base CX0 4 f fd pTab (spTab K CT) := (ok_tabN F B C GW kW bW mW).imp fun _ _ _ _ => spTabN_of
end
end Sw
namespace Sw
open PySem PySem.Spec PyProof.Rows L2 NdefX
abbrev sReach : Stmt := inClass (topS 38) 2
abbrev nReach : List Str := ["self", "name", "found", "waiting", "here", "reference"]
theorem scReach : FnScope nReach ["self", "name"] (defScope sReach) := ⟨rfl, rfl, rfl, by decide +kernel, rfl, by decide +kernel, by decide +kernel⟩
section
variable {P : Program} {w : World} {K : PySem.W.Frag} {mg : Str → Option Value} {base : Heap}
theorem ok_reach {f CT CS : Addr} {fd : FuncData} (F : Fun K "reached" "Schema.reached" sReach f fd) (c : Cls K CS) (n : NoAttr K CS "named") (cT : Cls K CT) (nT : NoAttr K CT "refers") :
    FnOk P w K mg base CX0 1 f fd ["self", "name"] (spReach K CT CS) := by
  refine F.ok scReach (fun vs H Q E h => ?_) (fun cdv A outer s H vs Q E hr h => ?_)
  · obtain ⟨S, nm, l, rfl, _⟩ := h
    rfl
  · obtain ⟨S, nm, l, rfl, hS, kn, hnm, q⟩ := h
    have hu := hu_of hr
    refine ⟨_, pss_cons (ps_set (i := 2) scReach.nd rfl (Or.inl rfl) (pe_lst pa_nil)) (pss_cons (ps_set (i := 3) scReach.nd rfl (Or.inl rfl) (pe_lst (pa_cons (pv 1) pa_nil)))
      (pss_cons (ps_while PassesOwn.never (pt_truth (pv 3) (by intro _; rfl))
        (pss_cons (ps_set (i := 4) scReach.nd rfl (Or.inl rfl) (pe_bm0 PySem.F.plainAttrs_list PySem.F.slot_list_pop PySem.F.type_list_pop mt_pop (pv 3)))
        (pss_one (ps_for PassesOwn.never rfl (pi_tup (pe_fld (pe_dget hu (pe_fld (pv 0) rfl) (pv 4) (fun _ _ => rfl)) rfl)) (pg_name (i := 5) scReach.nd rfl (Or.inl rfl))
          (pss_one (ps_if (pt_cmpR op_notIn_seq (pe_ix ix_tup (pv 5) pe_int (fun _ _ => rfl)) (pv 2) (by rfl))
            (pss_cons (ps_expr (pe_bm PySem.F.plainAttrs_list PySem.F.slot_list_append PySem.F.type_list_append mt_append (pv 2) (pa_cons (pe_ix ix_tup (pv 5) pe_int (fun _ _ => rfl)) pa_nil)))
            (pss_one (ps_expr (pe_bm PySem.F.plainAttrs_list PySem.F.slot_list_append PySem.F.type_list_append mt_append (pv 3) (pa_cons (pe_ix ix_tup (pv 5) pe_int (fun _ _ => rfl)) pa_nil))))) pss_nil))))))
      (pss_one (ps_ret (pv 2))))), ?_⟩
    have hneg : Known l := kn
    refine ⟨by decide, fun Fa nF => ⟨_, rfl, (by show 1 ≤ sizeLine; decide), fun Wa nW => ?_⟩⟩
    have neFW : Fa ≠ Wa := ne_of_none upd_same nW
    have nW0 : H Wa = none := by rw [upd_ne neFW.symm] at nW; exact nW
    obtain ⟨dS, dN, hS1, hS2⟩ := hS.ex
    refine name_way ?_
    dsimp only
    refine seq_way ?_
    refine while_by (fun σ H' => ∃ (x4 x5 : Option V) (fs ws : List Str), σ = [some (.ref S), some (.str nm), some (.ref Fa), some (.ref Wa), x4, x5] ∧ Same H H' ∧ H' Fa = some (.lst (fs.map V.str)) ∧ H' Wa = some (.lst (ws.map V.str)) ∧ fs.Nodup ∧
        (∀ z ∈ fs, Rch l nm z) ∧ (∀ y ∈ ws, y = nm ∨ y ∈ fs) ∧ (∀ y, y = nm ∨ y ∈ fs → y ∈ ws ∨ ∀ z ∈ leads l y, z ∈ fs) ∧ ws.length ≤ fs.length + 1)
      (fun _ H' => 2 * (l.length - lenAt H' Fa) + lenAt H' Wa) ?_ ?_ ?_
    · refine ⟨_, _, [], [nm], rfl, (same_new nF).trans (same_new nW), ?_, ?_, List.nodup_nil, fun z hz => (nomatch hz), fun y hy => ?_, fun y hy => ?_, by show 1 ≤ 0 + 1; decide⟩
      · rw [upd_ne neFW]
        exact upd_same
      · exact upd_same
      · exact .inl (List.mem_singleton.mp hy)
      · rcases hy with hy | hy
        · exact .inl (List.mem_singleton.mpr hy)
        · exact (nomatch hy)
    · rintro σ H' ⟨x4, x5, fs, ws, rfl, sm, hF, hW, nd, hr1, hw1, hc1, hwl⟩
      refine ⟨_, rfl, !(ws.map V.str).isEmpty, .inl ⟨_, SqL.of hW, rfl⟩, ?_⟩
      rcases nil_or_snoc ws with rfl | ⟨wi, y, rfl⟩
      · refine iteF ?_
        refine ⟨_, rfl, ?_⟩
        refine q H' Fa fs sm nF hF fun z => ⟨hr1 z, fun r => ?_⟩
        have go : ∀ {b : Str}, Rch l nm b → b ∈ fs := by
          intro b r
          induction r with
          | one h => exact (hc1 nm (.inl rfl)).elim (fun x => (nomatch x)) fun x => x _ h
          | snoc _ h ih => exact (hc1 _ (.inr ih)).elim (fun x => (nomatch x)) fun x => x _ h
        exact go r
      · have ek : (!((wi ++ [y]).map V.str).isEmpty) = true := by simp
        rw [ek]
        refine iteT ?_
        have hyn : y ∈ l.map Tb.nm := by
          rcases hw1 y (by simp) with e | e
          · rw [e]
            exact hnm
          · exact (hr1 y e).known kn
        obtain ⟨t, ht, ety⟩ := List.mem_map.mp hyn
        subst ety
        refine ⟨_, rfl, .inl ⟨rfl, _, SqL.of hW⟩, Wa, _, .str t.nm, rfl, rfl, hW, by simp, ?_⟩
        rw [show ((wi ++ [t.nm]).map V.str).dropLast = wi.map V.str by simp]
        have sm1 := same_mut (o := .lst (wi.map V.str)) sm nW0
        generalize hH1 : upd H' Wa (.lst (wi.map V.str)) = H1 at sm1 ⊢
        have hW1 : H1 Wa = some (.lst (wi.map V.str)) := by rw [← hH1]; exact upd_same
        have hF1 : H1 Fa = some (.lst (fs.map V.str)) := by rw [← hH1, upd_ne neFW]; exact hF
        obtain ⟨dx, wd, kA, lA, rA, rs, hx, hld⟩ := (hS.tbs t ht).ex
        have ev : valV (kvT l) (Sum.inr t.nm : Key) = some (.ref t.x) := valV_tb hS.nd ht
        refine ⟨_, rfl, S, CS, dS, _, _, rfl, sm1 _ _ hS1, c, n, rfl, _, rfl, dN, _, rfl, (by rw [← ev]; exact DGet.k (k := Sum.inr t.nm) (sm1 _ _ hS2)), t.x, CT, dx, _, _, rfl, sm1 _ _ hx, cT, nT, rfl, rA, rfl, ⟨_, same_seqT sm1 hld.at_⟩, ?_⟩
        have bnd : ∀ {gs : List Str}, gs.Nodup → (∀ z ∈ gs, Rch l nm z) → gs.length ≤ l.length := fun {gs} h1 h2 => by
          have := nodup_le h1 fun z hz => (h2 z hz).known kn
          rw [List.length_map] at this
          exact this
        refine for_it (walk_tup (K := K) (a := rA) (xs := rs)) (fun i σ H2 => ∃ (x5 : Option V) (gs vs : List Str), σ = [some (.ref S), some (.str nm), some (.ref Fa), some (.ref Wa), some (.str t.nm), x5] ∧ Same H H2 ∧ H2 Fa = some (.lst (gs.map V.str)) ∧ H2 Wa = some (.lst (vs.map V.str)) ∧ gs.Nodup ∧
            (∀ z ∈ gs, Rch l nm z) ∧ (∀ y ∈ vs, y = nm ∨ y ∈ gs) ∧ (∀ z ∈ fs, z ∈ gs) ∧ (∀ z ∈ gs, z ∈ fs ∨ z ∈ vs) ∧ (∀ z ∈ wi, z ∈ vs) ∧ (∀ z ∈ t.zs.take i, z ∈ gs) ∧ 2 * (l.length - gs.length) + vs.length ≤ 2 * (l.length - fs.length) + wi.length ∧ vs.length ≤ gs.length)
          ⟨x5, fs, wi, rfl, sm1, hF1, hW1, nd, hr1, fun y hy => hw1 y (by simp [hy]), fun z hz => hz, fun z hz => .inl hz, fun z hz => hz, fun z hz => (nomatch hz), Nat.le_refl _, by rw [List.length_append] at hwl; exact Nat.le_of_succ_le_succ hwl⟩ (fun i σ H2 _ ⟨_, _, _, _, sm2, _⟩ => same_seqT sm2 hld.at_) ?_ ?_
        · rintro i v σ Hx H2 hi ⟨x5, gs, vs, rfl, sm2, hF2, hW2, nd2, hr2, hw2, sub2, new2, old2, tk2, mu2, len2⟩ ⟨rfl, hv⟩
          obtain ⟨z, hz, b, xs, rfl, hb, hb1⟩ := hld.all i v hv
          have hb2 := same_seqT sm2 hb
          have hzl : z ∈ leads l t.nm := by
            rw [leads_of hS.nd ht]
            exact List.mem_of_getElem? hz
          have hrz : Rch l nm z := by
            rcases hw1 t.nm (by simp) with e | e
            · rw [e] at hzl
              exact .one hzl
            · exact (hr1 _ e).snoc hzl
          refine ⟨_, rfl, b, xs, _, _, rfl, rfl, hb2, atI_nat (j := 1) hb1, _, rfl, Fa, _, rfl, .inl (SqL.of hF2), rfl, flat_str gs, _, rfl, ?_⟩
          rw [inV_str z gs]
          by_cases hzg : z ∈ gs
          · have e : (if true = true then !decide (z ∈ gs) else decide (z ∈ gs)) = false := by simp [hzg]
            rw [e]
            refine iteF ?_
            refine ⟨_, gs, vs, rfl, sm2, hF2, hW2, nd2, hr2, hw2, sub2, new2, old2, fun u hu => ?_, mu2, len2⟩
            rw [take_snoc hz] at hu
            rcases List.mem_append.mp hu with hu | hu
            · exact tk2 u hu
            · rw [List.mem_singleton.mp hu]
              exact hzg
          · have e : (if true = true then !decide (z ∈ gs) else decide (z ∈ gs)) = true := by simp [hzg]
            rw [e]
            refine iteT ?_
            have nd3 : (gs ++ [z]).Nodup := by
              rw [List.nodup_append]
              exact ⟨nd2, List.nodup_cons.mpr ⟨fun x => (nomatch x), List.nodup_nil⟩, fun a ha b hb e => hzg (by rw [← List.mem_singleton.mp hb, ← e]; exact ha)⟩
            have hr3 : ∀ u ∈ gs ++ [z], Rch l nm u := fun u hu => (List.mem_append.mp hu).elim (hr2 u) fun x => by rw [List.mem_singleton.mp x]; exact hrz
            have l3 : gs.length + 1 ≤ l.length := by
              have q3 := bnd nd3 hr3
              rw [List.length_append] at q3
              exact q3
            have ll := hS.len
            have smA := same_mut (o := .lst (gs.map V.str ++ [V.str z])) sm2 nF
            refine ⟨_, rfl, .inl ⟨rfl, _, SqL.of hF2⟩, _, rfl, b, xs, _, _, rfl, rfl, hb2, atI_nat (j := 1) hb1, Fa, _, _, rfl, rfl, hF2, by rw [List.length_map]; exact small1000 (by omega), ?_⟩
            have hW3 : upd H2 Fa (.lst (gs.map V.str ++ [V.str z])) Wa = some (.lst (vs.map V.str)) := by rw [upd_ne neFW.symm]; exact hW2
            refine ⟨_, rfl, .inl ⟨rfl, _, SqL.of hW3⟩, _, rfl, b, xs, _, _, rfl, rfl, same_seqT smA hb, atI_nat (j := 1) hb1, Wa, _, _, rfl, rfl, hW3, by rw [List.length_map]; exact small1000 (by omega), ?_⟩
            refine ⟨_, gs ++ [z], vs ++ [z], rfl, same_mut smA nW0, ?_, ?_, nd3, hr3, fun y hy => ?_, fun u hu => List.mem_append_left _ (sub2 u hu), fun u hu => ?_, fun u hu => List.mem_append_left _ (old2 u hu), fun u hu => ?_, ?_, ?_⟩
            · rw [upd_ne neFW, upd_same, List.map_append]
              rfl
            · rw [upd_same, List.map_append]
              rfl
            · rcases List.mem_append.mp hy with hy | hy
              · exact (hw2 y hy).imp id fun x => List.mem_append_left _ x
              · exact .inr (List.mem_append_right _ hy)
            · rcases List.mem_append.mp hu with hu | hu
              · exact (new2 u hu).imp id fun x => List.mem_append_left _ x
              · exact .inr (List.mem_append_right _ hu)
            · rw [take_snoc hz] at hu
              rcases List.mem_append.mp hu with hu | hu
              · exact List.mem_append_left _ (tk2 u hu)
              · exact List.mem_append_right _ hu
            · rw [List.length_append, List.length_append]
              show 2 * (l.length - (gs.length + 1)) + (vs.length + 1) ≤ _
              omega
            · rw [List.length_append, List.length_append]
              show vs.length + 1 ≤ gs.length + 1
              omega
        · rintro σ H2 ⟨x5, gs, vs, rfl, sm2, hF2, hW2, nd2, hr2, hw2, sub2, new2, old2, tk2, mu2, len2⟩
          refine ⟨⟨_, _, gs, vs, rfl, sm2, hF2, hW2, nd2, hr2, hw2, fun y hy => ?_, by omega⟩, ?_⟩
          · have all : ∀ z ∈ leads l t.nm, z ∈ gs := fun z hz => by
              rw [leads_of hS.nd ht] at hz
              refine tk2 z ?_
              rw [hld.len, List.take_length]
              exact hz
            have old : ∀ y, y = nm ∨ y ∈ fs → y ∈ vs ∨ ∀ z ∈ leads l y, z ∈ gs := fun y hy => by
              rcases hc1 y hy with x | x
              · rcases List.mem_append.mp x with x | x
                · exact .inl (old2 y x)
                · rw [List.mem_singleton.mp x]
                  exact .inr all
              · exact .inr fun z hz => sub2 z (x z hz)
            rcases hy with hy | hy
            · exact old y (.inl hy)
            · rcases new2 y hy with x | x
              · exact old y (.inr x)
              · exact .inl x
          · show 2 * (l.length - lenAt H2 Fa) + lenAt H2 Wa < 2 * (l.length - lenAt H' Fa) + lenAt H' Wa
            rw [lenAt_of hF2, lenAt_of hW2, lenAt_of hF, lenAt_of hW]
            simp only [List.length_map, List.length_append, List.length_cons, List.length_nil]
            omega
    · rintro σ H' Q Q' hq ⟨v, hv, k, t, z⟩
      exact ⟨v, hv, k, t, hq _ _ z⟩
end
end Sw
namespace Sw
open PySem PySem.Spec PyProof.Rows L2 NdefX
abbrev sUnk : Stmt := inClass (topS 3) 0
theorem scUnk : NScope ["self", "name", "__class__"] ["self", "name"] ["__class__"] (defScope sUnk) := nscope_by (by decide +kernel)
section
variable {P : Program} {w : World} {K : PySem.W.Frag} {mg : Str → Option Value} {base : Heap}
theorem ok_unk {D f cc cda : Addr} {fd : FuncData} (T : SupTxt P K mg "UnknownTable.__init__" sUnk D f cc cda fd) (O : OexC K D) (nf : PySem.W.findIn K (.ref D) "name" = some none) :
    FnOk P w K mg base CX0 1 f fd ["self", "name"] (spErr D "name" PStr) := by
  refine fn_super T O scUnk (fun vs H Q E h => ?_) rfl rfl rfl rfl rfl (fun _ => rfl) (fun _ => ⟨_, rfl⟩) (fun _ => rfl) (fun A outer s H vs Q E hr h => ?_)
  · obtain ⟨a, v, rfl, _⟩ := h
    rfl
  · obtain ⟨a, v, rfl, hH, ⟨z, rfl, hz⟩, q⟩ := h
    refine ⟨_, _, a, rfl, hH, pe_joined (.cons pe_str (.cons (pe_fmt (pv 1)) .nil)), pss_one (ps_ost (pv 0) (pv 1)), ?_⟩
    have l1 : (Str.empty ++ ("no table is called " : Str)).length ≤ 100 := by decide +kernel
    refine ⟨_, rfl, Nat.le_trans l1 (by decide), _, rfl, .inl ⟨z, rfl, Nat.le_trans hz (by decide), _, rfl, ?_, rfl, hH, ?_⟩⟩
    · rw [str_app_len]
      exact room_len (by omega)
    exact ⟨_, rfl, _, rfl, a, D, rfl, O, nf, .inl ⟨hH, q⟩⟩
abbrev sTable : Stmt := inClass (topS 38) 1
theorem scTable : FnScope ["self", "name"] ["self", "name"] (defScope sTable) := ⟨rfl, rfl, rfl, by decide +kernel, rfl, by decide +kernel, by decide +kernel⟩
/-- schema.table(name) -/
def spTable (CS D : Addr) : Sp := fun vs H Q E => ∃ (s : Addr) (z : Str) (kvs : List (Key × V)), vs = [.ref s, .str z] ∧ SchemaAt CS H s kvs ∧ z.length ≤ 1000 ∧
  (∀ v, valV kvs (Sum.inr z : Key) = some v → Q v H) ∧ (valV kvs (Sum.inr z : Key) = none → ∀ dd, H dd = none → E (.ref D) (some dd) (upd H dd (.xd [("name", .str z)])))
theorem ok_table {f CS D fU cc cda : Addr} {fd fdU : FuncData} (F : Fun K "table" "Schema.table" sTable f fd) (c : Cls K CS) (n : NoAttr K CS "named") (U : ErrTxt P K mg "UnknownTable" "UnknownTable.__init__" sUnk D fU cc cda fdU "name") :
    FnOk P w K mg base (L2.CX P w) 3 f fd ["self", "name"] (spTable CS D) := by
  have GU := ok_unk (w := w) (base := base) U.sup U.oex U.nf
  refine F.okX scTable (fun vs H Q E h => ?_) (fun cdv A outer s H vs Q E hr h => ?_)
  · obtain ⟨s, z, kvs, rfl, _⟩ := h
    rfl
  · obtain ⟨s, z, kvs, rfl, ⟨dx, d, hs, hd⟩, hz, q1, q2⟩ := h
    have hu := hu_of hr
    refine ⟨_, pss_cons (ps_if (pt_cmp (pc_dnotin hu (pv 1) (pe_fld (pv 0) rfl))) (pss_one (ps_raise rfl (takes_of rfl rfl rfl rfl) (pmk_oex U.oex U.iC U.tI GU hr U.bd .nil pass0 rfl U.gC (pa_cons (pv 1) pa_nil)))) pss_nil)
      (pss_one (ps_ret (pe_dget hu (pe_fld (pv 0) rfl) (pv 1) (fun _ _ => rfl)))), ?_⟩
    refine ⟨_, rfl, _, rfl, s, CS, dx, _, _, rfl, hs, c, n, rfl, d, _, rfl, DGet.k (k := Sum.inr z) hd, _, rfl, ?_⟩
    cases e : valV kvs (Sum.inr z : Key) with
    | none =>
      refine iteT ?_
      exact ⟨_, rfl, mk_err (fun a _ => ⟨z, rfl, hz⟩) (fun dd h => q2 e dd h)⟩
    | some v =>
      refine iteF ?_
      exact ⟨_, rfl, s, CS, dx, _, _, rfl, hs, c, n, rfl, _, rfl, d, v, rfl, (by rw [← e]; exact DGet.k (k := Sum.inr z) hd), q1 v e⟩
end
end Sw
namespace Sw
open PySem PySem.Spec PyProof.Rows L2 NdefX
abbrev sRing : Stmt := inClass (topS 4) 0
theorem scRing : NScope ["self", "name", "__class__"] ["self", "name"] ["__class__"] (defScope sRing) := nscope_by (by decide +kernel)
section
variable {P : Program} {w : World} {K : PySem.W.Frag} {mg : Str → Option Value} {base : Heap}
theorem ok_ring {D f cc cda : Addr} {fd : FuncData} (T : SupTxt P K mg "Ring.__init__" sRing D f cc cda fd) (O : OexC K D) (nf : PySem.W.findIn K (.ref D) "name" = some none) :
    FnOk P w K mg base CX0 1 f fd ["self", "name"] (spErr D "name" PStr) := by
  refine fn_super T O scRing (fun vs H Q E h => ?_) rfl rfl rfl rfl rfl (fun _ => rfl) (fun _ => ⟨_, rfl⟩) (fun _ => rfl) (fun A outer s H vs Q E hr h => ?_)
  · obtain ⟨a, v, rfl, _⟩ := h
    rfl
  · obtain ⟨a, v, rfl, hH, ⟨z, rfl, hz⟩, q⟩ := h
    refine ⟨_, _, a, rfl, hH, pe_joined (.cons pe_str (.cons (pe_fmt (pv 1)) (.cons pe_str .nil))), pss_one (ps_ost (pv 0) (pv 1)), ?_⟩
    have l1 : (Str.empty ++ ("the table " : Str)).length ≤ 100 := by decide +kernel
    have l2 : (" reaches itself" : Str).length ≤ 100 := by decide +kernel
    refine ⟨_, rfl, Nat.le_trans l1 (by decide), _, rfl, .inl ⟨z, rfl, Nat.le_trans hz (by decide), _, rfl, ?_, _, rfl, ?_, rfl, hH, ?_⟩⟩
    · rw [str_app_len]
      exact room_len (by omega)
    · rw [str_app_len, str_app_len]
      exact room_len (by omega)
    exact ⟨_, rfl, _, rfl, a, D, rfl, O, nf, .inl ⟨hH, q⟩⟩
end
end Sw
namespace Sw
open PySem PySem.Spec PyProof.Rows L2 NdefX
abbrev sSch : Stmt := inClass (topS 38) 0
abbrev nSch : List Str := ["self", "tables", "table", "reference", "names", "name"]
abbrev pSch : List Str := ["self"]
theorem scSch : FnScope nSch (pSch ++ [("tables" : Str)]) (defScope sSch) := ⟨rfl, rfl, rfl, by decide +kernel, rfl, by decide +kernel, by decide +kernel⟩
section
variable {P : Program} {w : World} {K : PySem.W.Frag} {mg : Str → Option Value} {base : Heap}
theorem ok_schema {f CT CS fRe DU fU ccU cdU DR fR ccR cdR : Addr} {fd fdRe fdU fdR : FuncData} (F : Fun K "__init__" "Schema.__init__" sSch f fd) (FRe : Fun K "reached" "Schema.reached" sReach fRe fdRe) (bRe : Binds K fdRe ["self", "name"] []) (mRe : Meth K CS "reached" fRe)
    (c : Cls K CS) (n : NoAttr K CS "named") (cT : Cls K CT) (nT : NoAttr K CT "refers") (nN : NoAttr K CT "name")
    (U : ErrTxt P K mg "UnknownTable" "UnknownTable.__init__" sUnk DU fU ccU cdU fdU "name") (R : ErrTxt P K mg "Ring" "Ring.__init__" sRing DR fR ccR cdR fdR "name") :
    FnR P w K mg base (L2.CX P w) 3 f (spSchema K CT CS DU DR) := by
  have GU := ok_unk (w := w) (base := base) U.sup U.oex U.nf
  have GR := ok_ring (w := w) (base := base) R.sup R.oex R.nf
  have GE : FnOk P w K mg base CX0 1 fRe fdRe ["self", "name"] (spReach K CT CS) := ok_reach FRe c n cT nT
  obtain ⟨oc, od, kV, doc, pm, an, cdv, ct, osl, rfl, lk, hcd⟩ := F.ex
  have hB := StX.bind_star1 (B := fun us => bindArgs (PySem.W.fnOf "__init__" "Schema.__init__" (defArgs sSch) (defBody sSch) (defScope sSch) Value.none kV doc pm an cdv ct) ⟨us, []⟩) (p1 := "self") (pv := "tables") (fun _ => rfl) (fun _ _ _ => rfl)
  refine (StX.fn_star (ps := pSch) lk hcd scSch StX.cxUp hB (sp := fun vs H Q E => ∃ (S p dS : Addr) (l : List Tb), vs = [.ref S, .ref p] ∧ H S = some (.ins CS dS []) ∧ H p = some (.tup (l.map fun t => V.ref t.x)) ∧ (∀ t ∈ l, TbAt K CT H t) ∧ (l.map Tb.nm).Nodup ∧ l.length ≤ 100 ∧ (l.flatMap Tb.zs).length ≤ 1000 ∧
    (∀ u, unkOf l = some u → u.length ≤ 1000 ∧ ∀ (H1 : Hp) (dd : Addr), SBut S H H1 → H1 dd = none → E (.ref DU) (some dd) (upd H1 dd (.xd [("name", .str u)]))) ∧
    (unkOf l = none → (∀ i t, l[i]? = some t → (∀ u ∈ l.take i, ¬ Rch l u.nm u.nm) → Rch l t.nm t.nm → t.nm.length ≤ 1000 ∧ ∀ (H1 : Hp) (dd : Addr), SBut S H H1 → H1 dd = none → E (.ref DR) (some dd) (upd H1 dd (.xd [("name", .str t.nm)]))) ∧
      ((∀ u ∈ l, ¬ Rch l u.nm u.nm) → ∀ H1 : Hp, SBut S H H1 → SchAt K CT CS H1 S l → Q .non H1))) (k := 2) ?_).imp ?_
  · rintro A outer s H vs Q E hr ⟨S, p, dS, l, rfl, hS, hp, htb, nd, hl, hz, qU, qG⟩
    have hu := hu_of hr
    refine ⟨_, pss_cons (ps_fld (pv 0) (pe_dc (own := [("table", 2)]) (g := gName 2) (tt := tYes) (tk := tFld K (tVar 2) "name") rfl scSch.nd (pi_tup (pv 1)) (blkOk_by (N := nSch) (sc := defScope sSch) (by decide +kernel)) (fun _ _ _ _ _ => pg_name (i := 2) scSch.nd rfl (Or.inl rfl)) (fun _ _ _ _ _ => pts_nil) (fun _ _ _ _ _ => pe_fld (pv 2) rfl) (fun _ _ _ _ _ => pv 2)) rfl)
      (pss_cons (ps_setLc2 (i := 4) (own := [("table", 2), ("reference", 3)]) (vs1 := [3]) (g := gName 2) (tt := tYes) (g1 := gName 3) (tt1 := tYes) (wi1 := iTup K (tFld K (tVar 2) "refers")) (te := tOp (rIxT K) (tVar 3) (tC (.int 1))) rfl scSch.nd rfl rfl (sw_true rfl rfl rfl (by decide +kernel)) (pi_tup (pv 1)) (blkOk_by (N := nSch) (sc := defScope sSch) (by decide +kernel)) (by decide)
        (fun _ _ _ _ _ => pg_name (i := 2) scSch.nd rfl (Or.inl rfl)) (fun _ _ _ _ _ => pts_nil) (fun _ _ _ _ _ => pi_tup (pe_fld (pv 2) rfl)) (fun _ _ _ _ _ => pg_name (i := 3) scSch.nd rfl (Or.inl rfl)) (fun _ _ _ _ _ => pts_nil) (fun _ _ _ _ _ => pe_ix ix_tup (pv 3) pe_int (fun _ _ => rfl)))
      (pss_cons (ps_for (passes_of rfl) rfl (pi_list (pv 4)) (pg_name (i := 5) scSch.nd rfl (Or.inl rfl))
        (pss_one (ps_if (pt_cmp (pc_dnotin hu (pv 5) (pe_fld (pv 0) rfl))) (pss_one (ps_raise rfl (takes_of rfl rfl rfl rfl) (pmk_oex U.oex U.iC U.tI GU hr U.bd .nil pass0 rfl U.gC (pa_cons (pv 5) pa_nil)))) pss_nil)))
      (pss_one (ps_for (passes_of rfl) rfl (pi_tup (pv 1)) (pg_name (i := 2) scSch.nd rfl (Or.inl rfl))
        (pss_one (ps_if (pt_cmpR op_in_seq (pe_fld (pv 2) rfl) (pe_meth (pv 0) c mRe GE (hr.mono (by decide)) bRe .nil pass0 (pa_cons (pe_fld (pv 2) rfl) pa_nil)) (by rfl))
          (pss_one (ps_raise rfl (takes_of rfl rfl rfl rfl) (pmk_oex R.oex R.iC R.tI GR hr R.bd .nil pass0 rfl R.gC (pa_cons (pe_fld (pv 2) rfl) pa_nil)))) pss_nil)))))), ?_⟩
    have mid : ∀ {H1 : Hp}, SBut S H H1 → ∀ dX dN : Addr, H1 S = some (.ins CS dX [("named", .ref dN)]) → H1 dN = some (.dK (kvT l)) → SchAt K CT CS H1 S l := fun {H1} e dX dN h1 h2 => ⟨⟨dX, dN, h1, h2⟩, fun t ht => (htb t ht).but e hS (Nat.zero_le _), nd, hl⟩
    refine ⟨_, rfl, p, rfl, ⟨_, SqT.of hp⟩, fun D nD => ?_⟩
    refine dc_it (wk_tup (K := K) (a := p) (l := l) (val := fun t : Tb => V.ref t.x)) (fun i Hc => Hc = upd H D (.dK (kvT (l.take i)))) rfl (fun i Hc _ e => by rw [e]; exact SqT.of (by rw [upd_ne (ne_of_none hp nD)]; exact hp)) ?_ ?_
    · rintro i x Hc Hc' hi rfl ⟨rfl, t, ht, rfl⟩
      have hm : t ∈ l := List.mem_of_getElem? ht
      obtain ⟨dx, wd, kA, lA, rA, rs, hx, hld⟩ := ((htb t hm).same (same_new (o := .dK (kvT (l.take i))) nD)).ex
      refine ⟨rfl, ?_⟩
      refine ⟨_, rfl, t.x, CT, dx, _, _, rfl, hx, cT, nN, rfl, _, rfl, _, Sum.inr t.nm, rfl, upd_same, ?_, ?_⟩
      · unfold kvT
        rw [List.length_map, List.length_take]
        exact Nat.lt_of_le_of_lt (Nat.min_le_right _ _) (small1000 (by omega))
      · rw [upd_upd, kvT_snoc nd ht]
    rintro Hc rfl
    rw [List.take_length]
    have neS : S ≠ D := ne_of_none hS nD
    refine ⟨_, rfl, S, CS, dS, _, rfl, (by rw [upd_ne neS]; exact hS), c, n, (by show 0 < 1000; decide), ?_⟩
    have s1 : SBut S H (upd (upd H D (.dK (kvT l))) S (.ins CS dS (putF "named" (.ref D) []))) := (Same.sbut (same_new nD)).step
    have hc1 : SchAt K CT CS (upd (upd H D (.dK (kvT l))) S (.ins CS dS (putF "named" (.ref D) []))) S l := mid s1 dS D upd_same (by rw [upd_ne neS.symm]; exact upd_same)
    have hp1 : (upd (upd H D (.dK (kvT l))) S (.ins CS dS (putF "named" (.ref D) []))) p = some (.tup (l.map fun t => V.ref t.x)) := s1 _ _ (ne_of hp hS (fun z => nomatch z)) hp
    generalize upd (upd H D (.dK (kvT l))) S (.ins CS dS (putF "named" (.ref D) [])) = H1 at s1 hc1 hp1 ⊢
    refine ⟨_, rfl, p, rfl, ⟨_, SqT.of hp1⟩, fun D2 nD2 => ?_⟩
    have hfm : (l.flatMap fun t : Tb => t.zs.map V.str) = (l.flatMap Tb.zs).map V.str := by rw [List.map_flatMap]
    refine lc2_pure (wk_tup (K := K) (a := p) (l := l) (val := fun t : Tb => V.ref t.x)) (out := fun t : Tb => t.zs.map V.str) (Pin := fun t k v => ∃ z, t.zs[k]? = some z ∧ RefTo K H1 v z) (fun o => SqT.of (by rw [upd_ne (ne_of_none hp1 nD2)]; exact hp1)) (by rw [hfm, List.length_map]; exact hz) (fun _ => rfl) (fun _ _ => rfl) ?_ ?_ ?_
    · intro t acc R hm hR
      have sn := same_new (o := .lst acc) nD2
      obtain ⟨dx, wd, kA, lA, rA, rs, hx, hld⟩ := (hc1.tbs t hm).ex
      refine ⟨_, rfl, t.x, CT, dx, _, _, rfl, sn _ _ hx, cT, nT, rfl, rA, rfl, ⟨_, same_seqT sn hld.at_⟩, ?_⟩
      refine hR (Itt K rA) (fun H' => SqT K H' rA rs) ?_ (fun o => same_seqT (same_new nD2) hld.at_)
      have w := walk_tup (K := K) (a := rA) (xs := rs)
      rw [hld.len] at w
      rw [List.length_map]
      exact w.mono (fun _ h => h) fun k Hx x Hy _ _ y => ⟨y.1, hld.all k x y.2⟩
    · rintro t k v y acc Q' hm ⟨z, hz1, b, xs, rfl, hb, hb1⟩ ho hq
      rw [List.getElem?_map, hz1] at ho
      obtain rfl : V.str z = y := Option.some.inj ho
      exact ⟨_, rfl, b, xs, _, _, rfl, rfl, same_seqT (same_new nD2) hb, atI_nat (j := 1) hb1, hq⟩
    have s2 := s1.same (same_new (o := .lst (l.flatMap fun t : Tb => t.zs.map V.str)) nD2)
    have hc2 := hc1.same (same_new (o := .lst (l.flatMap fun t : Tb => t.zs.map V.str)) nD2)
    have hp2 := same_new (o := .lst (l.flatMap fun t : Tb => t.zs.map V.str)) nD2 _ _ hp1
    have hD2 : upd H1 D2 (.lst (l.flatMap fun t : Tb => t.zs.map V.str)) D2 = some (.lst ((l.flatMap Tb.zs).map V.str)) := by rw [upd_same, hfm]
    generalize upd H1 D2 (.lst (l.flatMap fun t : Tb => t.zs.map V.str)) = H2 at s2 hc2 hp2 hD2 ⊢
    obtain ⟨dX, dN, hS2, hN2⟩ := hc2.ex
    refine ⟨_, rfl, D2, rfl, ⟨_, SqL.of hD2⟩, ?_⟩
    refine for_it (wk_list (K := K) (a := D2) (l := l.flatMap Tb.zs) (val := V.str)) (fun i σ H' => ∃ x5, σ = [some (.ref S), some (.ref p), none, none, some (.ref D2), x5] ∧ H' = H2 ∧ ∀ z ∈ (l.flatMap Tb.zs).take i, z ∈ l.map Tb.nm) ⟨none, rfl, rfl, fun z hz => (nomatch hz)⟩ (fun i σ H' _ ⟨_, _, e, _⟩ => by rw [e]; exact SqL.of hD2) ?_ ?_
    · rintro i x σ Hx Hy hi ⟨x5, rfl, rfl, hk⟩ ⟨rfl, z, hz1, rfl⟩
      refine ⟨_, rfl, _, rfl, S, CS, dX, _, _, rfl, hS2, c, n, rfl, dN, _, rfl, DGet.k (k := Sum.inr z) hN2, _, rfl, ?_⟩
      by_cases hzn : z ∈ l.map Tb.nm
      · obtain ⟨t, ht, rfl⟩ := List.mem_map.mp hzn
        rw [valV_tb hc2.nd ht]
        refine iteF ?_
        refine ⟨_, rfl, rfl, fun u hu => ?_⟩
        rw [take_snoc hz1] at hu
        rcases List.mem_append.mp hu with hu | hu
        · exact hk u hu
        · rw [List.mem_singleton.mp hu]
          exact hzn
      · rw [valV_no hzn]
        refine iteT ?_
        have hun : unkOf l = some z := find_first (fun u hu => by simp [hk u hu]) hz1 (by simp [hzn])
        exact ⟨_, rfl, mk_err (fun a _ => ⟨z, rfl, (qU z hun).1⟩) (fun dd h => (qU z hun).2 _ dd s2 h)⟩
    rintro σ Hx ⟨x5, rfl, rfl, hk⟩
    rw [List.take_length] at hk
    have kn : Known l := known_of hk
    have hun : unkOf l = none := List.find?_eq_none.mpr fun z hz => by simp [hk z hz]
    obtain ⟨qR, qN⟩ := qG hun
    refine ⟨_, rfl, p, rfl, ⟨_, SqT.of hp2⟩, ?_⟩
    refine for_it (wk_tup (K := K) (a := p) (l := l) (val := fun t : Tb => V.ref t.x)) (fun i σ H' => ∃ x2, σ = [some (.ref S), some (.ref p), x2, none, some (.ref D2), x5] ∧ Same Hx H' ∧ ∀ u ∈ l.take i, ¬ Rch l u.nm u.nm) ⟨none, rfl, Same.refl _, fun z hz => (nomatch hz)⟩ (fun i σ H' _ ⟨_, _, e, _⟩ => SqT.of (e _ _ hp2)) ?_ ?_
    · rintro i x σ Hw Hy hi ⟨x2, rfl, sm, hno⟩ ⟨rfl, t, ht, rfl⟩
      have hm : t ∈ l := List.mem_of_getElem? ht
      obtain ⟨dx, wd, kA, lA, rA, rs, hx, hld⟩ := (hc2.tbs t hm).ex
      refine ⟨_, rfl, t.x, CT, dx, _, _, rfl, sm _ _ hx, cT, nN, rfl, ?_⟩
      refine ⟨_, rfl, S, dX, _, rfl, sm _ _ hS2, rfl, _, rfl, t.x, CT, dx, _, _, rfl, sm _ _ hx, cT, nN, rfl, ?_⟩
      refine ⟨S, t.nm, l, rfl, hc2.same sm, kn, List.mem_map.mpr ⟨t, hm, rfl⟩, fun H3 F3 R3 s3 nF hF hR => ?_⟩
      refine ⟨F3, _, rfl, .inl (SqL.of hF), rfl, flat_str R3, _, rfl, ?_⟩
      rw [inV_str]
      have sm3 := sm.trans s3
      by_cases hr3 : t.nm ∈ R3
      · have e : (if false = true then !decide (t.nm ∈ R3) else decide (t.nm ∈ R3)) = true := by simp [hr3]
        rw [e]
        refine iteT ?_
        have q3 := qR i t ht hno ((hR _).mp hr3)
        refine ⟨_, rfl, t.x, CT, dx, _, _, rfl, sm3 _ _ hx, cT, nN, rfl, mk_err (fun a _ => ⟨t.nm, rfl, q3.1⟩) (fun dd h => q3.2 _ dd (s2.same sm3) h)⟩
      · have e : (if false = true then !decide (t.nm ∈ R3) else decide (t.nm ∈ R3)) = false := by simp [hr3]
        rw [e]
        refine iteF ?_
        refine ⟨_, rfl, sm3, fun u hu => ?_⟩
        rw [take_snoc ht] at hu
        rcases List.mem_append.mp hu with hu | hu
        · exact hno u hu
        · rw [List.mem_singleton.mp hu]
          exact fun z => hr3 ((hR _).mpr z)
    rintro σ Hw ⟨x2, rfl, sm, hno⟩
    rw [List.take_length] at hno
    exact qN hno _ (s2.same sm) (hc2.same sm)
  · rintro vs H Q E ⟨S, dS, l, rfl, hS, htb, nd, hl, hz, qU, qG⟩
    refine ⟨[.ref S], l.map fun t => V.ref t.x, rfl, rfl, ?_, fun p hp => ?_⟩
    · rw [List.length_map]
      exact Nat.le_of_lt (small1000 (by omega))
    · have sn := same_new (o := .tup (l.map fun t => V.ref t.x)) hp
      refine ⟨S, p, dS, l, rfl, sn _ _ hS, upd_same, fun t ht => (htb t ht).same sn, nd, hl, hz, fun u hu => ⟨(qU u hu).1, fun H1 dd s1 hd => (qU u hu).2 H1 dd (fun b o hb e => s1 b o hb (sn b o e)) hd⟩, fun hn => ⟨fun i t hi h1 h2 => ⟨((qG hn).1 i t hi h1 h2).1, fun H1 dd s1 hd => ((qG hn).1 i t hi h1 h2).2 H1 dd (fun b o hb e => s1 b o hb (sn b o e)) hd⟩, fun h1 H1 s1 => (qG hn).2 h1 H1 fun b o hb e => s1 b o hb (sn b o e)⟩⟩
end
end Sw
namespace Sw
open PySem PySem.Spec PyProof.Rows L2 NdefX
abbrev sRise : Stmt := topS 44
abbrev nRise : List Str := ["_law_items", "_law_rows", "_law_item", "_law_row"]
theorem scRise : FnScope nRise ["_law_items"] (defScope sRise) := ⟨rfl, rfl, rfl, by decide +kernel, rfl, by decide +kernel, by decide +kernel⟩
section
variable {P : Program} {w : World} {K : PySem.W.Frag} {mg : Str → Option Value} {base : Heap}
theorem ok_riseS {f : Addr} {fd : FuncData} (F : Fun K "_law_rising" "_law_rising" sRise f fd) (hlen : mg "len" = none) : FnOk P w K mg base CX0 1 f fd ["_law_items"] (spRiseS K) := by
  refine F.ok scRise (fun vs H Q E h => ?_) (fun cdv A outer s H vs Q E hr h => ?_)
  · obtain ⟨a, l, rfl, _⟩ := h
    rfl
  · obtain ⟨a, l, rfl, ha, hl, q⟩ := h
    refine ⟨_, pss_cons (ps_set (i := 1) scRise.nd rfl (Or.inl rfl) (pe_lst pa_nil))
      (pss_cons (ps_for PassesOwn.never rfl (pi_list (pv 0)) (pg_name (i := 2) scRise.nd rfl (Or.inr rfl))
        (pss_one (ps_if (pt_cmpR op_notIn_seq (pv 2) (pv 1) (by rfl))
          (pss_one (ps_expr (pe_bm PySem.F.plainAttrs_list PySem.F.slot_list_insert PySem.F.type_list_insert mt_insert (pv 1) (pa_cons (pe_callB call_len_seq (by rfl) hlen PySem.boot_len (pa_cons
            (pe_lc (own := [("_law_row", 3)]) (g := gName 3) (tt := tTest (tOp (fun x y H Q => ∃ i j, x = .str i ∧ y = .str j ∧ Q (.bl (decide (i.cps.toList < j.cps.toList))) H) (tVar 3) (tVar 2))) rfl scRise.nd (pi_list (pv 1)) (blkOk_by (N := nRise) (sc := defScope sRise) (by decide +kernel)) (fun _ _ _ _ _ => pg_name (i := 3) scRise.nd rfl (Or.inl rfl))
              (fun _ _ _ _ _ => pts_one (pt_cmpR op_lt_str (pv 3) (pv 2) (nomark _))) (fun _ _ _ _ _ => pv 3)) pa_nil)) (pa_cons (pv 2) pa_nil))))) pss_nil)))
      (pss_one (ps_ret (pv 1)))), ?_⟩
    refine ⟨by decide, fun R nR => ?_⟩
    refine ⟨_, rfl, a, rfl, ⟨_, (same_new nR).seq ha⟩, ?_⟩
    refine for_it (wk_list (K := K) (a := a) (l := l) (val := V.str)) (fun i σ Hc => ∃ (x2 : Option V) (us : List Str), σ = [some (.ref a), some (.ref R), x2, none] ∧ Same H Hc ∧ Hc R = some (.lst (us.map V.str)) ∧ AscS us ∧ (∀ z, z ∈ us ↔ z ∈ l.take i) ∧ us.length ≤ i)
      ⟨none, [], rfl, same_new nR, upd_same, .nil, fun z => by simp, Nat.le_refl _⟩ (fun i σ Hc _ ⟨_, _, _, e, _⟩ => e.seq ha) ?_ ?_
    · rintro i x σ Hx Hc hi ⟨x2, us, rfl, sm, hR, as, hm, hul⟩ ⟨rfl, z, hz, rfl⟩
      refine ⟨_, rfl, _, rfl, R, _, rfl, .inl (SqL.of hR), rfl, flat_str us, _, rfl, ?_⟩
      rw [inV_str]
      by_cases hzu : z ∈ us
      · have e : (if true = true then !decide (z ∈ us) else decide (z ∈ us)) = false := by simp [hzu]
        rw [e]
        refine iteF ?_
        refine ⟨_, us, rfl, sm, hR, as, fun y => ?_, by omega⟩
        rw [take_snoc hz, List.mem_append, List.mem_singleton, hm]
        constructor
        · exact .inl
        · rintro (q | q)
          · exact q
          · rw [q]
            exact (hm z).mp hzu
      · have e : (if true = true then !decide (z ∈ us) else decide (z ∈ us)) = true := by simp [hzu]
        rw [e]
        refine iteT ?_
        obtain ⟨i1, i2⟩ := ins_asc (lt := SLt) SLt.irrefl (fun _ _ _ => SLt.trans) SLt.tri us z as hzu
        refine ⟨_, rfl, .inl ⟨rfl, _, SqL.of hR⟩, _, rfl, R, rfl, ⟨_, SqL.of hR⟩, fun D nD => ?_⟩
        have neD : R ≠ D := ne_of_none hR nD
        refine lc_filter (wk_list (K := K) (a := R) (l := us) (val := V.str)) (p := fun u => decide (SLt u z)) (out := V.str) (fun o => SqL.of (by rw [upd_ne neD]; exact hR)) (by omega) (fun _ => rfl) (fun j u acc Q hu hq => ⟨_, rfl, _, rfl, u, z, rfl, rfl, _, rfl, hq⟩) (fun j u acc Q hu _ hq => ⟨_, rfl, hq⟩) ?_
        refine ⟨D, _, rfl, .inl (SqL.of upd_same), _, rfl, ?_⟩
        have smD := sm.trans (same_new (o := .lst ((us.filter fun u => decide (SLt u z)).map V.str)) nD)
        refine ⟨R, _, _, _, rfl, rfl, by rw [upd_ne neD]; exact hR, by rw [List.length_map]; exact small1000 (by omega), Int.natCast_nonneg _, ?_, ?_⟩
        · rw [List.length_map]
          have := List.length_filter_le (fun u => decide (SLt u z)) us
          omega
        · rw [List.length_map, Int.toNat_natCast]
          refine ⟨_, us.take (us.filter fun u => decide (SLt u z)).length ++ [z] ++ us.drop (us.filter fun u => decide (SLt u z)).length, rfl, same_mut smD nR, ?_, i1, fun y => ?_, ?_⟩
          · rw [upd_same]
            simp only [List.map_append, List.map_take, List.map_drop, List.map_cons, List.map_nil]
          · rw [i2, take_snoc hz, List.mem_append, List.mem_singleton, hm]
          · simp only [List.length_append, List.length_take, List.length_drop, List.length_cons, List.length_nil]
            have := List.length_filter_le (fun u => decide (SLt u z)) us
            omega
    · rintro σ Hc ⟨x2, us, rfl, sm, hR, as, hm, hul⟩
      rw [List.take_length] at hm
      exact ⟨_, rfl, q _ R us sm nR hR as hm⟩
theorem ok_riseI {f : Addr} {fd : FuncData} (F : Fun K "_law_rising" "_law_rising" sRise f fd) (hlen : mg "len" = none) : FnOk P w K mg base CX0 1 f fd ["_law_items"] (spRiseI K) := by
  refine F.ok scRise (fun vs H Q E h => ?_) (fun cdv A outer s H vs Q E hr h => ?_)
  · obtain ⟨a, l, rfl, _⟩ := h
    rfl
  · obtain ⟨a, l, rfl, ha, hl, q⟩ := h
    refine ⟨_, pss_cons (ps_set (i := 1) scRise.nd rfl (Or.inl rfl) (pe_lst pa_nil))
      (pss_cons (ps_for PassesOwn.never rfl (pi_list (pv 0)) (pg_name (i := 2) scRise.nd rfl (Or.inr rfl))
        (pss_one (ps_if (pt_cmpR op_notIn_seq (pv 2) (pv 1) (by rfl))
          (pss_one (ps_expr (pe_bm PySem.F.plainAttrs_list PySem.F.slot_list_insert PySem.F.type_list_insert mt_insert (pv 1) (pa_cons (pe_callB call_len_seq (by rfl) hlen PySem.boot_len (pa_cons
            (pe_lc (own := [("_law_row", 3)]) (g := gName 3) (tt := tTest (tOp (rI0 fun i j => .bl (decide (i < j))) (tVar 3) (tVar 2))) rfl scRise.nd (pi_list (pv 1)) (blkOk_by (N := nRise) (sc := defScope sRise) (by decide +kernel)) (fun _ _ _ _ _ => pg_name (i := 3) scRise.nd rfl (Or.inl rfl))
              (fun _ _ _ _ _ => pts_one (pt_cmpR op_lt (pv 3) (pv 2) (nomark _))) (fun _ _ _ _ _ => pv 3)) pa_nil)) (pa_cons (pv 2) pa_nil))))) pss_nil)))
      (pss_one (ps_ret (pv 1)))), ?_⟩
    refine ⟨by decide, fun R nR => ?_⟩
    refine ⟨_, rfl, a, rfl, ⟨_, (same_new nR).seq ha⟩, ?_⟩
    refine for_it (wk_list (K := K) (a := a) (l := l) (val := V.int)) (fun i σ Hc => ∃ (x2 : Option V) (us : List Int), σ = [some (.ref a), some (.ref R), x2, none] ∧ Same H Hc ∧ Hc R = some (.lst (us.map V.int)) ∧ AscI us ∧ (∀ z, z ∈ us ↔ z ∈ l.take i) ∧ us.length ≤ i)
      ⟨none, [], rfl, same_new nR, upd_same, .nil, fun z => by simp, Nat.le_refl _⟩ (fun i σ Hc _ ⟨_, _, _, e, _⟩ => e.seq ha) ?_ ?_
    · rintro i x σ Hx Hc hi ⟨x2, us, rfl, sm, hR, as, hm, hul⟩ ⟨rfl, z, hz, rfl⟩
      refine ⟨_, rfl, _, rfl, R, _, rfl, .inl (SqL.of hR), rfl, flat_int us, _, rfl, ?_⟩
      rw [inV_int]
      by_cases hzu : z ∈ us
      · have e : (if true = true then !decide (z ∈ us) else decide (z ∈ us)) = false := by simp [hzu]
        rw [e]
        refine iteF ?_
        refine ⟨_, us, rfl, sm, hR, as, fun y => ?_, by omega⟩
        rw [take_snoc hz, List.mem_append, List.mem_singleton, hm]
        constructor
        · exact .inl
        · rintro (q | q)
          · exact q
          · rw [q]
            exact (hm z).mp hzu
      · have e : (if true = true then !decide (z ∈ us) else decide (z ∈ us)) = true := by simp [hzu]
        rw [e]
        refine iteT ?_
        obtain ⟨i1, i2⟩ := ins_asc (lt := ILt) (fun x => Int.lt_irrefl x) (fun _ _ _ => Int.lt_trans) (fun x y h n => by have h : ¬ y < x := h; show x < y; omega) us z as hzu
        refine ⟨_, rfl, .inl ⟨rfl, _, SqL.of hR⟩, _, rfl, R, rfl, ⟨_, SqL.of hR⟩, fun D nD => ?_⟩
        have neD : R ≠ D := ne_of_none hR nD
        refine lc_filter (wk_list (K := K) (a := R) (l := us) (val := V.int)) (p := fun u => decide (ILt u z)) (out := V.int) (fun o => SqL.of (by rw [upd_ne neD]; exact hR)) (by omega) (fun _ => rfl) (fun j u acc Q hu hq => ⟨_, rfl, _, rfl, u, z, rfl, rfl, _, rfl, hq⟩) (fun j u acc Q hu _ hq => ⟨_, rfl, hq⟩) ?_
        refine ⟨D, _, rfl, .inl (SqL.of upd_same), _, rfl, ?_⟩
        have smD := sm.trans (same_new (o := .lst ((us.filter fun u => decide (ILt u z)).map V.int)) nD)
        refine ⟨R, _, _, _, rfl, rfl, by rw [upd_ne neD]; exact hR, by rw [List.length_map]; exact small1000 (by omega), Int.natCast_nonneg _, ?_, ?_⟩
        · rw [List.length_map]
          have := List.length_filter_le (fun u => decide (ILt u z)) us
          omega
        · rw [List.length_map, Int.toNat_natCast]
          refine ⟨_, us.take (us.filter fun u => decide (ILt u z)).length ++ [z] ++ us.drop (us.filter fun u => decide (ILt u z)).length, rfl, same_mut smD nR, ?_, i1, fun y => ?_, ?_⟩
          · rw [upd_same]
            simp only [List.map_append, List.map_take, List.map_drop, List.map_cons, List.map_nil]
          · rw [i2, take_snoc hz, List.mem_append, List.mem_singleton, hm]
          · simp only [List.length_append, List.length_take, List.length_drop, List.length_cons, List.length_nil]
            have := List.length_filter_le (fun u => decide (ILt u z)) us
            omega
    · rintro σ Hc ⟨x2, us, rfl, sm, hR, as, hm, hul⟩
      rw [List.take_length] at hm
      exact ⟨_, rfl, q _ R us sm nR hR as hm⟩
end
end Sw
namespace Sw
open PySem PySem.Spec PyProof.Rows L2 NdefX
abbrev sBuild : Stmt := topS 52
abbrev nBuild : List Str := ["_law_tables", "_law_made", "_law_row"]
theorem scBuild : FnScope nBuild ["_law_tables"] (defScope sBuild) := ⟨rfl, rfl, rfl, by decide +kernel, rfl, by decide +kernel, by decide +kernel⟩
section
variable {P : Program} {w : World} {K : PySem.W.Frag} {mg : Str → Option Value} {base : Heap}
theorem ok_build {f CT CS DU DR fB fC : Addr} {fd fdB : FuncData} (F : Fun K "_law_build" "_law_build" sBuild f fd) (hlen : mg "len" = none) (htup : mg "tuple" = none)
    (GB : FnOk P w K mg base CX0 4 fB fdB pTab (spTab K CT)) (MB : Mk K CT fB) (bB : KBn K fdB pTab 3 ["key", "lists", "refers"] (fun us ws => us ++ ws) (fun vs zs => vs ++ zs)) (gT : mg "Table" = some (.ref CT))
    (GC : FnR P w K mg base (L2.CX P w) 3 fC (spSchema K CT CS DU DR)) (MC : Mk K CS fC) (gS : mg "Schema" = some (.ref CS)) :
    FnOk P w K mg base CX0 6 f fd ["_law_tables"] (spBuild K CT CS) := by
  refine F.ok scBuild (fun vs H Q E h => ?_) (fun cdv A outer s H vs Q E hr h => ?_)
  · obtain ⟨a, xs, rows, rfl, _⟩ := h
    rfl
  · obtain ⟨a, xs, rows, rfl, ha, sane, q⟩ := h
    refine ⟨_, pss_cons (ps_set (i := 1) scBuild.nd rfl (Or.inl rfl) (pe_lst pa_nil))
      (pss_cons (ps_for PassesOwn.never rfl (pi_list (pv 0)) (pg_name (i := 2) scBuild.nd rfl (Or.inl rfl))
        (pss_one (ps_expr (pe_bm PySem.F.plainAttrs_list PySem.F.slot_list_append PySem.F.type_list_append mt_append (pv 1) (pa_cons
          (pe_makeK (n := 2) MB GB hr rfl gT bB pass0 (pa_cons (pe_ix ix_list (pv 2) pe_int (fun _ _ => rfl)) (pa_cons (pe_ix ix_list (pv 2) pe_int (fun _ _ => rfl)) pa_nil))
            (pk_cons (pe_callTy call_tuple_of (by rfl) htup bTuple (pa_cons (pe_ix ix_list (pv 2) pe_int (fun _ _ => rfl)) pa_nil)) (pk_cons (pe_ix ix_list (pv 2) pe_int (fun _ _ => rfl)) (pk_cons (pe_callTy call_tuple_of (by rfl) htup bTuple (pa_cons (pe_ix ix_list (pv 2) pe_int (fun _ _ => rfl)) pa_nil)) pk_nil)))) pa_nil)))))
      (pss_cons (ps_if (pt_cmpR op_eq (pe_callB call_len_seq (by rfl) hlen PySem.boot_len (pa_cons (pv 1) pa_nil)) pe_int (nomark _)) (pss_one (ps_ret (StX.pe_makeR MC GC (hr.mono (by decide)) rfl gS passL (pa_cons (pe_ix ix_list (pv 1) pe_int (fun _ _ => rfl)) pa_nil)))) pss_nil)
      (pss_cons (ps_if (pt_cmpR op_eq (pe_callB call_len_seq (by rfl) hlen PySem.boot_len (pa_cons (pv 1) pa_nil)) pe_int (nomark _)) (pss_one (ps_ret (StX.pe_makeR MC GC (hr.mono (by decide)) rfl gS passL (pa_cons (pe_ix ix_list (pv 1) pe_int (fun _ _ => rfl)) (pa_cons (pe_ix ix_list (pv 1) pe_int (fun _ _ => rfl)) pa_nil))))) pss_nil)
      (pss_one (ps_ret (StX.pe_makeR MC GC (hr.mono (by decide)) rfl gS passL (pa_cons (pe_ix ix_list (pv 1) pe_int (fun _ _ => rfl)) (pa_cons (pe_ix ix_list (pv 1) pe_int (fun _ _ => rfl)) (pa_cons (pe_ix ix_list (pv 1) pe_int (fun _ _ => rfl)) pa_nil))))))))), ?_⟩
    refine ⟨by decide, fun M nM => ?_⟩
    have neM : ∀ {b : Addr} {o : HO}, H b = some o → b ≠ M := fun h => ne_of_none h nM
    refine ⟨_, rfl, a, rfl, ⟨_, (same_new nM).seq ha.at_⟩, ?_⟩
    refine for_it (walk_list (K := K) (a := a) (xs := xs)) (fun i σ Hc => ∃ (x2 : Option V) (l : List Tb), σ = [some (.ref a), some (.ref M), x2] ∧ Same H Hc ∧ Hc M = some (.lst (l.map fun t => V.ref t.x)) ∧ l.length = i ∧ ∀ (j : Nat) (t : Tb), l[j]? = some t → ∃ r : Rw, rows[j]? = some r ∧ TbOf K CT Hc t r)
      ⟨none, [], rfl, same_new nM, upd_same, rfl, fun j t e => (by cases e)⟩ (fun i σ Hc _ ⟨_, _, _, e, _⟩ => e.seq ha.at_) ?_ ?_
    · rintro i v σ Hx Hc hi ⟨x2, l, rfl, sm, hM, hll, hl⟩ ⟨rfl, hv⟩
      obtain ⟨r, hr1, hrw⟩ := ha.all i v hv
      obtain ⟨⟨b, k, m, e, vs, rfl, g1, g2, g3, g4, g5⟩, g6⟩ := hrw.same sm
      have n3 := sane.n3
      have hli := ha.len
      refine ⟨_, rfl, .inl ⟨rfl, _, SqL.of hM⟩, ?_⟩
      refine ⟨_, rfl, b, _, _, _, rfl, rfl, g1, atI_nat (j := 0) rfl, _, rfl, b, _, _, _, rfl, rfl, g1, atI_nat (j := 1) rfl, ?_⟩
      refine ⟨_, rfl, b, _, _, _, rfl, rfl, g1, atI_nat (j := 2) rfl, k, _, rfl, .inl ⟨g2, fun kT nkT => ?_⟩⟩
      have s1 := same_new (o := .tup (r.ks.map V.int)) nkT
      refine ⟨_, rfl, b, _, _, _, rfl, rfl, s1.seq g1, atI_nat (j := 3) rfl, ?_⟩
      refine ⟨_, rfl, b, _, _, _, rfl, rfl, s1.seq g1, atI_nat (j := 4) rfl, e, _, rfl, .inl ⟨s1.seq g4, fun eT neT => ?_⟩⟩
      have s2 := same_new (o := .tup vs) neT
      have s12 := s1.trans s2
      refine ⟨rfl, rfl, fun x dx nx ndx ne => ?_⟩
      have s3 : Same _ _ := (same_new (o := .own x) ndx).trans (same_new (o := .ins CT dx []) (by rw [upd_ne ne.symm]; exact nx))
      have hkT := s3 _ _ (s2 _ _ (upd_same (H := Hc) (a := kT) (o := .tup (r.ks.map V.int))))
      have heT := s3 _ _ (upd_same (H := upd Hc kT (.tup (r.ks.map V.int))) (a := eT) (o := .tup vs))
      refine ⟨x, dx, kT, eT, r.nm, r.wd, r.ks, .ref m, r.es, vs, rfl, upd_same, SqT.of hkT, g6, .inr ⟨m, rfl, (g3.same s12).same s3⟩, SqT.of heT, fun H' ks' ts sbx tab hks hal => ⟨rfl, ?_⟩⟩
      have sF : Same _ H' := fun b o h => sbx b o (ne_of_none h nx) (s3 b o h)
      have sF0 := s12.trans sF
      have hM' := sF0 _ _ hM
      have hlv := (g5.same s12).same sF
      refine ⟨M, _, _, rfl, rfl, hM', by rw [List.length_map]; exact small1000 (by omega), _, l ++ [⟨x, r.nm, r.ls.map fun e => e.2.1⟩], rfl, same_mut (sm.trans sF0) nM, ?_, ?_, fun j t hj => ?_⟩
      · rw [upd_same, List.map_append]
        rfl
      · rw [List.length_append, hll]
        rfl
      · by_cases hjl : j < l.length
        · rw [List.getElem?_append_left hjl] at hj
          obtain ⟨r', h1, h2⟩ := hl j t hj
          exact ⟨r', h1, (h2.same sF0).notL (notL_upd hM')⟩
        · have ej : j = l.length := by
            have := (List.getElem?_eq_some_iff.mp hj).1
            rw [List.length_append] at this
            simp at this
            omega
          subst ej
          rw [List.getElem?_append_right (Nat.le_refl _), Nat.sub_self] at hj
          obtain rfl : (⟨x, r.nm, r.ls.map fun e => e.2.1⟩ : Tb) = t := Option.some.inj hj
          refine ⟨r, by rw [hll]; exact hr1, rfl, rfl, ks', ts, vs, tab.notL (notL_upd hM'), hks, hal, hlv.notL (notL_upd hM')⟩
    · rintro σ H1 ⟨x2, l, rfl, sm, hM, hll, hl⟩
      have hlr : l.length = rows.length := by rw [hll, ha.len]
      obtain ⟨kn, nr⟩ := sane.ok l hlr fun i t h => let ⟨r, h1, h2⟩ := hl i t h; ⟨r, h1, h2.nm, h2.zs⟩
      have n3 := sane.n3
      have n1 := sane.n1
      have hnm : l.map Tb.nm = rows.map Rw.nm := by
        refine List.ext_getElem? fun j => ?_
        rw [List.getElem?_map, List.getElem?_map]
        by_cases hj : j < l.length
        · have h1 := List.getElem?_eq_getElem hj
          obtain ⟨r, h2, h3⟩ := hl j _ h1
          rw [h1, h2]
          exact congrArg some h3.nm
        · rw [List.getElem?_eq_none (by omega), List.getElem?_eq_none (by omega)]
          rfl
      have tbs : ∀ t ∈ l, TbAt K CT H1 t := fun t ht => by
        obtain ⟨i, hi⟩ := List.mem_iff_getElem?.mp ht
        obtain ⟨r, _, h2⟩ := hl i t hi
        exact h2.tb
      have zl : ∀ t ∈ l, t.zs.length ≤ 100 := fun t ht => by
        obtain ⟨i, hi⟩ := List.mem_iff_getElem?.mp ht
        obtain ⟨r, h1, h2⟩ := hl i t hi
        rw [h2.zs, List.length_map]
        exact sane.ls r (List.mem_of_getElem? h1)
      have fl : (l.flatMap Tb.zs).length ≤ 1000 := by
        have := flat_len zl
        have : l.length * 100 ≤ 3 * 100 := Nat.mul_le_mul_right _ (by omega)
        omega
      have mk : ∀ x dx, H1 x = none → H1 dx = none → dx ≠ x → spSchema K CT CS DU DR (V.ref x :: l.map fun t => V.ref t.x) (upd (upd H1 dx (.own x)) x (.ins CS dx [])) (fun v H2 => v = .non ∧ Q (.ref x) H2) E0 := fun x dx nx ndx ne =>
        sch_sane kn nr tbs (by rw [hnm]; exact sane.nd) (by omega) fl nx ndx ne fun H' s' sc => ⟨rfl, q H' x l (sm.trans s') (sm.free nx) ⟨sc, hlr, fun i t h => let ⟨r, h1, h2⟩ := hl i t h; ⟨r, h1, h2.same s'⟩⟩⟩
      have hLM : SqL K H1 M (l.map fun t => V.ref t.x) := SqL.of hM
      refine ⟨_, rfl, M, _, rfl, .inl hLM, rfl, _, rfl, ?_⟩
      rw [dec_int, List.length_map]
      refine ite2 (fun c => ?_) (fun c => ?_)
      · have e1 : l.length = 1 := by simp at c; omega
        obtain ⟨t0, rfl⟩ := List.length_eq_one_iff.mp e1
        exact ⟨_, rfl, M, _, _, _, rfl, rfl, hLM, atI_nat (j := 0) rfl, mk⟩
      refine ⟨_, rfl, M, _, rfl, .inl hLM, rfl, _, rfl, ?_⟩
      rw [dec_int, List.length_map]
      refine ite2 (fun c2 => ?_) (fun c2 => ?_)
      · have e1 : l.length = 2 := by simp at c2; omega
        obtain ⟨t0, t1, rfl⟩ := len2 e1
        exact ⟨_, rfl, M, _, _, _, rfl, rfl, hLM, atI_nat (j := 0) rfl, _, rfl, M, _, _, _, rfl, rfl, hLM, atI_nat (j := 1) rfl, mk⟩
      · have e1 : l.length = 3 := by simp at c c2; omega
        obtain ⟨t0, t1, t2, rfl⟩ := len3 e1
        exact ⟨_, rfl, M, _, _, _, rfl, rfl, hLM, atI_nat (j := 0) rfl, _, rfl, M, _, _, _, rfl, rfl, hLM, atI_nat (j := 1) rfl, _, rfl, M, _, _, _, rfl, rfl, hLM, atI_nat (j := 2) rfl, mk⟩
end
end Sw
namespace Sw
open PySem PySem.Spec PyProof.Rows L2 NdefX
abbrev sDealT : Stmt := topS 46
abbrev nDealT : List Str := ["_law_hand", "_law_names", "_law_values", "_law_tables", "_law_name", "_law_width", "_law_unique", "_law_k", "_law_table", "_law_start", "_law_menu", "_law_low", "_law_high", "_law_ends"]
theorem scDealT : FnScope nDealT ["_law_hand", "_law_names", "_law_values"] (defScope sDealT) := ⟨rfl, rfl, rfl, by decide +kernel, rfl, by decide +kernel, by decide +kernel⟩
section
variable {P : Program} {w : World} {K : PySem.W.Frag} {mg : Str → Option Value} {base : Heap}
theorem ok_dealt {f fT fR : Addr} {fd fdT fdR : FuncData} (F : Fun K "_law_deal_tables" "_law_deal_tables" sDealT f fd) (B : Blt mg)
    (GT : FnOk P w K mg base CX0 1 fT fdT ["_law_hand", "_law_many"] spTake) (mT : mg "_law_take" = some (.ref fT)) (kT : PySem.W.keepIn K (.ref fT) = true) (bT : Binds K fdT ["_law_hand", "_law_many"] [])
    (GR : FnOk P w K mg base CX0 1 fR fdR ["_law_items"] (spRiseS K)) (mR : mg "_law_rising" = some (.ref fR)) (kR : PySem.W.keepIn K (.ref fR) = true) (bR : Binds K fdR ["_law_items"] []) :
    FnOk P w K mg base CX0 2 f fd ["_law_hand", "_law_names", "_law_values"] (spDealT K) := by
  refine F.ok scDealT (fun vs H Q E h => ?_) (fun cdv A outer s H vs Q E hr h => ?_)
  · obtain ⟨h, N, Va, ws, vals, rfl, _⟩ := h
    rfl
  · obtain ⟨h, N, Va, ws, vals, rfl, hh, hN, hV, hnd, n1, n3, v5, q⟩ := h
    have hu := hu_of hr
    refine ⟨_, pss_cons (ps_set (i := 3) scDealT.nd rfl (.inl rfl) (pe_lst pa_nil))
      (pss_mid (ps_for PassesOwn.never rfl (pi_list (pv 1)) (pg_name (i := 4) scDealT.nd rfl (.inl rfl))
        (pss_cons (ps_set (i := 5) scDealT.nd rfl (.inl rfl) (pe_ix ix_list (pe_lst (pa_cons pe_int (pa_cons pe_int (pa_cons pe_int (pa_cons pe_int (pa_cons pe_int pa_nil)))))) (pe_call GT hr rfl mT kT bT .nil pass0 (pa_cons (pv 0) (pa_cons pe_int pa_nil))) (fun _ _ => rfl)))
        (pss_cons (ps_set (i := 6) scDealT.nd rfl (.inl rfl) (pe_ix ix_list (pe_lst (pa_cons (pe_lst pa_nil) (pa_cons (pe_lst (pa_cons pe_int pa_nil)) (pa_cons (pe_lst (pa_cons (pe_op op_sub (pv 5) pe_int) pa_nil)) (pa_cons (pe_slice sl_list (pe_lst (pa_cons pe_int (pa_cons pe_int pa_nil))) po_none (po_some (pe_op op_sub (pv 5) pe_int))) pa_nil)))))
          (pe_call GT hr rfl mT kT bT .nil pass0 (pa_cons (pv 0) (pa_cons pe_int pa_nil))) (fun _ _ => rfl)))
        (pss_one (ps_expr (pe_bm PySem.F.plainAttrs_list PySem.F.slot_list_append PySem.F.type_list_append mt_append (pv 3) (pa_cons (pe_lst (pa_cons (pv 4) (pa_cons (pv 5) (pa_cons (pv 6) (pa_cons pe_dnewK (pa_cons (pe_lst pa_nil) pa_nil)))))) pa_nil)))))))
      (pss_mid (ps_for PassesOwn.never rfl (pi_range1 rfl B.range (pa_cons (pe_call GT hr rfl mT kT bT .nil pass0 (pa_cons (pv 0) (pa_cons pe_int pa_nil))) pa_nil)) (pg_name (i := 7) scDealT.nd rfl (.inl rfl))
        (pss_cons (ps_set (i := 8) scDealT.nd rfl (.inl rfl) (pe_ix ix_list (pv 3) (pe_call GT hr rfl mT kT bT .nil pass0 (pa_cons (pv 0) (pa_cons (pe_callB call_len_seq (by rfl) B.len PySem.boot_len (pa_cons (pv 3) pa_nil)) pa_nil))) (fun _ _ => rfl)))
        (pss_cons (ps_set (i := 9) scDealT.nd rfl (.inl rfl) (pe_call GT hr rfl mT kT bT .nil pass0 (pa_cons (pv 0) (pa_cons pe_int pa_nil))))
        (pss_cons (ps_set (i := 10) scDealT.nd rfl (.inl rfl) (pe_slice sl_list (pv 2) (po_some (pv 9)) (po_some (pe_op op_add (pe_op op_add (pv 9) pe_int) (pe_call GT hr rfl mT kT bT .nil pass0 (pa_cons (pv 0) (pa_cons pe_int pa_nil)))))))
        (pss_one (ps_dput hu (pe_ix ix_list (pv 8) pe_int (fun _ _ => rfl)) (pe_call GT hr rfl mT kT bT .nil pass0 (pa_cons (pv 0) (pa_cons (pe_ix ix_list (pv 8) pe_int (fun _ _ => rfl)) pa_nil))) (pe_call GR hr rfl mR kR bR .nil pass0 (pa_cons (pv 10) pa_nil)) rfl))))))
      (pss_mid (ps_for PassesOwn.never rfl (pi_range1 rfl B.range (pa_cons (pe_op op_mul (pe_call GT hr rfl mT kT bT .nil pass0 (pa_cons (pv 0) (pa_cons pe_int pa_nil))) (pe_callTy call_int1 (by rfl) B.int bInt (pa_cons (pe_cmpR op_gt (pe_callB call_len_seq (by rfl) B.len PySem.boot_len (pa_cons (pv 3) pa_nil)) pe_int (nomark _)) pa_nil))) pa_nil)) (pg_name (i := 7) scDealT.nd rfl (.inl rfl))
        (pss_cons (ps_set (i := 11) scDealT.nd rfl (.inl rfl) (pe_call GT hr rfl mT kT bT .nil pass0 (pa_cons (pv 0) (pa_cons (pe_op op_sub (pe_callB call_len_seq (by rfl) B.len PySem.boot_len (pa_cons (pv 3) pa_nil)) pe_int) pa_nil))))
        (pss_cons (ps_set (i := 12) scDealT.nd rfl (.inl rfl) (pe_op op_add (pe_op op_add (pv 11) pe_int) (pe_call GT hr rfl mT kT bT .nil pass0 (pa_cons (pv 0) (pa_cons (pe_op op_sub (pe_op op_sub (pe_callB call_len_seq (by rfl) B.len PySem.boot_len (pa_cons (pv 3) pa_nil)) pe_int) (pv 11)) pa_nil)))))
        (pss_cons (ps_set (i := 13) scDealT.nd rfl (.inl rfl) (pe_tup (pa_cons (pe_call GT hr rfl mT kT bT .nil pass0 (pa_cons (pv 0) (pa_cons (pe_ix ix_list (pe_ix ix_list (pv 3) (pv 11) (fun _ _ => rfl)) pe_int (fun _ _ => rfl)) pa_nil))) (pa_cons (pe_call GT hr rfl mT kT bT .nil pass0 (pa_cons (pv 0) (pa_cons (pe_ix ix_list (pe_ix ix_list (pv 3) (pv 12) (fun _ _ => rfl)) pe_int (fun _ _ => rfl)) pa_nil))) pa_nil))))
        (pss_one (ps_expr (pe_bm PySem.F.plainAttrs_list PySem.F.slot_list_append PySem.F.type_list_append mt_append (pe_ix ix_list (pe_ix ix_list (pv 3) (pv 11) (fun _ _ => rfl)) pe_int (fun _ _ => rfl)) (pa_cons (pe_tup (pa_cons (pe_ix ix_tup (pv 13) pe_int (fun _ _ => rfl)) (pa_cons (pe_ix ix_list (pv 1) (pv 12) (fun _ _ => rfl)) (pa_cons (pe_ix ix_tup (pv 13) pe_int (fun _ _ => rfl)) pa_nil)))) pa_nil))))))))
      (pss_one (ps_ret (pe_step (pv 3) (pe_ix ix_list (pe_lst (pa_cons pe_int (pa_cons (pe_un un_neg pe_int) pa_nil))) (pe_call GT hr rfl mT kT bT .nil pass0 (pa_cons (pv 0) (pa_cons pe_int pa_nil))) (fun _ _ => rfl)))))))), ?_⟩
    refine ⟨by decide, fun T nT => ?_⟩
    have neTh : T ≠ h := hh.ne nT
    have hNh : N ≠ h := hand_short hh (.inl ⟨_, hN, by rw [List.length_map]; omega⟩)
    have hVh : Va ≠ h := hand_short hh (.inl ⟨_, hV, by rw [List.length_map]; omega⟩)
    have s0 := same_new (o := .lst []) nT
    refine ⟨fun σ Hc => ∃ x4 x5 x6 cs rows, σ = [some (.ref h), some (.ref N), some (.ref Va), some (.ref T), x4, x5, x6, none, none, none, none, none, none, none] ∧ HandAt Hc h ∧ SBut h H Hc ∧ Grid K Hc T cs rows ∧ rows.map Rw.nm = ws ∧ (∀ c ∈ cs, H c.m = none ∧ H c.e = none) ∧ ∀ r ∈ rows, RwOwn vals r ∧ r.es = [] ∧ r.ls = [], ?_, ?_⟩
    · refine ⟨_, rfl, N, rfl, ⟨_, SqL.of (s0 _ _ hN)⟩, ?_⟩
      refine for_it (wk_list (K := K) (a := N) (l := ws) (val := V.str)) (fun i σ Hc => ∃ x4 x5 x6 cs rows, σ = [some (.ref h), some (.ref N), some (.ref Va), some (.ref T), x4, x5, x6, none, none, none, none, none, none, none] ∧ HandAt Hc h ∧ SBut h H Hc ∧ Grid K Hc T cs rows ∧ rows.map Rw.nm = ws.take i ∧ rows.length = i ∧ (∀ c ∈ cs, H c.m = none ∧ H c.e = none) ∧ ∀ r ∈ rows, RwOwn vals r ∧ r.es = [] ∧ r.ls = [])
        ⟨none, none, none, [], [], rfl, hh.same s0, Same.sbut s0, ⟨upd_same, rfl, by decide, fun i c r e => (by cases e), fun c hc => (nomatch hc), .nil, .nil, fun c hc => (nomatch hc)⟩, rfl, rfl, fun c hc => (nomatch hc), fun r hr => (nomatch hr)⟩ (fun i σ Hc _ ⟨_, _, _, _, _, _, _, e, _⟩ => SqL.of (e _ _ hNh hN)) ?_ ?_
      · rintro i x σ Hx Hc hi ⟨x4, x5, x6, cs, rows, rfl, hc, sb, g, hnm, hrl, hfr, hro⟩ ⟨rfl, z, hz, rfl⟩
        -- width
        refine ⟨by show 5 ≤ sizeLine; decide, fun L1 nL1 => ?_⟩
        have a1 := same_new (o := .lst [V.int 1, V.int 2, V.int 2, V.int 3, V.int 3]) nL1
        refine ⟨_, rfl, h, 5, rfl, hc.same a1, by decide, fun v H1 v0 v5 hh1 b1 => ?_⟩
        obtain ⟨wd, hwd, w1, w3⟩ := width_of v0 v5
        have neL1 : L1 ≠ h := hc.ne nL1
        refine ⟨L1, _, _, _, rfl, rfl, SqL.of (by rw [b1 _ neL1]; exact upd_same), hwd, ?_⟩
        have g1 := (g.same a1).hand (hc.same a1) b1.sbut
        have sb1 : SBut h H H1 := (sb.trans (Same.sbut a1)).trans b1.sbut
        -- unique
        refine ⟨by decide, fun L2 nL2 => ?_⟩
        have a2 := same_new (o := .lst []) nL2
        refine ⟨by show 1 ≤ sizeLine; decide, fun L3 nL3 => ?_⟩
        have a3 := same_new (o := .lst [V.int 0]) nL3
        refine ⟨_, rfl, _, _, rfl, rfl, by show 1 ≤ sizeLine; decide, fun L4 nL4 => ?_⟩
        have a4 := same_new (o := .lst [V.int (wd - 1)]) nL4
        refine ⟨by show 2 ≤ sizeLine; decide, fun L5 nL5 => ?_⟩
        have a5 := same_new (o := .lst [V.int 0, V.int 1]) nL5
        refine ⟨_, rfl, _, _, rfl, rfl, _, rfl, L5, _, rfl, SqL.of upd_same, fun L6 nL6 => ?_⟩
        obtain ⟨ns6, e6, l6, r6⟩ := cut01 w1 w3
        rw [e6]
        have a6 := same_new (o := .lst (ns6.map V.int)) nL6
        refine ⟨by show 4 ≤ sizeLine; decide, fun L7 nL7 => ?_⟩
        have a7 := same_new (o := .lst [V.ref L2, V.ref L3, V.ref L4, V.ref L6]) nL7
        have a26 := (((a2.trans a3).trans a4).trans a5).trans a6
        have a27 := a26.trans a7
        refine ⟨_, rfl, h, 4, rfl, hh1.same a27, by decide, fun v2 H2 u0 u4 hh2 b2 => ?_⟩
        have neL7 : L7 ≠ h := (hh1.same a26).ne nL7
        have sb12 : SBut h H1 H2 := (Same.sbut a27).trans b2.sbut
        have neL : ∀ {b : Addr} {xs : List V}, upd (upd (upd (upd (upd (upd H1 L2 (.lst [])) L3 (.lst [V.int 0])) L4 (.lst [V.int (wd - 1)])) L5 (.lst [V.int 0, V.int 1])) L6 (.lst (ns6.map V.int))) L7 (.lst [V.ref L2, V.ref L3, V.ref L4, V.ref L6]) b = some (.lst xs) → xs.length ≤ 5 → H2 b = some (.lst xs) := fun {b xs} e l => by
          rw [b2 b (hand_short (hh1.same a27) (.inl ⟨xs, e, l⟩))]
          exact e
        obtain ⟨U, ks, hU, hU2, k3, kr, nU⟩ : ∃ (U : Addr) (ks : List Int), atI [V.ref L2, V.ref L3, V.ref L4, V.ref L6] v2 = some (.ref U) ∧ H2 U = some (.lst (ks.map V.int)) ∧ ks.length ≤ 3 ∧ (∀ k ∈ ks, 0 ≤ k ∧ k < wd) ∧ H1 U = none := by
          rcases at4 (a := V.ref L2) (b := V.ref L3) (c := V.ref L4) (d := V.ref L6) u0 u4 with ⟨_, e⟩ | ⟨_, e⟩ | ⟨_, e⟩ | ⟨_, e⟩
          · exact ⟨L2, [], e, neL (((((a3.trans a4).trans a5).trans a6).trans a7) _ _ upd_same) (by decide), by decide, fun k hk => (nomatch hk), nL2⟩
          · exact ⟨L3, [0], e, neL ((((a4.trans a5).trans a6).trans a7) _ _ upd_same) (by show 1 ≤ 5; decide), by decide, fun k hk => by rw [List.mem_singleton.mp hk]; omega, a2.free nL3⟩
          · exact ⟨L4, [wd - 1], e, neL (((a5.trans a6).trans a7) _ _ upd_same) (by show 1 ≤ 5; decide), by show 1 ≤ 3; decide, fun k hk => by rw [List.mem_singleton.mp hk]; omega, (a2.trans a3).free nL4⟩
          · exact ⟨L6, ns6, e, neL (a7 _ _ upd_same) (by rw [List.length_map]; omega), l6, r6, (((a2.trans a3).trans a4).trans a5).free nL6⟩
        refine ⟨L7, _, _, _, rfl, rfl, SqL.of (neL upd_same (by show 4 ≤ 5; decide)), hU, ?_⟩
        have g2 := (g1.same a27).hand (hh1.same a27) b2.sbut
        -- the new row
        refine ⟨_, rfl, .inl ⟨rfl, _, SqL.of g2.tb⟩, _, rfl, _, rfl, _, rfl, fun d nd => ?_⟩
        have d1 := same_new (o := .dK []) nd
        refine ⟨by decide, fun eA neA => ?_⟩
        have d2 := same_new (o := .lst []) neA
        refine ⟨by show 5 ≤ sizeLine; decide, fun A nA => ?_⟩
        have d3 := same_new (o := .lst [V.str z, V.int wd, V.ref U, V.ref d, V.ref eA]) nA
        have d13 := (d1.trans d2).trans d3
        refine ⟨T, _, _, rfl, rfl, d13 _ _ g2.tb, by rw [List.length_map]; exact small1000 (Nat.le_trans g2.sml (by decide)), ?_⟩
        have cl : CellAt K (upd (upd (upd H2 d (.dK [])) eA (.lst [])) A (.lst [V.str z, V.int wd, V.ref U, V.ref d, V.ref eA])) ⟨A, U, d, eA⟩ ⟨z, wd, ks, [], []⟩ := ⟨upd_same, d13 _ _ hU2, (d2.trans d3) _ _ upd_same, .nil, fun e he => (nomatch he), ⟨[], d3 _ _ upd_same, ⟨rfl, Nat.zero_le _, fun i v e => (by cases e)⟩⟩, k3, Nat.zero_le _, Nat.zero_le _⟩
        have hne : H2 eA = none := d1.free neA
        have hnA : H2 A = none := (d1.trans d2).free nA
        have hin : ∀ c' ∈ cs, (∃ o, H1 c'.e = some o) := fun c' h => by
          obtain ⟨i, hi⟩ := List.mem_iff_getElem?.mp h
          have hr := List.getElem?_eq_getElem (show i < rows.length by rw [← g.len]; exact (List.getElem?_eq_some_iff.mp hi).1)
          obtain ⟨vs, h1, _⟩ := (g1.all i c' _ hi hr).e
          exact ⟨_, h1⟩
        have hcl : cs.length < 3 := by
          have h1 := g.len
          have h2 := n3
          omega
        refine ⟨_, _, _, cs ++ [⟨A, U, d, eA⟩], rows ++ [⟨z, wd, ks, [], []⟩], rfl, ?_, ?_, g2.more hcl d13 cl hne nd ?_ ?_ ?_ ?_ (fun u hu => (nomatch hu)) ?_, ?_, ?_, ?_, ?_⟩
        · refine HandAt.upd ?_ neTh
          exact hh2.same d13
        · exact ((sb1.trans sb12).trans (Same.sbut d13)).mut nT
        · exact ne_of_none hU2 hne
        · intro c' hc' e
          obtain ⟨o, ho⟩ := hin c' hc'
          have e : U = c'.e := e
          rw [← e, nU] at ho
          cases ho
        · exact (ne_of_none g2.tb hnA).symm
        · intro e
          have e : U = T := e
          rw [e, g1.tb] at nU
          cases nU
        · by_cases hr0 : rows = []
          · exact .inl hr0
          · refine .inr fun i c' r' h1 h2 b m => ?_
            cases hcs : cs with
            | nil => rw [hcs] at h1; cases h1
            | cons c0 cr =>
              have tb := g2.tb
              rw [hcs] at tb
              exact mine_T (g2.all i c' r' h1 h2) tb (g2.nT c' (List.mem_of_getElem? h1)) (hro r' (List.mem_of_getElem? h2)).2.1 b m
        · rw [List.map_append, hnm, take_snoc hz]
          rfl
        · rw [List.length_append, hrl]
          rfl
        · intro c' hc'
          rcases List.mem_append.mp hc' with hc' | hc'
          · exact hfr c' hc'
          · rw [List.mem_singleton.mp hc']
            exact ⟨((sb1.trans sb12).free hh2 nd).1, ((sb1.trans sb12).free hh2 hne).1⟩
        · intro r hr
          rcases List.mem_append.mp hr with hr | hr
          · exact hro r hr
          · rw [List.mem_singleton.mp hr]
            exact ⟨⟨⟨w1, w3⟩, ⟨k3, kr⟩, fun e he => (nomatch he)⟩, rfl, rfl⟩
      · rintro σ Hc ⟨x4, x5, x6, cs, rows, rfl, hc, sb, g, hnm, hrl, hfr, hro⟩
        rw [List.take_length] at hnm
        exact ⟨x4, x5, x6, cs, rows, rfl, hc, sb, g, hnm, hfr, hro⟩
    rintro σ1 H1 ⟨x4, x5, x6, cs, rows, rfl, hh1, sb1, g1, hnm1, hfr, hro1⟩
    have csl : cs.length = ws.length := by
      rw [g1.len, ← hnm1, List.length_map]
    have sum0 : ∀ (f : Rw → Nat) (rows : List Rw), (∀ r ∈ rows, f r = 0) → (rows.map f).sum = 0 := by
      intro f rows hz
      induction rows with
      | nil => rfl
      | cons r l ih =>
        show f r + (l.map f).sum = 0
        rw [hz r List.mem_cons_self, ih fun x hx => hz x (List.mem_cons_of_mem _ hx)]
    refine ⟨fun σ Hc => ∃ x7 x8 x9 x10 rows, σ = [some (.ref h), some (.ref N), some (.ref Va), some (.ref T), x4, x5, x6, x7, x8, x9, x10, none, none, none] ∧ HandAt Hc h ∧ SBut h H Hc ∧ Grid K Hc T cs rows ∧ rows.map Rw.nm = ws ∧ (∀ r ∈ rows, RwOwn vals r ∧ r.ls = []) ∧ (rows.map fun r => r.es.length).sum ≤ 2, ?_, ?_⟩
    · refine ⟨_, rfl, h, 3, rfl, hh1, by decide, fun v H2 v0 v3 hh2 b2 => ?_⟩
      have g2 := g1.hand hh1 b2.sbut
      have sb2 := sb1.trans b2.sbut
      refine ⟨v, rfl, by omega, by omega, ?_⟩
      refine for_it (walk_range (lo := 0) (n := v.toNat)) (fun i σ Hc => ∃ x7 x8 x9 x10 rows, σ = [some (.ref h), some (.ref N), some (.ref Va), some (.ref T), x4, x5, x6, x7, x8, x9, x10, none, none, none] ∧ HandAt Hc h ∧ SBut h H Hc ∧ Grid K Hc T cs rows ∧ rows.map Rw.nm = ws ∧ (∀ r ∈ rows, RwOwn vals r ∧ r.ls = []) ∧ (rows.map fun r => r.es.length).sum ≤ i)
        ⟨none, none, none, none, rows, rfl, hh2, sb2, g2, hnm1, fun r hr => ⟨(hro1 r hr).1, (hro1 r hr).2.2⟩, Nat.le_of_eq (sum0 _ _ fun r hr => by rw [(hro1 r hr).2.1]; rfl)⟩ (fun _ _ _ _ _ => trivial) ?_ ?_
      · rintro i x σ Hx Hc hi ⟨x7, x8, x9, x10, rows, rfl, hc, sb, g, hnm, hro, hsum⟩ ⟨rfl, rfl⟩
        have lenT : SqL K Hc T (cs.map fun c => V.ref c.a) := SqL.of g.tb
        refine ⟨_, rfl, _, rfl, _, rfl, T, _, rfl, .inl lenT, h, _, rfl, hc, by rw [List.length_map]; omega, fun ti H3 t0 t3 hh3 b3 => ?_⟩
        rw [List.length_map] at t3
        obtain ⟨n, rfl⟩ := Int.eq_ofNat_of_zero_le t0
        have hn : n < cs.length := Int.ofNat_lt.mp t3
        obtain ⟨c, hcn⟩ : ∃ c, cs[n]? = some c := ⟨_, List.getElem?_eq_getElem hn⟩
        obtain ⟨r, hrn⟩ : ∃ r, rows[n]? = some r := ⟨_, List.getElem?_eq_getElem (show n < rows.length by rw [← g.len]; exact hn)⟩
        have g3 := g.hand hc b3.sbut
        have sb3 := sb.trans b3.sbut
        refine ⟨T, _, _, _, rfl, rfl, SqL.of g3.tb, atI_nat (j := n) (by rw [List.getElem?_map, hcn]; rfl), ?_⟩
        refine ⟨_, rfl, h, 3, rfl, hh3, by decide, fun st H4 s0' s3' hh4 b4 => ?_⟩
        have g4 := g3.hand hh3 b4.sbut
        have sb4 := sb3.trans b4.sbut
        refine ⟨_, rfl, _, rfl, _, rfl, _, rfl, _, _, rfl, rfl, _, rfl, h, 3, rfl, hh4, by decide, fun u H5 u0 u3 hh5 b5 => ?_⟩
        have g5 := g4.hand hh4 b5.sbut
        have sb5 := sb4.trans b5.sbut
        refine ⟨_, _, rfl, rfl, _, rfl, Va, _, rfl, SqL.of (sb5 _ _ hVh hV), fun Mn nMn => ?_⟩
        obtain ⟨ms, ems, ms0, ms3, msv⟩ := cut_menu v5 s0' s3' u0 u3
        rw [ems]
        have a6 := same_new (o := .lst (ms.map V.str)) nMn
        have g6 := g5.same a6
        have hh6 := hh5.same a6
        -- rising
        refine ⟨_, rfl, Mn, ms, rfl, SqL.of upd_same, by omega, fun H7 R us s7 nR hR as hm => ?_⟩
        have g7 := g6.same s7
        have hh7 := hh6.same s7
        have cl7 := g7.all n c r hcn hrn
        refine ⟨_, rfl, c.a, _, _, _, rfl, rfl, SqL.of cl7.a, atI_nat (j := 3) rfl, ?_⟩
        have own := hro r (List.mem_of_getElem? hrn)
        refine ⟨_, rfl, _, rfl, c.a, _, _, _, rfl, rfl, SqL.of cl7.a, atI_nat (j := 1) rfl, h, r.wd, rfl, hh7, by have := own.1.wd.1; omega, fun col H8 c0 c3 hh8 b8 => ?_⟩
        have g8 := g7.hand hh7 b8.sbut
        have cl8 := g8.all n c r hcn hrn
        have sb8 : SBut h H H8 := (sb5.trans (Same.sbut (a6.trans s7))).trans b8.sbut
        have el1 : r.es.length ≤ 1 := by
          have h1 := le_sum (fun r : Rw => r.es.length) (List.mem_of_getElem? hrn)
          have h2 : r.es.length ≤ (rows.map fun r => r.es.length).sum := h1
          omega
        have neR : R ≠ h := hand_short hh7 (.inl ⟨_, hR, by rw [List.length_map]; exact Nat.le_trans (asc_sub as hm ms3) (by decide)⟩)
        have hR8 : H8 R = some (.lst (us.map V.str)) := by rw [b8 R neR]; exact hR
        have us3 : us.length ≤ 3 := asc_sub as hm ms3
        refine ⟨c.m, _, rfl, DPut.k (k := Sum.inl col) cl8.m (by rw [List.length_map]; exact small1000 (by omega)), ?_⟩
        rw [putE_kv r.es _ R us]
        have sbm : SBut c.m H8 (upd H8 c.m (.dK ((putE r.es (Sum.inl col) R us).map fun e => (e.1, V.ref e.2.1)))) := fun b o hb e => by rw [upd_ne hb]; exact e
        have tm : ∃ o, H8 c.m = some o ∧ (∀ ys, o ≠ .tup ys) ∧ ∀ u ys, o ≠ .frz u (.tup ys) := ⟨_, cl8.m, fun ys z => (nomatch z), fun u ys z => (nomatch z)⟩
        have nl : ∀ {b : Addr} {xs : List V}, H8 b = some (.lst xs) → b ≠ c.m := fun e => ne_of e cl8.m (fun z => nomatch z)
        have cl9 : CellAt K (upd H8 c.m (.dK ((putE r.es (Sum.inl col) R us).map fun e => (e.1, V.ref e.2.1)))) c { r with es := putE r.es (Sum.inl col) R us } := by
          obtain ⟨vs, e1, e2⟩ := cl8.e
          refine ⟨sbm _ _ (nl cl8.a) cl8.a, sbm _ _ (nl cl8.k) cl8.k, upd_same, putE_nd cl8.mn _ _ _, fun e he => ?_, ⟨vs, sbm _ _ (nl e1) e1, e2.sbut sbm tm⟩, cl8.kl, Nat.le_trans (putE_len _ _ _ _) (by omega), cl8.ll⟩
          rcases putE_mem he with rfl | he
          · exact ⟨sbm _ _ (nl hR8) hR8, asc_ne hm ms0, us3⟩
          · exact ⟨sbm _ _ (nl (cl8.me e he).1) (cl8.me e he).1, (cl8.me e he).2⟩
        have g9 := g8.chg hcn sbm cl9 (nl g8.tb) tm fun j c1 r1 hj h1 h2 b mb => by
          have x1 := g8.all j c1 r1 h1 h2
          rcases mb with rfl | rfl | rfl | rfl | ⟨e, he, rfl⟩
          · exact nl x1.a
          · exact nl x1.k
          · exact fun z => hj (idx_inj g8.nM h1 hcn z)
          · obtain ⟨vs, e1, _⟩ := x1.e
            exact nl e1
          · exact nl (x1.me e he).1
        refine ⟨_, _, _, _, rows.set n { r with es := putE r.es (Sum.inl col) R us }, rfl, hh8.upd (hand_short hh8 (.inr ⟨_, cl8.m⟩)), fun b o hb e => ?_, g9, ?_, fun r1 hr1 => ?_, ?_⟩
        · refine sbm _ _ (fun z => ?_) (sb8 b o hb e)
          rw [z, (hfr c (List.mem_of_getElem? hcn)).1] at e
          cases e
        · exact (map_set Rw.nm (b := { r with es := putE r.es (Sum.inl col) R us }) hrn rfl).trans hnm
        · rcases mem_set hr1 with rfl | hr1
          · refine ⟨⟨own.1.wd, own.1.ks, fun e he => ?_⟩, own.2⟩
            rcases putE_mem he with rfl | he
            · exact ⟨⟨col, rfl, c0, c3⟩, as, asc_ne hm ms0, us3, fun z hz => msv z ((hm z).mp hz)⟩
            · exact own.1.es e he
          · exact hro r1 hr1
        · exact Nat.le_trans (sum_set (fun r : Rw => r.es.length) hrn (putE_len _ _ _ _)) (by omega)
      · rintro σ Hc ⟨x7, x8, x9, x10, rows, rfl, hc, sb, g, hnm, hro, hsum⟩
        exact ⟨x7, x8, x9, x10, rows, rfl, hc, sb, g, hnm, hro, by omega⟩
    rintro σ2 H2 ⟨x7, x8, x9, x10, rows2, rfl, hh2, sb2, g2, hnm2, hro2, hsum2⟩
    refine ⟨fun σ Hc => ∃ x7 x11 x12 x13 rows, σ = [some (.ref h), some (.ref N), some (.ref Va), some (.ref T), x4, x5, x6, x7, x8, x9, x10, x11, x12, x13] ∧ HandAt Hc h ∧ SBut h H Hc ∧ Grid K Hc T cs rows ∧ Dealt ws vals rows, ?_, ?_⟩
    · refine ⟨_, rfl, h, 3, rfl, hh2, by decide, fun v H3 v0 v3 hh3 b3 => ?_⟩
      have g3 := g2.hand hh2 b3.sbut
      have sb3 := sb2.trans b3.sbut
      refine ⟨_, rfl, T, _, rfl, .inl (SqL.of g3.tb), _, _, rfl, rfl, .inr ⟨_, rfl, _, _, rfl, rfl, .inl ⟨by omega, by omega⟩, ?_⟩⟩
      obtain ⟨jj, hjj, j0, j2, jl⟩ : ∃ jj : Int, v * (if decide ((1 : Int) < (((cs.map fun c => V.ref c.a).length : Nat) : Int)) = true then 1 else 0) = jj ∧ 0 ≤ jj ∧ jj ≤ 2 ∧ (0 < jj → 1 < cs.length) := by
        refine ⟨_, rfl, ?_⟩
        rw [List.length_map]
        by_cases c1 : (1 : Int) < (cs.length : Int)
        · rw [decide_eq_true c1, if_pos rfl]
          exact ⟨by omega, by omega, fun _ => by omega⟩
        · rw [decide_eq_false c1, if_neg Bool.false_ne_true]
          exact ⟨by omega, by omega, fun z => by omega⟩
      refine ⟨jj, congrArg (fun i => [V.int i]) hjj, by omega, by omega, ?_⟩
      refine for_it (walk_range (lo := 0) (n := jj.toNat)) (fun i σ Hc => ∃ x7 x11 x12 x13 rows, σ = [some (.ref h), some (.ref N), some (.ref Va), some (.ref T), x4, x5, x6, x7, x8, x9, x10, x11, x12, x13] ∧ HandAt Hc h ∧ SBut h H Hc ∧ Grid K Hc T cs rows ∧ rows.map Rw.nm = ws ∧ (∀ r ∈ rows, RwOwn vals r) ∧ (rows.map fun r => r.es.length).sum ≤ 2 ∧ (∀ (i : Nat) (r : Rw), rows[i]? = some r → ∀ e ∈ r.ls, LdOk ws (rows.map Rw.wd) i e) ∧ (rows.map fun r => r.ls.length).sum ≤ i)
        ⟨x7, none, none, none, rows2, rfl, hh3, sb3, g3, hnm2, fun r hr => (hro2 r hr).1, hsum2, fun i r hr e he => (by rw [(hro2 r (List.mem_of_getElem? hr)).2] at he; cases he), Nat.le_of_eq (sum0 _ _ fun r hr => by rw [(hro2 r hr).2]; rfl)⟩ (fun _ _ _ _ _ => trivial) ?_ ?_
      · rintro i x σ Hx Hc hi ⟨x7, x11, x12, x13, rows, rfl, hc, sb, g, hnm, hro, hes, hld, hsum⟩ ⟨rfl, rfl⟩
        have len2 : 1 < cs.length := jl (by omega)
        have lenT : SqL K Hc T (cs.map fun c => V.ref c.a) := SqL.of g.tb
        -- low
        refine ⟨_, rfl, _, rfl, T, _, rfl, .inl lenT, _, _, rfl, rfl, h, _, rfl, hc, by rw [List.length_map]; omega, fun lo H4 l0 l3 hh4 b4 => ?_⟩
        rw [List.length_map] at l3
        obtain ⟨n, rfl⟩ := Int.eq_ofNat_of_zero_le l0
        have hn : n + 1 < cs.length := by omega
        have g4 := g.hand hc b4.sbut
        have sb4 := sb.trans b4.sbut
        -- high
        refine ⟨_, rfl, _, _, rfl, rfl, _, rfl, _, rfl, T, _, rfl, .inl (SqL.of g4.tb), _, _, rfl, rfl, _, rfl, _, _, rfl, rfl, h, _, rfl, hh4, by rw [List.length_map]; omega, fun u H5 u0 u3 hh5 b5 => ?_⟩
        rw [List.length_map] at u3
        obtain ⟨m, rfl⟩ := Int.eq_ofNat_of_zero_le u0
        have hm : n + 1 + m < cs.length := by omega
        have g5 := g4.hand hh4 b5.sbut
        have sb5 := sb4.trans b5.sbut
        refine ⟨_, _, rfl, rfl, ?_⟩
        have rl : rows.length = cs.length := g.len.symm
        obtain ⟨c, hcn⟩ : ∃ c, cs[n]? = some c := ⟨_, List.getElem?_eq_getElem (by omega)⟩
        obtain ⟨r, hrn⟩ : ∃ r, rows[n]? = some r := ⟨_, List.getElem?_eq_getElem (by omega)⟩
        obtain ⟨cH, hcH⟩ : ∃ c, cs[n + 1 + m]? = some c := ⟨_, List.getElem?_eq_getElem hm⟩
        obtain ⟨rH, hrH⟩ : ∃ r, rows[n + 1 + m]? = some r := ⟨_, List.getElem?_eq_getElem (by omega)⟩
        have own := hro r (List.mem_of_getElem? hrn)
        have ownH := hro rH (List.mem_of_getElem? hrH)
        have tat : ∀ (j : Nat) (c : Cell), cs[j]? = some c → atI (cs.map fun c => V.ref c.a) (j : Int) = some (.ref c.a) := fun j c h => atI_nat (by rw [List.getElem?_map, h]; rfl)
        have hdv : ((n : Int) + 1 + (m : Int)) = ((n + 1 + m : Nat) : Int) := rfl
        -- the ends
        refine ⟨_, rfl, _, rfl, _, rfl, T, _, _, _, rfl, rfl, SqL.of g5.tb, tat n c hcn, c.a, _, _, _, rfl, rfl, SqL.of (g5.all n c r hcn hrn).a, atI_nat (j := 1) rfl, h, r.wd, rfl, hh5, by have := own.wd.1; omega, fun ea H6 a0 a3 hh6 b6 => ?_⟩
        have g6 := g5.hand hh5 b6.sbut
        have sb6 := sb5.trans b6.sbut
        refine ⟨_, rfl, _, rfl, _, rfl, T, _, _, _, rfl, rfl, SqL.of g6.tb, tat (n + 1 + m) cH hcH, cH.a, _, _, _, rfl, rfl, SqL.of (g6.all _ cH rH hcH hrH).a, atI_nat (j := 1) rfl, h, rH.wd, rfl, hh6, by have := ownH.wd.1; omega, fun eb H7 e0 e3 hh7 b7 => ?_⟩
        have g7 := g6.hand hh6 b7.sbut
        have sb7 := sb6.trans b7.sbut
        refine ⟨by show 2 ≤ sizeLine; decide, fun Tp nTp => ?_⟩
        have a8 := same_new (o := .tup [V.int ea, V.int eb]) nTp
        have g8 := g7.same a8
        have hh8 := hh7.same a8
        have sb8 := sb7.trans (Same.sbut a8)
        obtain ⟨vs, hvs, hlv⟩ := (g8.all n c r hcn hrn).e
        -- append
        refine ⟨_, rfl, _, rfl, T, _, _, _, rfl, rfl, SqL.of g8.tb, tat n c hcn, c.a, _, _, _, rfl, rfl, SqL.of (g8.all n c r hcn hrn).a, atI_nat (j := 4) rfl, .inl ⟨rfl, _, SqL.of hvs⟩, ?_⟩
        obtain ⟨nmH, hnmH⟩ : ∃ z, ws[n + 1 + m]? = some z := ⟨_, List.getElem?_eq_getElem (by omega)⟩
        refine ⟨_, rfl, Tp, _, _, _, rfl, rfl, SqT.of upd_same, atI_nat (j := 0) rfl, ?_⟩
        refine ⟨_, rfl, _, rfl, N, _, _, _, rfl, rfl, SqL.of (sb8 _ _ hNh hN), atI_nat (j := n + 1 + m) (by rw [List.getElem?_map, hnmH]; rfl), ?_⟩
        refine ⟨_, rfl, Tp, _, _, _, rfl, rfl, SqT.of upd_same, atI_nat (j := 1) rfl, by show 3 ≤ sizeLine; decide, fun Tq nTq => ?_⟩
        have a9 := same_new (o := .tup [V.int ea, V.str nmH, V.int eb]) nTq
        have g9 := g8.same a9
        have hh9 := hh8.same a9
        have sb9 := sb8.trans (Same.sbut a9)
        have hv9 := a9 _ _ hvs
        have hl9 := hlv.same a9
        have ll1 : r.ls.length ≤ 1 := by
          have h1 := le_sum (fun r : Rw => r.ls.length) (List.mem_of_getElem? hrn)
          have h2 : r.ls.length ≤ (rows.map fun r => r.ls.length).sum := h1
          omega
        refine ⟨c.e, vs, _, rfl, rfl, hv9, by rw [hlv.len]; exact small1000 (by omega), ?_⟩
        obtain ⟨H9, hH9⟩ : ∃ H9, upd (upd H7 Tp (.tup [V.int ea, V.int eb])) Tq (.tup [V.int ea, V.str nmH, V.int eb]) = H9 := ⟨_, rfl⟩
        have hTq : H9 Tq = some (.tup [V.int ea, V.str nmH, V.int eb]) := by rw [← hH9]; exact upd_same
        rw [hH9] at g9 hh9 hv9 hl9 sb9 ⊢
        have sbe : SBut c.e H9 (upd H9 c.e (.lst (vs ++ [.ref Tq]))) := fun b o hb e => by rw [upd_ne hb]; exact e
        have te : ∃ o, H9 c.e = some o ∧ (∀ ys, o ≠ .tup ys) ∧ ∀ u ys, o ≠ .frz u (.tup ys) := ⟨_, hv9, fun ys z => (nomatch z), fun u ys z => (nomatch z)⟩
        have cl := g9.all n c r hcn hrn
        have hmem := List.mem_of_getElem? hcn
        have cl10 : CellAt K (upd H9 c.e (.lst (vs ++ [.ref Tq]))) c { r with ls := r.ls ++ [(ea, nmH, eb)] } := by
          refine ⟨sbe _ _ (lead_ne hl9 cl.a hv9 rfl) cl.a, sbe _ _ (g9.ke c hmem c hmem) cl.k, sbe _ _ (ne_of cl.m hv9 (fun z => nomatch z)) cl.m, cl.mn, fun e he => ?_, ⟨_, upd_same, ?_⟩, cl.kl, cl.el, ?_⟩
          · obtain ⟨z, hz⟩ := strs_head (cl.me e he).2.1
            exact ⟨sbe _ _ (lead_ne hl9 (cl.me e he).1 hv9 hz) (cl.me e he).1, (cl.me e he).2⟩
          · exact (hl9.sbut sbe te).snoc (sbe.seqT (SqT.of hTq) te) (by omega)
          · rw [List.length_append]
            show r.ls.length + 1 ≤ 2
            omega
        have g10 := g9.chg hcn sbe cl10 (g9.nT c hmem) te fun j c1 r1 hj h1 h2 b mb => by
          have x1 := g9.all j c1 r1 h1 h2
          rcases mb with rfl | rfl | rfl | rfl | ⟨e, he, rfl⟩
          · exact lead_ne hl9 x1.a hv9 rfl
          · exact g9.ke c1 (List.mem_of_getElem? h1) c hmem
          · exact ne_of x1.m hv9 (fun z => nomatch z)
          · exact fun z => hj (idx_inj g9.nE h1 hcn z)
          · obtain ⟨z, hz⟩ := strs_head (x1.me e he).2.1
            exact lead_ne hl9 (x1.me e he).1 hv9 hz
        have hwds : (rows.set n { r with ls := r.ls ++ [(ea, nmH, eb)] }).map Rw.wd = rows.map Rw.wd := map_set Rw.wd (b := { r with ls := r.ls ++ [(ea, nmH, eb)] }) hrn rfl
        refine ⟨_, _, _, _, rows.set n { r with ls := r.ls ++ [(ea, nmH, eb)] }, rfl, hh9.upd (hand_short hh9 (.inl ⟨_, hv9, by rw [hl9.len]; omega⟩)), fun b o hb e => ?_, g10, ?_, fun r1 hr1 => ?_, ?_, fun j r1 hj e he => ?_, ?_⟩
        · refine sbe _ _ (fun z => ?_) (sb9 b o hb e)
          rw [z, (hfr c hmem).2] at e
          cases e
        · exact (map_set Rw.nm (b := { r with ls := r.ls ++ [(ea, nmH, eb)] }) hrn rfl).trans hnm
        · rcases mem_set hr1 with rfl | hr1
          · exact ⟨own.wd, own.ks, own.es⟩
          · exact hro r1 hr1
        · have e1 := map_set (fun r : Rw => r.es.length) (b := { r with ls := r.ls ++ [(ea, nmH, eb)] }) hrn rfl
          have e2 : ((rows.set n { r with ls := r.ls ++ [(ea, nmH, eb)] }).map fun r => r.es.length) = rows.map fun r => r.es.length := e1
          rw [e2]
          exact hes
        · rw [hwds]
          by_cases hjn : n = j
          · subst hjn
            rw [List.getElem?_set_self (by omega)] at hj
            obtain rfl := Option.some.inj hj
            rcases List.mem_append.mp he with he | he
            · exact hld n r hrn e he
            · rw [List.mem_singleton.mp he]
              exact ⟨n + 1 + m, r.wd, rH.wd, by omega, by rw [List.getElem?_map, hrn]; rfl, by rw [List.getElem?_map, hrH]; rfl, hnmH, a0, a3, e0, e3⟩
          · rw [List.getElem?_set_ne hjn] at hj
            exact hld j r1 hj e he
        · exact Nat.le_trans (sum_set (fun r : Rw => r.ls.length) hrn (by show (r.ls ++ _).length ≤ _; rw [List.length_append]; exact Nat.le_refl _)) (by omega)
      · rintro σ Hc ⟨x7, x11, x12, x13, rows, rfl, hc, sb, g, hnm, hro, hes, hld, hsum⟩
        exact ⟨x7, x11, x12, x13, rows, rfl, hc, sb, g, ⟨hnm, hro, hld, hes, by omega⟩⟩
    rintro σ3 H3 ⟨x7, x11, x12, x13, rows, rfl, hh3, sb3, g3, dl⟩
    refine ⟨_, rfl, 1, rfl, by show 2 ≤ sizeLine; decide, fun L nL => ?_⟩
    have a4 := same_new (o := .lst [V.int 1, V.int (-1)]) nL
    refine ⟨_, rfl, h, 2, rfl, hh3.same a4, by decide, fun v H5 v0 v2 hh5 b5 => ?_⟩
    have neL : L ≠ h := hh3.ne nL
    have g5 := (g3.same a4).hand (hh3.same a4) b5.sbut
    have sb5 : SBut h H H5 := (sb3.trans (Same.sbut a4)).trans b5.sbut
    have hL5 : H5 L = some (.lst [V.int 1, V.int (-1)]) := by rw [b5 L neL]; exact upd_same
    have hv : v = 0 ∨ v = 1 := by omega
    rcases hv with rfl | rfl
    · refine ⟨L, _, _, _, rfl, rfl, SqL.of hL5, atI_nat (j := 0) rfl, 1, rfl, T, _, rfl, SqL.of g5.tb, .inl ⟨rfl, fun p np => ?_⟩⟩
      have a6 := same_new (o := .lst (cs.map fun c => V.ref c.a)) np
      obtain ⟨np0, nph⟩ := sb5.free hh5 np
      exact q _ p _ rows (hh5.same a6) (sb5.trans (Same.sbut a6)) np0 nph upd_same (.inl ⟨(g5.same a6).rows (SqL.of upd_same), dl⟩)
    · refine ⟨L, _, _, _, rfl, rfl, SqL.of hL5, atI_nat (j := 1) rfl, -1, rfl, T, _, rfl, SqL.of g5.tb, .inr ⟨rfl, fun p np => ?_⟩⟩
      have a6 := same_new (o := .lst (cs.map fun c => V.ref c.a).reverse) np
      obtain ⟨np0, nph⟩ := sb5.free hh5 np
      exact q _ p _ rows (hh5.same a6) (sb5.trans (Same.sbut a6)) np0 nph upd_same (.inr ⟨((g5.same a6).rows (SqL.of (g5.same a6).tb)).rev (SqL.of upd_same), dl⟩)
end
end Sw
namespace Sw
open PySem PySem.Spec PyProof.Rows L2 NdefX
abbrev sFind : Stmt := topS 45
abbrev nFind : List Str := ["_law_tables", "_law_name", "_law_table"]
theorem scFind : FnScope nFind ["_law_tables", "_law_name"] (defScope sFind) := ⟨rfl, rfl, rfl, by decide +kernel, rfl, by decide +kernel, by decide +kernel⟩
abbrev sCost : Stmt := topS 47
abbrev nCost : List Str := ["_law_tables", "_law_name", "_law_table", "_law_lead"]
theorem scCost : FnScope nCost ["_law_tables", "_law_name"] (defScope sCost) := ⟨rfl, rfl, rfl, by decide +kernel, rfl, by decide +kernel, by decide +kernel⟩
section
variable {P : Program} {w : World} {K : PySem.W.Frag} {mg : Str → Option Value} {base : Heap}
theorem ok_find {f : Addr} {fd : FuncData} (F : Fun K "_law_find" "_law_find" sFind f fd) : FnOk P w K mg base CX0 1 f fd ["_law_tables", "_law_name"] (spFind K) := by
  refine F.ok scFind (fun vs H Q E h => ?_) (fun cdv A outer s H vs Q E hr h => ?_)
  · obtain ⟨a, z, xs, rows, rfl, _⟩ := h
    rfl
  · obtain ⟨a, z, xs, rows, rfl, ha, hl, hz, q⟩ := h
    refine ⟨_, pss_one (ps_ret (pe_ix ix_list (pe_lc (own := [("_law_table", 2)]) (g := gName 2) (tt := tTest (tOp rEq (tOp (rIxL K) (tVar 2) (tC (.int 0))) (tVar 1))) rfl scFind.nd (pi_list (pv 0)) (blkOk_by (N := nFind) (sc := defScope sFind) (by decide +kernel)) (fun _ _ _ _ _ => pg_name (i := 2) scFind.nd rfl (Or.inl rfl))
      (fun _ _ _ _ _ => pts_one (pt_cmpR op_eq (pe_ix ix_list (pv 2) pe_int (fun _ _ => rfl)) (pv 1) (nomark _))) (fun _ _ _ _ _ => pv 2)) pe_int (fun _ _ => rfl))), ?_⟩
    have hzx : (xs.zip rows).map Prod.fst = xs := zip_fst ha.len
    refine ⟨_, rfl, a, rfl, ⟨_, ha.at_⟩, fun D nD => ?_⟩
    refine lc_filter (wk_list (K := K) (a := a) (l := xs.zip rows) (val := Prod.fst)) (p := fun u => decide (V.str u.2.nm = V.str z)) (out := Prod.fst) (fun o => by rw [hzx]; exact (same_new nD).seq ha.at_) (by rw [List.length_zip]; omega) (fun _ => rfl) (fun i u acc Q hu hq => ?_) (fun i u acc Q hu _ hq => ⟨_, rfl, hq⟩) ?_
    · obtain ⟨h1, h2⟩ := zip_at hu
      obtain ⟨r, h3, ⟨b, k, m, e, vs, eb, g1, _⟩, _⟩ := ha.all i u.1 h1
      rw [h2] at h3
      obtain rfl := Option.some.inj h3
      exact ⟨_, rfl, b, _, _, _, congrArg (fun v => v) eb, rfl, (same_new nD).seq g1, atI_nat (j := 0) rfl, _, rfl, rfl, _, rfl, hq⟩
    · obtain ⟨r, hr, hrn⟩ := List.mem_map.mp hz
      obtain ⟨i, hi⟩ := List.mem_iff_getElem?.mp hr
      have hx := List.getElem?_eq_getElem (show i < xs.length by rw [ha.len]; exact (List.getElem?_eq_some_iff.mp hi).1)
      have hin : (xs[i]'(by rw [ha.len]; exact (List.getElem?_eq_some_iff.mp hi).1), r) ∈ (xs.zip rows).filter fun u => decide (V.str u.2.nm = V.str z) := by
        refine List.mem_filter.mpr ⟨List.mem_of_getElem? (i := i) (List.getElem?_zip_eq_some.mpr ⟨hx, hi⟩), ?_⟩
        show decide (V.str r.nm = V.str z) = true
        rw [hrn]
        exact decide_eq_true rfl
      cases hf : (xs.zip rows).filter fun u => decide (V.str u.2.nm = V.str z) with
      | nil => rw [hf] at hin; cases hin
      | cons u rest =>
        have hu : u ∈ (xs.zip rows).filter fun u => decide (V.str u.2.nm = V.str z) := by rw [hf]; exact List.mem_cons_self
        obtain ⟨h1, h2⟩ := List.mem_filter.mp hu
        obtain ⟨j, hj⟩ := List.mem_iff_getElem?.mp h1
        obtain ⟨h3, h4⟩ := zip_at hj
        exact ⟨D, _, _, _, rfl, rfl, SqL.of upd_same, atI_nat (j := 0) rfl, q _ j u.1 u.2 (same_new nD) h3 h4 (V.str.inj (of_decide_eq_true h2))⟩
theorem ok_cost {f fF : Addr} {fd fdF : FuncData} (F : Fun K "_law_cost" "_law_cost" sCost f fd) (bC : Binds K fd ["_law_tables", "_law_name"] []) (mC : mg "_law_cost" = some (.ref f)) (hlen : mg "len" = none) (hsum : mg "sum" = none)
    (GF : FnOk P w K mg base CX0 1 fF fdF ["_law_tables", "_law_name"] (spFind K)) (mF : mg "_law_find" = some (.ref fF)) (kF : PySem.W.keepIn K (.ref fF) = true) (bF : Binds K fdF ["_law_tables", "_law_name"] []) :
    ∀ d : Nat, FnOk P w K mg base CX0 (d + 1) f fd ["_law_tables", "_law_name"] (spCost K d) := by
  intro d
  induction d with
  | zero =>
    refine F.ok scCost (fun vs H Q E h => ?_) (fun cdv A outer s H vs Q E hr h => ?_)
    · obtain ⟨a, z, xs, rows, rfl, _⟩ := h
      rfl
    · obtain ⟨a, z, xs, rows, rfl, _, _, h, _⟩ := h
      exact h.elim
  | succ d GC =>
    refine F.ok scCost (fun vs H Q E h => ?_) (fun cdv A outer s H vs Q E hr h => ?_)
    · obtain ⟨a, z, xs, rows, rfl, _⟩ := h
      rfl
    · obtain ⟨a, z, xs, rows, rfl, ha, hl, hh, q⟩ := h
      have hu := hu_of hr
      refine ⟨_, pss_cons (ps_set (i := 2) scCost.nd rfl (.inl rfl) (pe_call GF (hr.mono (by omega)) rfl mF kF bF .nil pass0 (pa_cons (pv 0) (pa_cons (pv 1) pa_nil))))
        (pss_one (ps_ret (pe_op op_add (pe_callB call_lenD (by rfl) hlen PySem.boot_len (pa_cons (pe_ix ix_list (pv 2) pe_int (fun _ _ => rfl)) pa_nil))
          (pe_callB (cr_sum rfl) (by rfl) hsum PyProof.Rows.boot_sum (pa_cons (pe_lc (own := [("_law_lead", 3)]) (g := gName 3) (tt := tYes) (te := tCall (spCost K d) [] E0 (tCons (tVar 0) (tCons (tOp (rIxT K) (tVar 3) (tC (.int 1))) tNil))) rfl scCost.nd (pi_list (pe_ix ix_list (pv 2) pe_int (fun _ _ => rfl))) (blkOk_by (N := nCost) (sc := defScope sCost) (by decide +kernel)) (fun _ _ _ _ _ => pg_name (i := 3) scCost.nd rfl (Or.inl rfl))
            (fun _ _ _ _ _ => pts_nil) (fun _ _ _ _ _ => pe_call GC hr rfl mC F.kp bC .nil pass0 (pa_cons (pv 0) (pa_cons (pe_ix ix_tup (pv 3) pe_int (fun _ _ => rfl)) pa_nil)))) pa_nil))))), ?_⟩
      refine ⟨_, rfl, _, rfl, a, z, xs, rows, rfl, ha, hl, hh.1, fun H1 i v r s1 hx hr1 hn => ?_⟩
      obtain ⟨r', hr2, hrw⟩ := (ha.same s1).all i v hx
      rw [hr1] at hr2
      obtain rfl := Option.some.inj hr2
      obtain ⟨⟨b, k, m, e, vs, rfl, g1, g2, g3, g4, g5⟩, g6⟩ := hrw
      refine ⟨_, rfl, b, _, _, _, rfl, rfl, g1, atI_nat (j := 3) rfl, m, _, rfl, g3.at_, ?_⟩
      refine ⟨_, rfl, b, _, _, _, rfl, rfl, g1, atI_nat (j := 4) rfl, e, rfl, ⟨_, g4⟩, fun D nD => ?_⟩
      have hin := List.mem_of_getElem? hr1
      refine lc_it (walk_list (K := K) (a := e) (xs := vs)) (fun i Hc => ∃ ns : List Int, Hc D = some (.lst (ns.map V.int)) ∧ ns.length = i ∧ Same H1 Hc) ⟨[], upd_same, rfl, same_new nD⟩ (fun i Hc _ ⟨_, _, _, s⟩ => s.seq g4) ?_ ?_
      · rintro j x Hc Hy hj ⟨ns, hD, hnl, sm⟩ ⟨rfl, hx2⟩
        obtain ⟨le, h1, q1, rfl, h2⟩ := g5.all j x hx2
        refine ⟨rfl, ?_⟩
        refine ⟨_, rfl, _, rfl, q1, _, _, _, rfl, rfl, same_seqT sm h2, atI_nat (j := 1) rfl, ?_⟩
        refine ⟨a, le.2.1, xs, rows, rfl, ha.same (s1.trans sm), hl, hh.2 r hin hn le (List.mem_of_getElem? h1), fun H' c s' => ?_⟩
        have hD' := s' _ _ hD
        have hsml := g5.sml
        have hlen := g5.len
        refine ⟨_, hD', by rw [List.length_map]; exact small1000 (by omega), ns ++ [c], ?_, ?_, same_mut (sm.trans s') nD⟩
        · rw [upd_same, List.map_append]
          rfl
        · rw [List.length_append, hnl]
          rfl
      · rintro Hc ⟨ns, hD, hnl, sm⟩
        exact ⟨D, ns, rfl, SqL.of hD, _, _, rfl, rfl, q _ _ (s1.trans sm)⟩
end
end Sw
namespace Sw
open PySem PySem.Spec PyProof.Rows L2 NdefX
abbrev sVars : Stmt := topS 48
abbrev nVars : List Str := ["_law_shapes", "_law_items", "_law_shape", "_law_item", "_law_k"]
theorem scVars : FnScope nVars ["_law_shapes"] (defScope sVars) := ⟨rfl, rfl, rfl, by decide +kernel, rfl, by decide +kernel, by decide +kernel⟩
section
variable {P : Program} {w : World} {K : PySem.W.Frag} {mg : Str → Option Value} {base : Heap}
theorem ok_vars {f : Addr} {fd : FuncData} (F : Fun K "_law_vars" "_law_vars" sVars f fd) (B : Blt mg) : FnOk P w K mg base CX0 1 f fd ["_law_shapes"] (spVars K) := by
  refine F.ok scVars (fun vs H Q E h => ?_) (fun cdv A outer s H vs Q E hr h => ?_)
  · obtain ⟨a, xs, ss, rfl, _⟩ := h
    rfl
  · obtain ⟨a, xs, ss, rfl, ha, q⟩ := h
    refine ⟨_, pss_cons (ps_set (i := 1) scVars.nd rfl (.inr rfl) (pe_lst pa_nil))
      (pss_cons (ps_for PassesOwn.never rfl (pi_list (pv 0)) (pg_name (i := 2) scVars.nd rfl (.inl rfl))
        (pss_one (ps_set (i := 1) scVars.nd rfl (.inr rfl) (pe_op op_joinL (pv 1) (pe_lc (own := [("_law_item", 3)]) (g := gName 3) (tt := tTest (tOp rEq (tSl rSlS (tVar 3) tNoPart (tPart (tC (.int 1)))) (tC (.str "?")))) rfl scVars.nd (pi_tup (pe_slice sl_tup (pv 2) (po_some pe_int) po_none)) (blkOk_by (N := nVars) (sc := defScope sVars) (by decide +kernel))
          (fun _ _ _ _ _ => pg_name (i := 3) scVars.nd rfl (Or.inl rfl)) (fun _ _ _ _ _ => pts_one (pt_cmpR op_eq (pe_slice sl_str (pv 3) po_none (po_some pe_int)) pe_str (nomark _))) (fun _ _ _ _ _ => pv 3))))))
      (pss_one (ps_ret (pe_lc (own := [("_law_k", 4)]) (g := gName 4) (tt := tTest (tOp (rIn K true) (tOp (rIxL K) (tVar 1) (tVar 4)) (tSl (rSlL K) (tVar 1) tNoPart (tPart (tVar 4))))) (te := tOp (rIxL K) (tVar 1) (tVar 4)) rfl scVars.nd (pi_range1 rfl B.range (pa_cons (pe_callB call_len_seq (by rfl) B.len PySem.boot_len (pa_cons (pv 1) pa_nil)) pa_nil)) (blkOk_by (N := nVars) (sc := defScope sVars) (by decide +kernel))
          (fun _ _ _ _ _ => pg_name (i := 4) scVars.nd rfl (Or.inl rfl)) (fun _ _ _ _ _ => pts_one (pt_cmpR op_notIn_seq (pe_ix ix_list (pv 1) (pv 4) (fun _ _ => rfl)) (pe_slice sl_list (pv 1) po_none (po_some (pv 4))) (by rfl))) (fun _ _ _ _ _ => pe_ix ix_list (pv 1) (pv 4) (fun _ _ => rfl)))))), ?_⟩
    refine ⟨by decide, fun I0 nI0 => ?_⟩
    have s0 := same_new (o := .lst []) nI0
    have ssl : ∀ s ∈ ss, s.length ≤ 10 := fun s hs => by
      obtain ⟨i, hi⟩ := List.mem_iff_getElem?.mp hs
      have hx := List.getElem?_eq_getElem (show i < xs.length by rw [ha.len]; exact (List.getElem?_eq_some_iff.mp hi).1)
      obtain ⟨s', h1, _, _, h2, _⟩ := ha.all i _ hx
      rw [hi] at h1
      obtain rfl := Option.some.inj h1
      exact h2
    refine ⟨_, rfl, a, rfl, ⟨_, s0.seq ha.at_⟩, ?_⟩
    refine for_it (walk_list (K := K) (a := a) (xs := xs)) (fun i σ Hc => ∃ (x2 : Option V) (I : Addr), σ = [some (.ref a), some (.ref I), x2, none, none] ∧ Same H Hc ∧ SqL K Hc I ((allVars (ss.take i)).map V.str))
      ⟨none, I0, rfl, s0, SqL.of upd_same⟩ (fun i σ Hc _ ⟨_, _, _, e, _⟩ => e.seq ha.at_) ?_ ?_
    · rintro i v σ Hx Hc hi ⟨x2, I, rfl, sm, hI⟩ ⟨rfl, hv⟩
      obtain ⟨s, hs, ⟨b, rfl, hb⟩, l2, l10, lz⟩ := ha.all i v hv
      have hb' := same_seqT sm hb
      refine ⟨_, rfl, _, rfl, 1, rfl, b, _, rfl, hb', ?_, fun p np => ?_⟩
      · intro z
        have h1 : HT.sIx (s.map V.str).length 0 (some 1) = min 1 (s.map V.str).length := HT.sIx_nat _ 0 1
        rw [h1, List.length_map] at z
        omega
      rw [cut_tail s (by omega)]
      have sp := same_new (o := .tup (s.tail.map V.str)) np
      refine ⟨p, rfl, ⟨_, SqT.of upd_same⟩, fun D nD => ?_⟩
      have sD : ∀ o, Same _ (upd (upd Hc p (.tup (s.tail.map V.str))) D o) := fun o => same_new nD
      refine lc_filter (wk_tup (K := K) (a := p) (l := s.tail) (val := V.str)) (p := isV) (out := V.str) (fun o => SqT.of ((sD o) _ _ upd_same)) (by rw [List.length_tail]; omega) (fun _ => rfl) (fun j u acc Q hu hq => ?_) (fun j u acc Q hu _ hq => ⟨_, rfl, hq⟩) ?_
      · have hm : u ∈ s := List.mem_of_mem_tail (List.mem_of_getElem? hu)
        exact ⟨_, rfl, 1, rfl, u, rfl, Nat.le_trans (lz u hm).1 (by decide), rfl, _, rfl, hq⟩
      · have sf := sp.trans (sD (.lst ((s.tail.filter isV).map V.str)))
        have e1 : allVars (ss.take (i + 1)) = allVars (ss.take i) ++ s.tail.filter isV := by
          unfold allVars
          rw [take_snoc hs, List.flatMap_append]
          simp
        have len1 : (allVars (ss.take (i + 1))).length ≤ 100 := by
          have := allVars_len (ss := ss.take (i + 1)) fun s hs => ssl s (List.mem_of_mem_take hs)
          have h2 : (ss.take (i + 1)).length ≤ ss.length := by rw [List.length_take]; omega
          have := ha.sml
          omega
        refine ⟨I, D, _, _, rfl, rfl, sf.seq hI, SqL.of upd_same, ?_, fun p2 np2 => ?_⟩
        · rw [List.length_map, List.length_map, ← List.length_append, ← e1]
          exact Nat.le_of_lt (small1000 (by omega))
        · have s2 := same_new (o := .lst ((allVars (ss.take i)).map V.str ++ (s.tail.filter isV).map V.str)) np2
          refine ⟨_, p2, rfl, sm.trans (sf.trans s2), ?_⟩
          rw [e1, List.map_append]
          exact SqL.of upd_same
    · rintro σ H1 ⟨x2, I, rfl, sm, hI⟩
      rw [ha.len, List.take_length] at hI
      have len1 : (allVars ss).length ≤ 100 := by
        have := allVars_len ssl
        have := ha.sml
        omega
      refine ⟨_, rfl, I, _, rfl, .inl hI, _, rfl, ?_, ?_, fun D nD => ?_⟩
      · have := Int.natCast_nonneg ((allVars ss).map V.str).length
        omega
      · rw [List.length_map]
        omega
      refine lc_it (walk_range (lo := 0) (n := ((allVars ss).map V.str).length)) (fun i Hc => ∃ us : List Str, Hc D = some (.lst (us.map V.str)) ∧ us.Nodup ∧ (∀ z, z ∈ us ↔ z ∈ (allVars ss).take i) ∧ us.length ≤ i ∧ Same H1 Hc)
        ⟨[], upd_same, .nil, fun z => by simp, Nat.le_refl _, same_new nD⟩ (fun _ _ _ _ => trivial) ?_ ?_
      · rintro i x Hc Hy hi ⟨us, hD, und, hm, hul, s2⟩ ⟨rfl, rfl⟩
        rw [List.length_map] at hi
        obtain ⟨z, hz⟩ : ∃ z, (allVars ss)[i]? = some z := ⟨_, List.getElem?_eq_getElem hi⟩
        have ei : (0 : Int) + (i : Int) = ((i : Nat) : Int) := Int.zero_add _
        have hat : atI ((allVars ss).map V.str) (0 + (i : Int)) = some (V.str z) := by
          rw [ei]
          exact atI_nat (by rw [List.getElem?_map, hz]; rfl)
        refine ⟨rfl, ?_⟩
        refine ⟨_, rfl, _, rfl, I, _, _, _, rfl, rfl, s2.seq hI, hat, _, rfl, _, rfl, _, rfl, I, _, rfl, s2.seq hI, fun p np => ?_⟩
        rw [ei, cut_upto, ← List.map_take]
        have sp := same_new (o := .lst (((allVars ss).take i).map V.str)) np
        refine ⟨p, _, rfl, .inl (SqL.of upd_same), rfl, flat_str _, _, rfl, ?_⟩
        rw [inV_str]
        by_cases hzn : z ∈ (allVars ss).take i
        · have e : (if true = true then !decide (z ∈ (allVars ss).take i) else decide (z ∈ (allVars ss).take i)) = false := by simp [hzn]
          rw [e]
          refine iteF ?_
          refine ⟨us, sp _ _ hD, und, fun y => ?_, by omega, s2.trans sp⟩
          rw [hm, take_snoc hz, List.mem_append, List.mem_singleton]
          exact ⟨.inl, fun h => h.elim id fun h => by rw [h]; exact hzn⟩
        · have e : (if true = true then !decide (z ∈ (allVars ss).take i) else decide (z ∈ (allVars ss).take i)) = true := by simp [hzn]
          rw [e]
          refine iteT ?_
          refine ⟨_, rfl, _, rfl, I, _, _, _, rfl, rfl, (s2.trans sp).seq hI, hat, _, sp _ _ hD, by rw [List.length_map]; exact small1000 (by omega), us ++ [z], ?_, ?_, fun y => ?_, ?_, same_mut (s2.trans sp) nD⟩
          · rw [upd_same, List.map_append]
            rfl
          · rw [List.nodup_append]
            exact ⟨und, by simp, fun x hx y hy z' => hzn ((hm z).mp (by
              have hy : y = z := by simpa using hy
              rw [← hy, ← z']
              exact hx))⟩
          · rw [List.mem_append, List.mem_singleton, hm, take_snoc hz, List.mem_append, List.mem_singleton]
          · rw [List.length_append]
            show us.length + 1 ≤ i + 1
            omega
      · rintro Hc ⟨us, hD, und, hm, hul, s2⟩
        rw [List.length_map, List.take_length] at hm
        rw [List.length_map] at hul
        exact q Hc D us (sm.trans s2) (sm.free nD) hD und hm (by omega)
end
end Sw
namespace Sw
open PySem PySem.Spec PyProof.Rows L2 NdefX
abbrev sParts : Stmt := topS 49
abbrev nParts : List Str := ["_law_hand", "_law_tables", "_law_terms", "_law_many", "_law_room", "_law_shapes", "_law_k", "_law_table", "_law_items", "_law_at", "_law_item", "_law_menu", "_law_spot", "_law_cost_here"]
theorem scParts : FnScope nParts ["_law_hand", "_law_tables", "_law_terms", "_law_many", "_law_room"] (defScope sParts) := ⟨rfl, rfl, rfl, by decide +kernel, rfl, by decide +kernel, by decide +kernel⟩
section
variable {P : Program} {w : World} {K : PySem.W.Frag} {mg : Str → Option Value} {base : Heap}
theorem ok_parts {f fT fC : Addr} {fd fdT fdC : FuncData} (F : Fun K "_law_parts" "_law_parts" sParts f fd) (B : Blt mg) (htup : mg "tuple" = none)
    (GT : FnOk P w K mg base CX0 1 fT fdT ["_law_hand", "_law_many"] spTake) (mT : mg "_law_take" = some (.ref fT)) (kT : PySem.W.keepIn K (.ref fT) = true) (bT : Binds K fdT ["_law_hand", "_law_many"] [])
    (GC : FnOk P w K mg base CX0 4 fC fdC ["_law_tables", "_law_name"] (spCost K 3)) (mC : mg "_law_cost" = some (.ref fC)) (kC : PySem.W.keepIn K (.ref fC) = true) (bC : Binds K fdC ["_law_tables", "_law_name"] []) :
    FnOk P w K mg base CX0 5 f fd ["_law_hand", "_law_tables", "_law_terms", "_law_many", "_law_room"] (spParts K) := by
  refine F.ok scParts (fun vs H Q E h => ?_) (fun cdv A outer s H vs Q E hr h => ?_)
  · obtain ⟨h, T, Tm, many, room, xs, rows, vals, tms, rfl, _⟩ := h
    rfl
  · obtain ⟨h, T, Tm, many, room, xs, rows, vals, tms, rfl, hh, hR, ok, nml, vll, hTm, t1, t60, tl, m1, m10, q⟩ := h
    have hu := hu_of hr
    have h1 : Room 1 _ := hr.mono (by decide)
    refine ⟨_, pss_cons (ps_set (i := 5) scParts.nd rfl (.inl rfl) (pe_lst pa_nil))
      (pss_cons (ps_for PassesOwn.never rfl (pi_range1 rfl B.range (pa_cons (pv 3) pa_nil)) (pg_name (i := 6) scParts.nd rfl (.inl rfl))
        (pss_cons (ps_set (i := 7) scParts.nd rfl (.inl rfl) (pe_ix ix_list (pv 1) (pe_call GT h1 rfl mT kT bT .nil pass0 (pa_cons (pv 0) (pa_cons (pe_callB call_len_seq (by rfl) B.len PySem.boot_len (pa_cons (pv 1) pa_nil)) pa_nil))) (fun _ _ => rfl)))
        (pss_cons (ps_set (i := 8) scParts.nd rfl (.inl rfl) (pe_lst (pa_cons (pe_ix ix_list (pv 7) pe_int (fun _ _ => rfl)) pa_nil)))
        (pss_mid (ps_for PassesOwn.never rfl (pi_range1 rfl B.range (pa_cons (pe_ix ix_list (pv 7) pe_int (fun _ _ => rfl)) pa_nil)) (pg_name (i := 9) scParts.nd rfl (.inl rfl))
          (pss_cons (ps_set (i := 10) scParts.nd rfl (.inl rfl) (pe_ix ix_list (pv 2) (pe_call GT h1 rfl mT kT bT .nil pass0 (pa_cons (pv 0) (pa_cons (pe_callB call_len_seq (by rfl) B.len PySem.boot_len (pa_cons (pv 2) pa_nil)) pa_nil))) (fun _ _ => rfl)))
          (pss_cons (ps_set (i := 11) scParts.nd rfl (.inl rfl) (pe_op op_joinL (pe_dget2 hu (pe_ix ix_list (pv 7) pe_int (fun _ _ => rfl)) (pv 9) (pe_lst pa_nil) ⟨rfl, rfl, rfl, rfl⟩) (pe_lst (pa_cons (pv 10) pa_nil))))
          (pss_cons (ps_set (i := 12) scParts.nd rfl (.inl rfl) (pe_call GT h1 rfl mT kT bT .nil pass0 (pa_cons (pv 0) (pa_cons (pe_callB call_len_seq (by rfl) B.len PySem.boot_len (pa_cons (pv 11) pa_nil)) pa_nil))))
          (pss_one (ps_expr (pe_bm PySem.F.plainAttrs_list PySem.F.slot_list_append PySem.F.type_list_append mt_append (pv 8) (pa_cons
            (pe_ix ix_list (pe_lst (pa_cons (pe_ix ix_list (pv 11) (pv 12) (fun _ _ => rfl)) (pa_cons (pv 10) pa_nil))) (pe_callTy call_int1 (by rfl) B.int bInt (pa_cons (pe_cmpR op_eq (pe_slice sl_str (pv 10) po_none (po_some pe_int)) pe_str (nomark _)) pa_nil)) (fun _ _ => rfl)) pa_nil))))))))
        (pss_cons (ps_set (i := 13) scParts.nd rfl (.inl rfl) (pe_call GC hr rfl mC kC bC .nil pass0 (pa_cons (pv 1) (pa_cons (pe_ix ix_list (pv 7) pe_int (fun _ _ => rfl)) pa_nil))))
        (pss_one (ps_if (PW.pt (pw_or (pt_cmpR (op_eqD hr.units) (pv 5) (pe_lst pa_nil) (nomark _)) (pw_or1 (pt_cmpR op_le (pv 13) (pv 4) (nomark _)))))
          (pss_cons (ps_expr (pe_bm PySem.F.plainAttrs_list PySem.F.slot_list_append PySem.F.type_list_append mt_append (pv 5) (pa_cons (pe_callTy call_tuple_of (by rfl) htup bTuple (pa_cons (pv 8) pa_nil)) pa_nil)))
          (pss_one (ps_set (i := 4) scParts.nd rfl (.inl rfl) (pe_op op_sub (pv 4) (pv 13))))) pss_nil)))))))
      (pss_one (ps_ret (pv 5)))), ?_⟩
    refine ⟨by decide, fun S nS => ?_⟩
    have neS : S ≠ h := hh.ne nS
    have s0 := same_new (o := .lst []) nS
    have rl := hR.len
    have n3 := ok.n3
    have n1 := ok.n1
    refine ⟨_, rfl, (many : Int), rfl, by omega, by omega, ?_⟩
    refine for_it (walk_range (lo := 0) (n := ((many : Nat) : Int).toNat)) (fun i σ Hc => ∃ room x6 x7 x8 x9 x10 x11 x12 x13 ys ss, σ = [some (.ref h), some (.ref T), some (.ref Tm), some (.int (many : Int)), some (.int room), some (.ref S), x6, x7, x8, x9, x10, x11, x12, x13] ∧ HandAt Hc h ∧ SBut h H Hc ∧ Hc S = some (.lst ys) ∧ ShapesAt K Hc S ys ss ∧ ss.length ≤ i ∧ (1 ≤ i → 1 ≤ ss.length) ∧ ∀ s ∈ ss, PartOk rows tms s)
      ⟨room, none, none, none, none, none, none, none, none, [], [], rfl, hh.same s0, Same.sbut s0, upd_same, ⟨SqL.of upd_same, rfl, Nat.zero_le _, fun i v e => (by cases e)⟩, Nat.le_refl _, fun z => (by omega), fun s hs => (nomatch hs)⟩ (fun _ _ _ _ _ => trivial) ?_ ?_
    · rintro i x σ Hx Hc hi ⟨room, x6, x7, x8, x9, x10, x11, x12, x13, ys, ss, rfl, hc, sb, hS, hsh, hsl, hs1, hpo⟩ ⟨rfl, rfl⟩
      have hi : i < many := by rw [Int.toNat_natCast] at hi; exact hi
      have hRc := hR.hand hh sb ok
      refine ⟨_, rfl, _, rfl, _, rfl, T, _, rfl, .inl hRc.at_, h, _, rfl, hc, by omega, fun ti H1 t0' t3' hh1 b1 => ?_⟩
      obtain ⟨n, rfl⟩ := Int.eq_ofNat_of_zero_le t0'
      have hn : n < xs.length := Int.ofNat_lt.mp t3'
      have sb1 := sb.trans b1.sbut
      have hR1 := hR.hand hh sb1 ok
      have hv := List.getElem?_eq_getElem hn
      obtain ⟨r, hrn, ⟨⟨b, k, m, e, vs, eb, g1, g2, g3, g4, g5⟩, g6, g7⟩⟩ := hR1.all n _ hv
      have hrm := List.mem_of_getElem? hrn
      have own := ok.own r hrm
      rw [eb] at hv
      refine ⟨T, _, _, _, rfl, rfl, hR1.at_, atI_nat (j := n) hv, ?_⟩
      have rwat : ∀ {H' : Hp}, SBut h H1 H' → RwAt K H' (.ref b) r := fun {H'} e' => RwAt.hand (vals := vals) ⟨⟨b, k, m, e, vs, rfl, g1, g2, g3, g4, g5⟩, g6, g7⟩ hh1 e' own (ok.ls r hrm)
      refine ⟨_, rfl, b, _, _, _, rfl, rfl, g1, atI_nat (j := 0) rfl, by show 1 ≤ sizeLine; decide, fun I nI => ?_⟩
      have neI : I ≠ h := hh1.ne nI
      have sI := same_new (o := .lst [V.str r.nm]) nI
      have hS1 : H1 S = some (.lst ys) := b1.sbut _ _ neS hS
      have hsh1 := hsh.hand hc b1.sbut
      have neSI : S ≠ I := ne_of_none hS1 nI
      refine ⟨fun σ Hd => ∃ x9 x10 x11 x12 its, σ = [some (.ref h), some (.ref T), some (.ref Tm), some (.int (many : Int)), some (.int room), some (.ref S), some (.int (0 + (i : Int))), some (.ref b), some (.ref I), x9, x10, x11, x12, x13] ∧ HandAt Hd h ∧ SBut h H1 Hd ∧ Hd I = some (.lst ((r.nm :: its).map V.str)) ∧ (its.length : Int) = r.wd ∧ ∀ z ∈ its, (z ∈ tms ∨ ∃ e ∈ r.es, z ∈ e.2.2) ∧ SOk z, ?_, ?_⟩
      · have gI := (g1 : SqL K H1 b _)
        refine ⟨_, rfl, b, _, _, _, rfl, rfl, sI.seq g1, atI_nat (j := 1) rfl, r.wd, rfl, by have := own.wd; omega, by have := own.wd; omega, ?_⟩
        refine for_it (walk_range (lo := 0) (n := r.wd.toNat)) (fun j σ Hd => ∃ x9 x10 x11 x12 its, σ = [some (.ref h), some (.ref T), some (.ref Tm), some (.int (many : Int)), some (.int room), some (.ref S), some (.int (0 + (i : Int))), some (.ref b), some (.ref I), x9, x10, x11, x12, x13] ∧ HandAt Hd h ∧ SBut h H1 Hd ∧ Hd I = some (.lst ((r.nm :: its).map V.str)) ∧ its.length = j ∧ ∀ z ∈ its, (z ∈ tms ∨ ∃ e ∈ r.es, z ∈ e.2.2) ∧ SOk z)
          ⟨x9, x10, x11, x12, [], rfl, hh1.same sI, Same.sbut sI, upd_same, rfl, fun z hz => (nomatch hz)⟩ (fun _ _ _ _ _ => trivial) ?_ ?_
        · rintro j x σ Hx Hd hj ⟨x9, x10, x11, x12, its, rfl, hd, sbd, hI, hil, hio⟩ ⟨rfl, rfl⟩
          have sb2 := sb1.trans sbd
          have hTmd := sqL_hand hTm hh sb2 (by rw [List.length_map]; omega)
          -- the item
          refine ⟨_, rfl, _, rfl, _, rfl, Tm, _, rfl, .inl hTmd, h, _, rfl, hd, by rw [List.length_map]; omega, fun ui H3 u0 u3 hh3 b3 => ?_⟩
          rw [List.length_map] at u3
          obtain ⟨un, rfl⟩ := Int.eq_ofNat_of_zero_le u0
          have hun : un < tms.length := Int.ofNat_lt.mp u3
          have hz := List.getElem?_eq_getElem hun
          have hzm := List.mem_of_getElem? hz
          have zok := tl _ hzm
          generalize tms[un] = z at hz hzm zok
          have sb3 := sbd.trans b3.sbut
          have hTm3 := sqL_hand hTm hh (sb1.trans sb3) (by rw [List.length_map]; omega)
          refine ⟨Tm, _, _, _, rfl, rfl, hTm3, atI_nat (j := un) (by rw [List.getElem?_map, hz]; rfl), ?_⟩
          have hI3 : H3 I = some (.lst ((r.nm :: its).map V.str)) := b3.sbut _ _ neI hI
          -- the menu
          obtain ⟨⟨b', k', m', e', vs', eb', f1, f2, f3, f4, f5⟩, f6, f7⟩ := rwat sb3
          cases eb'
          refine ⟨_, rfl, b, _, _, _, rfl, rfl, f1, atI_nat (j := 3) rfl, m', rfl, .inl ⟨_, .inl f3.at_⟩, _, rfl, by decide, fun Dn nDn => ?_⟩
          have sD := same_new (o := .lst []) nDn
          refine ⟨_, DGet.k (k := Sum.inl (0 + (j : Int))) (sD _ _ f3.at_), _, rfl, by show 1 ≤ sizeLine; decide, fun Ln nLn => ?_⟩
          have sL := same_new (o := .lst [V.str z]) nLn
          have sDL := sD.trans sL
          obtain ⟨M0, mm, eM, hM0, hmm, mml⟩ : ∃ (M0 : Addr) (mm : List Str), ((valV (r.es.map fun e => (e.1, V.ref e.2.1)) (Sum.inl (0 + (j : Int)) : Key)).getD (.ref Dn)) = .ref M0 ∧ SqL K (upd (upd H3 Dn (.lst [])) Ln (.lst [V.str z])) M0 (mm.map V.str) ∧ (∀ y ∈ mm, ∃ e ∈ r.es, y ∈ e.2.2) ∧ mm.length ≤ 3 := by
            cases hvk : valV (r.es.map fun e => (e.1, V.ref e.2.1)) (Sum.inl (0 + (j : Int)) : Key) with
            | none => exact ⟨Dn, [], rfl, SqL.of (sL _ _ upd_same), fun y hy => (nomatch hy), by decide⟩
            | some v =>
              obtain ⟨e, he, rfl⟩ := valV_ent hvk
              exact ⟨e.2.1, e.2.2, rfl, sDL.seq (f7 e he), fun y hy => ⟨e, he, hy⟩, (own.es e he).2.2.2.1⟩
          rw [eM]
          refine ⟨M0, Ln, _, _, rfl, rfl, hM0, SqL.of upd_same, by rw [List.length_map]; exact Nat.le_of_lt (small1000 (by show mm.length + 1 ≤ 1000; omega)), fun M nM => ?_⟩
          have emz : mm.map V.str ++ [V.str z] = (mm ++ [z]).map V.str := by rw [List.map_append]; rfl
          rw [emz]
          have sM := same_new (o := .lst ((mm ++ [z]).map V.str)) nM
          have s3 := sDL.trans sM
          have hh4 := hh3.same s3
          -- the spot
          refine ⟨_, rfl, _, rfl, M, _, rfl, .inl (SqL.of upd_same), h, _, rfl, hh4, by rw [List.length_map, List.length_append]; show (0 : Int) < ((mm.length + 1 : Nat) : Int); omega, fun sp H5 p0 p3 hh5 b5 => ?_⟩
          obtain ⟨sn, rfl⟩ := Int.eq_ofNat_of_zero_le p0
          have hsn : sn < (mm ++ [z]).length := by rw [List.length_map] at p3; exact Int.ofNat_lt.mp p3
          have hw := List.getElem?_eq_getElem hsn
          have hwm := List.mem_of_getElem? hw
          generalize (mm ++ [z])[sn] = wz at hw hwm
          have sb5 : SBut h H1 H5 := (sb3.trans (Same.sbut s3)).trans b5.sbut
          have neM : M ≠ h := hand_short hh4 (.inl ⟨_, upd_same, by rw [List.length_map, List.length_append]; show mm.length + 1 ≤ 5; omega⟩)
          have hM5 : H5 M = some (.lst ((mm ++ [z]).map V.str)) := b5.sbut _ _ neM upd_same
          have hI5 : H5 I = some (.lst ((r.nm :: its).map V.str)) := b5.sbut _ _ neI (s3 _ _ hI3)
          -- append
          refine ⟨_, rfl, .inl ⟨rfl, _, SqL.of hI5⟩, ?_⟩
          refine ⟨_, rfl, _, rfl, M, _, _, _, rfl, rfl, SqL.of hM5, atI_nat (j := sn) (by rw [List.getElem?_map, hw]; rfl), _, rfl, by show 2 ≤ sizeLine; decide, fun Q1 nQ1 => ?_⟩
          have sQ := same_new (o := .lst [V.str wz, V.str z]) nQ1
          obtain ⟨y, hy, hyo⟩ : ∃ y : Str, atI [V.str wz, V.str z] (if decide (V.str (cutS z none (some 1)) = V.str "?") = true then (1 : Int) else 0) = some (.str y) ∧ (y = wz ∨ y = z) := by
            by_cases c : decide (V.str (cutS z none (some 1)) = V.str "?") = true
            · rw [if_pos c]
              exact ⟨z, atI_nat (j := 1) rfl, .inr rfl⟩
            · rw [if_neg c]
              exact ⟨wz, atI_nat (j := 0) rfl, .inl rfl⟩
          have hyok : (y ∈ tms ∨ ∃ e ∈ r.es, y ∈ e.2.2) ∧ SOk y := by
            rcases hyo with rfl | rfl
            · rcases List.mem_append.mp hwm with q1 | q1
              · obtain ⟨e, he, hye⟩ := hmm _ q1
                exact ⟨.inr ⟨e, he, hye⟩, vll _ ((own.es e he).2.2.2.2 _ hye)⟩
              · rw [List.mem_singleton.mp q1]
                exact ⟨.inl hzm, zok⟩
            · exact ⟨.inl hzm, zok⟩
          have jl : its.length ≤ 3 := by have := own.wd; omega
          refine ⟨_, rfl, 1, rfl, z, rfl, Nat.le_trans zok.1 (by decide), rfl, .inr ⟨_, rfl, Q1, _, _, _, rfl, rfl, SqL.of upd_same, hy, I, _, _, rfl, rfl, sQ _ _ hI5, by rw [List.length_map]; exact small1000 (by show its.length + 1 ≤ 1000; omega), ?_⟩⟩
          refine ⟨_, _, _, _, its ++ [y], rfl, (hh5.same sQ).upd neI, fun b0 o hb eo => ?_, ?_, by rw [List.length_append, hil]; rfl, fun u hu => ?_⟩
          · rw [upd_ne (fun z0 => ?_)]
            · exact sQ _ _ (sb5 b0 o hb eo)
            · rw [z0, nI] at eo
              cases eo
          · rw [upd_same]
            simp only [List.map_cons, List.map_append, List.map_nil, List.cons_append]
          · rcases List.mem_append.mp hu with hu | hu
            · exact hio u hu
            · rw [List.mem_singleton.mp hu]
              exact hyok
        · rintro σ Hd ⟨x9, x10, x11, x12, its, rfl, hd, sbd, hI, hil, hio⟩
          refine ⟨x9, x10, x11, x12, its, rfl, hd, sbd, hI, ?_, hio⟩
          have := own.wd
          rw [hil]
          omega
      rintro σ Hd ⟨x9, x10, x11, x12, its, rfl, hd, sbd, hI, hil, hio⟩
      -- the cost
      have sb2 := sb1.trans sbd
      have hRd := hR.hand hh sb2 ok
      obtain ⟨⟨b', k', m', e', vs', eb', f1, f2, f3, f4, f5⟩, f6, f7⟩ := rwat sbd
      cases eb'
      have shd := hsh1.hand hh1 sbd
      have hSd : Hd S = some (.lst ys) := sbd _ _ neS hS1
      refine ⟨_, rfl, _, rfl, b, _, _, _, rfl, rfl, f1, atI_nat (j := 0) rfl, T, r.nm, xs, rows, rfl, hRd, by omega, ok.ht r hrm, fun H6 cst s6 => ?_⟩
      have hS6 := s6 _ _ hSd
      have sh6 := shd.same s6
      have hI6 := s6 _ _ hI
      have hh6 := hd.same s6
      have sb6 : SBut h H H6 := sb2.trans (Same.sbut s6)
      -- shapes == [] or cost <= room
      refine ⟨_, rfl, by decide, fun E1 nE1 => ?_⟩
      have sE := same_new (o := .lst []) nE1
      have sokS : ∀ s ∈ ss, ∀ z ∈ s, SOk z := fun s hs => by
        obtain ⟨j, hj⟩ := List.mem_iff_getElem?.mp hs
        have hx := List.getElem?_eq_getElem (show j < ys.length by rw [hsh.len]; exact (List.getElem?_eq_some_iff.mp hj).1)
        obtain ⟨s', h1, _, _, _, h2⟩ := hsh.all j _ hx
        rw [hj] at h1
        obtain rfl := Option.some.inj h1
        exact h2
      have sh7 := sh6.same sE
      have hh7 := hh6.same sE
      have sb7 := sb6.trans (Same.sbut sE)
      have hS7 := sE _ _ hS6
      have hI7 := sE _ _ hI6
      refine ⟨_, _, .lst sh7.at_ (ShapesAt.dp sh7.len sh7.all), .lst (SqL.of upd_same) .nil, shapedShapes sokS, rfl, _, rfl, ?_⟩
      rw [eqvNil]
      generalize upd H6 E1 (.lst []) = H7 at sh7 hh7 sb7 hS7 hI7 ⊢
      have wdl := own.wd
      cases hse : ss.isEmpty with
      | true =>
        refine iteT ?_
        refine iteT ?_
        refine ⟨_, rfl, .inl ⟨rfl, _, SqL.of hS7⟩, _, rfl, I, _, rfl, .inl ⟨SqL.of hI7, fun Tq nTq => ?_⟩⟩
        have sT := same_new (o := .tup ((r.nm :: its).map V.str)) nTq
        refine ⟨S, ys, _, rfl, rfl, sT _ _ hS7, by rw [hsh.len]; exact small1000 (by omega), ?_⟩
        refine ⟨_, rfl, _, rfl, _, _, rfl, rfl, ?_⟩
        refine ⟨_, _, _, _, _, _, _, _, _, ys ++ [.ref Tq], ss ++ [r.nm :: its], rfl, (hh7.same sT).upd neS, same_past (sb7.trans (Same.sbut sT)) nS, upd_same, (sh7.same sT).snoc (sT _ _ hS7) upd_same (by omega) (by show 2 ≤ its.length + 1; omega) (by show its.length + 1 ≤ 10; omega) (fun z hz => ?_), ?_, fun _ => ?_, fun s hs => ?_⟩
        · rcases List.mem_cons.mp hz with rfl | hz
          · exact nml r hrm
          · exact (hio z hz).2
        · rw [List.length_append]
          exact Nat.succ_le_succ hsl
        · rw [List.length_append]
          exact Nat.le_add_left _ _
        · rcases List.mem_append.mp hs with hs | hs
          · exact hpo s hs
          · rw [List.mem_singleton.mp hs]
            exact ⟨r, hrm, rfl, hil, fun z hz => (hio z hz).1⟩
      | false =>
        refine iteF ?_
        refine ⟨_, rfl, _, rfl, _, _, rfl, rfl, _, rfl, ?_⟩
        refine ite2 (fun _ => ?_) (fun _ => ?_)
        · skip
          refine ⟨_, rfl, .inl ⟨rfl, _, SqL.of hS7⟩, _, rfl, I, _, rfl, .inl ⟨SqL.of hI7, fun Tq nTq => ?_⟩⟩
          have sT := same_new (o := .tup ((r.nm :: its).map V.str)) nTq
          refine ⟨S, ys, _, rfl, rfl, sT _ _ hS7, by rw [hsh.len]; exact small1000 (by omega), ?_⟩
          refine ⟨_, rfl, _, rfl, _, _, rfl, rfl, ?_⟩
          refine ⟨_, _, _, _, _, _, _, _, _, ys ++ [.ref Tq], ss ++ [r.nm :: its], rfl, (hh7.same sT).upd neS, same_past (sb7.trans (Same.sbut sT)) nS, upd_same, (sh7.same sT).snoc (sT _ _ hS7) upd_same (by omega) (by show 2 ≤ its.length + 1; omega) (by show its.length + 1 ≤ 10; omega) (fun z hz => ?_), ?_, fun _ => ?_, fun s hs => ?_⟩
          · rcases List.mem_cons.mp hz with rfl | hz
            · exact nml r hrm
            · exact (hio z hz).2
          · rw [List.length_append]
            exact Nat.succ_le_succ hsl
          · rw [List.length_append]
            exact Nat.le_add_left _ _
          · rcases List.mem_append.mp hs with hs | hs
            · exact hpo s hs
            · rw [List.mem_singleton.mp hs]
              exact ⟨r, hrm, rfl, hil, fun z hz => (hio z hz).1⟩
        · refine ⟨_, _, _, _, _, _, _, _, _, ys, ss, rfl, hh7, sb7, hS7, sh7, by omega, fun _ => ?_, hpo⟩
          cases ss with
          | nil => cases hse
          | cons a r => exact Nat.le_add_left _ _
    · rintro σ Hc ⟨room, x6, x7, x8, x9, x10, x11, x12, x13, ys, ss, rfl, hc, sb, hS, hsh, hsl, hs1, hpo⟩
      rw [Int.toNat_natCast] at hsl hs1
      exact ⟨_, rfl, q Hc S ys ss hc sb nS neS hS hsh (hs1 m1) hsl hpo⟩
end
end Sw
namespace Sw
open PySem PySem.Spec PyProof.Rows L2 NdefX
abbrev sAsk : Stmt := topS 50
abbrev nAsk : List Str := ["_law_hand", "_law_tables", "_law_values", "_law_terms", "_law_many", "_law_shapes", "_law_one", "_law_room", "_law_limits", "_law_item", "_law_start", "_law_pool", "_law_n", "_law_head"]
theorem bMin : bootBuiltins "min" = some (.builtin "min") := by decide +kernel
abbrev pAsk : List Str := ["_law_hand", "_law_tables", "_law_values", "_law_terms", "_law_many"]
theorem scAsk : FnScope nAsk pAsk (defScope sAsk) := ⟨rfl, rfl, rfl, by decide +kernel, rfl, by decide +kernel, by decide +kernel⟩
section
variable {P : Program} {w : World} {K : PySem.W.Frag} {mg : Str → Option Value} {base : Heap}
theorem ok_ask {f fT fC fP fV fR : Addr} {fd fdT fdC fdP fdV fdR : FuncData} (F : Fun K "_law_deal_ask" "_law_deal_ask" sAsk f fd) (B : Blt mg) (htup : mg "tuple" = none) (hsum : mg "sum" = none) (hmin : mg "min" = none)
    (GT : FnOk P w K mg base CX0 1 fT fdT ["_law_hand", "_law_many"] spTake) (mT : mg "_law_take" = some (.ref fT)) (kT : PySem.W.keepIn K (.ref fT) = true) (bT : Binds K fdT ["_law_hand", "_law_many"] [])
    (GR : FnOk P w K mg base CX0 1 fR fdR ["_law_items"] (spRiseS K)) (mR : mg "_law_rising" = some (.ref fR)) (kR : PySem.W.keepIn K (.ref fR) = true) (bR : Binds K fdR ["_law_items"] [])
    (GV : FnOk P w K mg base CX0 1 fV fdV ["_law_shapes"] (spVars K)) (mV : mg "_law_vars" = some (.ref fV)) (kV : PySem.W.keepIn K (.ref fV) = true) (bV : Binds K fdV ["_law_shapes"] [])
    (GC : FnOk P w K mg base CX0 4 fC fdC ["_law_tables", "_law_name"] (spCost K 3)) (mC : mg "_law_cost" = some (.ref fC)) (kC : PySem.W.keepIn K (.ref fC) = true) (bC : Binds K fdC ["_law_tables", "_law_name"] [])
    (GP : FnOk P w K mg base CX0 5 fP fdP ["_law_hand", "_law_tables", "_law_terms", "_law_many", "_law_room"] (spParts K)) (mP : mg "_law_parts" = some (.ref fP)) (kP : PySem.W.keepIn K (.ref fP) = true) (bP : Binds K fdP ["_law_hand", "_law_tables", "_law_terms", "_law_many", "_law_room"] []) :
    FnOk P w K mg base CX0 6 f fd pAsk (spAsk K) := by
  refine F.ok scAsk (fun vs H Q E h => ?_) (fun cdv A outer s H vs Q E hr h => ?_)
  · obtain ⟨h, T, Va, Tm, many, xs, rows, vals, tms, rfl, _⟩ := h
    rfl
  · obtain ⟨h, T, Va, Tm, many, xs, rows, vals, tms, rfl, hh, hR, ok, nml, vll, hV, v5, hTm, t50, tl, m1, m9, q⟩ := h
    have hu := hu_of hr
    have h1 : Room 1 _ := hr.mono (by decide)
    have h4 : Room 4 _ := hr.mono (by decide)
    refine ⟨_, pss_cons (ps_set (i := 5) scAsk.nd rfl (.inl rfl) (pe_call GP hr rfl mP kP bP .nil pass0 (pa_cons (pv 0) (pa_cons (pv 1) (pa_cons (pe_op op_joinL (pv 3) (pe_slice sl_list (pv 2) po_none (po_some pe_int))) (pa_cons (pe_op op_add pe_int (pe_call GT h1 rfl mT kT bT .nil pass0 (pa_cons (pv 0) (pa_cons (pv 4) pa_nil)))) (pa_cons pe_int pa_nil)))))))
      (pss_cons (ps_set (i := 7) scAsk.nd rfl (.inl rfl) (pe_op op_sub pe_int (pe_callB (cr_sum rfl) (by rfl) hsum PyProof.Rows.boot_sum (pa_cons (pe_lc (own := [("_law_one", 6)]) (g := gName 6) (tt := tYes) (te := tCall (spCost K 3) [] E0 (tCons (tVar 1) (tCons (tOp (rIxT K) (tVar 6) (tC (.int 0))) tNil))) rfl scAsk.nd (pi_list (pv 5)) (blkOk_by (N := nAsk) (sc := defScope sAsk) (by decide +kernel))
          (fun _ _ _ _ _ => pg_name (i := 6) scAsk.nd rfl (Or.inl rfl)) (fun _ _ _ _ _ => pts_nil) (fun _ _ _ _ _ => pe_call GC h4 rfl mC kC bC .nil pass0 (pa_cons (pv 1) (pa_cons (pe_ix ix_tup (pv 6) pe_int (fun _ _ => rfl)) pa_nil)))) pa_nil))))
      (pss_cons (ps_set (i := 8) scAsk.nd rfl (.inl rfl) pe_dnewK)
      (pss_mid (ps_for PassesOwn.never rfl (pi_list (pe_call GV h1 rfl mV kV bV .nil pass0 (pa_cons (pv 5) pa_nil))) (pg_name (i := 9) scAsk.nd rfl (.inl rfl))
        (pss_cons (ps_set (i := 10) scAsk.nd rfl (.inl rfl) (pe_call GT h1 rfl mT kT bT .nil pass0 (pa_cons (pv 0) (pa_cons pe_int pa_nil))))
        (pss_one (ps_if (PW.pt (pw_and (pt_cmpR op_lt (pe_callB call_lenD (by rfl) B.len PySem.boot_len (pa_cons (pv 8) pa_nil)) (pe_callB (call_min2 rfl) (by rfl) hmin bMin (pa_cons (pv 7) (pa_cons pe_int pa_nil))) (nomark _)) (pw_and1 (pt_cmpR op_eq (pe_call GT h1 rfl mT kT bT .nil pass0 (pa_cons (pv 0) (pa_cons pe_int pa_nil))) pe_int (nomark _)))))
          (pss_one (ps_dput hu (pv 8) (pv 9) (pe_call GR h1 rfl mR kR bR .nil pass0 (pa_cons (pe_slice sl_list (pe_slice sl_list (pv 2) (po_some (pv 10)) po_none) po_none (po_some (pe_call GT h1 rfl mT kT bT .nil pass0 (pa_cons (pv 0) (pa_cons pe_int pa_nil))))) pa_nil)) rfl)) pss_nil))))
      (pss_cons (ps_set (i := 11) scAsk.nd rfl (.inr rfl) (pe_op op_joinL (pe_call GV h1 rfl mV kV bV .nil pass0 (pa_cons (pv 5) pa_nil)) (pe_slice sl_list (pv 2) po_none (po_some pe_int))))
      (pss_cons (ps_set (i := 13) scAsk.nd rfl (.inl rfl) (pe_callTy call_tuple_of (by rfl) htup bTuple (pa_cons (pe_lc (own := [("_law_n", 12)]) (g := gName 12) (tt := tYes) (te := tOp (rIxL K) (tVar 11) (tCall spTake [] E0 (tCons (tVar 0) (tCons (tCB (fun xs H Q => ∃ p ys, xs = [V.ref p] ∧ (SqL K H p ys ∨ SqT K H p ys) ∧ Q (.int ys.length) H) (tCons (tVar 11) tNil)) tNil)))) rfl scAsk.nd (pi_range1 rfl B.range (pa_cons (pe_call GT h1 rfl mT kT bT .nil pass0 (pa_cons (pv 0) (pa_cons pe_int pa_nil))) pa_nil)) (blkOk_by (N := nAsk) (sc := defScope sAsk) (by decide +kernel))
          (fun _ _ _ _ _ => pg_name (i := 12) scAsk.nd rfl (Or.inl rfl)) (fun _ _ _ _ _ => pts_nil) (fun _ _ _ _ _ => pe_ix ix_list (pv 11) (pe_call GT h1 rfl mT kT bT .nil pass0 (pa_cons (pv 0) (pa_cons (pe_callB call_len_seq (by rfl) B.len PySem.boot_len (pa_cons (pv 11) pa_nil)) pa_nil))) (fun _ _ => rfl))) pa_nil)))
      (pss_one (ps_ret (pe_lst (pa_cons (pv 13) (pa_cons (pv 5) (pa_cons (pv 8) (pa_cons (pe_cmpR op_eq (pe_call GT h1 rfl mT kT bT .nil pass0 (pa_cons (pv 0) (pa_cons pe_int pa_nil))) pe_int (nomark _)) pa_nil)))))))))))), ?_⟩
    -- the shapes
    refine ⟨_, rfl, _, rfl, _, rfl, _, rfl, 1, rfl, Va, _, rfl, hV, fun L1 nL1 => ?_⟩
    have e1 : cutV (vals.map V.str) none (some 1) = (vals.take 1).map V.str := by
      have := cut_upto (vals.map V.str) 1
      rw [← List.map_take] at this
      exact this
    rw [e1]
    have s1 := same_new (o := .lst ((vals.take 1).map V.str)) nL1
    refine ⟨Tm, L1, _, _, rfl, rfl, s1.seq hTm, SqL.of upd_same, by rw [List.length_map, List.length_map, List.length_take]; exact Nat.le_of_lt (small1000 (by omega)), fun L2 nL2 => ?_⟩
    rw [← List.map_append]
    have s2 := s1.trans (same_new (o := .lst ((tms ++ vals.take 1).map V.str)) nL2)
    have hh2 := hh.same s2
    refine ⟨_, rfl, _, rfl, h, _, rfl, hh2, by omega, fun v H3 v0 v3 hh3 b3 => ?_⟩
    obtain ⟨m, hm, mm1, mm2⟩ : ∃ m : Nat, (1 : Int) + v = (m : Int) ∧ 1 ≤ m ∧ m ≤ many := ⟨(1 + v).toNat, by omega, by omega, by omega⟩
    refine ⟨_, _, rfl, rfl, ?_⟩
    dsimp only
    rw [hm]
    have sb3 : SBut h H H3 := (Same.sbut s2).trans b3.sbut
    have tl2 : (tms ++ vals.take 1).length ≤ 60 := by rw [List.length_append, List.length_take]; omega
    have neL2 : L2 ≠ h := (hh.same s1).ne nL2
    have hL2 : H3 L2 = some (.lst ((tms ++ vals.take 1).map V.str)) := b3.sbut _ _ neL2 upd_same
    refine ⟨h, T, L2, m, 3, xs, rows, vals, tms ++ vals.take 1, rfl, hh3, hR.hand hh sb3 ok, ok, nml, vll, SqL.of hL2, ?_, tl2, fun z hz => ?_, mm1, by omega, fun H4 S ys ss hh4 sb4 nS4 neS hS sh n1 nm po => ?_⟩
    · rw [List.length_append, List.length_take]
      omega
    · rcases List.mem_append.mp hz with hz | hz
      · exact tl z hz
      · exact vll z (List.mem_of_mem_take hz)
    have sb4' := sb3.trans sb4
    have hR4 := hR.hand hh sb4' ok
    -- the room
    refine ⟨_, rfl, S, rfl, ⟨_, sh.at_⟩, fun D nD => ?_⟩
    refine lc_it (walk_list (K := K) (a := S) (xs := ys)) (fun i Hc => ∃ ns : List Int, Hc D = some (.lst (ns.map V.int)) ∧ ns.length = i ∧ Same H4 Hc) ⟨[], upd_same, rfl, same_new nD⟩ (fun i Hc _ ⟨_, _, _, e⟩ => e.seq sh.at_) ?_ ?_
    · rintro i x Hc Hy hi ⟨ns, hD, hnl, sm⟩ ⟨rfl, hx⟩
      obtain ⟨s, hs, ⟨qq, rfl, hq⟩, _⟩ := sh.all i x hx
      obtain ⟨r, hr1, hr2, _⟩ := po s (List.mem_of_getElem? hs)
      have h0 : (s.map V.str)[0]? = some (.str r.nm) := by
        cases s with
        | nil => cases hr2
        | cons a l =>
          obtain rfl := Option.some.inj hr2
          rfl
      refine ⟨rfl, ?_⟩
      refine ⟨_, rfl, _, rfl, qq, _, _, _, rfl, rfl, same_seqT sm hq, atI_nat (j := 0) h0, T, r.nm, xs, rows, rfl, hR4.same sm, by have := ok.n3; omega, ok.ht r hr1, fun H' c s' => ?_⟩
      have hil : i < 10 := by
        have := sh.len
        have := sh.sml
        omega
      refine ⟨_, s' _ _ hD, by rw [List.length_map]; exact small1000 (by omega), ns ++ [c], ?_, ?_, same_mut (sm.trans s') nD⟩
      · rw [upd_same, List.map_append]
        rfl
      · rw [List.length_append, hnl]
        rfl
    rintro H5 ⟨ns, hD5, hnl, sm5⟩
    refine ⟨D, ns, rfl, SqL.of hD5, _, _, rfl, rfl, ?_⟩
    obtain ⟨rm, hrm⟩ : ∃ rm : Int, rm = (4 : Int) - ns.sum := ⟨_, rfl⟩
    have hh5 := hh4.same sm5
    have sb5 : SBut h H H5 := sb4'.trans (Same.sbut sm5)
    have sh5 := sh.same sm5
    -- the conditions
    refine fun Ld nLd => ?_
    have sLd := same_new (o := .dK []) nLd
    have hLd : Ld ≠ h := hh5.ne nLd
    refine ⟨fun σ Hc => ∃ x9 x10 es, σ = [some (.ref h), some (.ref T), some (.ref Va), some (.ref Tm), some (.int (many : Int)), some (.ref S), none, some (.int rm), some (.ref Ld), x9, x10, none, none, none] ∧ HandAt Hc h ∧ SBut h H5 Hc ∧ Lims K Hc Ld vals (allVars ss) es ∧ es.length ≤ 100, ?_, ?_⟩
    · refine ⟨_, rfl, S, ys, ss, rfl, sh5.same sLd, fun H6 Dv us s6 nDv hDv und hus ul => ?_⟩
      have hh6 := (hh5.same sLd).same s6
      have neDv : Dv ≠ h := (hh5.same sLd).ne nDv
      have neDL : Ld ≠ Dv := ne_of_none upd_same nDv
      refine ⟨Dv, rfl, ⟨_, SqL.of hDv⟩, ?_⟩
      refine for_it (wk_list (K := K) (a := Dv) (l := us) (val := V.str)) (fun i σ Hc => ∃ x9 x10 es, σ = [some (.ref h), some (.ref T), some (.ref Va), some (.ref Tm), some (.int (many : Int)), some (.ref S), none, some (.int rm), some (.ref Ld), x9, x10, none, none, none] ∧ HandAt Hc h ∧ SBut h H5 Hc ∧ Hc Dv = some (.lst (us.map V.str)) ∧ Lims K Hc Ld vals (allVars ss) es ∧ es.length ≤ i)
        ⟨none, none, [], by rw [hrm]; rfl, hh6, (Same.sbut (sLd.trans s6)), hDv, ⟨s6 _ _ upd_same, .nil, fun e he => (nomatch he)⟩, Nat.le_refl _⟩ (fun i σ Hc _ ⟨_, _, _, _, _, _, e, _⟩ => SqL.of e) ?_ ?_
      · rintro i x σ Hx Hc hi ⟨x9, x10, es, rfl, hc, sb, hD, lm, hel⟩ ⟨rfl, z, hz, rfl⟩
        refine ⟨_, rfl, h, 4, rfl, hc, by decide, fun st H1 t0 t4 hh1 b1 => ?_⟩
        have sb1 := sb.trans b1.sbut
        have lm1 := lm.hand hc b1.sbut
        have hD1 := b1.sbut _ _ neDv hD
        -- both tests
        refine ⟨_, rfl, Ld, _, rfl, lm1.at_, _, rfl, _, _, rfl, _, _, rfl, rfl, _, rfl, ?_⟩
        refine ite2 (fun _ => ?_) (fun _ => ?_)
        · refine ⟨_, rfl, h, 4, rfl, hh1, by decide, fun w0 H2 w1 w2 hh2' b2 => ?_⟩
          have sb2 := sb1.trans b2.sbut
          have lm2 := lm1.hand hh1 b2.sbut
          have hD2 := b2.sbut _ _ neDv hD1
          refine ⟨rfl, _, rfl, ?_⟩
          rw [dec_int]
          refine ite2 (fun _ => ?_) (fun _ => ?_)
          · have hV2 := sqL_hand hV hh (sb5.trans sb2) (by rw [List.length_map]; omega)
            obtain ⟨stn, rfl⟩ := Int.eq_ofNat_of_zero_le t0
            refine ⟨_, rfl, _, rfl, _, rfl, Va, _, rfl, hV2, fun La nLa => ?_⟩
            have ec : cutV (vals.map V.str) (some ((stn : Nat) : Int)) none = (vals.drop stn).map V.str := by
              unfold cutV
              rw [HT.sIx_nat, HT.sIx_none, List.length_map, List.map_drop, List.take_of_length_le (by rw [List.length_drop, List.length_map]; exact Nat.le_refl _)]
              congr 1
              omega
            rw [ec]
            have sa := same_new (o := .lst ((vals.drop stn).map V.str)) nLa
            have neLa : La ≠ h := hh2'.ne nLa
            refine ⟨_, rfl, h, 4, rfl, hh2'.same sa, by decide, fun u H3 u0 u4 hh3' b3 => ⟨_, rfl, ?_⟩⟩
            obtain ⟨un, rfl⟩ := Int.eq_ofNat_of_zero_le u0
            have hLa : H3 La = some (.lst ((vals.drop stn).map V.str)) := b3.sbut _ _ neLa upd_same
            refine ⟨La, _, rfl, SqL.of hLa, fun Lb nLb => ?_⟩
            rw [cut_upto, ← List.map_take]
            have sbL := same_new (o := .lst (((vals.drop stn).take un).map V.str)) nLb
            have ml : ((vals.drop stn).take un).length ≤ 3 := by rw [List.length_take]; omega
            refine ⟨Lb, _, rfl, SqL.of upd_same, by omega, fun H7 R us' s7 nR hR7 as hm => ?_⟩
            have sb7 : SBut h H5 H7 := ((sb2.trans (Same.sbut sa)).trans b3.sbut).trans (Same.sbut (sbL.trans s7))
            have lm7 := (((lm2.same sa).hand (hh2'.same sa) b3.sbut).same sbL).same s7
            have hh7 := (hh3'.same sbL).same s7
            have hD7 : H7 Dv = some (.lst (us.map V.str)) := (sbL.trans s7) _ _ (b3.sbut _ _ neDv (sa _ _ hD2))
            refine ⟨_, rfl, _, rfl, Ld, _, rfl, DPut.k (k := Sum.inr z) lm7.at_ (by rw [List.length_map]; exact small1000 (by have := (List.getElem?_eq_some_iff.mp hz).1; omega)), ?_⟩
            rw [putE_kv es _ R us']
            have nl : ∀ {b : Addr} {xs : List V}, H7 b = some (.lst xs) → b ≠ Ld := fun e => ne_of e lm7.at_ (fun z => nomatch z)
            have sbm : ∀ b o, b ≠ Ld → H7 b = some o → (upd H7 Ld (.dK ((putE es (Sum.inr z) R us').map fun e => (e.1, V.ref e.2.1)))) b = some o := fun b o hb e => by rw [upd_ne hb]; exact e
            refine ⟨_, _, putE es (Sum.inr z) R us', rfl, hh7.upd hLd, same_past sb7 nLd, sbm _ _ (nl hD7) hD7, ⟨upd_same, putE_nd lm7.nd _ _ _, fun e he => ?_⟩, Nat.le_trans (putE_len _ _ _ _) (by omega)⟩
            rcases putE_mem he with rfl | he
            · exact ⟨sbm _ _ (nl hR7) hR7, as, asc_sub as hm ml, fun y hy => List.mem_of_mem_drop (List.mem_of_mem_take ((hm y).mp hy)), z, rfl, (hus z).mp (List.mem_of_getElem? hz)⟩
            · exact ⟨sbm _ _ (nl (lm7.all e he).1) (lm7.all e he).1, (lm7.all e he).2⟩
          · exact ⟨_, _, es, rfl, hh2', sb2, hD2, lm2, by omega⟩
        · refine iteF ?_
          exact ⟨_, _, es, rfl, hh1, sb1, hD1, lm1, by omega⟩
      · rintro σ Hc ⟨x9, x10, es, rfl, hc, sb, hD, lm, hel⟩
        exact ⟨x9, x10, es, rfl, hc, sb, lm, by omega⟩
    rintro σ6 H6 ⟨x9, x10, es, rfl, hh6, sb6, lm, hel⟩
    have sh6 := sh5.hand hh5 sb6
    have sbH6 := sb5.trans sb6
    have hV6 := sqL_hand hV hh sbH6 (by rw [List.length_map]; omega)
    -- the pool
    refine ⟨_, rfl, S, ys, ss, rfl, sh6, fun H7 Dv us s7 nDv hDv und hus ul => ?_⟩
    refine ⟨_, rfl, 1, rfl, Va, _, rfl, s7.seq hV6, fun La nLa => ?_⟩
    rw [e1]
    have sa := same_new (o := .lst ((vals.take 1).map V.str)) nLa
    refine ⟨Dv, La, _, _, rfl, rfl, SqL.of (sa _ _ hDv), SqL.of upd_same, by rw [List.length_map, List.length_map, List.length_take]; exact Nat.le_of_lt (small1000 (by omega)), fun Pl nPl => ?_⟩
    rw [← List.map_append]
    have sp := same_new (o := .lst ((us ++ vals.take 1).map V.str)) nPl
    have s8 := (s7.trans sa).trans sp
    have hh8 := hh6.same s8
    have nePl : Pl ≠ h := (hh6.same (s7.trans sa)).ne nPl
    have pl1 : 1 ≤ (us ++ vals.take 1).length := by rw [List.length_append, List.length_take]; omega
    have pls : (us ++ vals.take 1).length ≤ 101 := by rw [List.length_append, List.length_take]; omega
    -- the head
    refine ⟨_, rfl, h, 4, rfl, hh8, by decide, fun v9 H9 t0 t4 hh9 b9 => ⟨v9, rfl, by omega, by omega, fun D9 nD9 => ?_⟩⟩
    have hPl9 : H9 Pl = some (.lst ((us ++ vals.take 1).map V.str)) := b9.sbut _ _ nePl upd_same
    have neD9 : D9 ≠ h := hh9.ne nD9
    refine lc_it (walk_range (lo := 0) (n := v9.toNat)) (fun i Hc => ∃ hs : List Str, Hc D9 = some (.lst (hs.map V.str)) ∧ hs.length = i ∧ HandAt Hc h ∧ SBut h H9 Hc ∧ ∀ z ∈ hs, z ∈ us ++ vals.take 1)
      ⟨[], upd_same, rfl, hh9.upd neD9, Same.sbut (same_new nD9), fun z hz => (nomatch hz)⟩ (fun _ _ _ _ => trivial) ?_ ?_
    · rintro i x Hc Hy hi ⟨hs, hD, hsl, hc, sb, hso⟩ ⟨rfl, rfl⟩
      refine ⟨rfl, ?_⟩
      have hPl := sb _ _ nePl hPl9
      refine ⟨_, rfl, _, rfl, _, rfl, Pl, _, rfl, .inl (SqL.of hPl), h, _, rfl, hc, by rw [List.length_map]; omega, fun u Hd u0 u1 hd bd => ?_⟩
      rw [List.length_map] at u1
      obtain ⟨un, rfl⟩ := Int.eq_ofNat_of_zero_le u0
      have hun : un < (us ++ vals.take 1).length := Int.ofNat_lt.mp u1
      have hz := List.getElem?_eq_getElem hun
      have hzm := List.mem_of_getElem? hz
      generalize (us ++ vals.take 1)[un] = z at hz hzm
      have hPl' := bd.sbut _ _ nePl hPl
      have hD' := bd.sbut _ _ neD9 hD
      refine ⟨Pl, _, _, _, rfl, rfl, SqL.of hPl', atI_nat (j := un) (by rw [List.getElem?_map, hz]; rfl), _, hD', by rw [List.length_map]; exact small1000 (by omega), hs ++ [z], ?_, ?_, hd.upd neD9, same_past (sb.trans bd.sbut) nD9, fun y hy => ?_⟩
      · rw [upd_same, List.map_append]
        rfl
      · rw [List.length_append, hsl]
        rfl
      · rcases List.mem_append.mp hy with hy | hy
        · exact hso y hy
        · rw [List.mem_singleton.mp hy]
          exact hzm
    rintro H10 ⟨hs, hD10, hsl, hh10, sb10, hso⟩
    refine ⟨D9, _, rfl, .inl ⟨SqL.of hD10, fun Th nTh => ?_⟩⟩
    have sT := same_new (o := .tup (hs.map V.str)) nTh
    have hh11 := hh10.same sT
    have neTh : Th ≠ h := hh10.ne nTh
    -- the question
    refine ⟨_, rfl, _, rfl, _, rfl, _, rfl, h, 2, rfl, hh11, by decide, fun w0 H12 w1 w2 hh12 b12 => ⟨rfl, by show 4 ≤ sizeLine; decide, fun A nA => ?_⟩⟩
    have sA := same_new (o := .lst [V.ref Th, V.ref S, V.ref Ld, V.bl (decide (V.int w0 = V.int 1))]) nA
    have sb12 : SBut h H6 H12 := ((((Same.sbut s8).trans b9.sbut).trans sb10).trans (Same.sbut sT)).trans b12.sbut
    have sbA : SBut h H H12 := sbH6.trans sb12
    obtain ⟨nA0, nAh⟩ := sbA.free hh12 nA
    refine q _ A ⟨hs, ss, es, decide (V.int w0 = V.int 1)⟩ (hh12.same sA) (sbA.trans (Same.sbut sA)) nA0 nAh ⟨⟨Th, S, Ld, ys, upd_same, sA _ _ (b12.sbut _ _ neTh upd_same), (sh6.hand hh6 sb12).same sA, (lm.hand hh6 sb12).same sA⟩⟩ ⟨n1, Nat.le_trans nm mm2, po, by show hs.length ≤ 3; omega, fun z hz => ?_, hel⟩
    rcases List.mem_append.mp (hso z hz) with q1 | q1
    · exact .inl ((hus z).mp q1)
    · exact .inr (List.mem_of_mem_take q1)
end
end Sw
namespace Sw
open PySem PySem.Spec PyProof.Rows L2 NdefX
abbrev sBegin : Stmt := topS 51
abbrev nBegin : List Str := ["_law_script", "_law_many", "_law_signs", "_law_hand", "_law_names", "_law_values", "_law_words", "_law_word", "_law_terms", "_law_tables"]
theorem scBegin : FnScope nBegin ["_law_script", "_law_many"] (defScope sBegin) := ⟨rfl, rfl, rfl, by decide +kernel, rfl, by decide +kernel, by decide +kernel⟩
abbrev sg36 : Str := "abcdefghijklmnopqrstuvwxyz0123456789"
section
variable {P : Program} {w : World} {K : PySem.W.Frag} {mg : Str → Option Value} {base : Heap}
theorem ok_begin {f fT fD fS fB fA : Addr} {fd fdT fdD fdS fdB fdA : FuncData} (F : Fun K "_law_begin" "_law_begin" sBegin f fd)
    (GT : FnOk P w K mg base CX0 1 fT fdT ["_law_hand", "_law_many"] spTake) (mT : mg "_law_take" = some (.ref fT)) (kT : PySem.W.keepIn K (.ref fT) = true) (bT : Binds K fdT ["_law_hand", "_law_many"] [])
    (GD : FnOk P w K mg base CX0 1 fD fdD ["_law_script", "_law_k"] (spDeal K)) (mD : mg "_law_deal" = some (.ref fD)) (kD : PySem.W.keepIn K (.ref fD) = true) (bD : Binds K fdD ["_law_script", "_law_k"] [])
    (GS : FnOk P w K mg base CX0 2 fS fdS ["_law_hand", "_law_many", "_law_signs"] spSpell) (mS : mg "_law_spell" = some (.ref fS)) (kS : PySem.W.keepIn K (.ref fS) = true) (bS : Binds K fdS ["_law_hand", "_law_many", "_law_signs"] [])
    (GB : FnOk P w K mg base CX0 2 fB fdB ["_law_hand", "_law_names", "_law_values"] (spDealT K)) (mB : mg "_law_deal_tables" = some (.ref fB)) (kB : PySem.W.keepIn K (.ref fB) = true) (bB : Binds K fdB ["_law_hand", "_law_names", "_law_values"] [])
    (GA : FnOk P w K mg base CX0 6 fA fdA pAsk (spAsk K)) (mA : mg "_law_deal_ask" = some (.ref fA)) (kA : PySem.W.keepIn K (.ref fA) = true) (bA : Binds K fdA pAsk []) :
    FnOk P w K mg base CX0 7 f fd ["_law_script", "_law_many"] (spBegin K) := by
  refine F.ok scBegin (fun vs H Q E h => ?_) (fun cdv A outer s H vs Q E hr h => ?_)
  · obtain ⟨a, ns, many, rfl, _⟩ := h
    rfl
  · obtain ⟨a, ns, many, rfl, hs, hn, m1, m9, q⟩ := h
    have h1 : Room 1 _ := hr.mono (by decide)
    have h2 : Room 2 _ := hr.mono (by decide)
    refine ⟨_, pss_cons (ps_set (i := 2) scBegin.nd rfl (.inl rfl) pe_str)
      (pss_cons (ps_set (i := 3) scBegin.nd rfl (.inl rfl) (pe_call GD h1 rfl mD kD bD .nil pass0 (pa_cons (pv 0) (pa_cons pe_int pa_nil))))
      (pss_cons (ps_set (i := 4) scBegin.nd rfl (.inl rfl) (pe_call GS h2 rfl mS kS bS .nil pass0 (pa_cons (pv 3) (pa_cons (pe_op op_add pe_int (pe_call GT h1 rfl mT kT bT .nil pass0 (pa_cons (pv 3) (pa_cons pe_int pa_nil)))) (pa_cons (pe_slice sl_str (pv 2) po_none (po_some pe_int)) pa_nil)))))
      (pss_cons (ps_set (i := 5) scBegin.nd rfl (.inl rfl) (pe_call GS h2 rfl mS kS bS .nil pass0 (pa_cons (pv 3) (pa_cons pe_int (pa_cons (pv 2) pa_nil)))))
      (pss_cons (ps_set (i := 6) scBegin.nd rfl (.inl rfl) (pe_call GS h2 rfl mS kS bS .nil pass0 (pa_cons (pv 3) (pa_cons pe_int (pa_cons (pv 2) pa_nil)))))
      (pss_mid (ps_if (pt_cmpR op_eq (pe_call GT h1 rfl mT kT bT .nil pass0 (pa_cons (pv 3) (pa_cons pe_int pa_nil))) pe_int (nomark _))
        (pss_cons (ps_set (i := 5) scBegin.nd rfl (.inl rfl) (pe_lst (pa_cons pe_str (pa_cons pe_str (pa_cons pe_str (pa_cons pe_str (pa_cons pe_str pa_nil)))))))
        (pss_one (ps_set (i := 6) scBegin.nd rfl (.inl rfl) (pe_lst (pa_cons pe_str (pa_cons pe_str (pa_cons pe_str (pa_cons pe_str pa_nil)))))))) pss_nil)
      (pss_cons (ps_setLc (i := 8) (own := [("_law_word", 7)]) (g := gName 7) (tt := tYes) rfl scBegin.nd rfl rfl (sw_true rfl rfl rfl (by decide +kernel)) (pi_list (pv 6)) (blkOk_by (N := nBegin) (sc := defScope sBegin) (by decide +kernel)) (fun _ _ _ _ _ => pg_name (i := 7) scBegin.nd rfl (Or.inl rfl)) (fun _ _ _ _ _ => pts_nil)
        (fun _ _ _ _ _ => pe_op op_add_str pe_str (pv 7)))
      (pss_cons (ps_set (i := 3) scBegin.nd rfl (.inl rfl) (pe_call GD h1 rfl mD kD bD .nil pass0 (pa_cons (pv 0) (pa_cons pe_int pa_nil))))
      (pss_cons (ps_set (i := 9) scBegin.nd rfl (.inl rfl) (pe_call GB h2 rfl mB kB bB .nil pass0 (pa_cons (pv 3) (pa_cons (pv 4) (pa_cons (pv 5) pa_nil)))))
      (pss_cons (ps_set (i := 3) scBegin.nd rfl (.inl rfl) (pe_call GD h1 rfl mD kD bD .nil pass0 (pa_cons (pv 0) (pa_cons pe_int pa_nil))))
      (pss_one (ps_ret (pe_lst (pa_cons (pv 9) (pa_cons (pv 5) (pa_cons (pv 8) (pa_cons (pe_call GA hr rfl mA kA bA .nil pass0 (pa_cons (pv 3) (pa_cons (pv 9) (pa_cons (pv 5) (pa_cons (pv 8) (pa_cons (pv 1) pa_nil)))))) pa_nil)))))))))))))))), ?_⟩
    have lt36 : ∀ c ∈ TL.tl sg36, c < 0x110000 := by decide +kernel
    have sg26 : ∃ sg : Str, cutS sg36 none (some 26) = sg ∧ (TL.tl sg).length = 26 ∧ (TL.tl sg).Nodup ∧ (∀ c ∈ TL.tl sg, c < 0x110000) ∧ ¬ 63 ∈ TL.tl sg := ⟨_, rfl, by decide +kernel, by decide +kernel, by decide +kernel, by decide +kernel⟩
    obtain ⟨sg, esg, sg1, sg2, sg3, sg4⟩ := sg26
    refine ⟨_, rfl, a, ns, 4, rfl, hs, hn, by decide, fun H1 p1 s1 n1 hh1 => ?_⟩
    -- the names
    refine ⟨_, rfl, _, rfl, p1, 3, rfl, hh1, by decide, fun v H2 v0 v3 hh2 b2 => ?_⟩
    obtain ⟨m, hm, mm1, mm3⟩ : ∃ m : Nat, (1 : Int) + v = (m : Int) ∧ 1 ≤ m ∧ m ≤ 3 := ⟨(1 + v).toNat, by omega, by omega, by omega⟩
    refine ⟨_, _, rfl, rfl, ?_⟩
    dsimp only
    rw [hm]
    refine ⟨_, rfl, 26, rfl, sg36, rfl, by decide +kernel, ?_⟩
    rw [esg]
    refine ⟨p1, m, sg, rfl, hh2, by omega, .inl sg1, sg2, fun H3 N ws hh3 sb3 nN neN hN hwl hnd hwd => ?_⟩
    have t2 : SBut p1 H1 H3 := b2.sbut.trans sb3
    -- the values, the words
    refine ⟨_, rfl, _, rfl, p1, 5, sg36, rfl, hh3, by decide, .inr (by decide +kernel), by decide +kernel, fun H4 V1 vs1 hh4 sb4 nV neV hV1 hvl hvn hvd => ?_⟩
    refine ⟨_, rfl, _, rfl, p1, 4, sg36, rfl, hh4, by decide, .inr (by decide +kernel), by decide +kernel, fun H5 W1 wd1 hh5 sb5 nW neW hW1 hdl hdn hdd => ?_⟩
    have t5 : SBut p1 H1 H5 := (t2.trans sb4).trans sb5
    have hN5 := sb5 _ _ neN (sb4 _ _ neN hN)
    have hV5 := sb5 _ _ neV hV1
    refine ⟨fun σ Hc => ∃ (Va Wo : Addr) (vals wds : List Str), σ = [some (.ref a), some (.int (many : Int)), some (.str sg36), some (.ref p1), some (.ref N), some (.ref Va), some (.ref Wo), none, none, none] ∧ SBut p1 H1 Hc ∧ Hc N = some (.lst (ws.map V.str)) ∧ Hc Va = some (.lst (vals.map V.str)) ∧ Hc Wo = some (.lst (wds.map V.str)) ∧ vals.length = 5 ∧ vals.Nodup ∧ (∀ z ∈ vals, Wd sgn z) ∧ wds.length = 4 ∧ ∀ z ∈ wds, Wd sgn z, ?_, ?_⟩
    · refine ⟨_, rfl, p1, 4, rfl, hh5, by decide, fun v2 H6 w0 w4 hh6 b6 => ⟨rfl, _, rfl, ?_⟩⟩
      rw [dec_int]
      have t6 : SBut p1 H1 H6 := t5.trans b6.sbut
      refine ite2 (fun _ => ?_) (fun _ => ?_)
      · refine ⟨by show 5 ≤ sizeLine; decide, fun Va nVa => ?_⟩
        have sv := same_new (o := .lst [V.str "v1", V.str "v2", V.str "v3", V.str "v4", V.str "v5"]) nVa
        refine ⟨by show 4 ≤ sizeLine; decide, fun Wo nWo => ?_⟩
        have sw := same_new (o := .lst [V.str "w1", V.str "w2", V.str "w3", V.str "w4"]) nWo
        refine ⟨Va, Wo, ["v1", "v2", "v3", "v4", "v5"], ["w1", "w2", "w3", "w4"], rfl, t6.trans (Same.sbut (sv.trans sw)), (sv.trans sw) _ _ (b6.sbut _ _ neN hN5), sw _ _ upd_same, upd_same, rfl, by decide +kernel, ?_, rfl, ?_⟩
        · intro z hz
          have : ∀ z ∈ (["v1", "v2", "v3", "v4", "v5"] : List Str), 1 ≤ (TL.tl z).length ∧ (TL.tl z).length ≤ 8 ∧ ∀ c ∈ TL.tl z, c ∈ TL.tl sgn := by decide +kernel
          exact this z hz
        · intro z hz
          have : ∀ z ∈ (["w1", "w2", "w3", "w4"] : List Str), 1 ≤ (TL.tl z).length ∧ (TL.tl z).length ≤ 8 ∧ ∀ c ∈ TL.tl z, c ∈ TL.tl sgn := by decide +kernel
          exact this z hz
      · exact ⟨V1, W1, vs1, wd1, rfl, t6, b6.sbut _ _ neN hN5, b6.sbut _ _ neV hV5, b6.sbut _ _ neW hW1, hvl, hvn, hvd, hdl, hdd⟩
    rintro σ6 H6 ⟨Va, Wo, vals, wds, rfl, t6, hN6, hV6, hW6, v5, vnd, vwd, w4, wwd⟩
    have vok : ∀ z ∈ vals, SOk z := fun z hz => wd_ok (vwd z hz) lt36
    have wok : ∀ z ∈ wds, z.length ≤ 900 ∧ PySem.PyData.strOk z = true := fun z hz => ⟨by rw [len_tl]; exact Nat.le_trans (wwd z hz).2.1 (by decide), (wd_ok (wwd z hz) lt36).2⟩
    have sm6 : Same H H6 := same_hand s1 n1 t6
    -- the terms
    refine ⟨_, rfl, Wo, rfl, ⟨_, SqL.of hW6⟩, fun D nD => ?_⟩
    have neWD : Wo ≠ D := ne_of_none hW6 nD
    refine lc_pure (val := V.str) (out := fun z => V.str (("?" : Str) ++ z)) (l := wds) (wk_list (K := K) (a := Wo) (val := V.str)) (fun o => SqL.of (by rw [upd_ne neWD]; exact hW6)) (by omega) (fun i u acc Q hu hq => ⟨_, rfl, _, _, rfl, rfl, ?_, hq⟩) ?_
    · have h9 := (wok u (List.mem_of_getElem? hu)).1
      have hq1 : ("?" : Str).length = 1 := by decide +kernel
      rw [hq1]
      exact room_len (by omega)
    have e7 : (wds.map fun z => V.str (("?" : Str) ++ z)) = (wds.map fun z => ("?" : Str) ++ z).map V.str := by rw [List.map_map]; rfl
    rw [e7]
    have s7 := same_new (o := .lst ((wds.map fun z => ("?" : Str) ++ z).map V.str)) nD
    have sm7 := sm6.trans s7
    have tok : ∀ z ∈ wds.map fun z => ("?" : Str) ++ z, SOk z := fun z hz => by
      obtain ⟨y, hy, rfl⟩ := List.mem_map.mp hz
      exact sok_q (wok y hy)
    have twd : ∀ z ∈ wds.map fun z => ("?" : Str) ++ z, ∃ y, z = ("?" : Str) ++ y ∧ Wd sgn y := fun z hz => by
      obtain ⟨y, hy, rfl⟩ := List.mem_map.mp hz
      exact ⟨y, rfl, wwd y hy⟩
    have t4 : (wds.map fun z => ("?" : Str) ++ z).length = 4 := by rw [List.length_map, w4]
    have hTm7 : upd H6 D (.lst ((wds.map fun z => ("?" : Str) ++ z).map V.str)) D = some (.lst ((wds.map fun z => ("?" : Str) ++ z).map V.str)) := upd_same
    generalize (wds.map fun z => ("?" : Str) ++ z) = tms at tok twd t4 s7 sm7 hTm7 ⊢
    have hN7 := s7 _ _ hN6
    have hV7 := s7 _ _ hV6
    generalize upd H6 D (.lst (tms.map V.str)) = H7 at s7 sm7 hTm7 hN7 hV7 ⊢
    -- the tables
    refine ⟨_, rfl, a, ns, 0, rfl, sm7.seq hs, hn, by decide, fun H8 p2 s8 n8 hh8 => ?_⟩
    refine ⟨_, rfl, _, rfl, _, rfl, p2, N, Va, ws, vals, rfl, hh8, s8 _ _ hN7, s8 _ _ hV7, hnd, by omega, by omega, v5, fun H9 T xs rows hh9 sb9 nT neT hT hrows => ?_⟩
    obtain ⟨rows', hR, rok, sane, nmw⟩ := dealt_way hrows hnd (by omega) (by omega)
    have sm9 : Same H7 H9 := same_hand s8 n8 sb9
    -- the question
    refine ⟨_, rfl, a, ns, 1, rfl, (sm7.trans sm9).seq hs, hn, by decide, fun H10 p3 s10 n10 hh10 => ?_⟩
    have sm10 := sm9.trans s10
    have nok : ∀ r ∈ rows', SOk r.nm := fun r hr => wd_ok (hwd _ (nmw r hr)) sg3
    have nwd : ∀ r ∈ rows', isV r.nm = false := fun r hr => by
      cases e : isV r.nm with
      | false => rfl
      | true => exact absurd ((hwd _ (nmw r hr)).2.2 _ (List.mem_of_head? ((isV_iff _).mp e))) sg4
    refine ⟨_, rfl, _, rfl, _, rfl, _, rfl, _, rfl, _, rfl, _, rfl, _, rfl, p3, T, Va, D, many, xs, rows', vals, tms, rfl, hh10, hR.same s10, rok, nok, vok, SqL.of (sm10 _ _ hV7), v5, SqL.of (sm10 _ _ hTm7), by omega, tok, m1, m9, fun H11 Ak k hh11 sb11 nA neA hA hok => ⟨by show 4 ≤ sizeLine; decide, fun R nR => ?_⟩⟩
    have sR := same_new (o := .lst [V.ref T, V.ref Va, V.ref D, V.ref Ak]) nR
    have sm11 : Same H9 H11 := same_hand s10 n10 sb11
    have smA : Same H H11 := (sm7.trans sm9).trans sm11
    refine q _ R xs rows' vals tms k (smA.trans sR) (smA.free nR) ⟨⟨T, Va, D, Ak, upd_same, (hR.same sm11).same sR, sR _ _ ((sm9.trans sm11) _ _ hV7), sR _ _ ((sm9.trans sm11) _ _ hTm7), hA.same sR⟩, rok, sane, hok, nok, vok, tok, v5, t4, vnd, vwd, twd, nwd⟩
end
end Sw
namespace Sw
open PySem PySem.Spec PyProof.Rows L2 NdefX
abbrev sIsVar : Stmt := topS 10
abbrev sIsTerm : Stmt := topS 11
theorem bAll : bootBuiltins "all" = some (.builtin "all") := by decide +kernel
theorem scIsVar : FnScope ["term"] ["term"] (defScope sIsVar) := ⟨rfl, rfl, rfl, by decide +kernel, rfl, by decide +kernel, by decide +kernel⟩
abbrev nIsTerm : List Str := ["item", "text", "sign"]
theorem scIsTerm : FnScope nIsTerm ["item"] (defScope sIsTerm) := ⟨rfl, rfl, rfl, by decide +kernel, rfl, by decide +kernel, by decide +kernel⟩
theorem pt_is {X : Cx} {e : Expr} {t : TE} (he : ∀ whole, isTrue e X.env whole = (do let v ← whole; standAt e.pos; holding [v] (truthy v))) (h : PE X e t) : PT X e (tB t) := pt_val h he
section
variable {P : Program} {w : World} {K : PySem.W.Frag} {mg : Str → Option Value} {base : Heap}
theorem ok_isvar {f : Addr} {fd : FuncData} (F : Fun K "is_variable" "is_variable" sIsVar f fd) : FnOk P w K mg base CX0 1 f fd ["term"] spIsVar := by
  refine F.ok scIsVar (fun vs H Q E h => ?_) (fun cdv A outer s H vs Q E hr h => ?_)
  · obtain ⟨z, rfl, _⟩ := h
    rfl
  · obtain ⟨z, rfl, q⟩ := h
    refine ⟨_, pss_one (ps_ret (pe_bm PySem.F.plainAttrs_str PySem.F.slot_str_startswith PySem.F.type_str_startswith mt_startswith (pv 0) (pa_cons pe_str pa_nil))), ?_⟩
    exact ⟨_, rfl, rfl, z, "?", rfl, rfl, q⟩
/-- what is_term reads of the module -/
structure TermG (K : PySem.W.Frag) (mg : Str → Option Value) : Prop where
  sg : ∃ t, mg "SIGNS" = some (.str sgn t)
  lg : ∃ t, mg "LONGEST" = some (.int 8 t)
  isi : mg "isinstance" = none
  str : mg "str" = none
  len : mg "len" = none
  all : mg "all" = none
  ss : PySem.W.kitOne K (.type "str") (.type "str") = some true
theorem ok_isterm {f : Addr} {fd : FuncData} (F : Fun K "is_term" "is_term" sIsTerm f fd) (T : TermG K mg) : FnOk P w K mg base CX0 1 f fd ["item"] (spIsTerm K) := by
  obtain ⟨t1, gS⟩ := T.sg
  obtain ⟨t2, gL⟩ := T.lg
  refine F.ok scIsTerm (fun vs H Q E h => ?_) (fun cdv A outer s H vs Q E hr h => ?_)
  · obtain ⟨x, rfl, _⟩ := h
    rfl
  · obtain ⟨x, rfl, hx⟩ := h
    refine ⟨_, pss_cons (ps_if (pt_not (pt_is (by intro _; rfl) (pe_callB call_isi (by rfl) T.isi boot_isinstance (pa_cons (pv 0) (pa_cons (pe_bltn (v := .ty "str") rfl T.str bStr rfl) pa_nil))))) (pss_one (ps_ret pe_bl)) pss_nil)
      (pss_cons (ps_set (i := 1) scIsTerm.nd rfl (Or.inl rfl) (pe_bm PySem.F.plainAttrs_str PySem.F.slot_str_removeprefix PySem.F.type_str_removeprefix mt_removeprefix (pv 0) (pa_cons pe_str pa_nil)))
      (pss_one (ps_ret (pe_andT (pe_chain op_le op_le pe_int (pe_callB call_len_str (by rfl) T.len PySem.boot_len (pa_cons (pv 1) pa_nil)) (pe_glob (v := .int 8) rfl gL ⟨_, rfl⟩))
        (pe_one (pe_callB (cr_all rfl) (by rfl) T.all bAll (pa_cons (pe_lc (own := [("sign", 2)]) (g := gName 2) (tt := tYes) rfl scIsTerm.nd (pi_str (pv 1)) (blkOk_by (N := nIsTerm) (sc := defScope sIsTerm) (by decide +kernel)) (fun _ _ _ _ _ => pg_name (i := 2) scIsTerm.nd rfl (Or.inl rfl)) (fun _ _ _ _ _ => pts_nil)
          (fun _ _ _ _ _ => pe_cmpR op_in_str (pv 2) (pe_glob (v := .str sgn) rfl gS ⟨_, rfl⟩) (by rfl))) pa_nil))))))), ?_⟩
    rcases hx with ⟨z, rfl, hz, q⟩ | ⟨t, ty, hk, q⟩
    · refine ⟨_, rfl, _, _, _, _, _, rfl, .ty _, .base (.str z), T.ss, true, rfl, iteF ?_⟩
      refine ⟨_, rfl, rfl, z, "?", rfl, rfl, Nat.le_trans hz (by decide), ?_⟩
      have lt := Nat.le_trans (cut_len z) hz
      have fin : ∀ H' : Hp, Same H H' → ∀ b : Bool, isTermS z = b → Q (.bl b) H' := fun H' s b e => e ▸ q H' s
      unfold isTermS at fin
      generalize Txt.removeprefix z "?" = tx at lt fin ⊢
      refine ⟨_, rfl, tx, rfl, Nat.le_trans lt (by decide), _, _, rfl, rfl, _, rfl, ?_⟩
      refine ite2 (fun c => ?_) (fun c => ?_)
      · refine ⟨_, _, rfl, rfl, _, rfl, ?_⟩
        refine ite2 (fun c2 => ?_) (fun c2 => ?_)
        · have l1 : 1 ≤ tx.length := by have := of_decide_eq_true c; omega
          have l8 : tx.length ≤ 8 := by have := of_decide_eq_true c2; omega
          have l8t : (TL.tl tx).length ≤ 8 := by rw [← len_tl]; exact l8
          refine ⟨_, rfl, tx, rfl, fun D nD => ?_⟩
          refine lc_pure (val := fun c => V.str ⟨#[c]⟩) (out := fun c => V.bl (inSg c)) (l := TL.tl tx) wk_text (fun o => True.intro) (by omega) (fun i u acc Q' _ q' => ⟨_, wipe_var (by show 2 < 3; decide) _, _, _, rfl, rfl, q'⟩) ?_
          refine ⟨D, (TL.tl tx).map inSg, rfl, SqL.of (by rw [upd_same, List.map_map]; rfl), ?_⟩
          refine fin _ (same_new nD) _ ?_
          rw [decide_eq_true l1, decide_eq_true l8]
          show (TL.tl tx).all inSg = _
          rw [List.all_map]
          rfl
        · have l8 : ¬ tx.length ≤ 8 := fun h => c2 (decide_eq_true (by omega))
          refine fin _ (Same.refl _) _ ?_
          rw [decide_eq_false l8, Bool.and_false, Bool.false_and]
          exact (Bool.eq_false_iff.mpr c2).symm
      · have l1 : ¬ 1 ≤ tx.length := fun h => c (decide_eq_true (by omega))
        refine ⟨_, rfl, ?_⟩
        refine iteF (fin _ (Same.refl _) _ ?_)
        rw [decide_eq_false l1, Bool.false_and, Bool.false_and]
    · refine ⟨_, rfl, _, _, _, _, _, rfl, .ty _, ty, hk, false, rfl, iteT q⟩
end
end Sw
namespace Sw
open PySem PySem.Spec PyProof.Rows L2 NdefX
abbrev sCPart : Stmt := topS 35
abbrev nCPart : List Str := ["schema", "part", "width", "item"]
theorem scCPart : FnScope nCPart ["schema", "part"] (defScope sCPart) := ⟨rfl, rfl, rfl, by decide +kernel, rfl, by decide +kernel, by decide +kernel⟩
section
variable {P : Program} {w : World} {K : PySem.W.Frag} {mg : Str → Option Value} {base : Heap}
theorem ok_cpart {f fI fG CT CS DU : Addr} {fd fdI fdG : FuncData} (F : Fun K "check_part" "check_part" sCPart f fd) (hlen : mg "len" = none) (hall : mg "all" = none)
    (GI : FnOk P w K mg base CX0 1 fI fdI ["item"] (spIsTerm K)) (mI : mg "is_term" = some (.ref fI)) (kI : PySem.W.keepIn K (.ref fI) = true) (bI : Binds K fdI ["item"] [])
    (GG : FnOk P w K mg base (L2.CX P w) 3 fG fdG ["self", "name"] (spTable CS DU)) (MG : Meth K CS "table" fG) (bG : Binds K fdG ["self", "name"] []) (cS : Cls K CS) (cT : Cls K CT) (tW : NoAttr K CT "width") :
    FnOk P w K mg base CX0 4 f fd ["schema", "part"] (spPartOk K CT CS) := by
  refine F.ok scCPart (fun vs H Q E h => ?_) (fun cdv A outer s H vs Q E hr h => ?_)
  · obtain ⟨S, a, s, rows, l, rfl, _⟩ := h
    rfl
  · obtain ⟨S, a, s, rows, l, rfl, hS, ha, good, q⟩ := h
    have h1 : Room 1 _ := hr.mono (by decide)
    refine ⟨_, pss_cons (ps_if (pt_not (pt_truth (pv 1) (by intro _; rfl))) pss_never pss_nil)
      (pss_cons (ps_set (i := 2) scCPart.nd rfl (Or.inl rfl) (pe_fld (pe_meth (pv 0) cS MG GG hr bG .nil passL (pa_cons (pe_ix ix_tup (pv 1) pe_int (fun _ _ => rfl)) pa_nil)) rfl))
      (pss_one (ps_if (PW.pt (pw_or (pt_cmpR op_ne (pe_callB call_len_seq (by rfl) hlen PySem.boot_len (pa_cons (pv 1) pa_nil)) (pe_op op_add (pv 2) pe_int) (nomark _)) (pw_or1 (pt_not (pt_is (by intro _; rfl) (pe_callB (cr_all rfl) (by rfl) hall bAll (pa_cons
          (pe_lc (own := [("item", 3)]) (g := gName 3) (tt := tYes) rfl scCPart.nd (pi_tup (pe_slice sl_tup (pv 1) (po_some pe_int) po_none)) (blkOk_by (N := nCPart) (sc := defScope sCPart) (by decide +kernel)) (fun _ _ _ _ _ => pg_name (i := 3) scCPart.nd rfl (Or.inl rfl)) (fun _ _ _ _ _ => pts_nil)
            (fun _ _ _ _ _ => pe_call GI h1 rfl mI kI bI .nil pass0 (pa_cons (pv 3) pa_nil))) pa_nil))))))) pss_never pss_nil))), ?_⟩
    obtain ⟨r, hrm, hhd, hwd⟩ := good.row
    obtain ⟨nm, rest, rfl⟩ : ∃ nm rest, s = nm :: rest := by
      cases s with
      | nil => cases hhd
      | cons a b => exact ⟨a, b, rfl⟩
    obtain rfl : nm = r.nm := Option.some.inj hhd
    obtain ⟨t, htm, htn, htb⟩ := hS.get hrm
    have sc := hS.sch
    obtain ⟨dX, dN, hS1, hS2⟩ := sc.ex
    have hget : valV (kvT l) (Sum.inr r.nm : Key) = some (.ref t.x) := by
      rw [← htn]
      exact valV_tb sc.nd htm
    obtain ⟨ks, ts, vs, ⟨⟨dx, kA, lA, rA, g1, _⟩, _⟩, _⟩ := htb.tab
    refine ⟨_, rfl, true, ?_, iteF ?_⟩
    · exact .inr (.inl ⟨_, ha, rfl⟩)
    refine ⟨_, rfl, S, dX, _, rfl, hS1, rfl, _, rfl, a, _, _, _, rfl, rfl, ha, atI_nat (j := 0) rfl, ?_⟩
    refine ⟨S, r.nm, kvT l, rfl, ⟨dX, dN, hS1, hS2⟩, good.short _ List.mem_cons_self, fun v hv => ?_, fun hv => ?_⟩
    · rw [hget] at hv
      obtain rfl : V.ref t.x = v := Option.some.inj hv
      refine ⟨t.x, CT, dx, _, _, rfl, g1, cT, tW, rfl, ?_⟩
      refine ⟨_, rfl, a, _, rfl, .inr ha, _, rfl, _, _, rfl, rfl, rfl, _, rfl, ?_⟩
      refine iteNS ?_ ?_
      · have e1 : (((r.nm :: rest).map V.str).length : Int) = r.wd + 1 := by
          rw [List.length_map, List.length_cons, ← hwd]
          rfl
        rw [e1]
      refine ⟨_, rfl, 1, rfl, a, _, rfl, ha, ?_, fun p np => ?_⟩
      · intro z
        have h1 : HT.sIx ((r.nm :: rest).map V.str).length 0 (some 1) = min 1 ((r.nm :: rest).map V.str).length := HT.sIx_nat _ 0 1
        rw [h1, List.length_map] at z
        have := good.two
        omega
      rw [cut_tail _ (by simp)]
      have sp := same_new (o := .tup ((r.nm :: rest).tail.map V.str)) np
      refine ⟨p, rfl, ⟨_, SqT.of upd_same⟩, fun D nD => ?_⟩
      have hp : SqT K (upd H p (.tup (rest.map V.str))) p (rest.map V.str) := SqT.of upd_same
      refine lc_it (wk_tup (K := K) (a := p) (l := rest) (val := V.str)) (fun i Hc => Same (upd H p (.tup (rest.map V.str))) Hc ∧ ∃ bs : List Bool, Hc D = some (.lst (bs.map V.bl)) ∧ bs.length = i ∧ bs.all id = true) ⟨same_new nD, [], upd_same, rfl, rfl⟩ (fun i Hc _ ⟨e, _⟩ => same_seqT e hp) ?_ ?_
      · rintro i x Hc Hy hi ⟨sm, bs, hD, hbl, hba⟩ ⟨rfl, z, hz, rfl⟩
        have hzm := List.mem_of_getElem? hz
        refine ⟨rfl, ?_⟩
        refine ⟨_, rfl, .str z, rfl, .inl ⟨z, rfl, good.short z (List.mem_cons_of_mem _ hzm), fun H' s' => ?_⟩⟩
        rw [good.terms z hzm]
        refine ⟨_, s' _ _ hD, by rw [List.length_map, hbl]; exact small1000 (by have := good.len; rw [List.length_cons] at this; omega), same_mut (sm.trans s') nD, bs ++ [true], by rw [upd_same, List.map_append]; rfl, by rw [List.length_append, hbl]; rfl, by rw [List.all_append, hba]; rfl⟩
      rintro H8 ⟨sm, bs, hD, hbl, hba⟩
      refine ⟨D, bs, rfl, SqL.of hD, true, ?_, iteF ?_⟩
      · rw [hba]
      exact q _ (sp.trans sm)
    · rw [hget] at hv
      cases hv
end
end Sw
namespace Sw
open PySem PySem.Spec PyProof.Rows L2 NdefX
abbrev sCheck : Stmt := topS 34
abbrev nCheck : List Str := ["schema", "head", "parts", "among", "part", "term", "terms"]
theorem scCheck : FnScope nCheck ["schema", "head", "parts", "among"] (defScope sCheck) := ⟨rfl, rfl, rfl, by decide +kernel, rfl, by decide +kernel, by decide +kernel⟩
section
variable {P : Program} {w : World} {K : PySem.W.Frag} {mg : Str → Option Value} {base : Heap}
theorem ok_check {f fP fA fV CT CS : Addr} {fd fdP fdA fdV : FuncData} (F : Fun K "check" "check" sCheck f fd)
    (GP : FnOk P w K mg base CX0 4 fP fdP ["schema", "part"] (spPartOk K CT CS)) (mP : mg "check_part" = some (.ref fP)) (kP : PySem.W.keepIn K (.ref fP) = true) (bP : Binds K fdP ["schema", "part"] [])
    (GA : FnOk P w K mg base CX0 2 fA fdA ["words"] (spAsc K)) (mA : mg "ascending" = some (.ref fA)) (kA : PySem.W.keepIn K (.ref fA) = true) (bA : Binds K fdA ["words"] [])
    (GV : FnOk P w K mg base CX0 1 fV fdV ["term"] spIsVar) (mV : mg "is_variable" = some (.ref fV)) (kV : PySem.W.keepIn K (.ref fV) = true) (bV : Binds K fdV ["term"] []) :
    FnOk P w K mg base CX0 5 f fd ["schema", "head", "parts", "among"] (spCheckOk K CT CS) := by
  refine F.ok scCheck (fun vs H Q E h => ?_) (fun cdv A outer s H vs Q E hr h => ?_)
  · obtain ⟨S, hA, pA, mA', hd, xs, ss, ks, kvs, rows, l, rfl, _⟩ := h
    rfl
  · obtain ⟨S, hA, pA, mA', hd, xs, ss, ks, kvs, rows, l, rfl, hS, hh, hp, hps, hm, hk, good, q⟩ := h
    have h1 : Room 1 _ := hr.mono (by decide)
    have h2 : Room 2 _ := hr.mono (by decide)
    refine ⟨_, pss_cons (ps_if (pt_not (pt_truth (pv 2) (by intro _; rfl))) pss_never pss_nil)
      (pss_cons (ps_for PassesOwn.never rfl (pi_tup (pv 2)) (pg_name (i := 4) scCheck.nd rfl (Or.inl rfl)) (pss_one (ps_expr (pe_call GP hr rfl mP kP bP .nil pass0 (pa_cons (pv 0) (pa_cons (pv 4) pa_nil))))))
      (pss_cons (ps_setLc2 (i := 6) (own := [("part", 4), ("term", 5)]) (vs1 := [5]) (g := gName 4) (tt := tYes) (g1 := gName 5) (tt1 := tYes) (wi1 := iTup K (tSl (rSlT K) (tVar 4) (tPart (tC (.int 1))) tNoPart)) (te := tVar 5) rfl scCheck.nd rfl rfl (sw_true rfl rfl rfl (by decide +kernel)) (pi_tup (pv 2)) (blkOk_by (N := nCheck) (sc := defScope sCheck) (by decide +kernel)) (by decide)
        (fun _ _ _ _ _ => pg_name (i := 4) scCheck.nd rfl (Or.inl rfl)) (fun _ _ _ _ _ => pts_nil) (fun _ _ _ _ _ => pi_tup (pe_slice sl_tup (pv 4) (po_some pe_int) po_none)) (fun _ _ _ _ _ => pg_name (i := 5) scCheck.nd rfl (Or.inl rfl)) (fun _ _ _ _ _ => pts_nil) (fun _ _ _ _ _ => pv 5))
      (pss_one (ps_for PassesOwn.never rfl (pi_tup (pe_tup (StX.pa_star (pv 1) (StX.pa_star (pe_call GA h2 rfl mA kA bA .nil pass0 (pa_cons (pv 3) pa_nil)) pa_nil)))) (pg_name (i := 5) scCheck.nd rfl (Or.inl rfl))
        (pss_one (ps_if (PW.pt (pw_and (pt_is (by intro _; rfl) (pe_call GV h1 rfl mV kV bV .nil pass0 (pa_cons (pv 5) pa_nil))) (pw_and1 (pt_cmpR op_notIn_seq (pv 5) (pv 6) (by rfl))))) pss_never pss_nil)))))), ?_⟩
    have hne : xs.isEmpty = false := by
      cases xs with
      | nil => have h1 := hps.len; have h2 := good.n1; rw [← h1] at h2; exact absurd h2 (by simp)
      | cons a b => rfl
    have tail_ok : ∀ {s : List Str}, s ∈ ss → ¬ (HT.sIx (s.map V.str).length 0 (some 1) = 0 ∧ HT.sIx (s.map V.str).length (s.map V.str).length none = (s.map V.str).length) := fun {s} hs => by
      rintro ⟨z, _⟩
      have h1 : HT.sIx (s.map V.str).length 0 (some 1) = min 1 (s.map V.str).length := HT.sIx_nat _ 0 1
      rw [h1, List.length_map] at z
      have := (good.parts s hs).two
      omega
    refine ⟨_, rfl, true, .inr (.inl ⟨xs, hp, by rw [hne]; rfl⟩), iteF ?_⟩
    refine ⟨_, rfl, pA, rfl, ⟨_, hp⟩, ?_⟩
    refine for_it (walk_tup (K := K) (a := pA) (xs := xs)) (fun i σ Hc => ∃ x4, σ = [some (.ref S), some (.ref hA), some (.ref pA), some (.ref mA'), x4, none, none] ∧ Same H Hc) ⟨none, rfl, Same.refl _⟩ (fun i σ Hc _ ⟨_, _, e⟩ => same_seqT e hp) ?_ ?_
    · rintro i x σ Hc Hy hi ⟨x4, rfl, sm⟩ ⟨rfl, hx⟩
      obtain ⟨s, hs, b, rfl, hb⟩ := hps.all i x hx
      exact ⟨_, rfl, _, rfl, S, b, s, rows, l, rfl, hS.same sm, same_seqT sm hb, good.parts s (List.mem_of_getElem? hs), fun H' s' => ⟨_, rfl, sm.trans s'⟩⟩
    rintro σ H1 ⟨x4, rfl, sm1⟩
    refine ⟨_, rfl, pA, rfl, ⟨_, same_seqT sm1 hp⟩, fun D nD => ?_⟩
    have nD0 : H D = none := sm1.free nD
    refine lc2_it (walk_tup (K := K) (a := pA) (xs := xs)) (fun i Hc => Same H Hc ∧ Hc D = some (.lst ((termsOf (ss.take i)).map V.str))) ⟨sm1.trans (same_new nD), upd_same⟩ (fun i Hc _ ⟨e, _⟩ => same_seqT e hp) ?_ ?_
    · rintro i x Hc Hy hi ⟨sm, hD⟩ ⟨rfl, hx⟩
      obtain ⟨s, hs, b, rfl, hb⟩ := hps.all i x hx
      have hsm := List.mem_of_getElem? hs
      have sg := good.parts s hsm
      refine ⟨rfl, ?_⟩
      refine ⟨_, rfl, 1, rfl, b, _, rfl, same_seqT sm hb, tail_ok hsm, fun p np => ?_⟩
      rw [cut_tail s (by have := sg.two; omega)]
      have sp := same_new (o := .tup (s.tail.map V.str)) np
      have hpp : SqT K (upd Hy p (.tup (s.tail.map V.str))) p (s.tail.map V.str) := SqT.of upd_same
      have tl : (termsOf (ss.take (i + 1))).length ≤ 100 := by
        have h1 := terms_len (ss := ss.take (i + 1)) fun u hu => (good.parts u (List.mem_of_mem_take hu)).len
        have h2 : (ss.take (i + 1)).length ≤ ss.length := by rw [List.length_take]; omega
        have := good.n10
        omega
      rw [terms_snoc hs, List.length_append] at tl
      refine ⟨p, rfl, ⟨_, hpp⟩, ?_⟩
      refine in_it (wk_tup (K := K) (a := p) (l := s.tail) (val := V.str)) (fun j Hd => Same H Hd ∧ SqT K Hd p (s.tail.map V.str) ∧ Hd D = some (.lst ((termsOf (ss.take i) ++ s.tail.take j).map V.str))) ⟨sm.trans sp, hpp, by rw [List.take_zero, List.append_nil]; exact sp _ _ hD⟩ (fun j Hd _ ⟨_, e, _⟩ => e) ?_ ?_
      · rintro j x Hd Hz hj ⟨smd, hpd, hDd⟩ ⟨rfl, z, hz, rfl⟩
        refine ⟨rfl, ?_⟩
        refine ⟨_, rfl, _, hDd, ?_, same_mut smd nD0, sqT_upd hpd hDd (fun ys => ⟨fun z => (nomatch z), fun u z => (nomatch z)⟩), ?_⟩
        · rw [List.length_map, List.length_append, List.length_take]
          exact small1000 (by omega)
        · rw [upd_same, take_snoc hz, ← List.append_assoc, List.map_append (l₂ := [z])]
          rfl
      · rintro Hd ⟨smd, _, hDd⟩
        refine ⟨smd, ?_⟩
        rw [terms_snoc hs]
        rw [List.take_length] at hDd
        exact hDd
    rintro H2 ⟨sm2, hD2⟩
    rw [show ss.take xs.length = ss by rw [hps.len]; exact List.take_length] at hD2
    refine ⟨_, rfl, hA, _, rfl, .inl (same_seqT sm2 hh), ?_⟩
    refine ⟨_, rfl, mA', ks, rfl, .inr ⟨kvs, sm2 _ _ hm, hk⟩, good.kl, fun H3 p us s3 np hpu as hmu => ?_⟩
    refine ⟨p, _, rfl, .inl (SqT.of hpu), ?_⟩
    have ul : us.length ≤ 64 := by
      have := nodup_le (asc_nd as) fun z hz => (hmu z).mp hz
      have := good.kl
      omega
    refine ⟨by rw [List.length_append, List.length_append, List.length_map, List.length_map]; have := good.hl; exact Nat.le_of_lt (small1000 (by show hd.length + (us.length + 0) ≤ 1000; omega)), fun T nT => ?_⟩
    have eT : hd.map V.str ++ (us.map V.str ++ []) = (hd ++ us).map V.str := by rw [List.append_nil, List.map_append]
    rw [eT]
    have sT := same_new (o := .tup ((hd ++ us).map V.str)) nT
    have hT : SqT K (upd H3 T (.tup ((hd ++ us).map V.str))) T ((hd ++ us).map V.str) := SqT.of upd_same
    have hD3 := sT _ _ (s3 _ _ hD2)
    have sm3 := (sm2.trans s3).trans sT
    refine ⟨T, rfl, ⟨_, hT⟩, ?_⟩
    refine for_it (wk_tup (K := K) (a := T) (l := hd ++ us) (val := V.str)) (fun i σ Hc => ∃ x5, σ = [some (.ref S), some (.ref hA), some (.ref pA), some (.ref mA'), x4, x5, some (.ref D)] ∧ Hc = upd H3 T (.tup ((hd ++ us).map V.str))) ⟨none, rfl, rfl⟩ (fun i σ Hc _ ⟨_, _, e⟩ => by rw [e]; exact hT) ?_ ?_
    · rintro i x σ Hc Hy hi ⟨x5, rfl, rfl⟩ ⟨rfl, z, hz, rfl⟩
      refine ⟨_, rfl, z, rfl, isVar z, rfl, ?_⟩
      cases hv : isVar z with
      | false => exact iteF (iteF ⟨_, rfl, rfl⟩)
      | true =>
        refine iteT ?_
        refine ⟨_, rfl, _, rfl, D, _, rfl, .inl (SqL.of hD3), rfl, flat_str _, _, rfl, ?_⟩
        rw [inV_str]
        have hzt : z ∈ termsOf ss := by
          rcases List.mem_append.mp (List.mem_of_getElem? hz) with h | h
          · exact good.hd z h hv
          · exact good.ks z ((hmu z).mp h) hv
        have e : (if true = true then !decide (z ∈ termsOf ss) else decide (z ∈ termsOf ss)) = false := by simp [hzt]
        rw [e]
        exact iteF ⟨_, rfl, rfl⟩
    · rintro σ Hc ⟨x5, rfl, rfl⟩
      exact q _ sm3
end
end Sw
namespace Sw
open PySem PySem.Spec PyProof.Rows L2 NdefX
abbrev sQues : Stmt := inClass (topS 33) 0
abbrev nQues : List Str := ["self", "schema", "head", "among", "duplicates", "parts", "conditions"]
abbrev pQ : List Str := ["self", "schema", "head"]
abbrev kQ : List Str := ["among", "duplicates"]
theorem scQues : FnScope nQues ((pQ ++ kQ) ++ [("parts" : Str)]) (defScope sQues) := ⟨rfl, rfl, rfl, by decide +kernel, rfl, by decide +kernel, by decide +kernel⟩
abbrev FunQues (K : PySem.W.Frag) (f : Addr) (fd : FuncData) : Prop := FunD K "__init__" "Question.__init__" (defArgs sQues) (defBody sQues) (defScope sQues) [] [("among", .non), ("duplicates", .bl false)] f fd
section
variable {P : Program} {w : World} {K : PySem.W.Frag} {mg : Str → Option Value} {base : Heap}
theorem ques_body {f fW fC CT CS CQ : Addr} {fdW fdC : FuncData} {cdv : Value} (C : QuesC K CQ) (htup : mg "tuple" = none)
    (GW : FnOk P w K mg base CX0 3 fW fdW ["values"] (spWA K)) (mW : mg "with_ascending" = some (.ref fW)) (kW : PySem.W.keepIn K (.ref fW) = true) (bW : Binds K fdW ["values"] [])
    (GC : FnOk P w K mg base CX0 5 fC fdC ["schema", "head", "parts", "among"] (spCheckOk K CT CS)) (mC : mg "check" = some (.ref fC)) (kC : PySem.W.keepIn K (.ref fC) = true) (bC : Binds K fdC ["schema", "head", "parts", "among"] [])
    (A : Around) (outer : List Env) (s : Shared) (H : Hp) (vs : List V) (Q : VK) (E : XK) (hr : Room 5 (A.deeper (envOfC "Question.__init__" (defScope sQues) s.heap.objs.size f cdv))) (h : spQuesB K CT CS CQ vs H Q E) :
    ∃ t, PSs (cxOf CX0 P w K mg base nQues "Question.__init__" (defScope sQues) f cdv A outer s H E) (defBody sQues) t ∧ t { nx := fun _ H' => Q .non H', rt := Q } (L2.start nQues vs) H := by
  obtain ⟨x, dx, S, hA, pA, hd, lv, dup, xs, ss, ks, es, rows, l, rfl, hx, hS, hh, hp, hps, hl, hk, good, q⟩ := h
  have h3 : Room 3 _ := hr.mono (by decide)
  refine ⟨_, PSs.nox (pss_cons (ps_set (i := 6) scQues.nd rfl (Or.inl rfl) (pe_call GW h3 rfl mW kW bW .nil pass0 (pa_cons (pv 3) pa_nil)))
    (pss_cons (ps_expr (pe_call GC hr rfl mC kC bC .nil pass0 (pa_cons (pv 1) (pa_cons (pv 2) (pa_cons (pv 5) (pa_cons (pv 6) pa_nil))))))
    (pss_cons (ps_fld (pv 0) (pv 1) rfl) (pss_cons (ps_fld (pv 0) (pe_callTy call_tupleT (by rfl) htup bTuple (pa_cons (pv 2) pa_nil)) rfl) (pss_cons (ps_fld (pv 0) (pv 5) rfl) (pss_cons (ps_fld (pv 0) (pv 6) rfl) (pss_one (ps_fld (pv 0) (pv 4) rfl)))))))), ?_⟩
  refine ⟨_, rfl, lv, es, rfl, hl, fun H1 lA ts s1 nl hts hal => ?_⟩
  have hk2 : (ts.map fun e : Ent => (e.1, V.ref e.2.1)).map (·.1) = ks.map Sum.inr := by rw [← hk, ← hal.keys, List.map_map]; rfl
  refine ⟨_, rfl, _, rfl, _, rfl, _, rfl, S, hA, pA, lA, hd, xs, ss, ks, _, rows, l, rfl, hS.same s1, same_seqT s1 hh, same_seqT s1 hp, hps.same s1, hts.at_, hk2, good, fun H2 s2 => ?_⟩
  have s12 := s1.trans s2
  have hx2 := s12 _ _ hx
  have hb2 : SBut x H H2 := Same.sbut s12
  refine ⟨_, rfl, _, rfl, x, CQ, dx, _, rfl, hx2, C.cl, C.n1, (by show 0 < 1000; decide), ?_⟩
  have b3 := hb2.step (o := .ins CQ dx (putF "schema" (.ref S) []))
  have hh3 : SqT K (upd H2 x (.ins CQ dx (putF "schema" (.ref S) []))) hA (hd.map V.str) := sqT_ins hh b3 hx
  refine ⟨_, rfl, hA, _, rfl, hh3, _, rfl, x, CQ, dx, _, rfl, upd_same, C.cl, C.n2, (by show 1 < 1000; decide), ?_⟩
  refine ⟨_, rfl, _, rfl, x, CQ, dx, _, rfl, upd_same, C.cl, C.n3, (by show 2 < 1000; decide), ?_⟩
  refine ⟨_, rfl, _, rfl, x, CQ, dx, _, rfl, upd_same, C.cl, C.n4, (by show 3 < 1000; decide), ?_⟩
  refine ⟨_, rfl, _, rfl, x, CQ, dx, _, rfl, upd_same, C.cl, C.n5, (by show 4 < 1000; decide), ?_⟩
  simp only [upd_upd]
  have b7 := hb2.step (o := .ins CQ dx (quesF S hA pA lA dup))
  refine q _ lA ts b7 nl ⟨⟨dx, upd_same⟩, sqT_ins hh b7 hx, sqT_ins hp b7 hx, hps.but b7 hx, ?_⟩ hal
  refine ⟨?_, fun r hr => ?_⟩
  · rw [upd_ne (ne_of_none hx nl).symm]
    exact s2 _ _ hts.at_
  · rw [upd_ne (ne_of (s2 _ _ (hts.all r hr).1) hx2 (fun z => nomatch z))]
    exact ⟨s2 _ _ (hts.all r hr).1, (hts.all r hr).2⟩
/-- Question(schema, head, part, .., among = .., duplicates = ..) -/
def spQuesK (K : PySem.W.Frag) (CT CS CQ : Addr) : List V → List V → Hp → VK → XK → Prop := fun vs zs H Q E => ∃ as rest, vs = as ++ rest ∧ as.length = pQ.length ∧ rest.length ≤ sizeLine ∧ ∀ p, H p = Option.none → spQuesB K CT CS CQ ((as ++ zs) ++ [V.ref p]) (upd H p (.tup rest)) Q E
/-- Question(schema, head, part, ..) -/
def spQuesN (K : PySem.W.Frag) (CT CS CQ : Addr) : List V → List V → Hp → VK → XK → Prop := fun vs _ H Q E => ∃ as rest, vs = as ++ rest ∧ as.length = pQ.length ∧ rest.length ≤ sizeLine ∧ ∀ p, H p = Option.none → spQuesB K CT CS CQ ((as ++ [.non, .bl false]) ++ [V.ref p]) (upd H p (.tup rest)) Q E
theorem ok_ques {f fW fC CT CS CQ : Addr} {fd fdW fdC : FuncData} (F : FunQues K f fd) (C : QuesC K CQ) (htup : mg "tuple" = none)
    (GW : FnOk P w K mg base CX0 3 fW fdW ["values"] (spWA K)) (mW : mg "with_ascending" = some (.ref fW)) (kW : PySem.W.keepIn K (.ref fW) = true) (bW : Binds K fdW ["values"] [])
    (GC : FnOk P w K mg base CX0 5 fC fdC ["schema", "head", "parts", "among"] (spCheckOk K CT CS)) (mC : mg "check" = some (.ref fC)) (kC : PySem.W.keepIn K (.ref fC) = true) (bC : Binds K fdC ["schema", "head", "parts", "among"] []) :
    FnRK P w K mg base CX0 6 f ["among", "duplicates"] (spQuesK K CT CS CQ) ∧ FnRK P w K mg base CX0 6 f [] (spQuesN K CT CS CQ) := by
  obtain ⟨oc, od, dV, kV, doc, pm, an, cdv, ct, osl, rfl, lk, hcd, hD, hK⟩ := F.ex
  rcases hD with ⟨_, rfl⟩ | ⟨e, _⟩
  · rcases hK with e | ⟨D, rfl, hq⟩
    · cases e
    · obtain ⟨u1, d1, r1⟩ := hq ("among", .non) List.mem_cons_self
      obtain ⟨u2, d2, r2⟩ := hq ("duplicates", .bl false) (List.mem_cons_of_mem _ List.mem_cons_self)
      obtain rfl : u1 = Value.none := r1
      obtain rfl : u2 = Value.bool false := r2
      refine ⟨?_, ?_⟩
      · exact fn_starK (D := D) (ps := pQ) (kn := kQ) (pv := "parts") (ms := []) (ord := id) (ordV := id) lk hcd scQues StX.cxUp_none (fun q hq => nomatch hq) (fun r l => ⟨r, l⟩)
          (fun us rest ws h1 h2 => match us, ws, rest, h1, h2 with | [_, _, _], [_, _], [], _, _ => rfl | [_, _, _], [_, _], _ :: _, _, _ => rfl)
          (fun A outer s H vs Q E hr h => ques_body C htup GW mW kW bW GC mC kC bC A outer s H vs Q E hr h)
      · exact fn_starK (D := D) (ps := pQ) (kn := kQ) (pv := "parts") (ms := [("among", .none), ("duplicates", .bool false)]) (ord := fun _ => [.none, .bool false]) (ordV := fun _ => [.non, .bl false]) lk hcd scQues StX.cxUp_none
          (fun q hq => by rcases List.mem_cons.mp hq with rfl | hq; · exact d1
                          rcases List.mem_cons.mp hq with rfl | hq; · exact d2
                          cases hq) (fun _ _ => ⟨.cons rfl (.cons rfl .nil), rfl⟩)
          (fun us rest ws h1 h2 => match us, ws, rest, h1, h2 with | [_, _, _], [], [], _, _ => ⟨_, _, _, _, _, _, rfl, rfl, _, _, _, _, _, _, rfl, rfl, rfl⟩ | [_, _, _], [], _ :: _, _, _ => ⟨_, _, _, _, _, _, rfl, rfl, _, _, _, _, _, _, rfl, rfl, rfl⟩)
          (fun A outer s H vs Q E hr h => ques_body C htup GW mW kW bW GC mC kC bC A outer s H vs Q E hr h)
  · exact absurd rfl e
end
end Sw
namespace Sw
open PySem PySem.Spec PyProof.Rows L2 NdefX
abbrev sQAnd : Stmt := inClass (topS 33) 2
abbrev nQAnd : List Str := ["self", "other", "parts", "among", "variable", "values", "kept", "value"]
theorem scQAnd : FnScope nQAnd ["self", "other"] (defScope sQAnd) := ⟨rfl, rfl, rfl, by decide +kernel, rfl, by decide +kernel, by decide +kernel⟩
section
variable {P : Program} {w : World} {K : PySem.W.Frag} {mg : Str → Option Value} {base : Heap}
theorem mk_quesG {CT CS CQ S hA li : Addr} {H : Hp} {hd : List Str} {xs : List V} {ss : List (List Str)} {ks : List Str} {es : List Ent} {rows : List Rw} {l : List Tb} {dup : Bool} {Q : VK} {E : XK} (a : AskIn K CT CS H S hA hd xs ss ks rows l) (hl : xs.length ≤ 100) (hli : LDict K H li es) (hk : es.map (·.1) = ks.map Sum.inr)
    (q : ∀ (H' : Hp) (x lA pA : Addr) (ts : List Ent), Same H H' → H x = none → H lA = none → QuesAt K CQ H' x S hd ss ts dup hA pA lA xs → Alike es ts → Q (.ref x) H') {x dx : Addr} (nx : H x = none) (ndx : H dx = none) (ne : dx ≠ x) :
    spQuesK K CT CS CQ (V.ref x :: V.ref S :: V.ref hA :: xs) [.ref li, .bl dup] (upd (upd H dx (.own x)) x (.ins CQ dx [])) (fun v H2 => v = .non ∧ Q (.ref x) H2) E := by
  have s1 : Same H (upd (upd H dx (.own x)) x (.ins CQ dx [])) := (same_new ndx).trans (same_new (by rw [upd_ne ne.symm]; exact nx))
  refine ⟨[.ref x, .ref S, .ref hA], xs, rfl, rfl, Nat.le_trans hl (by decide), fun p np => ?_⟩
  have sp := same_new (o := .tup xs) np
  have s2 := s1.trans sp
  exact ⟨x, dx, S, hA, p, hd, .ref li, dup, xs, ss, ks, es, rows, l, rfl, sp _ _ upd_same, a.sch.same s2, same_seqT s2 a.hh, SqT.of upd_same, a.pv.same s2, .inr ⟨li, rfl, hli.same s2⟩, hk, a.good, fun H' lA ts sb nl qa al => ⟨rfl, q H' x lA p ts (fun b o e => sb b o (ne_of_none e nx) (s2 b o e)) nx (s2.free nl) qa al⟩⟩
theorem ok_qand {f fQ fV CT CS CQ : Addr} {fd fdV : FuncData} (F : Fun K "__and__" "Question.__and__" sQAnd f fd) (C : QuesC K CQ) (hlen : mg "len" = none) (hdict : mg "dict" = none)
    (GV : FnOk P w K mg base CX0 1 fV fdV ["term"] spIsVar) (mV : mg "is_variable" = some (.ref fV)) (kV : PySem.W.keepIn K (.ref fV) = true) (bV : Binds K fdV ["term"] [])
    (GQ : FnRK P w K mg base CX0 6 fQ ["among", "duplicates"] (spQuesK K CT CS CQ)) (MQ : Mk K CQ fQ) (gQ : mg "Question" = some (.ref CQ)) : FnOk P w K mg base CX0 8 f fd ["self", "other"] (spQAnd K CT CS CQ) := by
  refine F.ok scQAnd (fun vs H Q E h => ?_) (fun cdv A outer s H vs Q E hr h => ?_)
  · obtain ⟨x, p, S, hA, pA, lA, hd, ss, ts, dup, xs, rows, l, o, rfl, _⟩ := h
    rfl
  · obtain ⟨x, p, S, hA, pA, lA, hd, ss, ts, dup, xs, rows, l, o, rfl, qa, hS, ho, ok, q⟩ := h
    have hu := hu_of hr
    have h1 : Room 1 _ := hr.mono (by decide)
    refine ⟨_, pss_cons (ps_set (i := 2) scQAnd.nd rfl (Or.inl rfl) (pe_fld (pv 0) rfl))
      (pss_cons (ps_set (i := 3) scQAnd.nd rfl (Or.inl rfl) (pe_callTy call_dictD (by rfl) hdict bDictL (pa_cons (pe_fld (pv 0) rfl) pa_nil)))
      (pss_mid (ps_if (PW.pt (pw_and (pt_cmpR op_eq (pe_callB call_len_seq (by rfl) hlen PySem.boot_len (pa_cons (pv 1) pa_nil)) pe_int (nomark _)) (pw_and1 (pt_val (pe_call GV h1 rfl mV kV bV .nil pass0 (pa_cons (pe_ix ix_tup (pv 1) pe_int (fun _ _ => rfl)) pa_nil)) (by intro _; rfl)))))
          (pss_cons (ps_asg (pv 1) (pg_tup (by rfl) (pgs_cons (pg_name (i := 4) scQAnd.nd rfl (Or.inl rfl)) (pgs_cons (pg_name (i := 5) scQAnd.nd rfl (Or.inl rfl)) pgs_nil))))
          (pss_cons (ps_set (i := 6) scQAnd.nd rfl (Or.inr rfl) (pe_dget2 hu (pe_fld (pv 0) rfl) (pv 4) (pv 5) ⟨rfl, rfl, rfl, rfl⟩))
          (pss_one (ps_dput hu (pv 3) (pv 4) (pe_lc (own := [("value", 7)]) (g := gName 7) (tt := tTest (tOp (rIn K false) (tVar 7) (tVar 6))) (te := tVar 7) rfl scQAnd.nd (pi_tup (pv 5)) (blkOk_by (N := nQAnd) (sc := defScope sQAnd) (by decide +kernel)) (fun _ _ _ _ _ => pg_name (i := 7) scQAnd.nd rfl (Or.inl rfl))
            (fun _ _ _ _ _ => pts_one (pt_cmpR op_in_seq (pv 7) (pv 6) (by rfl))) (fun _ _ _ _ _ => pv 7)) rfl))))
          (pss_one (ps_if (pt_cmpR (op_notInT (room65 hr)) (pv 1) (pe_fld (pv 0) rfl) (by rfl)) (pss_one (ps_set (i := 2) scQAnd.nd rfl (Or.inl rfl) (pe_tup (StX.pa_star (pe_fld (pv 0) rfl) (pa_cons (pv 1) pa_nil))))) pss_nil)))
      (pss_one (ps_ret (pe_makeRKS MQ GQ hr rfl gQ pass0 (pa_cons (pe_fld (pv 0) rfl) (pa_cons (pe_fld (pv 0) rfl) (StX.pa_star (pv 2) pa_nil))) (pk_cons (pv 3) (pk_cons (pe_fld (pv 0) rfl) pk_nil))))))), ?_⟩
    obtain ⟨dx, hx⟩ := qa.ex
    have xl : xs.length = ss.length := qa.pv.len
    refine ⟨_, rfl, x, CQ, dx, _, _, rfl, hx, C.cl, C.n3, rfl, ?_⟩
    refine ⟨_, rfl, x, CQ, dx, _, _, rfl, hx, C.cl, C.n4, rfl, lA, _, rfl, .inl qa.ts.at_, fun D nD => ?_⟩
    have sD := same_new (o := .dK (ts.map fun e => (e.1, V.ref e.2.1))) nD
    have hD : upd H D (.dK (ts.map fun e => (e.1, V.ref e.2.1))) D = some (.dK (ts.map fun e => (e.1, V.ref e.2.1))) := upd_same
    generalize upd H D (.dK (ts.map fun e => (e.1, V.ref e.2.1))) = H1 at sD hD ⊢
    have qa1 := qa.same sD
    have hx1 := sD _ _ hx
    have ld : ∀ {Hc : Hp}, Same H1 Hc → LDict K Hc D ts := fun sc => ⟨sc _ _ hD, ok.nd, by have := ok.tl; omega, fun e he => ⟨.inr (same_seqT sc (SqT.of (qa1.ts.all e he).1)), by have := ok.tw e he; omega⟩⟩
    refine ⟨fun σ Hc => ∃ (pA2 : Addr) (x4 x5 x6 : Option V) (xs2 : List V) (es : List Ent), σ = [some (.ref x), some (.ref p), some (.ref pA2), some (.ref D), x4, x5, x6, none] ∧ Same H Hc ∧ SqT K Hc pA2 xs2 ∧ PartsV K Hc xs2 (optS ss o) ∧ LDict K Hc D es ∧ OptE ts o es ∧ es.map (·.1) = (keysOf es).map Sum.inr ∧ AskGood rows hd (optS ss o) (keysOf es), ?_, ?_⟩
    · cases o with
      | part s =>
        obtain ⟨⟨z, r, rfl, hz⟩, hs, hg⟩ := ok.opt
        have ho1 : SqT K H1 p ((z :: r).map V.str) := same_seqT sD ho
        have other : (tIfS (tTest (tOp (rInT K true) (tVar 1) (tFld K (tVar 0) "parts"))) (tAsg (tTup (StX.tStar K (tFld K (tVar 0) "parts") (tCons (tVar 1) tNil))) (gName 2)) tNext) { nx := fun σ Hc => ∃ (pA2 : Addr) (x4 x5 x6 : Option V) (xs2 : List V) (es : List Ent), σ = [some (.ref x), some (.ref p), some (.ref pA2), some (.ref D), x4, x5, x6, none] ∧ Same H Hc ∧ SqT K Hc pA2 xs2 ∧ PartsV K Hc xs2 (optS ss (.part (z :: r))) ∧ LDict K Hc D es ∧ OptE ts (.part (z :: r)) es ∧ es.map (·.1) = (keysOf es).map Sum.inr ∧ AskGood rows hd (optS ss (.part (z :: r))) (keysOf es), rt := Q } [some (.ref x), some (.ref p), some (.ref pA), some (.ref D), none, none, none, none] H1 := by
          have hx1' := hx1
          have shr : SeqAt.shaped (.tuple ((z :: r).map .str)) = true := (shapedStrs hs).1
          have shp := shapedTupRows ok.sok
          refine ⟨_, rfl, _, rfl, x, CQ, dx, _, _, rfl, hx1, C.cl, C.n3, rfl, _, _, .tup ho1 (dpStrs _), .tup qa1.ps qa1.pv.dp, shr, shp, _, rfl, ?_⟩
          rw [any_shapes, if_pos rfl]
          by_cases c : (z :: r) ∈ ss
          · rw [decide_eq_true c]
            refine iteF ⟨pA, none, none, none, xs, ts, rfl, sD, qa1.ps, ?_, ld (Same.refl _), rfl, ok.keq, ?_⟩
            · show PartsV K H1 xs (if (z :: r) ∈ ss then ss else _)
              rw [if_pos c]
              exact qa1.pv
            · show AskGood rows hd (if (z :: r) ∈ ss then ss else _) _
              rw [if_pos c]
              exact ok.good
          · rw [decide_eq_false c]
            refine iteT ⟨_, rfl, x, CQ, dx, _, _, rfl, hx1, C.cl, C.n3, rfl, pA, _, rfl, .inl qa1.ps, _, rfl, by rw [List.length_append, xl]; exact Nat.le_of_lt (small1000 (by have := ok.sl; show ss.length + 1 ≤ 1000; omega)), fun T nT => ?_⟩
            have sT := same_new (o := .tup (xs ++ [V.ref p])) nT
            refine ⟨T, none, none, none, _, ts, rfl, sD.trans sT, SqT.of upd_same, ?_, ld sT, rfl, ok.keq, ?_⟩
            · show PartsV K _ _ (if (z :: r) ∈ ss then ss else _)
              rw [if_neg c]
              exact (qa1.pv.same sT).snocP (same_seqT sT ho1)
            · show AskGood rows hd (if (z :: r) ∈ ss then ss else _) _
              rw [if_neg c]
              exact hg c
        refine ⟨_, rfl, p, _, rfl, .inr ho1, rfl, _, rfl, ?_⟩
        rw [dec_int]
        refine ite2 (fun c2 => ?_) (fun c2 => iteF other)
        refine ⟨_, rfl, p, _, _, _, rfl, rfl, ho1, atI_nat (j := 0) rfl, z, rfl, _, rfl, ?_⟩
        rw [hz]
        exact iteF other
      | cond v us =>
        obtain ⟨hv, ul, hg⟩ := ok.opt
        obtain ⟨t, ho0, ht0⟩ := ho
        have ho1 := same_seqT sD ho0
        have ht1 := same_seqT sD ht0
        refine ⟨_, rfl, p, _, rfl, .inr ho1, rfl, _, rfl, ?_⟩
        rw [dec_int]
        refine ite2 (fun _ => ?_) (fun c2 => absurd (decide_eq_true rfl) c2)
        refine ⟨_, rfl, p, _, _, _, rfl, rfl, ho1, atI_nat (j := 0) rfl, v, rfl, _, rfl, ?_⟩
        rw [hv]
        refine iteT ?_
        refine ⟨_, rfl, p, _, rfl, ho1, rfl, _, _, rfl, _, _, rfl, rfl, ?_⟩
        obtain ⟨kA, kw, ek, hk, ekw⟩ : ∃ (kA : Addr) (kw : List Str), (valV (ts.map fun e => (e.1, V.ref e.2.1)) (Sum.inr v : Key)).getD (.ref t) = .ref kA ∧ SqT K H1 kA (kw.map V.str) ∧ keptW ts v us = us.filter fun x => decide (x ∈ kw) := by
          rw [valV_find]
          unfold keptW entOf
          cases he : ts.find? fun e => decide (e.1 = (Sum.inr v : Key)) with
          | none => exact ⟨t, us, rfl, ht1, List.filter_congr fun x hx => (decide_eq_true hx).symm⟩
          | some e => exact ⟨e.2.1, e.2.2, rfl, SqT.of (qa1.ts.all e (List.mem_of_find?_eq_some he)).1, rfl⟩
        refine ⟨_, rfl, x, CQ, dx, _, _, rfl, hx1, C.cl, C.n4, rfl, lA, rfl, .inl ⟨_, .inl qa1.ts.at_⟩, _, rfl, _, rfl, _, DGet.k (k := Sum.inr v) qa1.ts.at_, ?_⟩
        rw [ek]
        refine ⟨_, rfl, t, rfl, ⟨_, ht1⟩, fun L nL => ?_⟩
        refine lc_it (walk_tup (K := K) (a := t) (xs := us.map V.str)) (fun i Hc => ∃ ws : List Str, Same H1 Hc ∧ Hc L = some (.lst (ws.map V.str)) ∧ ws.length ≤ i ∧ ws = (us.take i).filter fun x => decide (x ∈ kw))
          ⟨[], same_new nL, upd_same, Nat.le_refl _, rfl⟩ (fun i Hc _ ⟨_, sm, _⟩ => same_seqT sm ht1) ?_ ?_
        · rintro i y Hc Hy hi ⟨ws, sm, hL, wl, ew⟩ ⟨rfl, hy⟩
          rw [List.getElem?_map] at hy
          obtain ⟨u, hu, rfl⟩ := Option.map_eq_some_iff.mp hy
          rw [List.length_map] at hi
          refine ⟨rfl, ?_⟩
          refine ⟨_, rfl, _, rfl, kA, kw.map V.str, rfl, .inr (same_seqT sm hk), rfl, flat_strs _, _, rfl, ?_⟩
          rw [if_neg (by decide), inV_str, take_snoc hu, List.filter_append]
          by_cases c : u ∈ kw
          · rw [decide_eq_true c]
            refine iteT ⟨_, rfl, _, hL, by rw [List.length_map]; exact small1000 (by omega), ws ++ [u], same_mut sm nL, by rw [upd_same, List.map_append]; rfl, by rw [List.length_append]; exact Nat.succ_le_succ wl, ?_⟩
            rw [ew, List.filter_cons_of_pos (by rw [decide_eq_true c])]
            rfl
          · rw [decide_eq_false c]
            refine iteF ⟨ws, sm, hL, by omega, ?_⟩
            rw [ew, List.filter_cons_of_neg (by rw [decide_eq_false c]; decide)]
            show _ = _ ++ List.filter _ []
            rw [List.filter_nil, List.append_nil]
        rintro Hc ⟨ws, sm, hL, wl, ew⟩
        rw [List.length_map, List.take_length] at ew
        rw [List.length_map] at wl
        rw [← ekw] at ew
        have hDc := sm _ _ hD
        refine ⟨_, rfl, _, rfl, D, _, rfl, DPut.k (k := Sum.inr v) hDc (by rw [List.length_map]; exact small1000 (by have := ok.tl; omega)), ?_⟩
        have sP : Same H (upd Hc D (.dK (putK (ts.map fun e => (e.1, V.ref e.2.1)) (Sum.inr v) (.ref L)))) := same_mut (sD.trans sm) nD
        have nx : ∀ {b : Addr} {o' : HO}, H1 b = some o' → b ≠ D → upd Hc D (.dK (putK (ts.map fun e => (e.1, V.ref e.2.1)) (Sum.inr v) (.ref L))) b = some o' := fun e hb => by
          rw [upd_ne hb]
          exact sm _ _ e
        have neL : L ≠ D := fun z => by
          rw [z] at hL
          rw [hDc] at hL
          cases hL
        refine ⟨pA, _, _, _, xs, putEnt ts (Sum.inr v) L ws, rfl, sP, same_seqT sP qa.ps, qa.pv.same sP, ⟨?_, putEnt_nd ok.nd, by have := putEnt_len ts (Sum.inr v) L ws; have := ok.tl; omega, fun e he => ?_⟩, ⟨L, by rw [ew]⟩, ?_, by rw [ew]; exact hg L⟩
        · rw [upd_same, putEnt_kv]
        · rcases putEnt_mem he with ⟨h1, h2⟩ | rfl
          · have := qa.ts.all e h1
            exact ⟨.inr (SqT.of (sP _ _ this.1)), by have := ok.tw e h1; omega⟩
          · exact ⟨.inl (SqL.of (by rw [upd_ne neL]; exact hL)), by show ws.length < 64; omega⟩
        · refine keysOf_eq fun e he => ?_
          rcases putEnt_mem he with ⟨h1, h2⟩ | rfl
          · have hm : e.1 ∈ ts.map (·.1) := List.mem_map.mpr ⟨e, h1, rfl⟩
            rw [ok.keq] at hm
            obtain ⟨w, _, e1⟩ := List.mem_map.mp hm
            exact ⟨w, e1.symm⟩
          · exact ⟨v, rfl⟩
    rintro σ Hc ⟨pA2, x4, x5, x6, xs2, es, rfl, sm, hp2, pv2, le, he, ek, hg⟩
    have hxc := sm _ _ hx
    refine ⟨_, rfl, x, CQ, dx, _, _, rfl, hxc, C.cl, C.n1, rfl, _, rfl, x, CQ, dx, _, _, rfl, hxc, C.cl, C.n2, rfl, _, rfl, pA2, _, rfl, .inl hp2, _, rfl, _, rfl, x, CQ, dx, _, _, rfl, hxc, C.cl, C.n5, rfl, rfl, fun y dy ny ndy ne => ?_⟩
    have xl2 : xs2.length ≤ 100 := by
      rw [pv2.len]
      cases o with
      | part s => exact Nat.le_trans (show (if s ∈ ss then ss else ss ++ [s]).length ≤ ss.length + 1 by by_cases c : s ∈ ss <;> simp [c]) (by have := ok.sl; omega)
      | cond v us => exact Nat.le_trans ok.sl (by decide)
    rw [List.append_nil]
    exact mk_quesG ⟨hS.same sm, same_seqT sm qa.hd, pv2, hg⟩ xl2 le ek (fun H' y' lA' pA' ts' s' ny' nl' qa' al => q H' y' lA' pA' xs2 es ts' (sm.trans s') (sm.free ny') qa' he al) ny ndy ne
end
end Sw
namespace Sw
open PySem PySem.Spec PyProof.Rows L2 NdefX
abbrev sChoice : Stmt := topS 54
abbrev nChoice : List Str := ["_law_hand", "_law_setup", "_law_ask", "_law_most", "_law_tables", "_law_room", "_law_items", "_law_kind", "_law_shape", "_law_item", "_law_one", "_law_k"]
abbrev pChoice : List Str := ["_law_hand", "_law_setup", "_law_ask", "_law_most"]
theorem scChoice : FnScope nChoice pChoice (defScope sChoice) := ⟨rfl, rfl, rfl, by decide +kernel, rfl, by decide +kernel, by decide +kernel⟩
section
variable {P : Program} {w : World} {K : PySem.W.Frag} {mg : Str → Option Value} {base : Heap}
theorem ok_choice {f fT fC fP fV : Addr} {fd fdT fdC fdP fdV : FuncData} (F : Fun K "_law_choice" "_law_choice" sChoice f fd) (B : Blt mg) (htup : mg "tuple" = none) (hsum : mg "sum" = none)
    (GT : FnOk P w K mg base CX0 1 fT fdT ["_law_hand", "_law_many"] spTake) (mT : mg "_law_take" = some (.ref fT)) (kT : PySem.W.keepIn K (.ref fT) = true) (bT : Binds K fdT ["_law_hand", "_law_many"] [])
    (GV : FnOk P w K mg base CX0 1 fV fdV ["_law_shapes"] (spVars K)) (mV : mg "_law_vars" = some (.ref fV)) (kV : PySem.W.keepIn K (.ref fV) = true) (bV : Binds K fdV ["_law_shapes"] [])
    (GC : FnOk P w K mg base CX0 4 fC fdC ["_law_tables", "_law_name"] (spCost K 3)) (mC : mg "_law_cost" = some (.ref fC)) (kC : PySem.W.keepIn K (.ref fC) = true) (bC : Binds K fdC ["_law_tables", "_law_name"] [])
    (GP : FnOk P w K mg base CX0 5 fP fdP ["_law_hand", "_law_tables", "_law_terms", "_law_many", "_law_room"] (spParts K)) (mP : mg "_law_parts" = some (.ref fP)) (kP : PySem.W.keepIn K (.ref fP) = true) (bP : Binds K fdP ["_law_hand", "_law_tables", "_law_terms", "_law_many", "_law_room"] []) :
    FnOk P w K mg base CX0 6 f fd pChoice (spChoice K) := by
  refine F.ok scChoice (fun vs H Q E h => ?_) (fun cdv A outer s H vs Q E hr h => ?_)
  · obtain ⟨h, R, a, t, sh, li, many, xs, ys, rows, vals, tms, k0, k, rfl, _⟩ := h
    rfl
  · obtain ⟨h, R, a, t, sh, li, many, xs, ys, rows, vals, tms, k0, k, rfl, hh, b, ax, fine, q⟩ := h
    have hu := hu_of hr
    have h1 : Room 1 _ := hr.mono (by decide)
    have h4 : Room 4 _ := hr.mono (by decide)
    refine ⟨_, pss_cons (ps_set (i := 4) scChoice.nd rfl (Or.inr rfl) (pe_ix ix_list (pv 1) pe_int (fun _ _ => rfl)))
      (pss_cons (ps_set (i := 5) scChoice.nd rfl (Or.inl rfl) (pe_op op_sub (pe_op op_sub pe_int (pe_callB (cr_sum rfl) (by rfl) hsum PyProof.Rows.boot_sum (pa_cons (pe_lc (own := [("_law_one", 10)]) (g := gName 10) (tt := tYes) (te := tCall (spCost K 3) [] E0 (tCons (tVar 4) (tCons (tOp (rIxT K) (tVar 10) (tC (.int 0))) tNil))) rfl scChoice.nd (pi_list (pe_ix ix_list (pv 2) pe_int (fun _ _ => rfl))) (blkOk_by (N := nChoice) (sc := defScope sChoice) (by decide +kernel))
          (fun _ _ _ _ _ => pg_name (i := 10) scChoice.nd rfl (Or.inl rfl)) (fun _ _ _ _ _ => pts_nil) (fun _ _ _ _ _ => pe_call GC h4 rfl mC kC bC .nil pass0 (pa_cons (pv 4) (pa_cons (pe_ix ix_tup (pv 10) pe_int (fun _ _ => rfl)) pa_nil)))) pa_nil)))
          (pe_callB call_lenD (by rfl) B.len PySem.boot_len (pa_cons (pe_ix ix_list (pv 2) pe_int (fun _ _ => rfl)) pa_nil))))
      (pss_cons (ps_set (i := 6) scChoice.nd rfl (Or.inl rfl) (pe_call GV h1 rfl mV kV bV .nil pass0 (pa_cons (pe_ix ix_list (pv 2) pe_int (fun _ _ => rfl)) pa_nil)))
      (pss_cons (ps_set (i := 7) scChoice.nd rfl (Or.inl rfl) (pe_call GT h1 rfl mT kT bT .nil pass0 (pa_cons (pv 0) (pa_cons pe_int pa_nil))))
      (pss_cons (ps_set (i := 8) scChoice.nd rfl (Or.inl rfl) (pe_ix ix_list (pe_call GP hr rfl mP kP bP .nil pass0 (pa_cons (pv 0) (pa_cons (pv 4) (pa_cons (pe_op op_joinL (pe_ix ix_list (pv 1) pe_int (fun _ _ => rfl)) (pe_slice sl_list (pe_ix ix_list (pv 1) pe_int (fun _ _ => rfl)) po_none (po_some pe_int))) (pa_cons pe_int (pa_cons pe_int pa_nil)))))) pe_int (fun _ _ => rfl)))
      (pss_mid (ps_if (PW.pt (pw_and (pt_cmpR op_eq (pv 7) pe_int (nomark _)) (pw_and (pt_cmpR op_lt (pe_callB call_len_seq (by rfl) B.len PySem.boot_len (pa_cons (pe_ix ix_list (pv 2) pe_int (fun _ _ => rfl)) pa_nil)) (pv 3) (nomark _)) (pw_and1 (pt_cmpR op_le (pe_call GC h4 rfl mC kC bC .nil pass0 (pa_cons (pv 4) (pa_cons (pe_ix ix_tup (pv 8) pe_int (fun _ _ => rfl)) pa_nil))) (pv 5) (nomark _)))))) (pss_one (ps_ret (pv 8))) pss_nil)
      (pss_cons (ps_if (PW.pt (pw_or (pt_cmpR op_lt (pv 7) pe_int (nomark _)) (pw_or1 (pt_cmpR (op_eqD hr.units) (pv 6) (pe_lst pa_nil) (nomark _))))) (pss_one (ps_ret (pe_ix ix_list (pe_ix ix_list (pv 2) pe_int (fun _ _ => rfl)) (pe_call GT h1 rfl mT kT bT .nil pass0 (pa_cons (pv 0) (pa_cons (pe_callB call_len_seq (by rfl) B.len PySem.boot_len (pa_cons (pe_ix ix_list (pv 2) pe_int (fun _ _ => rfl)) pa_nil)) pa_nil))) (fun _ _ => rfl)))) pss_nil)
      (pss_cons (ps_set (i := 9) scChoice.nd rfl (Or.inl rfl) (pe_ix ix_list (pv 6) (pe_call GT h1 rfl mT kT bT .nil pass0 (pa_cons (pv 0) (pa_cons (pe_callB call_len_seq (by rfl) B.len PySem.boot_len (pa_cons (pv 6) pa_nil)) pa_nil))) (fun _ _ => rfl)))
      (pss_mid (ps_if (PW.pt (pw_and (pt_cmp (pc_dnotin hu (pv 9) (pe_ix ix_list (pv 2) pe_int (fun _ _ => rfl)))) (pw_and1 (pt_cmpR op_lt (pv 5) pe_int (nomark _))))) (pss_one (ps_ret (pe_ix ix_list (pe_ix ix_list (pv 2) pe_int (fun _ _ => rfl)) pe_int (fun _ _ => rfl)))) pss_nil)
      (pss_one (ps_ret (pe_tup (pa_cons (pv 9) (pa_cons (pe_callTy call_tuple_of (by rfl) htup bTuple (pa_cons (pe_lc (own := [("_law_k", 11)]) (g := gName 11) (tt := tYes) (te := tOp (rIxL K) (tOp (rIxL K) (tVar 1) (tC (.int 1))) (tCall spTake [] E0 (tCons (tVar 0) (tCons (tC (.int 5)) tNil)))) rfl scChoice.nd (pi_range1 rfl B.range (pa_cons (pe_call GT h1 rfl mT kT bT .nil pass0 (pa_cons (pv 0) (pa_cons pe_int pa_nil))) pa_nil)) (blkOk_by (N := nChoice) (sc := defScope sChoice) (by decide +kernel))
          (fun _ _ _ _ _ => pg_name (i := 11) scChoice.nd rfl (Or.inl rfl)) (fun _ _ _ _ _ => pts_nil) (fun _ _ _ _ _ => pe_ix ix_list (pe_ix ix_list (pv 1) pe_int (fun _ _ => rfl)) (pe_call GT h1 rfl mT kT bT .nil pass0 (pa_cons (pv 0) (pa_cons pe_int pa_nil))) (fun _ _ => rfl))) pa_nil)) pa_nil))))))))))))), ?_⟩
    obtain ⟨T, Va, Tm, A, bR, hT, hVa, hTm, _⟩ := b.ex
    have v5 := b.v5
    have t4 := b.t4
    have yl := ax.sh.len
    have n3 := fine.n3
    have n1 : 1 ≤ k.ss.length := fine.good.n1
    refine ⟨_, rfl, R, _, _, _, rfl, rfl, SqL.of bR, atI_nat (j := 0) rfl, ?_⟩
    -- the room
    refine ⟨_, rfl, a, _, _, _, rfl, rfl, SqL.of ax.at_, atI_nat (j := 1) rfl, sh, rfl, ⟨_, ax.sh.at_⟩, fun D nD => ?_⟩
    refine lc_it (walk_list (K := K) (a := sh) (xs := ys)) (fun i Hc => ∃ ns : List Int, Hc D = some (.lst (ns.map V.int)) ∧ ns.length = i ∧ Same H Hc) ⟨[], upd_same, rfl, same_new nD⟩ (fun i Hc _ ⟨_, _, _, e⟩ => e.seq ax.sh.at_) ?_ ?_
    · rintro i x Hc Hy hi ⟨ns, hD, hnl, sm⟩ ⟨rfl, hx⟩
      obtain ⟨s, hs, ⟨qq, rfl, hq⟩, _⟩ := ax.sh.all i x hx
      obtain ⟨r, hr1, hr2, _⟩ := (fine.good.parts s (List.mem_of_getElem? hs)).row
      have h0 : (s.map V.str)[0]? = some (.str r.nm) := by
        cases s with
        | nil => cases hr2
        | cons a l =>
          obtain rfl := Option.some.inj hr2
          rfl
      refine ⟨rfl, ?_⟩
      refine ⟨_, rfl, _, rfl, qq, _, _, _, rfl, rfl, same_seqT sm hq, atI_nat (j := 0) h0, T, r.nm, xs, rows, rfl, hT.same sm, by have := b.ok.n3; omega, b.ok.ht r hr1, fun H' c s' => ?_⟩
      refine ⟨_, s' _ _ hD, by rw [List.length_map]; exact small1000 (by omega), ns ++ [c], ?_, ?_, same_mut (sm.trans s') nD⟩
      · rw [upd_same, List.map_append]
        rfl
      · rw [List.length_append, hnl]
        rfl
    rintro H1 ⟨ns, hD1, hnl, sm1⟩
    have ax1 := ax.same sm1
    refine ⟨D, ns, rfl, SqL.of hD1, _, _, rfl, rfl, _, rfl, a, _, _, _, rfl, rfl, SqL.of ax1.at_, atI_nat (j := 2) rfl, li, _, rfl, ax1.li.at_, _, _, rfl, rfl, ?_⟩
    obtain ⟨rm, hrm⟩ : ∃ rm : Int, rm = (4 : Int) - ns.sum - ((k.es.map fun e => (e.1, V.ref e.2.1)).length : Int) := ⟨_, rfl⟩
    -- the variables
    refine ⟨_, rfl, a, _, _, _, rfl, rfl, SqL.of ax1.at_, atI_nat (j := 1) rfl, sh, ys, k.ss, rfl, ax1.sh, fun H2 Dv us s2 nDv hDv und hus ul => ?_⟩
    have sm2 := sm1.trans s2
    have hh2 := hh.same sm2
    refine ⟨_, rfl, h, 4, rfl, hh2, by decide, fun kd H3 kd0 kd4 hh3 b3 => ?_⟩
    have sb3 : SBut h H H3 := (Same.sbut sm2).trans b3.sbut
    have ax3 := (ax.same sm2).hand hh2 b3.sbut
    have neDv : Dv ≠ h := (hh.same sm1).ne nDv
    have hDv3 := b3.sbut _ _ neDv hDv
    have hR3 : ∀ {Hc : Hp}, SBut h H Hc → Hc R = some (.lst [.ref T, .ref Va, .ref Tm, .ref A]) := fun s => s _ _ (hand_short hh (.inl ⟨_, bR, by show 4 ≤ 5; decide⟩)) bR
    have hTm3 : ∀ {Hc : Hp}, SBut h H Hc → Hc Tm = some (.lst (tms.map V.str)) := fun s => s _ _ (hand_short hh (.inl ⟨_, hTm, by rw [List.length_map]; omega⟩)) hTm
    have hVa3 : ∀ {Hc : Hp}, SBut h H Hc → Hc Va = some (.lst (vals.map V.str)) := fun s => s _ _ (hand_short hh (.inl ⟨_, hVa, by rw [List.length_map]; omega⟩)) hVa
    -- a new part
    refine ⟨_, rfl, _, rfl, _, rfl, R, _, _, _, rfl, rfl, SqL.of (hR3 sb3), atI_nat (j := 2) rfl, _, rfl, R, _, _, _, rfl, rfl, SqL.of (hR3 sb3), atI_nat (j := 1) rfl, 2, rfl, Va, _, rfl, SqL.of (hVa3 sb3), fun L1 nL1 => ?_⟩
    have e1 : cutV (vals.map V.str) none (some 2) = (vals.take 2).map V.str := by
      have := cut_upto (vals.map V.str) 2
      rw [← List.map_take] at this
      exact this
    rw [e1]
    have sL1 := same_new (o := .lst ((vals.take 2).map V.str)) nL1
    refine ⟨Tm, L1, _, _, rfl, rfl, SqL.of (sL1 _ _ (hTm3 sb3)), SqL.of upd_same, by rw [List.length_map, List.length_map, List.length_take]; exact Nat.le_of_lt (small1000 (by omega)), fun L2 nL2 => ?_⟩
    rw [← List.map_append]
    have sL2 := sL1.trans (same_new (o := .lst ((tms ++ vals.take 2).map V.str)) nL2)
    have sb3' : SBut h H (upd (upd H3 L1 (.lst ((vals.take 2).map V.str))) L2 (.lst ((tms ++ vals.take 2).map V.str))) := sb3.trans (Same.sbut sL2)
    refine ⟨h, T, L2, 1, 4, xs, rows, vals, tms ++ vals.take 2, rfl, hh3.same sL2, hT.hand hh sb3' b.ok, b.ok, b.nms, b.vls, SqL.of upd_same, by rw [List.length_append]; omega, by rw [List.length_append, List.length_take]; omega, fun z hz => ?_, by decide, by decide, fun H4 S2 ys2 ss2 hh4 sb4 nS4 neS hS sh2 n12 nm2 po => ?_⟩
    · rcases List.mem_append.mp hz with hz | hz
      · exact b.tls z hz
      · exact b.vls z (List.mem_of_mem_take hz)
    have sb04 := sb3'.trans sb4
    have ax4 := (ax3.same sL2).hand (hh3.same sL2) sb4
    have hDv4 : H4 Dv = some (.lst (us.map V.str)) := sb4 _ _ neDv (sL2 _ _ hDv3)
    obtain ⟨s0, es0⟩ : ∃ s0, ss2[0]? = some s0 := ⟨_, List.getElem?_eq_getElem n12⟩
    have hys2 : ys2[0]? = some (ys2[0]'(by rw [sh2.len]; exact n12)) := List.getElem?_eq_getElem _
    obtain ⟨s', q1, ⟨p0, ep0, hp0⟩, l2, l10, sk⟩ := sh2.all 0 _ hys2
    rw [es0] at q1
    obtain rfl := Option.some.inj q1
    rw [ep0] at hys2
    have pg := b.partGood (po s0 (List.mem_of_getElem? es0))
    obtain ⟨r0, hr0, hr1, _⟩ := pg.row
    have h00 : (s0.map V.str)[0]? = some (.str r0.nm) := by
      cases s0 with
      | nil => cases hr1
      | cons a l =>
        obtain rfl := Option.some.inj hr1
        rfl
    refine ⟨S2, _, _, _, rfl, rfl, sh2.at_, atI_nat (j := 0) hys2, ?_⟩
    have fin : ∀ {Hc : Hp} {p : Addr} {o : Opt}, HandAt Hc h → SBut h H4 Hc → OptAt K Hc p o → OptGood rows vals k o → Q (.ref p) Hc := fun hc sc ho hg => q _ _ _ hc (sb04.trans sc) ho hg
    refine ⟨fun σ Hc => σ = [some (.ref h), some (.ref R), some (.ref a), some (.int 3), some (.ref T), some (.int rm), some (.ref Dv), some (.int kd), some (.ref p0), none, none, none] ∧ Same H4 Hc, ?_, ?_⟩
    · have keep : ∀ {Hc : Hp}, Same H4 Hc → ([some (.ref h), some (.ref R), some (.ref a), some (.int 3), some (.ref T), some (.int ((4 : Int) - ns.sum - ((k.es.map fun e => (e.1, V.ref e.2.1)).length : Int))), some (.ref Dv), some (.int kd), some (.ref p0), none, none, none] : _root_.L2.St) = [some (.ref h), some (.ref R), some (.ref a), some (.int 3), some (.ref T), some (.int rm), some (.ref Dv), some (.int kd), some (.ref p0), none, none, none] ∧ Same H4 Hc := fun sc => ⟨by rw [hrm], sc⟩
      refine ⟨_, rfl, rfl, _, rfl, ?_⟩
      rw [dec_int]
      refine ite2 (fun _ => ?_) (fun _ => iteF (keep (Same.refl _)))
      refine ⟨_, rfl, a, _, _, _, rfl, rfl, SqL.of ax4.at_, atI_nat (j := 1) rfl, sh, _, rfl, .inl ax4.sh.at_, _, rfl, _, _, rfl, rfl, _, rfl, ?_⟩
      refine ite2 (fun c => ?_) (fun _ => iteF (keep (Same.refl _)))
      refine ⟨_, rfl, _, rfl, p0, _, _, _, rfl, rfl, hp0, atI_nat (j := 0) h00, T, r0.nm, xs, rows, rfl, hT.hand hh sb04 b.ok, by have := b.ok.n3; omega, b.ok.ht r0 hr0, fun H5 c5 s5 => ⟨_, rfl, _, _, rfl, rfl, _, rfl, ?_⟩⟩
      refine ite2 (fun _ => ?_) (fun _ => keep s5)
      refine ⟨_, rfl, fin (hh4.same s5) (Same.sbut s5) (o := .part s0) (same_seqT s5 hp0) ⟨pg, sk, .inr ?_⟩⟩
      rw [decide_eq_true_eq, yl] at c
      omega
    rintro σ H5 ⟨rfl, s5⟩
    have hh5 := hh4.same s5
    have ax5 := ax4.same s5
    have hDv5 := s5 _ _ hDv4
    -- one of its parts
    have own : ∀ {H6 : Hp} (tn : Nat), SBut h H5 H6 → HandAt H6 h → tn < ys.length → ∃ p s, ys[tn]? = some (.ref p) ∧ SqT K H6 p (s.map V.str) ∧ OptGood rows vals k (.part s) := fun tn sc hc htn => by
      obtain ⟨s1, g1, ⟨p1, ep1, hp1⟩, _, _, sk1⟩ := ax5.sh.all tn _ (List.getElem?_eq_getElem htn)
      exact ⟨p1, s1, by rw [List.getElem?_eq_getElem htn, ep1], sqT_hand hp1 hh5 sc, fine.good.parts s1 (List.mem_of_getElem? g1), sk1, .inl (List.mem_of_getElem? g1)⟩
    have taken : ∀ {H6 : Hp}, Same H5 H6 → (tRet (tOp (rIxL K) (tOp (rIxL K) (tVar 2) (tC (.int 1))) (tCall spTake [] E0 (tCons (tVar 0) (tCons (tCB (rLenSeq K) (tCons (tOp (rIxL K) (tVar 2) (tC (.int 1))) tNil)) tNil))))) { nx := fun _ H' => Q .non H', rt := Q } [some (.ref h), some (.ref R), some (.ref a), some (.int 3), some (.ref T), some (.int rm), some (.ref Dv), some (.int kd), some (.ref p0), none, none, none] H6 := fun {H6} s6 => by
      have ax6 := ax5.same s6
      refine ⟨_, rfl, a, _, _, _, rfl, rfl, SqL.of ax6.at_, atI_nat (j := 1) rfl, _, rfl, _, rfl, a, _, _, _, rfl, rfl, SqL.of ax6.at_, atI_nat (j := 1) rfl, sh, _, rfl, .inl ax6.sh.at_, h, _, rfl, hh5.same s6, by rw [yl]; omega, fun ti H7 t0 t1 hh7 b7 => ?_⟩
      obtain ⟨tn, rfl⟩ := Int.eq_ofNat_of_zero_le t0
      have sb7 : SBut h H5 H7 := (Same.sbut s6).trans b7.sbut
      obtain ⟨p1, s1, ep1, hp1, og⟩ := own tn sb7 hh7 (Int.ofNat_lt.mp t1)
      exact ⟨sh, _, _, _, rfl, rfl, (ax5.hand hh5 sb7).sh.at_, atI_nat (j := tn) ep1, fin hh7 ((Same.sbut s5).trans sb7) (o := .part s1) hp1 og⟩
    refine ⟨_, rfl, _, _, rfl, rfl, _, rfl, ?_⟩
    refine ite2 (fun _ => iteT (taken (Same.refl _))) (fun _ => ?_)
    refine ⟨_, rfl, by decide, fun N nN => ?_⟩
    have sN := same_new (o := .lst []) nN
    refine ⟨_, _, .lst (SqL.of (sN _ _ hDv5)) (dpStrs us), .lst (SqL.of upd_same) .nil, shapedL fun z hz => ?_, rfl, _, rfl, ?_⟩
    · obtain ⟨s1, hs1, hz1⟩ := List.mem_flatMap.mp ((hus z).mp hz)
      obtain ⟨i, hi⟩ := List.mem_iff_getElem?.mp hs1
      obtain ⟨s2', q2, _, _, _, q3⟩ := ax5.sh.all i _ (List.getElem?_eq_getElem (show i < ys.length by rw [yl]; exact (List.getElem?_eq_some_iff.mp hi).1))
      rw [hi] at q2
      obtain rfl := Option.some.inj q2
      exact q3 z (List.mem_of_mem_tail (List.mem_filter.mp hz1).1)
    rw [eqv_nilS]
    cases eu : us.isEmpty with
    | true => exact iteT (taken sN)
    | false =>
    refine iteF ?_
    have un1 : 0 < us.length := by
      cases us with
      | nil => cases eu
      | cons _ _ => exact Nat.succ_pos _
    generalize upd H5 N (.lst []) = H6 at sN ⊢
    have hh6 := hh5.same sN
    have ax6 := ax5.same sN
    have hDv6 := sN _ _ hDv5
    -- the variable
    refine ⟨_, rfl, _, rfl, _, rfl, Dv, _, rfl, .inl (SqL.of hDv6), h, _, rfl, hh6, by rw [List.length_map]; omega, fun ti H7 t0 t1 hh7 b7 => ?_⟩
    rw [List.length_map] at t1
    obtain ⟨tn, rfl⟩ := Int.eq_ofNat_of_zero_le t0
    have htn : tn < us.length := Int.ofNat_lt.mp t1
    obtain ⟨item, hit⟩ : ∃ item, us[tn]? = some item := ⟨_, List.getElem?_eq_getElem htn⟩
    have sb67 := b7.sbut
    have hDv7 := sb67 _ _ neDv hDv6
    have ax7 := ax6.hand hh6 sb67
    have sb57 : SBut h H4 H7 := ((Same.sbut s5).trans (Same.sbut sN)).trans sb67
    refine ⟨Dv, _, _, _, rfl, rfl, SqL.of hDv7, atI_nat (j := tn) (by rw [List.getElem?_map, hit]; rfl), ?_⟩
    refine ⟨fun σ Hc => σ = [some (.ref h), some (.ref R), some (.ref a), some (.int 3), some (.ref T), some (.int rm), some (.ref Dv), some (.int kd), some (.ref p0), some (.str item), none, none] ∧ Hc = H7, ?_, ?_⟩
    · refine ⟨_, rfl, _, rfl, a, _, _, _, rfl, rfl, SqL.of ax7.at_, atI_nat (j := 2) rfl, li, _, rfl, DGet.k (k := Sum.inr item) ax7.li.at_, _, rfl, ?_⟩
      cases ev : valV (k.es.map fun e => (e.1, V.ref e.2.1)) (Sum.inr item : Key) with
      | some v => exact iteF (iteF ⟨rfl, rfl⟩)
      | none =>
        refine iteT ⟨_, rfl, _, _, rfl, rfl, _, rfl, ?_⟩
        refine ite2 (fun _ => ?_) (fun _ => ⟨rfl, rfl⟩)
        obtain ⟨p1, s1, ep1, hp1, og⟩ := own 0 ((Same.sbut sN).trans sb67) hh7 (by rw [yl]; omega)
        exact ⟨_, rfl, a, _, _, _, rfl, rfl, SqL.of ax7.at_, atI_nat (j := 1) rfl, sh, _, _, _, rfl, rfl, ax7.sh.at_, atI_nat (j := 0) ep1, fin hh7 sb57 (o := .part s1) hp1 og⟩
    rintro σ H7' ⟨rfl, rfl⟩
    -- its values
    refine ⟨_, rfl, _, rfl, h, 4, rfl, hh7, by decide, fun kn H8 k0 k1 hh8 b8 => ⟨kn, rfl, by omega, by omega, fun L nL => ?_⟩⟩
    have neL : L ≠ h := hh8.ne nL
    have sb08 : SBut h H H8 := (sb04.trans sb57).trans b8.sbut
    refine lc_it (walk_range (lo := 0) (n := kn.toNat)) (fun i Hc => ∃ ws : List Str, Hc L = some (.lst (ws.map V.str)) ∧ ws.length = i ∧ HandAt Hc h ∧ SBut h H8 Hc ∧ ∀ z ∈ ws, z ∈ vals)
      ⟨[], upd_same, rfl, hh8.upd neL, Same.sbut (same_new nL), fun z hz => (nomatch hz)⟩ (fun _ _ _ _ => trivial) ?_ ?_
    · rintro i x Hc Hy hi ⟨ws, hL, wl, hc, sb, win⟩ ⟨rfl, rfl⟩
      refine ⟨rfl, ?_⟩
      have sbc := sb08.trans sb
      refine ⟨_, rfl, R, _, _, _, rfl, rfl, SqL.of (hR3 sbc), atI_nat (j := 1) rfl, _, rfl, h, 5, rfl, hc, by decide, fun u Hd u0 u1 hd bd => ?_⟩
      obtain ⟨un, rfl⟩ := Int.eq_ofNat_of_zero_le u0
      have hun : un < vals.length := by omega
      have hz := List.getElem?_eq_getElem hun
      have hzm := List.mem_of_getElem? hz
      generalize vals[un] = z at hz hzm
      refine ⟨Va, _, _, _, rfl, rfl, SqL.of (hVa3 (sbc.trans bd.sbut)), atI_nat (j := un) (by rw [List.getElem?_map, hz]; rfl), _, bd.sbut _ _ neL hL, by rw [List.length_map]; exact small1000 (by omega), ws ++ [z], ?_, ?_, hd.upd neL, same_past (sb.trans bd.sbut) nL, fun y hy => ?_⟩
      · rw [upd_same, List.map_append]
        rfl
      · rw [List.length_append, wl]
        rfl
      · rcases List.mem_append.mp hy with hy | hy
        · exact win y hy
        · rw [List.mem_singleton.mp hy]
          exact hzm
    rintro H9 ⟨ws, hL9, wl, hh9, sb9, win⟩
    refine ⟨L, _, rfl, .inl ⟨SqL.of hL9, fun Th nTh => ?_⟩⟩
    have sT := same_new (o := .tup (ws.map V.str)) nTh
    refine ⟨by show 2 ≤ sizeLine; decide, fun Tp nTp => ?_⟩
    have sTp := same_new (o := .tup [V.str item, V.ref Th]) nTp
    have s10 := sT.trans sTp
    exact fin (hh9.same s10) (((sb57.trans b8.sbut).trans sb9).trans (Same.sbut s10)) (o := .cond item ws) ⟨Th, SqT.of upd_same, SqT.of (sTp _ _ upd_same)⟩ ⟨(hus item).mp (List.mem_of_getElem? hit), by omega, win⟩
end
end Sw
namespace Sw
open PySem PySem.Spec PyProof.Rows L2 NdefX
abbrev sJoined : Stmt := topS 55
abbrev nJoined : List Str := ["_law_ask", "_law_option", "_law_rows", "_law_limits", "_law_menu", "_law_k", "_law_value"]
theorem scJoined : FnScope nJoined ["_law_ask", "_law_option"] (defScope sJoined) := ⟨rfl, rfl, rfl, by decide +kernel, rfl, by decide +kernel, by decide +kernel⟩
section
variable {P : Program} {w : World} {K : PySem.W.Frag} {mg : Str → Option Value} {base : Heap}
theorem ok_joined {f fR : Addr} {fd fdR : FuncData} (F : Fun K "_law_joined" "_law_joined" sJoined f fd) (B : Blt mg) (hlist : mg "list" = none) (hdict : mg "dict" = none)
    (GR : FnOk P w K mg base CX0 1 fR fdR ["_law_items"] (spRiseS K)) (mR : mg "_law_rising" = some (.ref fR)) (kR : PySem.W.keepIn K (.ref fR) = true) (bR : Binds K fdR ["_law_items"] []) :
    FnOk P w K mg base CX0 2 f fd ["_law_ask", "_law_option"] (spJoined K) := by
  refine F.ok scJoined (fun vs H Q E h => ?_) (fun cdv A outer s H vs Q E hr h => ?_)
  · obtain ⟨a, t, sh, li, p, ys, rows, vals, k, o, rfl, _⟩ := h
    rfl
  · obtain ⟨a, t, sh, li, p, ys, rows, vals, k, o, rfl, ax, fine, nv, ho, og, vls, q⟩ := h
    have hu := hu_of hr
    refine ⟨_, pss_cons (ps_set (i := 2) scJoined.nd rfl (Or.inl rfl) (pe_callTy call_list_of (by rfl) hlist bList (pa_cons (pe_ix ix_list (pv 0) pe_int (fun _ _ => rfl)) pa_nil)))
      (pss_cons (ps_set (i := 3) scJoined.nd rfl (Or.inl rfl) (pe_callTy call_dictD (by rfl) hdict bDictL (pa_cons (pe_ix ix_list (pv 0) pe_int (fun _ _ => rfl)) pa_nil)))
      (pss_mid (ps_if (pt_cmpR op_ne (pe_slice sl_str (pe_ix ix_tup (pv 1) pe_int (fun _ _ => rfl)) po_none (po_some pe_int)) pe_str (nomark _))
          (pss_one (ps_set (i := 2) scJoined.nd rfl (Or.inl rfl) (pe_op op_joinL (pv 2) (pe_lc (own := [("_law_k", 5)]) (g := gName 5) (tt := tYes) (te := tVar 1) rfl scJoined.nd (pi_range1 rfl B.range (pa_cons (pe_callTy call_int1 (by rfl) B.int bInt (pa_cons (pe_cmpR (op_notInD (room65 hr)) (pv 1) (pv 2) (by rfl)) pa_nil)) pa_nil)) (blkOk_by (N := nJoined) (sc := defScope sJoined) (by decide +kernel))
            (fun _ _ _ _ _ => pg_name (i := 5) scJoined.nd rfl (Or.inl rfl)) (fun _ _ _ _ _ => pts_nil) (fun _ _ _ _ _ => pv 1)))))
          (pss_cons (ps_set (i := 4) scJoined.nd rfl (Or.inr rfl) (pe_call GR hr rfl mR kR bR .nil pass0 (pa_cons (pe_callTy call_list_of (by rfl) hlist bList (pa_cons (pe_ix ix_tup (pv 1) pe_int (fun _ _ => rfl)) pa_nil)) pa_nil)))
          (pss_one (ps_dput hu (pv 3) (pe_ix ix_tup (pv 1) pe_int (fun _ _ => rfl)) (pe_lc (own := [("_law_value", 6)]) (g := gName 6) (tt := tTest (tOp (rIn K false) (tVar 6) (tVar 4))) (te := tVar 6) rfl scJoined.nd (pi_list (pe_dget2 hu (pv 3) (pe_ix ix_tup (pv 1) pe_int (fun _ _ => rfl)) (pv 4) ⟨rfl, rfl, rfl, rfl⟩)) (blkOk_by (N := nJoined) (sc := defScope sJoined) (by decide +kernel)) (fun _ _ _ _ _ => pg_name (i := 6) scJoined.nd rfl (Or.inl rfl))
            (fun _ _ _ _ _ => pts_one (pt_cmpR op_in_seq (pv 6) (pv 4) (by rfl))) (fun _ _ _ _ _ => pv 6)) rfl))))
      (pss_one (ps_ret (pe_lst (pa_cons (pe_ix ix_list (pv 0) pe_int (fun _ _ => rfl)) (pa_cons (pv 2) (pa_cons (pv 3) (pa_cons (pe_ix ix_list (pv 0) pe_int (fun _ _ => rfl)) pa_nil))))))))), ?_⟩
    have yl := ax.sh.len
    have n3 := fine.n3
    refine ⟨_, rfl, a, _, _, _, rfl, rfl, SqL.of ax.at_, atI_nat (j := 1) rfl, sh, _, rfl, .inl ax.sh.at_, fun R nR => ?_⟩
    have sR := same_new (o := .lst ys) nR
    refine ⟨_, rfl, a, _, _, _, rfl, rfl, SqL.of (sR _ _ ax.at_), atI_nat (j := 2) rfl, li, _, rfl, .inl (sR _ _ ax.li.at_), fun D nD => ?_⟩
    have sD := same_new (o := .dK (k.es.map fun e => (e.1, V.ref e.2.1))) nD
    have s1 := sR.trans sD
    have hR1 : upd (upd H R (.lst ys)) D (.dK (k.es.map fun e => (e.1, V.ref e.2.1))) R = some (.lst ys) := sD _ _ upd_same
    have hD1 : upd (upd H R (.lst ys)) D (.dK (k.es.map fun e => (e.1, V.ref e.2.1))) D = some (.dK (k.es.map fun e => (e.1, V.ref e.2.1))) := upd_same
    have nD0 : H D = none := sR.free nD
    generalize upd (upd H R (.lst ys)) D (.dK (k.es.map fun e => (e.1, V.ref e.2.1))) = H1 at s1 hR1 hD1 ⊢
    clear sR sD nD
    have ax1 := ax.same s1
    have ho1 := ho.same s1
    have fin : ∀ {Hc : Hp} {R2 : Addr} {ys2 : List V} {es2 : List Ent}, Same H Hc → H R2 = none → ShapesAt K Hc R2 ys2 (optS k.ss o) → Lims K Hc D vals (allVars (optS k.ss o)) es2 → (∀ e ∈ es2, e ∈ k.es ∨ H e.2.1 = none) → JoinE k.es o es2 → ∀ a', Hc a' = none → Q (.ref a') (upd Hc a' (.lst [.ref t, .ref R2, .ref D, .bl k.dup])) := fun {Hc R2 ys2 es2} sc nR2 hs2 hl2 hes hj a' na' => by
      have sa := same_new (o := .lst [.ref t, .ref R2, .ref D, .bl k.dup]) na'
      refine q _ a' R2 D ys2 ⟨k.hd, optS k.ss o, es2, k.dup⟩ (sc.trans sa) (sc.free na') nR2 hes ⟨upd_same, sa _ _ (sc _ _ ax.hd), hs2.same sa, hl2.same sa⟩ (fine.join og rfl rfl hj hl2.nd fun e he => (hl2.all e he).2.2.2.2) rfl rfl rfl hj
    refine ⟨fun σ Hc => ∃ (R2 : Addr) (x4 : Option V) (ys2 : List V) (es2 : List Ent), σ = [some (.ref a), some (.ref p), some (.ref R2), some (.ref D), x4, none, none] ∧ Same H Hc ∧ H R2 = none ∧ ShapesAt K Hc R2 ys2 (optS k.ss o) ∧ Lims K Hc D vals (allVars (optS k.ss o)) es2 ∧ (∀ e ∈ es2, e ∈ k.es ∨ H e.2.1 = none) ∧ JoinE k.es o es2, ?_, ?_⟩
    · cases o with
      | part s =>
        obtain ⟨pg, sk, _⟩ := og
        obtain ⟨r, hr1, hr2, _⟩ := pg.row
        have h0 : (s.map V.str)[0]? = some (.str r.nm) := by
          cases s with
          | nil => cases hr2
          | cons a l =>
            obtain rfl := Option.some.inj hr2
            rfl
        have nvr : ¬ decide (V.str (cutS r.nm none (some 1)) = V.str "?") = true := by
          have := nv r hr1
          unfold isV at this
          rw [this]
          decide
        refine ⟨_, rfl, p, _, _, _, rfl, rfl, ho1, atI_nat (j := 0) h0, 1, rfl, r.nm, rfl, Nat.le_trans (pg.short r.nm (List.mem_of_mem_head? (by rw [hr2]; rfl))) (by decide), ?_⟩
        refine ⟨rfl, _, rfl, ?_⟩
        rw [show decide (V.str (cutS r.nm none (some 1)) = V.str "?") = false from Bool.eq_false_iff.mpr nvr]
        refine iteT ?_
        have shr : SeqAt.shaped (.tuple (s.map .str)) = true := (shapedStrs sk).1
        have pv1 := ax1.sh.pv
        refine ⟨_, rfl, _, rfl, _, rfl, _, _, .tup ho1 (dpStrs _), .lst (SqL.of hR1) pv1.dp, shr, shapedShapes ax.sh.ok, .inr ⟨_, rfl, ?_⟩⟩
        rw [any_shapes]
        have ecnt : (if (!decide (s ∈ k.ss)) = true then (1 : Int) else 0) = ((if s ∈ k.ss then 0 else 1 : Nat) : Int) := by
          by_cases c : s ∈ k.ss
          · rw [if_pos c, decide_eq_true c]
            rfl
          · rw [if_neg c, decide_eq_false c]
            rfl
        have cn1 : (if s ∈ k.ss then 0 else 1 : Nat) ≤ 1 := by by_cases c : s ∈ k.ss <;> simp [c]
        rw [ecnt]
        obtain ⟨cn, hcn⟩ : ∃ cn : Nat, cn = if s ∈ k.ss then 0 else 1 := ⟨_, rfl⟩
        rw [← hcn] at cn1 ⊢
        refine ⟨_, rfl, by omega, by omega, fun L nL => ?_⟩
        refine lc_it (walk_range (lo := 0) (n := (cn : Int).toNat)) (fun i Hc => Same H1 Hc ∧ Hc L = some (.lst (List.replicate i (V.ref p)))) ⟨same_new nL, upd_same⟩ (fun _ _ _ _ => trivial) ?_ ?_
        · rintro i x Hc Hy hi ⟨sm, hL⟩ ⟨rfl, rfl⟩
          refine ⟨rfl, _, rfl, _, hL, by rw [List.length_replicate]; exact small1000 (by omega), same_mut sm nL, ?_⟩
          rw [upd_same, List.replicate_succ']
        rintro H2 ⟨s2, hL⟩
        rw [Int.toNat_natCast] at hL
        refine ⟨R, L, _, _, rfl, rfl, SqL.of (s2 _ _ hR1), SqL.of hL, by rw [List.length_replicate, yl]; exact Nat.le_of_lt (small1000 (by omega)), fun R2 nR2 => ?_⟩
        have sR2 := same_new (o := .lst (ys ++ List.replicate cn (V.ref p))) nR2
        have s12 := (s1.trans s2).trans sR2
        have two : 2 ≤ s.length := pg.two
        refine ⟨R2, none, ys ++ List.replicate cn (V.ref p), k.es, rfl, s12, (s1.trans s2).free nR2, ?_, ?_, fun e he => .inl he, rfl⟩
        · have := (ax.sh.same s12).opt (R := R2) (same_seqT s12 ho) (by omega) two pg.len sk (by rw [← hcn]; exact upd_same)
          rwa [← hcn] at this
        · have hD2 := (s2.trans sR2) _ _ hD1
          exact ⟨hD2, ax.li.nd, fun e he => let ⟨g1, g2, g3, g4, v, g5, g6⟩ := ax.li.all e he; ⟨s12 _ _ g1, g2, g3, g4, v, g5, optS_sub (o := .part s) v g6⟩⟩
      | cond v us =>
        obtain ⟨hv, u3, uv⟩ := og
        obtain ⟨tt, ho0, ht0⟩ := ho1
        have iv : isV v = true := by
          obtain ⟨s, _, h⟩ := List.mem_flatMap.mp hv
          exact (List.mem_filter.mp h).2
        have vok : SOk v := by
          obtain ⟨s, hs, h⟩ := List.mem_flatMap.mp hv
          exact ax.sh.ok s hs v (List.mem_of_mem_tail (List.mem_filter.mp h).1)
        refine ⟨_, rfl, p, _, _, _, rfl, rfl, ho0, atI_nat (j := 0) rfl, 1, rfl, v, rfl, Nat.le_trans vok.1 (by decide), ?_⟩
        refine ⟨rfl, _, rfl, ?_⟩
        rw [show decide (V.str (cutS v none (some 1)) = V.str "?") = true from iv]
        refine iteF ?_
        refine ⟨_, rfl, p, _, _, _, rfl, rfl, ho0, atI_nat (j := 1) rfl, tt, _, rfl, .inr ht0, fun L nL => ?_⟩
        have sL := same_new (o := .lst (us.map V.str)) nL
        refine ⟨L, us, rfl, SqL.of upd_same, by omega, fun H2 M ms s2' nM hM as hm => ?_⟩
        have s2 := sL.trans s2'
        have hD2 := s2 _ _ hD1
        have ho2 := same_seqT s2 ho0
        have s02 := s1.trans s2
        have nM0 : H M = none := (s1.trans sL).free nM
        obtain ⟨kA, base', ek, hkA, bas, bl3, bv, bm⟩ : ∃ (kA : Addr) (base' : List Str), (valV (k.es.map fun e => (e.1, V.ref e.2.1)) (Sum.inr v : Key)).getD (.ref M) = .ref kA ∧ H2 kA = some (.lst (base'.map V.str)) ∧ AscS base' ∧ base'.length ≤ 3 ∧ (∀ z ∈ base', z ∈ vals) ∧ ∀ x, (x ∈ base' ∧ x ∈ us) ↔ (x ∈ us ∧ ∀ e, entOf k.es (Sum.inr v : Key) = some e → x ∈ e.2.2) := by
          rw [valV_find]
          unfold entOf
          cases he : k.es.find? fun e => decide (e.1 = (Sum.inr v : Key)) with
          | none => exact ⟨M, ms, rfl, hM, as, asc_sub as hm u3, fun z hz => uv z ((hm z).mp hz), fun x => ⟨fun h => ⟨h.2, fun e h => (nomatch h)⟩, fun h => ⟨(hm x).mpr h.1, h.1⟩⟩⟩
          | some e =>
            obtain ⟨g1, g2, g3, g4, _⟩ := ax.li.all e (List.mem_of_find?_eq_some he)
            exact ⟨e.2.1, e.2.2, rfl, s02 _ _ g1, g2, g3, g4, fun x => ⟨fun h => ⟨h.2, fun e' h' => by rw [← Option.some.inj h']; exact h.1⟩, fun h => ⟨h.2 e rfl, h.1⟩⟩⟩
        refine ⟨_, rfl, D, rfl, .inl ⟨_, .inl hD2⟩, _, rfl, p, _, _, _, rfl, rfl, ho2, atI_nat (j := 0) rfl, _, rfl, _, DGet.k (k := Sum.inr v) hD2, ?_⟩
        rw [ek]
        refine ⟨kA, rfl, ⟨_, SqL.of hkA⟩, fun N nN => ?_⟩
        refine lc_it (walk_list (K := K) (a := kA) (xs := base'.map V.str)) (fun i Hc => ∃ ws : List Str, Same H2 Hc ∧ Hc N = some (.lst (ws.map V.str)) ∧ ws.length ≤ i ∧ ws = (base'.take i).filter fun x => decide (x ∈ ms))
          ⟨[], same_new nN, upd_same, Nat.le_refl _, rfl⟩ (fun i Hc _ ⟨_, sm, _⟩ => SqL.of (sm _ _ hkA)) ?_ ?_
        · rintro i y Hc Hy hi ⟨ws, sm, hN, wl, ew⟩ ⟨rfl, hy⟩
          rw [List.getElem?_map] at hy
          obtain ⟨u, hu, rfl⟩ := Option.map_eq_some_iff.mp hy
          rw [List.length_map] at hi
          refine ⟨rfl, ?_⟩
          refine ⟨_, rfl, _, rfl, M, ms.map V.str, rfl, .inl (SqL.of (sm _ _ hM)), rfl, flat_strs _, _, rfl, ?_⟩
          rw [if_neg (by decide), inV_str, take_snoc hu, List.filter_append]
          by_cases c : u ∈ ms
          · rw [decide_eq_true c]
            refine iteT ⟨_, rfl, _, hN, by rw [List.length_map]; exact small1000 (by omega), ws ++ [u], same_mut sm nN, by rw [upd_same, List.map_append]; rfl, by rw [List.length_append]; exact Nat.succ_le_succ wl, ?_⟩
            rw [ew, List.filter_cons_of_pos (by rw [decide_eq_true c])]
            rfl
          · rw [decide_eq_false c]
            refine iteF ⟨ws, sm, hN, by omega, ?_⟩
            rw [ew, List.filter_cons_of_neg (by rw [decide_eq_false c]; decide)]
            show _ = _ ++ List.filter _ []
            rw [List.filter_nil, List.append_nil]
        rintro H3 ⟨ws, s3, hN, wl, ew⟩
        rw [List.length_map, List.take_length] at ew
        rw [List.length_map] at wl
        have hD3 := s3 _ _ hD2
        have ho3 := same_seqT s3 ho2
        have nN0 : H N = none := s02.free nN
        have neN : N ≠ D := fun z => by
          rw [z, hD3] at hN
          cases hN
        refine ⟨_, rfl, _, rfl, p, _, _, _, rfl, rfl, ho3, atI_nat (j := 0) rfl, D, _, rfl, DPut.k (k := Sum.inr v) hD3 (by rw [List.length_map]; exact small1000 (by have := fine.el; omega)), ?_⟩
        have sP : Same H (upd H3 D (.dK (putK (k.es.map fun e => (e.1, V.ref e.2.1)) (Sum.inr v) (.ref N)))) := same_mut (s02.trans s3) nD0
        have wmem : ∀ x, x ∈ ws ↔ x ∈ base' ∧ x ∈ us := fun x => by rw [ew, List.mem_filter, decide_eq_true_eq, hm x]
        refine ⟨R, _, ys, putEnt k.es (Sum.inr v) N ws, rfl, sP, ?_, ?_, ⟨?_, putEnt_nd ax.li.nd, fun e he => ?_⟩, fun e he => ?_, N, ws, rfl, fun x => (wmem x).trans (bm x)⟩
        · exact nR
        · exact ⟨SqL.of (by rw [upd_ne (ne_of hR1 hD1 fun z => nomatch z)]; exact (s2.trans s3) _ _ hR1), yl, ax.sh.sml, fun i w hw => let ⟨s', g1, ⟨b, g2, g3⟩, g4⟩ := ax.sh.all i w hw; ⟨s', g1, ⟨b, g2, same_seqT sP g3⟩, g4⟩⟩
        · rw [upd_same, putEnt_kv]
        · rcases putEnt_mem he with ⟨h1, _⟩ | rfl
          · obtain ⟨g1, g2⟩ := ax.li.all e h1
            exact ⟨sP _ _ g1, g2⟩
          · refine ⟨by rw [upd_ne neN]; exact hN, ?_, by show ws.length ≤ 3; omega, fun z hz => bv z ((wmem z).mp hz).1, v, rfl, hv⟩
            show AscS ws
            rw [ew]
            exact bas.filter _
        · rcases putEnt_mem he with ⟨h1, _⟩ | rfl
          · exact .inl h1
          · exact .inr nN0
    rintro σ Hc ⟨R2, x4, ys2, es2, rfl, sc, nR2, hs2, hl2, hes, hj⟩
    have ax2 := ax.same sc
    exact ⟨_, rfl, a, _, _, _, rfl, rfl, SqL.of ax2.at_, atI_nat (j := 0) rfl, _, rfl, _, rfl, _, rfl, a, _, _, _, rfl, rfl, SqL.of ax2.at_, atI_nat (j := 3) rfl, by show 4 ≤ sizeLine; decide, fun a' na' => fin sc nR2 hs2 hl2 hes hj a' na'⟩
end
end Sw
namespace Sw
open PySem PySem.Spec PyProof.Rows L2 NdefX
abbrev sQuesIs : Stmt := topS 56
abbrev nQuesIs : List Str := ["_law_question", "_law_ask", "_law_told", "_law_item"]
theorem scQuesIs : FnScope nQuesIs ["_law_question", "_law_ask"] (defScope sQuesIs) := ⟨rfl, rfl, rfl, by decide +kernel, rfl, by decide +kernel, by decide +kernel⟩
theorem bBool : bootBuiltins "bool" = some (.type "bool") := by decide +kernel
theorem bDict : bootBuiltins "dict" = some (.type "dict") := by decide +kernel
/-- what isinstance says of the types of the written values -/
structure Kinds (K : PySem.W.Frag) (mg : Str → Option Value) : Prop where
  isi : mg "isinstance" = none
  bool : mg "bool" = none
  tuple : mg "tuple" = none
  dict : mg "dict" = none
  bb : PySem.W.kitOne K (.type "bool") (.type "bool") = some true
  dd : PySem.W.kitOne K (.type "dict") (.type "dict") = some true
section
variable {P : Program} {w : World} {K : PySem.W.Frag} {mg : Str → Option Value} {base : Heap}
theorem ok_quesis {f CQ : Addr} {fd : FuncData} (F : Fun K "_law_question_is" "_law_question_is" sQuesIs f fd) (C : QuesC K CQ) (T : Kinds K mg) (hlen : mg "len" = none) : FnOk P w K mg base CX0 1 f fd ["_law_question", "_law_ask"] (spQuesIs K CQ) := by
  refine F.ok scQuesIs (fun vs H Q E h => ?_) (fun cdv A outer s H vs Q E hr h => ?_)
  · obtain ⟨x, S, hA, pA, lA, a, t, sh, li, ts, xs, ys, vals, k, rfl, _⟩ := h
    rfl
  · obtain ⟨x, S, hA, pA, lA, a, t, sh, li, ts, xs, ys, vals, k, rfl, qa, ax, al, vls, hok, el, q⟩ := h
    have hu := hu_of hr
    refine ⟨_, pss_cons (ps_if (PW.pt (pw_or (pt_cmpR (op_neD hr.units) (pe_fld (pv 0) rfl) (pe_ix ix_list (pv 1) pe_int (fun _ _ => rfl)) (nomark _)) (pw_or (pt_cmpR (op_neD hr.units) (pe_fld (pv 0) rfl) (pe_callTy call_tuple_of (by rfl) T.tuple bTuple (pa_cons (pe_ix ix_list (pv 1) pe_int (fun _ _ => rfl)) pa_nil)) (nomark _)) (pw_or1 (pt_cmpR op_ne (pe_fld (pv 0) rfl) (pe_ix ix_list (pv 1) pe_int (fun _ _ => rfl)) (nomark _)))))) (pss_one (ps_ret pe_bl)) pss_nil)
      (pss_cons (ps_if (PW.pt (pw_or (pt_not (pt_is (by intro _; rfl) (pe_callB call_isi (by rfl) T.isi boot_isinstance (pa_cons (pe_fld (pv 0) rfl) (pa_cons (pe_bltn (v := .ty "bool") rfl T.bool bBool rfl) pa_nil))))) (pw_or1 (pt_not (pt_is (by intro _; rfl) (pe_callB call_isi (by rfl) T.isi boot_isinstance (pa_cons (pe_fld (pv 0) rfl) (pa_cons (pe_bltn (v := .ty "dict") rfl T.dict bDict rfl) pa_nil)))))))) (pss_one (ps_ret pe_bl)) pss_nil)
      (pss_cons (ps_lock (ps_setLc (i := 2) (own := [("_law_item", 3)]) (g := gName 3) (tt := tTest (tOp (rEqD K) (tDGet1 (tFld K (tVar 0) "among") (tVar 3)) (tCB (rTupOf K) (tCons (tDGet (tOp (rIxL K) (tVar 1) (tC (.int 2))) (tVar 3)) tNil)))) (te := tVar 3) rfl scQuesIs.nd rfl rfl (sw_true rfl rfl rfl (by decide +kernel)) (pi_keys (pe_ix ix_list (pv 1) pe_int (fun _ _ => rfl))) (blkOk_by (N := nQuesIs) (sc := defScope sQuesIs) (by decide +kernel)) (fun _ _ _ _ _ => pg_name (i := 3) scQuesIs.nd rfl (Or.inl rfl))
          (fun _ _ _ _ _ => pts_one (pt_cmpR (op_eqD hr.units) (pe_dget1 hu (pe_fld (pv 0) rfl) (pv 3) ⟨rfl, rfl, rfl, rfl⟩) (pe_callTy call_tuple_of (by rfl) T.tuple bTuple (pa_cons (pe_dget hu (pe_ix ix_list (pv 1) pe_int (fun _ _ => rfl)) (pv 3) (fun _ _ => rfl)) pa_nil)) (nomark _))) (fun _ _ _ _ _ => pv 3)))
      (pss_one (ps_ret (pe_and (pe_cmpR op_eq (pe_callB call_len_seq (by rfl) hlen PySem.boot_len (pa_cons (pv 2) pa_nil)) (pe_callB call_lenD (by rfl) hlen PySem.boot_len (pa_cons (pe_ix ix_list (pv 1) pe_int (fun _ _ => rfl)) pa_nil)) (nomark _)) (pe_one (pe_cmpR op_eq (pe_callB call_lenD (by rfl) hlen PySem.boot_len (pa_cons (pe_fld (pv 0) rfl) pa_nil)) (pe_callB call_lenD (by rfl) hlen PySem.boot_len (pa_cons (pe_ix ix_list (pv 1) pe_int (fun _ _ => rfl)) pa_nil)) (nomark _)))))))), ?_⟩
    obtain ⟨⟨dx, g1⟩, g2, g3, g4, g5⟩ := qa
    obtain ⟨hd1, hd2⟩ := shapedStrs hok
    obtain ⟨hp1, hp2⟩ := shapedParts ax.sh.ok
    refine ⟨_, rfl, x, CQ, dx, _, _, rfl, g1, C.cl, C.n2, rfl, _, rfl, a, _, _, _, rfl, rfl, SqL.of ax.at_, atI_nat (j := 0) rfl, _, _, .tup g2 (dpStrs _), .tup (SqT.of ax.hd) (dpStrs _), hd1, hd1, _, rfl, ?_⟩
    rw [hd2]
    refine iteF ?_
    refine ⟨_, rfl, x, CQ, dx, _, _, rfl, g1, C.cl, C.n3, rfl, _, rfl, a, _, _, _, rfl, rfl, SqL.of ax.at_, atI_nat (j := 1) rfl, sh, _, rfl, .inl ⟨ax.sh.at_, fun T2 nT2 => ?_⟩⟩
    have sT := same_new (o := .tup ys) nT2
    refine ⟨.tuple (shD k.ss), .tuple (shD k.ss), .tup (same_seqT sT g3) (g4.same sT).dp, .tup (SqT.of upd_same) (ax.sh.same sT).pv.dp, hp1, hp1, _, rfl, ?_⟩
    rw [hp2]
    refine iteF ?_
    generalize upd H T2 (.tup ys) = H1 at sT ⊢
    have g1' := sT _ _ g1
    have g5' := g5.same sT
    have ax1 := ax.same sT
    refine ⟨_, rfl, x, CQ, dx, _, _, rfl, g1', C.cl, C.n5, rfl, _, rfl, a, _, _, _, rfl, rfl, SqL.of ax1.at_, atI_nat (j := 3) rfl, rfl, _, rfl, iteNS rfl ?_⟩
    refine ⟨_, rfl, x, CQ, dx, _, _, rfl, g1', C.cl, C.n5, rfl, _, _, _, _, _, rfl, .ty _, .base (.bl _), T.bb, true, rfl, iteF ?_⟩
    refine ⟨_, rfl, x, CQ, dx, _, _, rfl, g1', C.cl, C.n4, rfl, _, _, _, _, _, rfl, .ty _, .base (.dK g5'.at_), T.dd, true, rfl, iteF ?_⟩
    -- the conditions
    have ek : (k.es.map fun e : Ent => (e.1, V.ref e.2.1)).map (·.1) = k.es.map fun e : Ent => e.1 := by rw [List.map_map]; rfl
    have getE : ∀ e ∈ k.es, valV (k.es.map fun e : Ent => (e.1, V.ref e.2.1)) e.1 = some (V.ref e.2.1) := fun e he => valV_of_nd (by rw [ek]; exact ax.li.nd) (List.mem_map.mpr ⟨e, he, rfl⟩)
    have hli := ax1.li.at_
    have tnd : (ts.map (·.1)).Nodup := by rw [al.keys]; exact ax.li.nd
    refine ⟨li, _, hli, True.intro, fun od => ?_⟩
    have offL : ∀ {b : Addr} {o : HO}, H1 b = some o → (∀ kvs, o ≠ .dK kvs) → upd H1 li (.frz od (.dK (k.es.map fun e : Ent => (e.1, V.ref e.2.1)))) b = some o := fun h n => by rw [upd_ne (ne_of h hli (n _))]; exact h
    have d0 : Ent := ((Sum.inl 0 : Key), 0, [])
    refine ⟨_, rfl, a, _, _, _, rfl, rfl, SqL.of (offL ax1.at_ fun _ z => nomatch z), atI_nat (j := 2) rfl, li, od, rfl, .inl ⟨_, upd_same, fun D nD => ?_⟩⟩
    have tl : ts.length = k.es.length := by have := congrArg List.length al.keys; rwa [List.length_map, List.length_map] at this
    refine lc_it (wk_keys (l := k.es) (f := fun e : Ent => e.1) ek) (fun i Hc => Same (upd H1 li (.frz od (.dK (k.es.map fun e : Ent => (e.1, V.ref e.2.1))))) Hc ∧ ∃ us : List V, Hc D = some (.lst us) ∧ us.length = i)
      ⟨same_new nD, [], upd_same, rfl⟩ (fun i Hc _ ⟨e, _⟩ => e _ _ upd_same) ?_ ?_
    · rintro i y Hc Hy hi ⟨sm, us, hD, ul⟩ ⟨rfl, e, he, rfl⟩
      have hem := List.mem_of_getElem? he
      obtain ⟨e1, e2, e3, e4, v, e5, e6⟩ := ax1.li.all e hem
      obtain ⟨r, r1, r2, r3⟩ := paired_get al he
      have hrm := List.mem_of_getElem? r1
      obtain ⟨t1, t2⟩ := g5'.all r hrm
      have nel : lA ≠ li := fun z => by
        have h := g5'.at_
        rw [z, hli] at h
        have h2 : (k.es.map fun e : Ent => (e.1, V.ref e.2.1)) = ts.map fun e : Ent => (e.1, V.ref e.2.1) := HO.dK.inj (Option.some.inj h)
        have h3 : (k.es.map fun e : Ent => (e.1, V.ref e.2.1))[i]? = (ts.map fun e : Ent => (e.1, V.ref e.2.1))[i]? := by rw [h2]
        rw [List.getElem?_map, List.getElem?_map, he, r1] at h3
        have h4 := V.ref.inj (Prod.mk.inj (Option.some.inj h3)).2
        rw [h4, t1] at e1
        cases e1
      have hget : valV (ts.map fun e : Ent => (e.1, V.ref e.2.1)) e.1 = some (V.ref r.2.1) := by
        rw [← r2]
        exact valV_of_nd (by rw [List.map_map]; exact tnd) (List.mem_map.mpr ⟨r, hrm, rfl⟩)
      have hlA : Hy lA = some (.dK (ts.map fun e : Ent => (e.1, V.ref e.2.1))) := sm _ _ (by rw [upd_ne nel]; exact g5'.at_)
      have eus : r.2.2 = e.2.2 := ascS_unique t2 e2 r3
      have wok : ∀ z ∈ e.2.2, SOk z := fun z hz => vls z (e4 z hz)
      refine ⟨rfl, ?_⟩
      refine ⟨_, rfl, x, CQ, dx, _, _, rfl, sm _ _ (offL g1' fun _ z => nomatch z), C.cl, C.n4, rfl, lA, rfl, .inl ⟨_, .inl hlA⟩, _, rfl, _, DGet.k (k := e.1) hlA, ?_⟩
      rw [hget]
      refine ⟨_, rfl, a, _, _, _, rfl, rfl, SqL.of (sm _ _ (offL ax1.at_ fun _ z => nomatch z)), atI_nat (j := 2) rfl, _, rfl, li, V.ref e.2.1, rfl, .inl ⟨_, e.1, .inr ⟨od, sm _ _ upd_same⟩, rfl, (getE e hem).symm⟩, e.2.1, _, rfl, .inl ⟨SqL.of (sm _ _ (offL e1 fun _ z => nomatch z)), fun T nT => ?_⟩⟩
      have sT := same_new (o := .tup (e.2.2.map V.str)) nT
      have shp := (shapedStrs wok).1
      refine ⟨.tuple (e.2.2.map .str), .tuple (e.2.2.map .str), ?_, .tup (SqT.of upd_same) (dpStrs _), shp, shp, _, rfl, ?_⟩
      · have := sT _ _ (sm _ _ (offL t1 fun _ z => nomatch z))
        rw [eus] at this
        exact .tup (SqT.of this) (dpStrs _)
      · rw [(shapedStrs wok).2]
        exact iteT ⟨_, rfl, us, sT _ _ hD, small1000 (by omega), same_mut (sm.trans sT) nD, us ++ [kV e.1], upd_same, by rw [List.length_append, ul]; rfl⟩
    rintro He ⟨se, us, hD, ul⟩
    have hz := se _ _ upd_same
    refine ⟨hz, ?_⟩
    have sU : Same H1 (upd He li (.dK (k.es.map fun e : Ent => (e.1, V.ref e.2.1)))) := unlock_same hli se
    have hDU : upd He li (.dK (k.es.map fun e : Ent => (e.1, V.ref e.2.1))) D = some (.lst us) := by
      rw [upd_ne (ne_of hD hz (fun z => nomatch z))]
      exact hD
    generalize upd He li (.dK (k.es.map fun e : Ent => (e.1, V.ref e.2.1))) = H3 at sU hDU ⊢
    have ax3 := ax1.same sU
    refine ⟨_, rfl, D, _, rfl, .inl (SqL.of hDU), _, rfl, a, _, _, _, rfl, rfl, SqL.of ax3.at_, atI_nat (j := 2) rfl, li, _, rfl, ax3.li.at_, rfl, _, rfl, ?_⟩
    rw [List.length_map, ul, decide_eq_true rfl]
    refine iteT ?_
    refine ⟨_, rfl, x, CQ, dx, _, _, rfl, sU _ _ g1', C.cl, C.n4, rfl, lA, _, rfl, sU _ _ g5'.at_, _, rfl, a, _, _, _, rfl, rfl, SqL.of ax3.at_, atI_nat (j := 2) rfl, li, _, rfl, ax3.li.at_, rfl, ?_⟩
    rw [List.length_map, List.length_map, tl, decide_eq_true rfl]
    exact q _ (sT.trans sU)
end
end Sw
namespace Sw
open PySem PySem.Spec PyProof.Rows L2 NdefX
abbrev sQuery : Stmt := topS 53
theorem scQuery : FnScope ["_law_schema", "_law_ask", "_law_rows"] ["_law_schema", "_law_ask"] (defScope sQuery) := ⟨rfl, rfl, rfl, by decide +kernel, rfl, by decide +kernel, by decide +kernel⟩
section
variable {P : Program} {w : World} {K : PySem.W.Frag} {mg : Str → Option Value} {base : Heap}
theorem mk_ques {CT CS CQ S hA li : Addr} {H : Hp} {hd : List Str} {xs : List V} {ss : List (List Str)} {ks : List Str} {es : List Ent} {rows : List Rw} {l : List Tb} {dup : Bool} {Q : VK} {E : XK} (a : AskIn K CT CS H S hA hd xs ss ks rows l) (hl : xs.length ≤ 3) (hli : LDict K H li es) (hk : es.map (·.1) = ks.map Sum.inr)
    (q : ∀ (H' : Hp) (x lA pA : Addr) (ts : List Ent), Same H H' → H x = none → H lA = none → QuesAt K CQ H' x S hd ss ts dup hA pA lA xs → Alike es ts → Q (.ref x) H') {x dx : Addr} (nx : H x = none) (ndx : H dx = none) (ne : dx ≠ x) :
    spQuesK K CT CS CQ (V.ref x :: V.ref S :: V.ref hA :: xs) [.ref li, .bl dup] (upd (upd H dx (.own x)) x (.ins CQ dx [])) (fun v H2 => v = .non ∧ Q (.ref x) H2) E := by
  have s1 : Same H (upd (upd H dx (.own x)) x (.ins CQ dx [])) := (same_new ndx).trans (same_new (by rw [upd_ne ne.symm]; exact nx))
  refine ⟨[.ref x, .ref S, .ref hA], xs, rfl, rfl, Nat.le_trans hl (by decide), fun p np => ?_⟩
  have sp := same_new (o := .tup xs) np
  have s2 := s1.trans sp
  exact ⟨x, dx, S, hA, p, hd, .ref li, dup, xs, ss, ks, es, rows, l, rfl, sp _ _ upd_same, a.sch.same s2, same_seqT s2 a.hh, SqT.of upd_same, a.pv.same s2, .inr ⟨li, rfl, hli.same s2⟩, hk, a.good, fun H' lA ts sb nl qa al => ⟨rfl, q H' x lA p ts (fun b o e => sb b o (ne_of_none e nx) (s2 b o e)) nx (s2.free nl) qa al⟩⟩
theorem ok_query {f fQ CT CS CQ : Addr} {fd : FuncData} (F : Fun K "_law_query" "_law_query" sQuery f fd) (hlen : mg "len" = none)
    (GQ : FnRK P w K mg base CX0 6 fQ ["among", "duplicates"] (spQuesK K CT CS CQ)) (MQ : Mk K CQ fQ) (gQ : mg "Question" = some (.ref CQ)) : FnOk P w K mg base CX0 8 f fd ["_law_schema", "_law_ask"] (spQuery K CT CS CQ) := by
  refine F.ok scQuery (fun vs H Q E h => ?_) (fun cdv A outer s H vs Q E hr h => ?_)
  · obtain ⟨S, a, hA, sh, li, dup, hd, xs, ss, ks, es, rows, l, rfl, _⟩ := h
    rfl
  · obtain ⟨S, a, hA, sh, li, dup, hd, xs, ss, ks, es, rows, l, rfl, ha, hsh, hx3, hin, hli, hk, q⟩ := h
    refine ⟨_, pss_cons (ps_set (i := 2) scQuery.nd rfl (Or.inl rfl) (pe_ix ix_list (pv 1) pe_int (fun _ _ => rfl)))
      (pss_cons (ps_if (pt_cmpR op_eq (pe_callB call_len_seq (by rfl) hlen PySem.boot_len (pa_cons (pv 2) pa_nil)) pe_int (nomark _)) (pss_one (ps_ret (pe_makeRK MQ GQ hr rfl gQ pass0 (pa_cons (pv 0) (pa_cons (pe_ix ix_list (pv 1) pe_int (fun _ _ => rfl)) (pa_cons (pe_ix ix_list (pv 2) pe_int (fun _ _ => rfl)) pa_nil))) (pk_cons (pe_ix ix_list (pv 1) pe_int (fun _ _ => rfl)) (pk_cons (pe_ix ix_list (pv 1) pe_int (fun _ _ => rfl)) pk_nil))))) pss_nil)
      (pss_cons (ps_if (pt_cmpR op_eq (pe_callB call_len_seq (by rfl) hlen PySem.boot_len (pa_cons (pv 2) pa_nil)) pe_int (nomark _)) (pss_one (ps_ret (pe_makeRK MQ GQ hr rfl gQ pass0 (pa_cons (pv 0) (pa_cons (pe_ix ix_list (pv 1) pe_int (fun _ _ => rfl)) (pa_cons (pe_ix ix_list (pv 2) pe_int (fun _ _ => rfl)) (pa_cons (pe_ix ix_list (pv 2) pe_int (fun _ _ => rfl)) pa_nil)))) (pk_cons (pe_ix ix_list (pv 1) pe_int (fun _ _ => rfl)) (pk_cons (pe_ix ix_list (pv 1) pe_int (fun _ _ => rfl)) pk_nil))))) pss_nil)
      (pss_one (ps_ret (pe_makeRK MQ GQ hr rfl gQ pass0 (pa_cons (pv 0) (pa_cons (pe_ix ix_list (pv 1) pe_int (fun _ _ => rfl)) (pa_cons (pe_ix ix_list (pv 2) pe_int (fun _ _ => rfl)) (pa_cons (pe_ix ix_list (pv 2) pe_int (fun _ _ => rfl)) (pa_cons (pe_ix ix_list (pv 2) pe_int (fun _ _ => rfl)) pa_nil))))) (pk_cons (pe_ix ix_list (pv 1) pe_int (fun _ _ => rfl)) (pk_cons (pe_ix ix_list (pv 1) pe_int (fun _ _ => rfl)) pk_nil))))))), ?_⟩
    have n1 : 1 ≤ xs.length := by rw [hin.pv.len]; exact hin.good.n1
    refine ⟨_, rfl, a, _, _, _, rfl, rfl, ha, atI_nat (j := 1) rfl, ?_⟩
    refine ⟨_, rfl, sh, _, rfl, .inl hsh, rfl, _, rfl, ?_⟩
    rw [dec_int]
    refine ite2 (fun c => ?_) (fun c => ?_)
    · have e1 : xs.length = 1 := by simp at c; omega
      obtain ⟨v0, rfl⟩ := List.length_eq_one_iff.mp e1
      exact ⟨_, rfl, _, rfl, a, _, _, _, rfl, rfl, ha, atI_nat (j := 0) rfl, _, rfl, sh, _, _, _, rfl, rfl, hsh, atI_nat (j := 0) rfl, _, rfl, a, _, _, _, rfl, rfl, ha, atI_nat (j := 2) rfl, _, rfl, a, _, _, _, rfl, rfl, ha, atI_nat (j := 3) rfl, rfl, fun x dx nx ndx ne => mk_ques hin hx3 hli hk q nx ndx ne⟩
    refine ⟨_, rfl, sh, _, rfl, .inl hsh, rfl, _, rfl, ?_⟩
    rw [dec_int]
    refine ite2 (fun c2 => ?_) (fun c2 => ?_)
    · have e1 : xs.length = 2 := by simp at c2; omega
      obtain ⟨v0, v1, rfl⟩ := len2 e1
      exact ⟨_, rfl, _, rfl, a, _, _, _, rfl, rfl, ha, atI_nat (j := 0) rfl, _, rfl, sh, _, _, _, rfl, rfl, hsh, atI_nat (j := 0) rfl, _, rfl, sh, _, _, _, rfl, rfl, hsh, atI_nat (j := 1) rfl, _, rfl, a, _, _, _, rfl, rfl, ha, atI_nat (j := 2) rfl, _, rfl, a, _, _, _, rfl, rfl, ha, atI_nat (j := 3) rfl, rfl, fun x dx nx ndx ne => mk_ques hin hx3 hli hk q nx ndx ne⟩
    · have e1 : xs.length = 3 := by simp at c c2; omega
      obtain ⟨v0, v1, v2, rfl⟩ := len3 e1
      exact ⟨_, rfl, _, rfl, a, _, _, _, rfl, rfl, ha, atI_nat (j := 0) rfl, _, rfl, sh, _, _, _, rfl, rfl, hsh, atI_nat (j := 0) rfl, _, rfl, sh, _, _, _, rfl, rfl, hsh, atI_nat (j := 1) rfl, _, rfl, sh, _, _, _, rfl, rfl, hsh, atI_nat (j := 2) rfl, _, rfl, a, _, _, _, rfl, rfl, ha, atI_nat (j := 2) rfl, _, rfl, a, _, _, _, rfl, rfl, ha, atI_nat (j := 3) rfl, rfl, fun x dx nx ndx ne => mk_ques hin hx3 hli hk q nx ndx ne⟩
end
end Sw
namespace Sw
open PySem PySem.Spec PyProof.Rows L2 NdefX
abbrev sLaw15 : Stmt := topS 57
abbrev nLaw15 : List Str := ["_law_script", "_law_setup", "_law_schema", "_law_hand", "_law_asks", "_law_questions", "_law_k", "_law_option"]
theorem scLaw15 : FnScope nLaw15 ["_law_script"] (defScope sLaw15) := ⟨rfl, rfl, rfl, by decide +kernel, rfl, by decide +kernel, by decide +kernel⟩
/-- what holds of the texts that the law calls -/
structure Have15 (P : Program) (w : World) (K : PySem.W.Frag) (mg : Str → Option Value) (base : Heap) (CT CS CQ : Addr) : Prop where
  Bg : ∃ f fd, FnOk P w K mg base CX0 7 f fd ["_law_script", "_law_many"] (spBegin K) ∧ mg "_law_begin" = some (.ref f) ∧ PySem.W.keepIn K (.ref f) = true ∧ Binds K fd ["_law_script", "_law_many"] []
  Bu : ∃ f fd, FnOk P w K mg base CX0 6 f fd ["_law_tables"] (spBuild K CT CS) ∧ mg "_law_build" = some (.ref f) ∧ PySem.W.keepIn K (.ref f) = true ∧ Binds K fd ["_law_tables"] []
  D : ∃ f fd, FnOk P w K mg base CX0 1 f fd ["_law_script", "_law_k"] (spDeal K) ∧ mg "_law_deal" = some (.ref f) ∧ PySem.W.keepIn K (.ref f) = true ∧ Binds K fd ["_law_script", "_law_k"] []
  T : ∃ f fd, FnOk P w K mg base CX0 1 f fd ["_law_hand", "_law_many"] spTake ∧ mg "_law_take" = some (.ref f) ∧ PySem.W.keepIn K (.ref f) = true ∧ Binds K fd ["_law_hand", "_law_many"] []
  Qu : ∃ f fd, FnOk P w K mg base CX0 8 f fd ["_law_schema", "_law_ask"] (spQuery K CT CS CQ) ∧ mg "_law_query" = some (.ref f) ∧ PySem.W.keepIn K (.ref f) = true ∧ Binds K fd ["_law_schema", "_law_ask"] []
  Ch : ∃ f fd, FnOk P w K mg base CX0 6 f fd ["_law_hand", "_law_setup", "_law_ask", "_law_most"] (spChoice K) ∧ mg "_law_choice" = some (.ref f) ∧ PySem.W.keepIn K (.ref f) = true ∧ Binds K fd ["_law_hand", "_law_setup", "_law_ask", "_law_most"] []
  Jo : ∃ f fd, FnOk P w K mg base CX0 2 f fd ["_law_ask", "_law_option"] (spJoined K) ∧ mg "_law_joined" = some (.ref f) ∧ PySem.W.keepIn K (.ref f) = true ∧ Binds K fd ["_law_ask", "_law_option"] []
  Qi : ∃ f fd, FnOk P w K mg base CX0 1 f fd ["_law_question", "_law_ask"] (spQuesIs K CQ) ∧ mg "_law_question_is" = some (.ref f) ∧ PySem.W.keepIn K (.ref f) = true ∧ Binds K fd ["_law_question", "_law_ask"] []
  An : ∃ f fd, FnOk P w K mg base CX0 8 f fd ["self", "other"] (spQAnd K CT CS CQ) ∧ PySem.W.findIn K (.ref CQ) "__and__" = some (some (.ref f)) ∧ PySem.W.isFn K (.ref f) = true ∧ Binds K fd ["self", "other"] []
  sf : PySem.W.selfFirst K CQ = true
  r0 : PySem.W.findIn K (.ref CQ) "__rand__" = some none
  t1 : PySem.W.findIn K (.type "tuple") "__and__" = some none
  t2 : PySem.W.findIn K (.type "tuple") "__rand__" = some none
  ts : PySem.W.subIn K (.type "tuple") (.ref CQ) = some false
  I : C8.InsC K CQ
  gQ : mg "Question" = some (.ref CQ)
  isi : mg "isinstance" = none
def spLaw (K : PySem.W.Frag) : Sp := fun vs H Q _ => ∃ (s : Addr) (ns : List Int), vs = [.ref s] ∧ SqL K H s (ns.map V.int) ∧ ns.length ≤ 63 ∧ ∀ H', Q (.bl true) H'
section
variable {P : Program} {w : World} {K : PySem.W.Frag} {mg : Str → Option Value} {base : Heap}
theorem ok_law15 {f CT CS CQ : Addr} {fd : FuncData} (F : Fun K "law" "law" sLaw15 f fd) (B : Blt mg) (Z : Have15 P w K mg base CT CS CQ) : FnOk P w K mg base CX0 9 f fd ["_law_script"] (spLaw K) := by
  obtain ⟨fG, fdG, GG, mG, kG, bG⟩ := Z.Bg
  obtain ⟨fU, fdU, GU, mU, kU, bU⟩ := Z.Bu
  obtain ⟨fD, fdD, GD, mD, kD, bD⟩ := Z.D
  obtain ⟨fT, fdT, GT, mT, kT, bT⟩ := Z.T
  obtain ⟨fQ, fdQ, GQ, mQ, kQ, bQ⟩ := Z.Qu
  obtain ⟨fC, fdC, GC, mC, kC, bC⟩ := Z.Ch
  obtain ⟨fJ, fdJ, GJ, mJ, kJ, bJ⟩ := Z.Jo
  obtain ⟨fI, fdI, GI, mI, kI, bI⟩ := Z.Qi
  obtain ⟨fA, fdA, GA, aA, iA, bA⟩ := Z.An
  refine F.ok scLaw15 (fun vs H Q E h => ?_) (fun cdv A outer s H vs Q E hr h => ?_)
  · obtain ⟨a, ns, rfl, _⟩ := h
    rfl
  · obtain ⟨a, ns, rfl, hs, hn, q⟩ := h
    have h1 : Room 1 _ := hr.mono (by decide)
    have h2 : Room 2 _ := hr.mono (by decide)
    have h6 : Room 6 _ := hr.mono (by decide)
    have h7 : Room 7 _ := hr.mono (by decide)
    refine ⟨_, pss_cons (ps_set (i := 1) scLaw15.nd rfl (Or.inl rfl) (pe_call GG h7 rfl mG kG bG .nil pass0 (pa_cons (pv 0) (pa_cons pe_int pa_nil))))
      (pss_cons (ps_set (i := 2) scLaw15.nd rfl (Or.inl rfl) (pe_call GU h6 rfl mU kU bU .nil pass0 (pa_cons (pe_ix ix_list (pv 1) pe_int (fun _ _ => rfl)) pa_nil)))
      (pss_cons (ps_set (i := 3) scLaw15.nd rfl (Or.inl rfl) (pe_call GD h1 rfl mD kD bD .nil pass0 (pa_cons (pv 0) (pa_cons pe_int pa_nil))))
      (pss_cons (ps_set (i := 4) scLaw15.nd rfl (Or.inl rfl) (pe_lst (pa_cons (pe_ix ix_list (pv 1) pe_int (fun _ _ => rfl)) pa_nil)))
      (pss_cons (ps_set (i := 5) scLaw15.nd rfl (Or.inl rfl) (pe_lst (pa_cons (pe_call GQ hr rfl mQ kQ bQ .nil pass0 (pa_cons (pv 2) (pa_cons (pe_ix ix_list (pv 1) pe_int (fun _ _ => rfl)) pa_nil))) pa_nil)))
      (pss_cons (ps_for PassesOwn.never rfl (pi_range1 rfl B.range (pa_cons (pe_call GT h1 rfl mT kT bT .nil pass0 (pa_cons (pv 3) (pa_cons pe_int pa_nil))) pa_nil)) (pg_name (i := 6) scLaw15.nd rfl (Or.inl rfl))
        (pss_cons (ps_set (i := 7) scLaw15.nd rfl (Or.inl rfl) (pe_call GC h6 rfl mC kC bC .nil pass0 (pa_cons (pv 3) (pa_cons (pv 1) (pa_cons (pe_ix ix_list (pv 4) (pe_un un_neg pe_int) (fun _ _ => rfl)) (pa_cons pe_int pa_nil))))))
        (pss_cons (ps_expr (pe_bm PySem.F.plainAttrs_list PySem.F.slot_list_append PySem.F.type_list_append mt_append (pv 4) (pa_cons (pe_call GJ h2 rfl mJ kJ bJ .nil pass0 (pa_cons (pe_ix ix_list (pv 4) (pe_un un_neg pe_int) (fun _ _ => rfl)) (pa_cons (pv 7) pa_nil))) pa_nil)))
        (pss_one (ps_expr (pe_bm PySem.F.plainAttrs_list PySem.F.slot_list_append PySem.F.type_list_append mt_append (pv 5) (pa_cons (pe_op (op_andTup (E := E0) Z.sf aA iA Z.r0 Z.t1 Z.t2 Z.ts GA bA pass0 hr) (pe_ix ix_list (pv 5) (pe_un un_neg pe_int) (fun _ _ => rfl)) (pv 7)) pa_nil)))))))
      (pss_cons (ps_for PassesOwn.never rfl (pi_range1 rfl B.range (pa_cons (pe_callB call_len_seq (by rfl) B.len PySem.boot_len (pa_cons (pv 4) pa_nil)) pa_nil)) (pg_name (i := 6) scLaw15.nd rfl (Or.inl rfl))
        (pss_one (ps_if (PW.pt (pw_or (pt_not (pt_is (by intro _; rfl) (pe_callB (C8.call_isC Z.I) (by rfl) Z.isi boot_isinstance (pa_cons (pe_ix ix_list (pv 5) (pv 6) (fun _ _ => rfl)) (pa_cons (pe_glob (v := .ref CQ) rfl Z.gQ rfl) pa_nil))))) (pw_or1 (pt_not (pt_is (by intro _; rfl) (pe_call GI h1 rfl mI kI bI .nil pass0 (pa_cons (pe_ix ix_list (pv 5) (pv 6) (fun _ _ => rfl)) (pa_cons (pe_ix ix_list (pv 4) (pv 6) (fun _ _ => rfl)) pa_nil)))))))) (pss_one (ps_ret pe_bl)) pss_nil)))
      (pss_one (ps_ret pe_bl)))))))), ?_⟩
    refine ⟨_, rfl, a, ns, 3, rfl, hs, hn, by decide, by decide, fun H1 R xs rows vals tms k s1 nR b => ?_⟩
    obtain ⟨T0, Va, Tm, A0, b1, b2, b3, b4, t, sh, li, ys, a1, a2, a3, a4⟩ := b.ex
    refine ⟨_, rfl, R, _, _, _, rfl, rfl, SqL.of b1, atI_nat (j := 0) rfl, T0, xs, rows, rfl, b2, b.sane, fun H2 S l s2 nS hS => ?_⟩
    have s12 := s1.trans s2
    refine ⟨_, rfl, a, ns, 3, rfl, s12.seq hs, hn, by decide, fun H4 h s4 nh hh => ?_⟩
    have hR4 := (s2.trans s4) _ _ b1
    have ax4 : AskX K H4 A0 t sh li ys vals k := ⟨(s2.trans s4) _ _ a1, (s2.trans s4) _ _ a2, a3.same (s2.trans s4), a4.same (s2.trans s4)⟩
    have bA := b.same (s2.trans s4)
    have okh : ∀ z ∈ k.hd, SOk z := fun z hz => by
      rcases b.ask.hd z hz with h | h
      · obtain ⟨s, h1, h2⟩ := List.mem_flatMap.mp (vars_terms h)
        exact a3.ok s h1 z (List.mem_of_mem_tail h2)
      · exact b.vls z h
    obtain ⟨good, keq⟩ := b.good (by decide)
    have fine : AskFine rows vals k := ⟨good, keq, b.ask.nm, by
      have h1 := nodup_leA (fs := k.es.map (·.1)) (ns := (allVars k.ss).map Sum.inr) a4.nd fun z hz => by
        obtain ⟨e, he, rfl⟩ := List.mem_map.mp hz
        obtain ⟨v, h1, h2⟩ := (a4.all e he).2.2.2.2
        exact List.mem_map.mpr ⟨v, h2, h1.symm⟩
      have h2 := allVars_len (ss := k.ss) fun s hs => (good.parts s hs).len
      have h3 := b.ask.nm
      rw [List.length_map, List.length_map] at h1
      omega⟩
    have eh4 : ∀ e ∈ k.es, e.2.2.length ≤ 3 := fun e he => (a4.all e he).2.2.1
    -- the first question
    refine ⟨_, rfl, R, _, _, _, rfl, rfl, SqL.of hR4, atI_nat (j := 3) rfl, by show 1 ≤ sizeLine; decide, fun As nAs => ?_⟩
    have sAs := same_new (o := .lst [V.ref A0]) nAs
    have ax5 := ax4.same sAs
    have hS4 := hS.same s4
    have ld5 : LDict K (upd H4 As (.lst [V.ref A0])) li k.es := ⟨ax5.li.at_, ax5.li.nd, by have := fine.el; omega, fun e he => ⟨.inl (SqL.of (ax5.li.all e he).1), by have := eh4 e he; omega⟩⟩
    refine ⟨_, rfl, _, rfl, R, _, _, _, rfl, rfl, SqL.of (sAs _ _ hR4), atI_nat (j := 3) rfl, ?_⟩
    refine ⟨S, A0, t, sh, li, k.dup, k.hd, ys, k.ss, keysOf k.es, k.es, rows, l, rfl, SqL.of ax5.at_, ax5.sh.at_, by rw [a3.len]; exact fine.n3, ⟨hS4.same sAs, SqT.of ax5.hd, ax5.sh.pv, good⟩, ld5, keq, fun H6 x0 lA pA ts s6 nx nlA qx al => ?_⟩
    refine ⟨by show 1 ≤ sizeLine; decide, fun Qs nQs => ?_⟩
    have sQs := same_new (o := .lst [V.ref x0]) nQs
    have s46 := (sAs.trans s6).trans sQs
    have hAs7 : upd H6 Qs (.lst [V.ref x0]) As = some (.lst [V.ref A0]) := (s6.trans sQs) _ _ upd_same
    have hQs7 : upd H6 Qs (.lst [V.ref x0]) Qs = some (.lst [V.ref x0]) := upd_same
    have nQs4 : H4 Qs = none := (sAs.trans s6).free nQs
    have neAQ : As ≠ Qs := ne_of_none (s6 _ _ upd_same) nQs
    have row0 : Row15 K CQ S rows vals (upd H6 Qs (.lst [V.ref x0])) As Qs (V.ref A0) (V.ref x0) := ⟨A0, t, sh, li, ys, k, x0, _, _, lA, ts, ys, rfl, rfl, ax4.same s46, fine, ax4.far nAs, ax4.far nQs4, qx.same sQs, al, okh⟩
    have hh7 := hh.same s46
    have s27 : Same H2 (upd H6 Qs (.lst [V.ref x0])) := s4.trans s46
    have nAs2 : H2 As = none := s4.free nAs
    have nQs2 : H2 Qs = none := s4.free nQs4
    generalize upd H6 Qs (.lst [V.ref x0]) = H7 at hAs7 hQs7 row0 hh7 s27 ⊢
    -- the options
    refine ⟨_, rfl, h, 4, rfl, hh7, by decide, fun kn H8 k0 k1 hh8 b8 => ⟨kn, rfl, by omega, by omega, ?_⟩⟩
    refine for_it (walk_range (lo := 0) (n := kn.toNat)) (fun i σ Hc => ∃ (x6 x7 : Option V) (av qv : List V), σ = [some (.ref a), some (.ref R), some (.ref S), some (.ref h), some (.ref As), some (.ref Qs), x6, x7] ∧ Same H2 Hc ∧ HandAt Hc h ∧ Hc As = some (.lst av) ∧ Hc Qs = some (.lst qv) ∧ av.length = i + 1 ∧ qv.length = i + 1 ∧ ∀ (j : Nat) (va vq : V), av[j]? = some va → qv[j]? = some vq → Row15 K CQ S rows vals Hc As Qs va vq)
      ⟨none, none, [V.ref A0], [V.ref x0], rfl, same_hand s27 nh b8.sbut, hh8, b8.sbut _ _ (hand_short hh7 (.inl ⟨_, hAs7, by show 1 ≤ 5; decide⟩)) hAs7, b8.sbut _ _ (hand_short hh7 (.inl ⟨_, hQs7, by show 1 ≤ 5; decide⟩)) hQs7, rfl, rfl, fun j va vq e1 e2 => ?_⟩ (fun _ _ _ _ _ => trivial) ?_ ?_
    · match j, e1, e2 with
      | 0, e1, e2 =>
        obtain rfl := Option.some.inj e1
        obtain rfl := Option.some.inj e2
        exact row0.hand hh7 b8.sbut
      | j + 1, e1, e2 => cases e1
    · rintro i y σ Hc Hx hi ⟨x6, x7, av, qv, rfl, sm, hc, hAs, hQs, al1, ql1, rw15⟩ ⟨rfl, rfl⟩
      have hi4 : i < 4 := by omega
      obtain ⟨va, hva⟩ : ∃ va, av[i]? = some va := ⟨_, List.getElem?_eq_getElem (by omega)⟩
      obtain ⟨vq, hvq⟩ : ∃ vq, qv[i]? = some vq := ⟨_, List.getElem?_eq_getElem (by omega)⟩
      have lastI : ∀ {vs : List V} {v : V}, vs.length = i + 1 → vs[i]? = some v → atI vs (-1) = some v := fun {vs v} hl hv => by
        have e := take_snoc hv
        rw [← hl, List.take_length] at e
        rw [e]
        exact atI_last _ _
      have lastA := lastI al1 hva
      have lastQ := lastI ql1 hvq
      obtain ⟨ai, ti, shi, lii, ysi, ki, xi, hAi, pAi, lAi, tsi, xsi, rfl, rfl, ax, fi, fa, fq, qa, ali, okhi⟩ := (rw15 i va vq hva hvq).ex
      have nv : ∀ r ∈ rows, isV r.nm = false := b.nwd
      refine ⟨_, rfl, _, rfl, _, rfl, _, rfl, As, _, _, _, rfl, rfl, SqL.of hAs, lastA, ?_⟩
      refine ⟨h, R, ai, ti, shi, lii, 3, xs, ysi, rows, vals, tms, k, ki, rfl, hc, b.same (s2.trans sm), ax, fi, fun H9 p o hh9 sb9 ho og => ?_⟩
      have sm9 := same_hand sm nh sb9
      have hAs9 := sb9 _ _ (short_ne hc hAs (by omega)) hAs
      have hQs9 := sb9 _ _ (short_ne hc hQs (by omega)) hQs
      have ax9 := ax.hand hc sb9
      have qa9 := qa.notL (hc.notL sb9)
      refine ⟨_, rfl, .inl ⟨rfl, _, SqL.of hAs9⟩, _, rfl, _, rfl, As, _, _, _, rfl, rfl, SqL.of hAs9, lastA, _, rfl, ai, ti, shi, lii, p, ysi, rows, vals, ki, o, rfl, ax9, fi, nv, ho, og, b.vls, fun H10 a' sh' li' ys' k' s10 na nsh nes ax' fine' ehd edup ess ej => ?_⟩
      have hAs10 := s10 _ _ hAs9
      have hQs10 := s10 _ _ hQs9
      refine ⟨As, _, _, rfl, rfl, hAs10, small1000 (by omega), ?_⟩
      have mA := upd_notL (o := .lst (av ++ [V.ref a'])) hAs10
      have qa11 := (qa9.same s10).notL mA
      have ho11 := (ho.same s10).notL mA
      have hQs11 : upd H10 As (.lst (av ++ [V.ref a'])) Qs = some (.lst qv) := by rw [upd_ne neAQ.symm]; exact hQs10
      have hAs11 : upd H10 As (.lst (av ++ [V.ref a'])) As = some (.lst (av ++ [V.ref a'])) := upd_same
      have sm11 : Same H2 (upd H10 As (.lst (av ++ [V.ref a']))) := same_mut (sm9.trans s10) nAs2
      have hh11 : HandAt (upd H10 As (.lst (av ++ [V.ref a']))) h := (hh9.same s10).upd (short_ne (hh9.same s10) hAs10 (by omega))
      have farA : FarX K a' sh' ys' k'.es As := ⟨fun z => (by rw [z, hAs9] at na; cases na), .inl fun z => (by rw [z, hAs9] at nsh; cases nsh), fun e he => (nes e he).elim (fun g => fa.2.2 e g) fun g z => by rw [z, hAs9] at g; cases g⟩
      have farQ : FarX K a' sh' ys' k'.es Qs := ⟨fun z => (by rw [z, hQs9] at na; cases na), .inl fun z => (by rw [z, hQs9] at nsh; cases nsh), fun e he => (nes e he).elim (fun g => fq.2.2 e g) fun g z => by rw [z, hQs9] at g; cases g⟩
      have ax11 : AskX K (upd H10 As (.lst (av ++ [V.ref a']))) a' ti sh' li' ys' vals k' := ax'.upd farA hAs10
      have olds : ∀ (j : Nat) (va vq : V), av[j]? = some va → qv[j]? = some vq → Row15 K CQ S rows vals (upd H10 As (.lst (av ++ [V.ref a']))) As Qs va vq := fun j va vq e1 e2 => (((rw15 j va vq e1 e2).hand hc sb9).same s10).upA hAs10
      generalize upd H10 As (.lst (av ++ [V.ref a'])) = H11 at qa11 ho11 hQs11 hAs11 sm11 hh11 ax11 olds ⊢
      obtain ⟨dxi, hxi⟩ := qa11.ex
      obtain ⟨xsp, hp11⟩ := ho11.tup
      refine ⟨_, rfl, .inl ⟨rfl, _, SqL.of hQs11⟩, _, rfl, _, rfl, Qs, _, _, _, rfl, rfl, SqL.of hQs11, lastQ, _, rfl, xi, p, dxi, _, xsp, rfl, rfl, hxi, hp11, xi, p, S, hAi, pAi, lAi, ki.hd, ki.ss, tsi, ki.dup, xsi, rows, l, o, rfl, qa11, hS.same sm11, ho11, optOk_of fi fine' nv og ess ehd ej ali ax.li.nd (fun e he => (qa.ts.all e he).2) (fun e he => (ax.li.all e he).2.2.1) ax.sh.ok, fun H12 y lA' pA' xs' es ts' s12' ny qa' he al' => ⟨y, rfl, ?_⟩⟩
      have hQs12 := s12' _ _ hQs11
      refine ⟨Qs, _, _, rfl, rfl, hQs12, small1000 (by omega), ?_⟩
      have mQ := upd_notL (o := .lst (qv ++ [V.ref y])) hQs12
      refine ⟨_, _, av ++ [V.ref a'], qv ++ [V.ref y], rfl, same_mut (sm11.trans s12') nQs2, (hh11.same s12').upd (short_ne (hh11.same s12') hQs12 (by omega)), by rw [upd_ne neAQ]; exact s12' _ _ hAs11, upd_same, by rw [List.length_append, al1]; rfl, by rw [List.length_append, ql1]; rfl, fun j va vq e1 e2 => ?_⟩
      by_cases cj : j < av.length
      · rw [List.getElem?_append_left cj] at e1
        rw [List.getElem?_append_left (by omega)] at e2
        exact ((olds j va vq e1 e2).same s12').upQ hQs12
      · rw [List.getElem?_append_right (Nat.le_of_not_lt cj)] at e1
        rw [List.getElem?_append_right (by omega)] at e2
        have hz : j - av.length = 0 := by
          have := (List.getElem?_eq_some_iff.mp e1).1
          rw [List.length_singleton] at this
          omega
        rw [hz] at e1
        rw [show j - qv.length = 0 from by omega] at e2
        obtain rfl := Option.some.inj e1
        obtain rfl := Option.some.inj e2
        refine ⟨a', ti, sh', li', ys', k', y, hAi, pA', lA', ts', xs', rfl, rfl, (ax11.same s12').upd farQ hQs12, fine', farA, farQ, ?_, alike_join ali ej he al', by rw [ehd]; exact okhi⟩
        rw [ehd, ess, edup]
        exact qa'.notL mQ
    rintro σ Hd ⟨x6, x7, av, qv, rfl, sm, hc, hAs, hQs, al1, ql1, rw15⟩
    have k4 : kn.toNat < 4 := by omega
    refine ⟨_, rfl, As, _, rfl, .inl (SqL.of hAs), (av.length : Int), rfl, by omega, by omega, ?_⟩
    refine for_it (walk_range (lo := 0) (n := (av.length : Int).toNat)) (fun i σ Hc => ∃ x6 : Option V, σ = [some (.ref a), some (.ref R), some (.ref S), some (.ref h), some (.ref As), some (.ref Qs), x6, x7] ∧ Same Hd Hc) ⟨x6, rfl, Same.refl _⟩ (fun _ _ _ _ _ => trivial) ?_ ?_
    · rintro i y σ Hc Hx hi ⟨x6, rfl, sc⟩ ⟨rfl, rfl⟩
      rw [Int.toNat_natCast] at hi
      obtain ⟨va, hva⟩ : ∃ va, av[i]? = some va := ⟨_, List.getElem?_eq_getElem hi⟩
      obtain ⟨vq, hvq⟩ : ∃ vq, qv[i]? = some vq := ⟨_, List.getElem?_eq_getElem (by omega)⟩
      obtain ⟨ai, ti, shi, lii, ysi, ki, xi, hAi, pAi, lAi, tsi, xsi, rfl, rfl, ax, fi, fa, fq, qa, ali, okhi⟩ := ((rw15 i va vq hva hvq).same sc).ex
      obtain ⟨dxi, hxi⟩ := qa.ex
      refine ⟨_, rfl, _, rfl, Qs, _, _, _, rfl, rfl, SqL.of (sc _ _ hQs), (by rw [Int.zero_add]; exact atI_nat (j := i) hvq), xi, dxi, _, rfl, hxi, true, rfl, iteF ?_⟩
      refine ⟨_, rfl, _, rfl, Qs, _, _, _, rfl, rfl, SqL.of (sc _ _ hQs), (by rw [Int.zero_add]; exact atI_nat (j := i) hvq), _, rfl, _, rfl, As, _, _, _, rfl, rfl, SqL.of (sc _ _ hAs), (by rw [Int.zero_add]; exact atI_nat (j := i) hva), ?_⟩
      exact ⟨xi, S, hAi, pAi, lAi, ai, ti, shi, lii, tsi, xsi, ysi, vals, ki, rfl, qa, ax, ali, b.vls, okhi, by have := fi.el; omega, fun H9 s9 => ⟨true, rfl, iteF ⟨_, rfl, sc.trans s9⟩⟩⟩
    · rintro σ Hc _
      exact q Hc
end
end Sw
namespace Sw
open PySem PySem.Spec PyProof.Rows L2 NdefX
theorem all15 {P : Program} {w : World} {K : PySem.W.Frag} {h : Heap} {mg : Str → Option Value} {fa fDe fTa fSp fLa fRi fFi fDt fCo fVr fPt fAk fBg fBu fOn fAs fWa CT fTb KD T0 T1 CS fSi fSt fSr DU fDU ccDU caDU DR fDR ccDR caDR fIv fIt fCp fCk CQ fQi QD fQu fAn fCh fJo fQs : Addr} (X : K.In h) (G : h.Ns mainGlobals mg) (hfa : mg "law" = some (.ref fa))
    {odDe anDe : Option Addr} {slDe : Array (Option Value)} {ocDe kVDe dcDe pmDe cdDe ctDe : Value}
    {odTa anTa : Option Addr} {slTa : Array (Option Value)} {ocTa kVTa dcTa pmTa cdTa ctTa : Value}
    {odSp anSp : Option Addr} {slSp : Array (Option Value)} {ocSp kVSp dcSp pmSp cdSp ctSp : Value}
    {odLa anLa : Option Addr} {slLa : Array (Option Value)} {ocLa kVLa dcLa pmLa cdLa ctLa : Value}
    {odRi anRi : Option Addr} {slRi : Array (Option Value)} {ocRi kVRi dcRi pmRi cdRi ctRi : Value}
    {odFi anFi : Option Addr} {slFi : Array (Option Value)} {ocFi kVFi dcFi pmFi cdFi ctFi : Value}
    {odDt anDt : Option Addr} {slDt : Array (Option Value)} {ocDt kVDt dcDt pmDt cdDt ctDt : Value}
    {odCo anCo : Option Addr} {slCo : Array (Option Value)} {ocCo kVCo dcCo pmCo cdCo ctCo : Value}
    {odVr anVr : Option Addr} {slVr : Array (Option Value)} {ocVr kVVr dcVr pmVr cdVr ctVr : Value}
    {odPt anPt : Option Addr} {slPt : Array (Option Value)} {ocPt kVPt dcPt pmPt cdPt ctPt : Value}
    {odAk anAk : Option Addr} {slAk : Array (Option Value)} {ocAk kVAk dcAk pmAk cdAk ctAk : Value}
    {odBg anBg : Option Addr} {slBg : Array (Option Value)} {ocBg kVBg dcBg pmBg cdBg ctBg : Value}
    {odBu anBu : Option Addr} {slBu : Array (Option Value)} {ocBu kVBu dcBu pmBu cdBu ctBu : Value}
    {odOn anOn : Option Addr} {slOn : Array (Option Value)} {ocOn kVOn dcOn pmOn cdOn ctOn : Value}
    {odAs anAs : Option Addr} {slAs : Array (Option Value)} {ocAs kVAs dcAs pmAs cdAs ctAs : Value}
    {odWa anWa : Option Addr} {slWa : Array (Option Value)} {ocWa kVWa dcWa pmWa cdWa ctWa : Value}
    {odTb anTb : Option Addr} {slTb : Array (Option Value)} {ocTb dcTb pmTb cdTb ctTb : Value}
    {n0 n1 : Nat}
    {q0 : Option Addr} {r0 : Array (Option Value)}
    {q1 : Option Addr} {r1 : Array (Option Value)}
    {odSi anSi : Option Addr} {slSi : Array (Option Value)} {ocSi kVSi dcSi pmSi cdSi ctSi : Value}
    {odSt anSt : Option Addr} {slSt : Array (Option Value)} {ocSt kVSt dcSt pmSt cdSt ctSt : Value}
    {odSr anSr : Option Addr} {slSr : Array (Option Value)} {ocSr kVSr dcSr pmSr cdSr ctSr : Value}
    {nmDU qDU : Str} {NDU : Addr} {bsDU bmDU : List Value} {snDU : List Str} {subDU : List Value} {abDU : Bool} {colDU : Option Bool} {ddDU : Option Addr} {k0DU k1DU k2DU k3DU k5DU : Option Value}
    {ocDU dcDU pmDU ctDU c1DU c1cDU : Value} {odDU anDU c2DU c2cDU : Option Addr} {slDU c3DU c3cDU : Array (Option Value)} {vaDU : Array Value} {flDU : Str} {tfDU : Tok}
    {nmDR qDR : Str} {NDR : Addr} {bsDR bmDR : List Value} {snDR : List Str} {subDR : List Value} {abDR : Bool} {colDR : Option Bool} {ddDR : Option Addr} {k0DR k1DR k2DR k3DR k5DR : Option Value}
    {ocDR dcDR pmDR ctDR c1DR c1cDR : Value} {odDR anDR c2DR c2cDR : Option Addr} {slDR c3DR c3cDR : Array (Option Value)} {vaDR : Array Value} {flDR : Str} {tfDR : Tok}
    {odIv anIv : Option Addr} {slIv : Array (Option Value)} {ocIv kVIv dcIv pmIv cdIv ctIv : Value}
    {odIt anIt : Option Addr} {slIt : Array (Option Value)} {ocIt kVIt dcIt pmIt cdIt ctIt : Value}
    {odCp anCp : Option Addr} {slCp : Array (Option Value)} {ocCp kVCp dcCp pmCp cdCp ctCp : Value}
    {odCk anCk : Option Addr} {slCk : Array (Option Value)} {ocCk kVCk dcCk pmCk cdCk ctCk : Value}
    {tkS tkL : Tok}
    {odQi anQi : Option Addr} {slQi : Array (Option Value)} {ocQi dcQi pmQi cdQi ctQi : Value}
    {odQu anQu : Option Addr} {slQu : Array (Option Value)} {ocQu kVQu dcQu pmQu cdQu ctQu : Value}
    {odAn anAn : Option Addr} {slAn : Array (Option Value)} {ocAn kVAn dcAn pmAn cdAn ctAn : Value}
    {odCh anCh : Option Addr} {slCh : Array (Option Value)} {ocCh kVCh dcCh pmCh cdCh ctCh : Value}
    {odJo anJo : Option Addr} {slJo : Array (Option Value)} {ocJo kVJo dcJo pmJo cdJo ctJo : Value}
    {odQs anQs : Option Addr} {slQs : Array (Option Value)} {ocQs kVQs dcQs pmQs cdQs ctQs : Value}
    (aDe : PySem.W.nsIn K mainGlobals "_law_deal" = some (some (.ref fDe)))
    (lDe : K.lookup fDe = some ⟨ocDe, odDe, .func (PySem.W.fnOf "_law_deal" "_law_deal" (defArgs sDeal) (defBody sDeal) (defScope sDeal) .none kVDe dcDe pmDe anDe cdDe ctDe), slDe⟩)
    (cDe : PySem.W.codeIn K cdDe "_law_deal" = true)
    (kDe : PySem.W.keepIn K (.ref fDe) = true)
    (aTa : PySem.W.nsIn K mainGlobals "_law_take" = some (some (.ref fTa)))
    (lTa : K.lookup fTa = some ⟨ocTa, odTa, .func (PySem.W.fnOf "_law_take" "_law_take" (defArgs sTake) (defBody sTake) (defScope sTake) .none kVTa dcTa pmTa anTa cdTa ctTa), slTa⟩)
    (cTa : PySem.W.codeIn K cdTa "_law_take" = true)
    (kTa : PySem.W.keepIn K (.ref fTa) = true)
    (aSp : PySem.W.nsIn K mainGlobals "_law_spell" = some (some (.ref fSp)))
    (lSp : K.lookup fSp = some ⟨ocSp, odSp, .func (PySem.W.fnOf "_law_spell" "_law_spell" (defArgs sSpell) (defBody sSpell) (defScope sSpell) .none kVSp dcSp pmSp anSp cdSp ctSp), slSp⟩)
    (cSp : PySem.W.codeIn K cdSp "_law_spell" = true)
    (kSp : PySem.W.keepIn K (.ref fSp) = true)
    (aLa : PySem.W.nsIn K mainGlobals "law" = some (some (.ref fLa)))
    (lLa : K.lookup fLa = some ⟨ocLa, odLa, .func (PySem.W.fnOf "law" "law" (defArgs sLaw15) (defBody sLaw15) (defScope sLaw15) .none kVLa dcLa pmLa anLa cdLa ctLa), slLa⟩)
    (cLa : PySem.W.codeIn K cdLa "law" = true)
    (kLa : PySem.W.keepIn K (.ref fLa) = true)
    (aRi : PySem.W.nsIn K mainGlobals "_law_rising" = some (some (.ref fRi)))
    (lRi : K.lookup fRi = some ⟨ocRi, odRi, .func (PySem.W.fnOf "_law_rising" "_law_rising" (defArgs sRise) (defBody sRise) (defScope sRise) .none kVRi dcRi pmRi anRi cdRi ctRi), slRi⟩)
    (cRi : PySem.W.codeIn K cdRi "_law_rising" = true)
    (kRi : PySem.W.keepIn K (.ref fRi) = true)
    (aFi : PySem.W.nsIn K mainGlobals "_law_find" = some (some (.ref fFi)))
    (lFi : K.lookup fFi = some ⟨ocFi, odFi, .func (PySem.W.fnOf "_law_find" "_law_find" (defArgs sFind) (defBody sFind) (defScope sFind) .none kVFi dcFi pmFi anFi cdFi ctFi), slFi⟩)
    (cFi : PySem.W.codeIn K cdFi "_law_find" = true)
    (kFi : PySem.W.keepIn K (.ref fFi) = true)
    (aDt : PySem.W.nsIn K mainGlobals "_law_deal_tables" = some (some (.ref fDt)))
    (lDt : K.lookup fDt = some ⟨ocDt, odDt, .func (PySem.W.fnOf "_law_deal_tables" "_law_deal_tables" (defArgs sDealT) (defBody sDealT) (defScope sDealT) .none kVDt dcDt pmDt anDt cdDt ctDt), slDt⟩)
    (cDt : PySem.W.codeIn K cdDt "_law_deal_tables" = true)
    (kDt : PySem.W.keepIn K (.ref fDt) = true)
    (aCo : PySem.W.nsIn K mainGlobals "_law_cost" = some (some (.ref fCo)))
    (lCo : K.lookup fCo = some ⟨ocCo, odCo, .func (PySem.W.fnOf "_law_cost" "_law_cost" (defArgs sCost) (defBody sCost) (defScope sCost) .none kVCo dcCo pmCo anCo cdCo ctCo), slCo⟩)
    (cCo : PySem.W.codeIn K cdCo "_law_cost" = true)
    (kCo : PySem.W.keepIn K (.ref fCo) = true)
    (aVr : PySem.W.nsIn K mainGlobals "_law_vars" = some (some (.ref fVr)))
    (lVr : K.lookup fVr = some ⟨ocVr, odVr, .func (PySem.W.fnOf "_law_vars" "_law_vars" (defArgs sVars) (defBody sVars) (defScope sVars) .none kVVr dcVr pmVr anVr cdVr ctVr), slVr⟩)
    (cVr : PySem.W.codeIn K cdVr "_law_vars" = true)
    (kVr : PySem.W.keepIn K (.ref fVr) = true)
    (aPt : PySem.W.nsIn K mainGlobals "_law_parts" = some (some (.ref fPt)))
    (lPt : K.lookup fPt = some ⟨ocPt, odPt, .func (PySem.W.fnOf "_law_parts" "_law_parts" (defArgs sParts) (defBody sParts) (defScope sParts) .none kVPt dcPt pmPt anPt cdPt ctPt), slPt⟩)
    (cPt : PySem.W.codeIn K cdPt "_law_parts" = true)
    (kPt : PySem.W.keepIn K (.ref fPt) = true)
    (aAk : PySem.W.nsIn K mainGlobals "_law_deal_ask" = some (some (.ref fAk)))
    (lAk : K.lookup fAk = some ⟨ocAk, odAk, .func (PySem.W.fnOf "_law_deal_ask" "_law_deal_ask" (defArgs sAsk) (defBody sAsk) (defScope sAsk) .none kVAk dcAk pmAk anAk cdAk ctAk), slAk⟩)
    (cAk : PySem.W.codeIn K cdAk "_law_deal_ask" = true)
    (kAk : PySem.W.keepIn K (.ref fAk) = true)
    (aBg : PySem.W.nsIn K mainGlobals "_law_begin" = some (some (.ref fBg)))
    (lBg : K.lookup fBg = some ⟨ocBg, odBg, .func (PySem.W.fnOf "_law_begin" "_law_begin" (defArgs sBegin) (defBody sBegin) (defScope sBegin) .none kVBg dcBg pmBg anBg cdBg ctBg), slBg⟩)
    (cBg : PySem.W.codeIn K cdBg "_law_begin" = true)
    (kBg : PySem.W.keepIn K (.ref fBg) = true)
    (aBu : PySem.W.nsIn K mainGlobals "_law_build" = some (some (.ref fBu)))
    (lBu : K.lookup fBu = some ⟨ocBu, odBu, .func (PySem.W.fnOf "_law_build" "_law_build" (defArgs sBuild) (defBody sBuild) (defScope sBuild) .none kVBu dcBu pmBu anBu cdBu ctBu), slBu⟩)
    (cBu : PySem.W.codeIn K cdBu "_law_build" = true)
    (kBu : PySem.W.keepIn K (.ref fBu) = true)
    (aOn : PySem.W.nsIn K mainGlobals "once" = some (some (.ref fOn)))
    (lOn : K.lookup fOn = some ⟨ocOn, odOn, .func (PySem.W.fnOf "once" "once" (defArgs sOnce) (defBody sOnce) (defScope sOnce) .none kVOn dcOn pmOn anOn cdOn ctOn), slOn⟩)
    (cOn : PySem.W.codeIn K cdOn "once" = true)
    (kOn : PySem.W.keepIn K (.ref fOn) = true)
    (aAs : PySem.W.nsIn K mainGlobals "ascending" = some (some (.ref fAs)))
    (lAs : K.lookup fAs = some ⟨ocAs, odAs, .func (PySem.W.fnOf "ascending" "ascending" (defArgs sAsc) (defBody sAsc) (defScope sAsc) .none kVAs dcAs pmAs anAs cdAs ctAs), slAs⟩)
    (cAs : PySem.W.codeIn K cdAs "ascending" = true)
    (kAs : PySem.W.keepIn K (.ref fAs) = true)
    (aWa : PySem.W.nsIn K mainGlobals "with_ascending" = some (some (.ref fWa)))
    (lWa : K.lookup fWa = some ⟨ocWa, odWa, .func (PySem.W.fnOf "with_ascending" "with_ascending" (defArgs sWA) (defBody sWA) (defScope sWA) .none kVWa dcWa pmWa anWa cdWa ctWa), slWa⟩)
    (cWa : PySem.W.codeIn K cdWa "with_ascending" = true)
    (kWa : PySem.W.keepIn K (.ref fWa) = true)
    (gCT : PySem.W.nsIn K mainGlobals "Table" = some (some (.ref CT)))
    (pgCT : PySem.W.plainGet K CT Str.empty = true)
    (hdCT : PySem.W.hasDictIn K CT = true)
    (poCT : PySem.W.plainOver K CT = true)
    (saCT : PySem.W.findIn K (.ref CT) "__setattr__" = some (some (.builtin "object.__setattr__")))
    (mkCT : PySem.W.makesIn K CT = true)
    (kcCT : PySem.W.keepIn K (.ref CT) = true)
    (nCTname : PySem.W.findIn K (.ref CT) "name" = some none)
    (nCTwidth : PySem.W.findIn K (.ref CT) "width" = some none)
    (nCTkey : PySem.W.findIn K (.ref CT) "key" = some none)
    (nCTlists : PySem.W.findIn K (.ref CT) "lists" = some none)
    (nCTrefers : PySem.W.findIn K (.ref CT) "refers" = some none)
    (aTb : PySem.W.findIn K (.ref CT) "__init__" = some (some (.ref fTb)))
    (iTb : PySem.W.isFn K (.ref fTb) = true)
    (lTb : K.lookup fTb = some ⟨ocTb, odTb, .func (PySem.W.fnOf "__init__" "Table.__init__" (defArgs sTab) (defBody sTab) (defScope sTab) .none (.ref KD) dcTb pmTb anTb cdTb ctTb), slTb⟩)
    (cTb : PySem.W.codeIn K cdTb "Table.__init__" = true)
    (kTb : PySem.W.keepIn K (.ref fTb) = true)
    (d0 : PySem.W.nsIn K KD "key" = some (some (.ref T0)))
    (d1 : PySem.W.nsIn K KD "lists" = some (some .none))
    (d2 : PySem.W.nsIn K KD "refers" = some (some (.ref T1)))
    (t0 : K.lookup T0 = some ⟨.type "tuple", q0, .seq #[] n0, r0⟩)
    (t1 : K.lookup T1 = some ⟨.type "tuple", q1, .seq #[] n1, r1⟩)
    (gCS : PySem.W.nsIn K mainGlobals "Schema" = some (some (.ref CS)))
    (pgCS : PySem.W.plainGet K CS Str.empty = true)
    (hdCS : PySem.W.hasDictIn K CS = true)
    (poCS : PySem.W.plainOver K CS = true)
    (saCS : PySem.W.findIn K (.ref CS) "__setattr__" = some (some (.builtin "object.__setattr__")))
    (mkCS : PySem.W.makesIn K CS = true)
    (kcCS : PySem.W.keepIn K (.ref CS) = true)
    (nCSnamed : PySem.W.findIn K (.ref CS) "named" = some none)
    (aSi : PySem.W.findIn K (.ref CS) "__init__" = some (some (.ref fSi)))
    (iSi : PySem.W.isFn K (.ref fSi) = true)
    (lSi : K.lookup fSi = some ⟨ocSi, odSi, .func (PySem.W.fnOf "__init__" "Schema.__init__" (defArgs sSch) (defBody sSch) (defScope sSch) .none kVSi dcSi pmSi anSi cdSi ctSi), slSi⟩)
    (cSi : PySem.W.codeIn K cdSi "Schema.__init__" = true)
    (kSi : PySem.W.keepIn K (.ref fSi) = true)
    (aSt : PySem.W.findIn K (.ref CS) "table" = some (some (.ref fSt)))
    (iSt : PySem.W.isFn K (.ref fSt) = true)
    (lSt : K.lookup fSt = some ⟨ocSt, odSt, .func (PySem.W.fnOf "table" "Schema.table" (defArgs sTable) (defBody sTable) (defScope sTable) .none kVSt dcSt pmSt anSt cdSt ctSt), slSt⟩)
    (cSt : PySem.W.codeIn K cdSt "Schema.table" = true)
    (kSt : PySem.W.keepIn K (.ref fSt) = true)
    (aSr : PySem.W.findIn K (.ref CS) "reached" = some (some (.ref fSr)))
    (iSr : PySem.W.isFn K (.ref fSr) = true)
    (lSr : K.lookup fSr = some ⟨ocSr, odSr, .func (PySem.W.fnOf "reached" "Schema.reached" (defArgs sReach) (defBody sReach) (defScope sReach) .none kVSr dcSr pmSr anSr cdSr ctSr), slSr⟩)
    (cSr : PySem.W.codeIn K cdSr "Schema.reached" = true)
    (kSr : PySem.W.keepIn K (.ref fSr) = true)
    (gDU : PySem.W.nsIn K mainGlobals "UnknownTable" = some (some (.ref DU)))
    (xCDU : K.lookup DU = some (excClassObj nmDU qDU DU NDU bsDU bmDU true snDU subDU abDU colDU ddDU k0DU k1DU k2DU k3DU k5DU "ValueError.__new__"))
    (xVDU : PySem.HandSPX.refsVE bmDU = true)
    (saDU : PySem.W.findIn K (.ref DU) "__setattr__" = some (some (.builtin "object.__setattr__")))
    (gaDU : PySem.W.findIn K (.ref DU) "__getattribute__" = some (some (.builtin "BaseException.__getattribute__")))
    (ggDU : PySem.W.findIn K (.ref DU) "__getattr__" = some none)
    (eCDU : PySem.W.subIn K (.ref DU) (.type "BaseException") = some true)
    (tCDU : PySem.W.typeIn K (.ref DU) = some (.type "type"))
    (kCDU : PySem.W.keepIn K (.ref DU) = true)
    (hdDU : PySem.W.hasDictIn K DU = true)
    (haDU : PySem.W.findIn K (.ref DU) "__class__" = some (some (.builtin "object.__class__")))
    (hnO : PySem.W.specialIn K (.builtin "object.__class__") "__get__" = some (some (.builtin "getset_descriptor.__get__")))
    (htO : PySem.W.takesIn K (.builtin "object.__class__") = some true)
    (hmDU : PySem.W.mroIn K DU (.type "object") = some true)
    (nfDU : PySem.W.findIn K (.ref DU) "name" = some none)
    (iDU : PySem.W.findIn K (.ref DU) "__init__" = some (some (.ref fDU)))
    (tDU : PySem.W.typeIn K (.ref fDU) = some (.type "function"))
    (lDU : K.lookup fDU = some ⟨ocDU, odDU, .func (PySem.W.fnX "__init__" "UnknownTable.__init__" (defArgs sUnk) (defBody sUnk) (defScope sUnk) [("__class__", ccDU)] .none .none dcDU pmDU anDU (.ref caDU) ctDU), slDU⟩)
    (cDU : PySem.W.codeIn K (.ref caDU) "UnknownTable.__init__" = true)
    (yDU : K.lookup caDU = some ⟨c1DU, c2DU, .fields vaDU, c3DU⟩)
    (yvDU : vaDU[2]? = some (.str flDU tfDU))
    (yfDU : ((P.main.file : Str) == flDU) = true)
    (wDU : K.lookup ccDU = some ⟨c1cDU, c2cDU, .cell (some (.ref DU)), c3cDU⟩)
    (clDU : (PySem.W.clsIn K DU).isSome = true)
    (mrDU : PySem.W.mroIn K DU (.ref DU) = some true)
    (inDU : (PySem.W.clsIn K DU).bind (fun cd => PySem.W.alongIn K "__init__" ((cd.mro.dropWhile (· != .ref DU)).drop 1)) = some (some (.builtin "ValueError.__init__")))
    (veDU : PySem.W.subIn K (.ref DU) (.type "ValueError") = some true)
    (opq : PySem.W.nsIn K cStatics "thirdparty.any" = some none)
    (msc : (P.main.scope.names.lookup ("super" : Str)).isSome = false)
    (zsuper : PySem.W.nsIn K mainGlobals "super" = some none)
    (gDR : PySem.W.nsIn K mainGlobals "Ring" = some (some (.ref DR)))
    (xCDR : K.lookup DR = some (excClassObj nmDR qDR DR NDR bsDR bmDR true snDR subDR abDR colDR ddDR k0DR k1DR k2DR k3DR k5DR "ValueError.__new__"))
    (xVDR : PySem.HandSPX.refsVE bmDR = true)
    (saDR : PySem.W.findIn K (.ref DR) "__setattr__" = some (some (.builtin "object.__setattr__")))
    (gaDR : PySem.W.findIn K (.ref DR) "__getattribute__" = some (some (.builtin "BaseException.__getattribute__")))
    (ggDR : PySem.W.findIn K (.ref DR) "__getattr__" = some none)
    (eCDR : PySem.W.subIn K (.ref DR) (.type "BaseException") = some true)
    (tCDR : PySem.W.typeIn K (.ref DR) = some (.type "type"))
    (kCDR : PySem.W.keepIn K (.ref DR) = true)
    (hdDR : PySem.W.hasDictIn K DR = true)
    (haDR : PySem.W.findIn K (.ref DR) "__class__" = some (some (.builtin "object.__class__")))
    (hmDR : PySem.W.mroIn K DR (.type "object") = some true)
    (nfDR : PySem.W.findIn K (.ref DR) "name" = some none)
    (iDR : PySem.W.findIn K (.ref DR) "__init__" = some (some (.ref fDR)))
    (tDR : PySem.W.typeIn K (.ref fDR) = some (.type "function"))
    (lDR : K.lookup fDR = some ⟨ocDR, odDR, .func (PySem.W.fnX "__init__" "Ring.__init__" (defArgs sRing) (defBody sRing) (defScope sRing) [("__class__", ccDR)] .none .none dcDR pmDR anDR (.ref caDR) ctDR), slDR⟩)
    (cDR : PySem.W.codeIn K (.ref caDR) "Ring.__init__" = true)
    (yDR : K.lookup caDR = some ⟨c1DR, c2DR, .fields vaDR, c3DR⟩)
    (yvDR : vaDR[2]? = some (.str flDR tfDR))
    (yfDR : ((P.main.file : Str) == flDR) = true)
    (wDR : K.lookup ccDR = some ⟨c1cDR, c2cDR, .cell (some (.ref DR)), c3cDR⟩)
    (clDR : (PySem.W.clsIn K DR).isSome = true)
    (mrDR : PySem.W.mroIn K DR (.ref DR) = some true)
    (inDR : (PySem.W.clsIn K DR).bind (fun cd => PySem.W.alongIn K "__init__" ((cd.mro.dropWhile (· != .ref DR)).drop 1)) = some (some (.builtin "ValueError.__init__")))
    (veDR : PySem.W.subIn K (.ref DR) (.type "ValueError") = some true)
    (zint : PySem.W.nsIn K mainGlobals "int" = some none)
    (zrange : PySem.W.nsIn K mainGlobals "range" = some none)
    (zlen : PySem.W.nsIn K mainGlobals "len" = some none)
    (zisinstance : PySem.W.nsIn K mainGlobals "isinstance" = some none)
    (ztuple : PySem.W.nsIn K mainGlobals "tuple" = some none)
    (zsorted : PySem.W.nsIn K mainGlobals "sorted" = some none)
    (zstr : PySem.W.nsIn K mainGlobals "str" = some none)
    (zlist : PySem.W.nsIn K mainGlobals "list" = some none)
    (zsum : PySem.W.nsIn K mainGlobals "sum" = some none)
    (zmin : PySem.W.nsIn K mainGlobals "min" = some none)
    (aIv : PySem.W.nsIn K mainGlobals "is_variable" = some (some (.ref fIv)))
    (lIv : K.lookup fIv = some ⟨ocIv, odIv, .func (PySem.W.fnOf "is_variable" "is_variable" (defArgs sIsVar) (defBody sIsVar) (defScope sIsVar) .none kVIv dcIv pmIv anIv cdIv ctIv), slIv⟩)
    (cIv : PySem.W.codeIn K cdIv "is_variable" = true)
    (kIv : PySem.W.keepIn K (.ref fIv) = true)
    (aIt : PySem.W.nsIn K mainGlobals "is_term" = some (some (.ref fIt)))
    (lIt : K.lookup fIt = some ⟨ocIt, odIt, .func (PySem.W.fnOf "is_term" "is_term" (defArgs sIsTerm) (defBody sIsTerm) (defScope sIsTerm) .none kVIt dcIt pmIt anIt cdIt ctIt), slIt⟩)
    (cIt : PySem.W.codeIn K cdIt "is_term" = true)
    (kIt : PySem.W.keepIn K (.ref fIt) = true)
    (aCp : PySem.W.nsIn K mainGlobals "check_part" = some (some (.ref fCp)))
    (lCp : K.lookup fCp = some ⟨ocCp, odCp, .func (PySem.W.fnOf "check_part" "check_part" (defArgs sCPart) (defBody sCPart) (defScope sCPart) .none kVCp dcCp pmCp anCp cdCp ctCp), slCp⟩)
    (cCp : PySem.W.codeIn K cdCp "check_part" = true)
    (kCp : PySem.W.keepIn K (.ref fCp) = true)
    (aCk : PySem.W.nsIn K mainGlobals "check" = some (some (.ref fCk)))
    (lCk : K.lookup fCk = some ⟨ocCk, odCk, .func (PySem.W.fnOf "check" "check" (defArgs sCheck) (defBody sCheck) (defScope sCheck) .none kVCk dcCk pmCk anCk cdCk ctCk), slCk⟩)
    (cCk : PySem.W.codeIn K cdCk "check" = true)
    (kCk : PySem.W.keepIn K (.ref fCk) = true)
    (gSG : PySem.W.nsIn K mainGlobals "SIGNS" = some (some (.str sgn tkS)))
    (gLG : PySem.W.nsIn K mainGlobals "LONGEST" = some (some (.int 8 tkL)))
    (kss : PySem.W.kitOne K (.type "str") (.type "str") = some true)
    (zall : PySem.W.nsIn K mainGlobals "all" = some none)
    (zdict : PySem.W.nsIn K mainGlobals "dict" = some none)
    (gCQ : PySem.W.nsIn K mainGlobals "Question" = some (some (.ref CQ)))
    (pgCQ : PySem.W.plainGet K CQ Str.empty = true)
    (hdCQ : PySem.W.hasDictIn K CQ = true)
    (poCQ : PySem.W.plainOver K CQ = true)
    (saCQ : PySem.W.findIn K (.ref CQ) "__setattr__" = some (some (.builtin "object.__setattr__")))
    (mkCQ : PySem.W.makesIn K CQ = true)
    (kcCQ : PySem.W.keepIn K (.ref CQ) = true)
    (nCQschema : PySem.W.findIn K (.ref CQ) "schema" = some none)
    (nCQhead : PySem.W.findIn K (.ref CQ) "head" = some none)
    (nCQparts : PySem.W.findIn K (.ref CQ) "parts" = some none)
    (nCQamong : PySem.W.findIn K (.ref CQ) "among" = some none)
    (nCQduplicates : PySem.W.findIn K (.ref CQ) "duplicates" = some none)
    (aQi : PySem.W.findIn K (.ref CQ) "__init__" = some (some (.ref fQi)))
    (iQi : PySem.W.isFn K (.ref fQi) = true)
    (lQi : K.lookup fQi = some ⟨ocQi, odQi, .func (PySem.W.fnOf "__init__" "Question.__init__" (defArgs sQues) (defBody sQues) (defScope sQues) .none (.ref QD) dcQi pmQi anQi cdQi ctQi), slQi⟩)
    (cQi : PySem.W.codeIn K cdQi "Question.__init__" = true)
    (kQi : PySem.W.keepIn K (.ref fQi) = true)
    (q0 : PySem.W.nsIn K QD "among" = some (some .none))
    (q1 : PySem.W.nsIn K QD "duplicates" = some (some (.bool false)))
    (aQu : PySem.W.nsIn K mainGlobals "_law_query" = some (some (.ref fQu)))
    (lQu : K.lookup fQu = some ⟨ocQu, odQu, .func (PySem.W.fnOf "_law_query" "_law_query" (defArgs sQuery) (defBody sQuery) (defScope sQuery) .none kVQu dcQu pmQu anQu cdQu ctQu), slQu⟩)
    (cQu : PySem.W.codeIn K cdQu "_law_query" = true)
    (kQu : PySem.W.keepIn K (.ref fQu) = true)
    (haCQ : PySem.W.findIn K (.ref CQ) "__class__" = some (some (.builtin "object.__class__")))
    (hmCQ : PySem.W.mroIn K CQ (.type "object") = some true)
    (meCQ : PySem.W.kitOne K (.ref CQ) (.ref CQ) = some true)
    (aAn : PySem.W.findIn K (.ref CQ) "__and__" = some (some (.ref fAn)))
    (iAn : PySem.W.isFn K (.ref fAn) = true)
    (lAn : K.lookup fAn = some ⟨ocAn, odAn, .func (PySem.W.fnOf "__and__" "Question.__and__" (defArgs sQAnd) (defBody sQAnd) (defScope sQAnd) .none kVAn dcAn pmAn anAn cdAn ctAn), slAn⟩)
    (cAn : PySem.W.codeIn K cdAn "Question.__and__" = true)
    (kAn : PySem.W.keepIn K (.ref fAn) = true)
    (aCh : PySem.W.nsIn K mainGlobals "_law_choice" = some (some (.ref fCh)))
    (lCh : K.lookup fCh = some ⟨ocCh, odCh, .func (PySem.W.fnOf "_law_choice" "_law_choice" (defArgs sChoice) (defBody sChoice) (defScope sChoice) .none kVCh dcCh pmCh anCh cdCh ctCh), slCh⟩)
    (cCh : PySem.W.codeIn K cdCh "_law_choice" = true)
    (kCh : PySem.W.keepIn K (.ref fCh) = true)
    (aJo : PySem.W.nsIn K mainGlobals "_law_joined" = some (some (.ref fJo)))
    (lJo : K.lookup fJo = some ⟨ocJo, odJo, .func (PySem.W.fnOf "_law_joined" "_law_joined" (defArgs sJoined) (defBody sJoined) (defScope sJoined) .none kVJo dcJo pmJo anJo cdJo ctJo), slJo⟩)
    (cJo : PySem.W.codeIn K cdJo "_law_joined" = true)
    (kJo : PySem.W.keepIn K (.ref fJo) = true)
    (aQs : PySem.W.nsIn K mainGlobals "_law_question_is" = some (some (.ref fQs)))
    (lQs : K.lookup fQs = some ⟨ocQs, odQs, .func (PySem.W.fnOf "_law_question_is" "_law_question_is" (defArgs sQuesIs) (defBody sQuesIs) (defScope sQuesIs) .none kVQs dcQs pmQs anQs cdQs ctQs), slQs⟩)
    (cQs : PySem.W.codeIn K cdQs "_law_question_is" = true)
    (kQs : PySem.W.keepIn K (.ref fQs) = true)
    (sfCQ : PySem.W.selfFirst K CQ = true)
    (r0CQ : PySem.W.findIn K (.ref CQ) "__rand__" = some none)
    (t1CQ : PySem.W.findIn K (.type "tuple") "__and__" = some none)
    (t2CQ : PySem.W.findIn K (.type "tuple") "__rand__" = some none)
    (tsCQ : PySem.W.subIn K (.type "tuple") (.ref CQ) = some false)
    (kbb : PySem.W.kitOne K (.type "bool") (.type "bool") = some true)
    (kdd : PySem.W.kitOne K (.type "dict") (.type "dict") = some true)
    (zbool : PySem.W.nsIn K mainGlobals "bool" = some none) :
    ∃ fd : FuncData, (∀ (s : Shared) (v : Value), BindsTo s fd ⟨[v], []⟩ [("_law_script", v)]) ∧ ∀ base : Heap, K.In base → base.Ns mainGlobals mg → FnOk P w K mg base CX0 9 fa fd ["_law_script"] (spLaw K) := by
  have FDe := fun_mk (st := sDeal) lDe cDe kDe
  have bDe := FDe.binds (ps := ["_law_script", "_law_k"]) fun _ _ _ _ _ _ us hl => match us, hl with | [_, _], _ => rfl
  have mDe := PySem.W.mg_of X G aDe
  have FTa := fun_mk (st := sTake) lTa cTa kTa
  have bTa := FTa.binds (ps := ["_law_hand", "_law_many"]) fun _ _ _ _ _ _ us hl => match us, hl with | [_, _], _ => rfl
  have mTa := PySem.W.mg_of X G aTa
  have FSp := fun_mk (st := sSpell) lSp cSp kSp
  have bSp := FSp.binds (ps := ["_law_hand", "_law_many", "_law_signs"]) fun _ _ _ _ _ _ us hl => match us, hl with | [_, _, _], _ => rfl
  have mSp := PySem.W.mg_of X G aSp
  have FLa := fun_mk (st := sLaw15) lLa cLa kLa
  have mLa := PySem.W.mg_of X G aLa
  have FRi := fun_mk (st := sRise) lRi cRi kRi
  have bRi := FRi.binds (ps := ["_law_items"]) fun _ _ _ _ _ _ us hl => match us, hl with | [_], _ => rfl
  have mRi := PySem.W.mg_of X G aRi
  have FFi := fun_mk (st := sFind) lFi cFi kFi
  have bFi := FFi.binds (ps := ["_law_tables", "_law_name"]) fun _ _ _ _ _ _ us hl => match us, hl with | [_, _], _ => rfl
  have mFi := PySem.W.mg_of X G aFi
  have FDt := fun_mk (st := sDealT) lDt cDt kDt
  have bDt := FDt.binds (ps := ["_law_hand", "_law_names", "_law_values"]) fun _ _ _ _ _ _ us hl => match us, hl with | [_, _, _], _ => rfl
  have mDt := PySem.W.mg_of X G aDt
  have FCo := fun_mk (st := sCost) lCo cCo kCo
  have bCo := FCo.binds (ps := ["_law_tables", "_law_name"]) fun _ _ _ _ _ _ us hl => match us, hl with | [_, _], _ => rfl
  have mCo := PySem.W.mg_of X G aCo
  have FVr := fun_mk (st := sVars) lVr cVr kVr
  have bVr := FVr.binds (ps := ["_law_shapes"]) fun _ _ _ _ _ _ us hl => match us, hl with | [_], _ => rfl
  have mVr := PySem.W.mg_of X G aVr
  have FPt := fun_mk (st := sParts) lPt cPt kPt
  have bPt := FPt.binds (ps := ["_law_hand", "_law_tables", "_law_terms", "_law_many", "_law_room"]) fun _ _ _ _ _ _ us hl => match us, hl with | [_, _, _, _, _], _ => rfl
  have mPt := PySem.W.mg_of X G aPt
  have FAk := fun_mk (st := sAsk) lAk cAk kAk
  have bAk := FAk.binds (ps := ["_law_hand", "_law_tables", "_law_values", "_law_terms", "_law_many"]) fun _ _ _ _ _ _ us hl => match us, hl with | [_, _, _, _, _], _ => rfl
  have mAk := PySem.W.mg_of X G aAk
  have FBg := fun_mk (st := sBegin) lBg cBg kBg
  have bBg := FBg.binds (ps := ["_law_script", "_law_many"]) fun _ _ _ _ _ _ us hl => match us, hl with | [_, _], _ => rfl
  have mBg := PySem.W.mg_of X G aBg
  have FBu := fun_mk (st := sBuild) lBu cBu kBu
  have bBu := FBu.binds (ps := ["_law_tables"]) fun _ _ _ _ _ _ us hl => match us, hl with | [_], _ => rfl
  have mBu := PySem.W.mg_of X G aBu
  have FOn := fun_mk (st := sOnce) lOn cOn kOn
  have bOn := FOn.binds (ps := ["things"]) fun _ _ _ _ _ _ us hl => match us, hl with | [_], _ => rfl
  have mOn := PySem.W.mg_of X G aOn
  have FAs := fun_mk (st := sAsc) lAs cAs kAs
  have bAs := FAs.binds (ps := ["words"]) fun _ _ _ _ _ _ us hl => match us, hl with | [_], _ => rfl
  have mAs := PySem.W.mg_of X G aAs
  have FWa := fun_mk (st := sWA) lWa cWa kWa
  have bWa := FWa.binds (ps := ["values"]) fun _ _ _ _ _ _ us hl => match us, hl with | [_], _ => rfl
  have mWa := PySem.W.mg_of X G aWa
  have cCT : Cls K CT := ⟨pgCT, hdCT, poCT, saCT⟩
  have mgCT := PySem.W.mg_of X G gCT
  have cCS : Cls K CS := ⟨pgCS, hdCS, poCS, saCS⟩
  have mgCS := PySem.W.mg_of X G gCS
  have FSi := fun_mk (st := sSch) lSi cSi kSi
  have FSt := fun_mk (st := sTable) lSt cSt kSt
  have bSt := FSt.binds (ps := ["self", "name"]) fun _ _ _ _ _ _ us hl => match us, hl with | [_, _], _ => rfl
  have FSr := fun_mk (st := sReach) lSr cSr kSr
  have bSr := FSr.binds (ps := ["self", "name"]) fun _ _ _ _ _ _ us hl => match us, hl with | [_, _], _ => rfl
  have b_super := PySem.W.mg_none_of X G zsuper
  have EDU : ErrTxt P K mg "UnknownTable" "UnknownTable.__init__" sUnk DU fDU ccDU caDU (PySem.W.fnX "__init__" "UnknownTable.__init__" (defArgs sUnk) (defBody sUnk) (defScope sUnk) [("__class__", ccDU)] .none .none dcDU pmDU anDU (.ref caDU) ctDU) "name" :=
    { sup := { fn := ⟨_, _, _, _, _, _, _, rfl, lDU⟩, code := cDU, file := ⟨_, _, _, _, _, _, yDU, yvDU, yfDU⟩, cell := ⟨_, _, _, wDU⟩, cls := clDU, mro := mrDU, ini := inDU, ve := veDU, opq := opq, msup := b_super, msc := msc }
      oex := { cls := ⟨_, _, _, _, _, _, _, _, _, _, _, _, _, _, _, xCDU, xVDU⟩, sa := saDU, exC := eCDU, tyC := tCDU, kC := kCDU }
      nf := nfDU, gC := PySem.W.mg_of X G gDU, iC := iDU, tI := tDU, bd := .all fun us hl => match us, hl with | [_, _], _ => rfl }
  have XDU : ExcC K DU := ⟨gaDU, ggDU, eCDU, hdDU, haDU, hnO, htO, hmDU⟩
  have YDU : XfC K DU := ⟨gaDU, ggDU, eCDU, hdDU⟩
  have EDR : ErrTxt P K mg "Ring" "Ring.__init__" sRing DR fDR ccDR caDR (PySem.W.fnX "__init__" "Ring.__init__" (defArgs sRing) (defBody sRing) (defScope sRing) [("__class__", ccDR)] .none .none dcDR pmDR anDR (.ref caDR) ctDR) "name" :=
    { sup := { fn := ⟨_, _, _, _, _, _, _, rfl, lDR⟩, code := cDR, file := ⟨_, _, _, _, _, _, yDR, yvDR, yfDR⟩, cell := ⟨_, _, _, wDR⟩, cls := clDR, mro := mrDR, ini := inDR, ve := veDR, opq := opq, msup := b_super, msc := msc }
      oex := { cls := ⟨_, _, _, _, _, _, _, _, _, _, _, _, _, _, _, xCDR, xVDR⟩, sa := saDR, exC := eCDR, tyC := tCDR, kC := kCDR }
      nf := nfDR, gC := PySem.W.mg_of X G gDR, iC := iDR, tI := tDR, bd := .all fun us hl => match us, hl with | [_, _], _ => rfl }
  have XDR : ExcC K DR := ⟨gaDR, ggDR, eCDR, hdDR, haDR, hnO, htO, hmDR⟩
  have YDR : XfC K DR := ⟨gaDR, ggDR, eCDR, hdDR⟩
  have b_int := PySem.W.mg_none_of X G zint
  have b_range := PySem.W.mg_none_of X G zrange
  have b_len := PySem.W.mg_none_of X G zlen
  have b_isinstance := PySem.W.mg_none_of X G zisinstance
  have b_tuple := PySem.W.mg_none_of X G ztuple
  have b_sorted := PySem.W.mg_none_of X G zsorted
  have b_str := PySem.W.mg_none_of X G zstr
  have b_list := PySem.W.mg_none_of X G zlist
  have b_sum := PySem.W.mg_none_of X G zsum
  have b_min := PySem.W.mg_none_of X G zmin
  have FIv := fun_mk (st := sIsVar) lIv cIv kIv
  have bIv := FIv.binds (ps := ["term"]) fun _ _ _ _ _ _ us hl => match us, hl with | [_], _ => rfl
  have mIv := PySem.W.mg_of X G aIv
  have FIt := fun_mk (st := sIsTerm) lIt cIt kIt
  have bIt := FIt.binds (ps := ["item"]) fun _ _ _ _ _ _ us hl => match us, hl with | [_], _ => rfl
  have mIt := PySem.W.mg_of X G aIt
  have FCp := fun_mk (st := sCPart) lCp cCp kCp
  have bCp := FCp.binds (ps := ["schema", "part"]) fun _ _ _ _ _ _ us hl => match us, hl with | [_, _], _ => rfl
  have mCp := PySem.W.mg_of X G aCp
  have FCk := fun_mk (st := sCheck) lCk cCk kCk
  have bCk := FCk.binds (ps := ["schema", "head", "parts", "among"]) fun _ _ _ _ _ _ us hl => match us, hl with | [_, _, _, _], _ => rfl
  have mCk := PySem.W.mg_of X G aCk
  have b_all := PySem.W.mg_none_of X G zall
  have b_dict := PySem.W.mg_none_of X G zdict
  have cCQ : Cls K CQ := ⟨pgCQ, hdCQ, poCQ, saCQ⟩
  have mgCQ := PySem.W.mg_of X G gCQ
  have FQu := fun_mk (st := sQuery) lQu cQu kQu
  have bQu := FQu.binds (ps := ["_law_schema", "_law_ask"]) fun _ _ _ _ _ _ us hl => match us, hl with | [_, _], _ => rfl
  have mQu := PySem.W.mg_of X G aQu
  have ICQ : C8.InsC K CQ := ⟨cCQ, haCQ, hnO, htO, hmCQ, meCQ⟩
  have FAn := fun_mk (st := sQAnd) lAn cAn kAn
  have bAn := FAn.binds (ps := ["self", "other"]) fun _ _ _ _ _ _ us hl => match us, hl with | [_, _], _ => rfl
  have FCh := fun_mk (st := sChoice) lCh cCh kCh
  have bCh := FCh.binds (ps := ["_law_hand", "_law_setup", "_law_ask", "_law_most"]) fun _ _ _ _ _ _ us hl => match us, hl with | [_, _, _, _], _ => rfl
  have mCh := PySem.W.mg_of X G aCh
  have FJo := fun_mk (st := sJoined) lJo cJo kJo
  have bJo := FJo.binds (ps := ["_law_ask", "_law_option"]) fun _ _ _ _ _ _ us hl => match us, hl with | [_, _], _ => rfl
  have mJo := PySem.W.mg_of X G aJo
  have FQs := fun_mk (st := sQuesIs) lQs cQs kQs
  have bQs := FQs.binds (ps := ["_law_question", "_law_ask"]) fun _ _ _ _ _ _ us hl => match us, hl with | [_, _], _ => rfl
  have mQs := PySem.W.mg_of X G aQs
  have b_bool := PySem.W.mg_none_of X G zbool
  have e := hfa.symm.trans mLa
  cases e
  have B : Blt mg := ⟨b_int, b_range, b_len⟩
  have B2 : Blt2 mg := ⟨b_tuple, b_sorted, b_str, b_int⟩
  have FTb : FunTab K T0 T1 fTb (PySem.W.fnOf "__init__" "Table.__init__" (defArgs sTab) (defBody sTab) (defScope sTab) .none (.ref KD) dcTb pmTb anTb cdTb ctTb) :=
    ⟨⟨_, _, _, _, _, _, _, _, _, _, rfl, lTb, cTb, .inl ⟨rfl, rfl⟩, .inr ⟨KD, rfl, fun q hq => by
      rcases List.mem_cons.mp hq with rfl | hq
      · exact ⟨_, d0, rfl⟩
      rcases List.mem_cons.mp hq with rfl | hq
      · exact ⟨_, d1, rfl⟩
      rcases List.mem_cons.mp hq with rfl | hq
      · exact ⟨_, d2, rfl⟩
      · cases hq⟩⟩, kTb⟩
  obtain ⟨mv, bTk⟩ := FTb.kbinds0 (ps := pTab) 3 ["key", "lists", "refers"] [] (fun us _ ws => us ++ ws) (by simp) (fun q hq => nomatch hq)
    (fun r1 _ r3 => r1.append r3) fun D doc pm an cdv ct us mv ws hu hm hw => match us, mv, ws, hu, hm, hw with | [_, _, _], [], [_, _, _], _, _, _ => rfl
  have TC : TabC K CT := ⟨cCT, nCTname, nCTwidth, nCTkey, nCTlists, nCTrefers⟩
  have mR : Meth K CS "reached" fSr := ⟨aSr, iSr, kSr⟩
  refine ⟨PySem.W.fnOf "law" "law" (defArgs sLaw15) (defBody sLaw15) (defScope sLaw15) .none kVLa dcLa pmLa anLa cdLa ctLa, fun s v => .of_eq rfl, fun base _ _ => ?_⟩
  have GTa := ok_take (P := P) (w := w) (mg := mg) (base := base) FTa B
  have GDe := ok_deal (P := P) (w := w) (mg := mg) (base := base) FDe B
  have GSp := ok_spell (P := P) (w := w) (mg := mg) (base := base) FSp B FTa bTa mTa
  have GRi := ok_riseS (P := P) (w := w) (mg := mg) (base := base) FRi b_len
  have GFi := ok_find (P := P) (w := w) (mg := mg) (base := base) FFi
  have GDt := ok_dealt (P := P) (w := w) (mg := mg) (base := base) FDt B GTa mTa kTa bTa GRi mRi kRi bRi
  have GCo := ok_cost (P := P) (w := w) (mg := mg) (base := base) FCo bCo mCo b_len b_sum GFi mFi kFi bFi 3
  have GVr := ok_vars (P := P) (w := w) (mg := mg) (base := base) FVr B
  have GPt := ok_parts (P := P) (w := w) (mg := mg) (base := base) FPt B b_tuple GTa mTa kTa bTa GCo mCo kCo bCo
  have GAk := ok_ask (P := P) (w := w) (mg := mg) (base := base) FAk B b_tuple b_sum b_min GTa mTa kTa bTa GRi mRi kRi bRi GVr mVr kVr bVr GCo mCo kCo bCo GPt mPt kPt bPt
  have GBg := ok_begin (P := P) (w := w) (mg := mg) (base := base) FBg GTa mTa kTa bTa GDe mDe kDe bDe GSp mSp kSp bSp GDt mDt kDt bDt GAk mAk kAk bAk
  have GAs := ok_asc (P := P) (w := w) (mg := mg) (base := base) FAs B2 (ok_once FOn b_list) mOn kOn bOn
  have GWa := ok_wa (P := P) (w := w) (mg := mg) (base := base) FWa GAs kAs bAs mAs
  have GTb := ok_tab (P := P) (w := w) (mg := mg) (base := base) FTb B2 TC GWa kWa bWa mWa
  have GSi := ok_schema (P := P) (w := w) (mg := mg) (base := base) FSi FSr bSr mR cCS nCSnamed cCT nCTrefers nCTname EDU EDR
  have GSt := ok_table (P := P) (w := w) (mg := mg) (base := base) FSt cCS nCSnamed EDU
  have GBu := ok_build (P := P) (w := w) (mg := mg) (base := base) FBu b_len b_tuple GTb ⟨mkCT, aTb, iTb, kcCT⟩ bTk mgCT GSi ⟨mkCS, aSi, iSi, kcCS⟩ mgCS
  have TG : TermG K mg := ⟨⟨_, PySem.W.mg_of X G gSG⟩, ⟨_, PySem.W.mg_of X G gLG⟩, b_isinstance, b_str, b_len, b_all, kss⟩
  have GIv := ok_isvar (P := P) (w := w) (mg := mg) (base := base) FIv
  have GIt := ok_isterm (P := P) (w := w) (mg := mg) (base := base) FIt TG
  have GCp := ok_cpart (P := P) (w := w) (mg := mg) (base := base) FCp b_len b_all GIt mIt kIt bIt GSt ⟨aSt, iSt, kSt⟩ bSt cCS cCT nCTwidth
  have GCk := ok_check (P := P) (w := w) (mg := mg) (base := base) FCk GCp mCp kCp bCp GAs mAs kAs bAs GIv mIv kIv bIv
  have QC : QuesC K CQ := ⟨cCQ, nCQschema, nCQhead, nCQparts, nCQamong, nCQduplicates⟩
  have FQi : FunQues K fQi (PySem.W.fnOf "__init__" "Question.__init__" (defArgs sQues) (defBody sQues) (defScope sQues) .none (.ref QD) dcQi pmQi anQi cdQi ctQi) :=
    ⟨⟨_, _, _, _, _, _, _, _, _, _, rfl, lQi, cQi, .inl ⟨rfl, rfl⟩, .inr ⟨QD, rfl, fun q hq => by
      rcases List.mem_cons.mp hq with rfl | hq
      · exact ⟨_, q0, rfl⟩
      rcases List.mem_cons.mp hq with rfl | hq
      · exact ⟨_, q1, rfl⟩
      · cases hq⟩⟩, kQi⟩
  obtain ⟨GQ1, GQ2⟩ := ok_ques (P := P) (w := w) (mg := mg) (base := base) FQi QC b_tuple GWa mWa kWa bWa GCk mCk kCk bCk
  have MQ : Mk K CQ fQi := ⟨mkCQ, aQi, iQi, kcCQ⟩
  have GQu := ok_query (P := P) (w := w) (mg := mg) (base := base) FQu b_len GQ1 MQ mgCQ
  have GAn := ok_qand (P := P) (w := w) (mg := mg) (base := base) FAn QC b_len b_dict GIv mIv kIv bIv GQ1 MQ mgCQ
  have GCh := ok_choice (P := P) (w := w) (mg := mg) (base := base) FCh B b_tuple b_sum GTa mTa kTa bTa GVr mVr kVr bVr GCo mCo kCo bCo GPt mPt kPt bPt
  have GJo := ok_joined (P := P) (w := w) (mg := mg) (base := base) FJo B b_list b_dict GRi mRi kRi bRi
  have GQs := ok_quesis (P := P) (w := w) (mg := mg) (base := base) FQs QC ⟨b_isinstance, b_bool, b_tuple, b_dict, kbb, kdd⟩ b_len
  refine ok_law15 (CT := CT) (CS := CS) (CQ := CQ) FLa B ?_
  exact { Bg := ⟨_, _, GBg, mBg, kBg, bBg⟩, Bu := ⟨_, _, GBu, mBu, kBu, bBu⟩, D := ⟨_, _, GDe, mDe, kDe, bDe⟩, T := ⟨_, _, GTa, mTa, kTa, bTa⟩, Qu := ⟨_, _, GQu, mQu, kQu, bQu⟩, Ch := ⟨_, _, GCh, mCh, kCh, bCh⟩, Jo := ⟨_, _, GJo, mJo, kJo, bJo⟩, Qi := ⟨_, _, GQs, mQs, kQs, bQs⟩, An := ⟨_, _, GAn, aAn, iAn, bAn⟩
          sf := sfCQ, r0 := r0CQ, t1 := t1CQ, t2 := t2CQ, ts := tsCQ, I := ICQ, gQ := mgCQ, isi := b_isinstance }
end Sw
section
local macro_rules | `(tactic| kernel_rfl) => `(tactic| exact False.elim (by assumption))
set_option maxHeartbeats 0 in
/-- never used: what stands here makes the constant of the written heap, Sw.names.heap_39 -/
theorem Sw.names (no : False) : PySem.Challenge.rw_surelywhole_k15_question_and_option.Holds := by
  w_on; o_law; k_headL; (case hw => w_witness2)
  exact no.elim
end
namespace Sw
open PySem PySem.W PySem.Calls PyProof.Rows
theorem hdSplit {S A B C : Type} {X : Option S} {f : S → A} {g : S → B} {h : S → C} {a : A} {b : B} {c : C} (h1 : X.map f = some a) (h2 : X.map g = some b) (h3 : X.map h = some c) : X.map (fun s => (f s, g s, h s)) = some (a, b, c) := by
  cases X with
  | none => cases h1
  | some s =>
    cases h1
    cases h2
    cases h3
    rfl
noncomputable section
def hdAs : List Addr := [2, 3, 15, 17, 18, 20, 21, 22, 29, 30, 31, 32, 35, 38, 43, 44, 46, 47, 49, 50, 51, 52, 53, 56, 59, 64, 65, 67, 68, 70, 71, 72, 73, 74, 77, 80, 85, 86, 88, 89, 91, 92, 93, 94, 95, 98, 101, 106, 107, 109, 110, 112, 113, 114, 115, 116, 119, 121, 122, 124, 125, 126, 129, 130, 131, 134, 135, 136, 139, 140, 141, 144, 145, 146, 149, 150, 151, 154, 155, 156, 158, 159, 161, 162, 163, 166, 167, 168, 170, 171, 173, 174, 175, 178, 179, 180, 182, 183, 185, 186, 187, 190, 191, 192, 194, 195, 197, 198, 199, 202, 203, 204, 206, 207, 209, 210, 211, 214, 215, 216, 219, 220, 221, 223, 224, 226, 227, 228, 230, 231, 233, 234, 242, 243, 245, 246, 248, 249, 250, 252, 253, 255, 256, 257, 260, 261, 262, 263, 264, 265, 266, 269, 272, 273, 274, 277, 278, 286, 287, 288, 289, 292, 293, 294, 297, 298, 299, 302, 303, 304, 305, 306, 307, 308, 318, 321, 322, 323, 325, 326, 328, 329, 330, 332, 333, 335, 336, 337, 340, 341, 342, 345, 346, 347, 350, 351, 352, 354, 355, 357, 358, 359, 360, 361, 362, 363, 366, 369, 370, 371, 373, 374, 376, 377, 378, 380, 381, 383, 384, 385, 388, 389, 390, 393, 394, 395, 398, 399, 400, 402, 403, 405, 406, 407, 410, 411, 412, 415, 416, 417, 419, 420, 422, 423, 424, 427, 428, 429, 432, 433, 434, 436, 437, 439, 440, 441, 443, 444, 446, 447, 448, 451, 452, 453, 456, 457, 458, 461, 462, 463, 465, 466, 468, 469]
def hdL0 : List PySem.Str := [(PySem.Str.ofString "_wall"), (PySem.Str.ofString "WholeError"), (PySem.Str.ofString "UnknownTable"), (PySem.Str.ofString "Ring"), (PySem.Str.ofString "BadPart"), (PySem.Str.ofString "Unbound"), (PySem.Str.ofString "SIGNS"), (PySem.Str.ofString "LONGEST"), (PySem.Str.ofString "is_variable"), (PySem.Str.ofString "is_term"), (PySem.Str.ofString "replaced"), (PySem.Str.ofString "once"), (PySem.Str.ofString "ascending"), (PySem.Str.ofString "with_ascending"), (PySem.Str.ofString "unused"), (PySem.Str.ofString "fit"), (PySem.Str.ofString "fits"), (PySem.Str.ofString "fewest"), (PySem.Str.ofString "full_match"), (PySem.Str.ofString "next_step"), (PySem.Str.ofString "condition_step"), (PySem.Str.ofString "key_step"), (PySem.Str.ofString "partner_step"), (PySem.Str.ofString "list_step"), (PySem.Str.ofString "states_after"), (PySem.Str.ofString "state_with"), (PySem.Str.ofString "gives"), (PySem.Str.ofString "is_covered"), (PySem.Str.ofString "Question"), (PySem.Str.ofString "check")]
def hdL1 : List PySem.Str := [(PySem.Str.ofString "check_part"), (PySem.Str.ofString "Table"), (PySem.Str.ofString "Schema"), (PySem.Str.ofString "leads"), (PySem.Str.ofString "_law_deal"), (PySem.Str.ofString "_law_take"), (PySem.Str.ofString "_law_spell"), (PySem.Str.ofString "_law_rising"), (PySem.Str.ofString "_law_find"), (PySem.Str.ofString "_law_deal_tables"), (PySem.Str.ofString "_law_cost"), (PySem.Str.ofString "_law_vars"), (PySem.Str.ofString "_law_parts"), (PySem.Str.ofString "_law_deal_ask"), (PySem.Str.ofString "_law_begin"), (PySem.Str.ofString "_law_build"), (PySem.Str.ofString "_law_query"), (PySem.Str.ofString "_law_choice"), (PySem.Str.ofString "_law_joined"), (PySem.Str.ofString "_law_question_is")]
def hdL : List PySem.Str := hdL0 ++ (hdL1)
abbrev hdV : Program := view PySem.Challenge.pw_surelywhole_k15_question_and_option [57]
theorem hdEk (P : Params) : hdAs = (Sw.names.heap_39 P).map (·.1) := by kernel_rfl
abbrev hdRun (w : World) (os : OsState) : Option SharedT := HeadRun.endF (HeadRun.stepQ (HeadRun.denQ HeadRun.tabQ) PySem.Challenge.pw_surelywhole_k15_question_and_option w) 7114 PySem.Challenge.pw_surelywhole_k15_question_and_option w os
abbrev hdXt (s : Shared) : Bool := xlAt hdV [] s && recOk (RowW.records (OpenRow.toRowW (OpenLaw.row PySem.Challenge.rw_surelywhole_k15_question_and_option))) s
theorem hdRun1 (w : World) (os : OsState) : (hdRun w os).map (fun s => HeadRun.looksF PySem.Challenge.pw_surelywhole_k15_question_and_option (boot_heap w.params) s.abs) = some true := by kernel_rfl
theorem hdRun2 (w : World) (os : OsState) : (hdRun w os).map (fun s => HeadRun.seenQ hdV hdL (importedModules (Program.main PySem.Challenge.pw_surelywhole_k15_question_and_option).body) hdXt s.abs) = some (openGood hdV hdL) := by kernel_rfl
theorem hdRun3 (w : World) (os : OsState) : (hdRun w os).map (fun s => hdAs.map (HeadRun.getT s)) = some ((Sw.names.heap_39 w.params).map fun x => some x.2) := by kernel_rfl
theorem hdLeft : LeftO PySem.Challenge.pw_surelywhole_k15_question_and_option hdV hdL hdXt (Hook.obs (kHook Sw.names.heap_39 hdAs hdEk)) (Hook.val (kHook Sw.names.heap_39 hdAs hdEk)) 7814 true :=
  HeadRun.left_oneK (M := 7114) (by kernel_rfl) (by rfl) (fun s => by kernel_rfl) (by rfl) fun w os => hdSplit (hdRun1 w os) (hdRun2 w os) (hdRun3 w os)
end
end Sw
open PySem PySem.W PyProof.Rows
set_option maxRecDepth 100000 in
set_option maxHeartbeats 0 in
theorem PySem.Challenge.cw_surelywhole_k15_question_and_option_holds : PySem.Challenge.rw_surelywhole_k15_question_and_option.Holds := by
  w_on; o_law
  refine holds_open (q := Sw.hdV) (loose := Sw.hdL) (Xt := Sw.hdXt) (XP := XL Sw.hdV []) (N := 7814) Sw.hdLeft (Hook.of (kHook Sw.names.heap_39 Sw.hdAs Sw.hdEk)) (Hook.keeps (kHook Sw.names.heap_39 Sw.hdAs Sw.hdEk)) (fun s e => xl_of s (Bool.and_eq_true_iff.mp e).1) XL.keeps (by rfl) (by rfl) (by rfl) (fun s e => recFacts_of (Bool.and_eq_true_iff.mp e).2) (by rfl) (by first | assumption | decide +kernel) (by decide +kernel) ⟨rfl, rfl, rfl, rfl, rfl, by decide +kernel⟩ ?hw ?hc
  case hw => w_witness2
  k_fill
  refine L2.walk_of (l := PySem.Challenge.rw_surelywhole_k15_question_and_option) (n := 63) (k := 9) (x := "_law_script") (CX := fun _ => L2.CX0) (sp := fun w => Sw.spLaw _) rfl (by decide) rfl ⟨rfl, by decide, by decide⟩ (fun w h Y => PySem.W.kIn_of Y) ?F (fun _ _ a ns hl _ hS => ⟨a, ns, rfl, hS, hl, fun _ => rfl⟩) (fun _ _ _ _ _ z => z)
  case F =>
    intro w mg fa h KX G hmg
    refine' Sw.all15 KX G hmg ?aDe ?lDe ?cDe ?kDe ?aTa ?lTa ?cTa ?kTa ?aSp ?lSp ?cSp ?kSp ?aLa ?lLa ?cLa ?kLa ?aRi ?lRi ?cRi ?kRi ?aFi ?lFi ?cFi ?kFi ?aDt ?lDt ?cDt ?kDt ?aCo ?lCo ?cCo ?kCo ?aVr ?lVr ?cVr ?kVr ?aPt ?lPt ?cPt ?kPt ?aAk ?lAk ?cAk ?kAk ?aBg ?lBg ?cBg ?kBg ?aBu ?lBu ?cBu ?kBu ?aOn ?lOn ?cOn ?kOn ?aAs ?lAs ?cAs ?kAs ?aWa ?lWa ?cWa ?kWa ?gCT ?pgCT ?hdCT ?poCT ?saCT ?mkCT ?kcCT ?nCTname ?nCTwidth ?nCTkey ?nCTlists ?nCTrefers ?aTb ?iTb ?lTb ?cTb ?kTb ?d0 ?d1 ?d2 ?t0 ?t1 ?gCS ?pgCS ?hdCS ?poCS ?saCS ?mkCS ?kcCS ?nCSnamed ?aSi ?iSi ?lSi ?cSi ?kSi ?aSt ?iSt ?lSt ?cSt ?kSt ?aSr ?iSr ?lSr ?cSr ?kSr ?gDU ?xCDU ?xVDU ?saDU ?gaDU ?ggDU ?eCDU ?tCDU ?kCDU ?hdDU ?haDU ?hnO ?htO ?hmDU ?nfDU ?iDU ?tDU ?lDU ?cDU ?yDU ?yvDU ?yfDU ?wDU ?clDU ?mrDU ?inDU ?veDU ?opq ?msc ?zsuper ?gDR ?xCDR ?xVDR ?saDR ?gaDR ?ggDR ?eCDR ?tCDR ?kCDR ?hdDR ?haDR ?hmDR ?nfDR ?iDR ?tDR ?lDR ?cDR ?yDR ?yvDR ?yfDR ?wDR ?clDR ?mrDR ?inDR ?veDR ?zint ?zrange ?zlen ?zisinstance ?ztuple ?zsorted ?zstr ?zlist ?zsum ?zmin ?aIv ?lIv ?cIv ?kIv ?aIt ?lIt ?cIt ?kIt ?aCp ?lCp ?cCp ?kCp ?aCk ?lCk ?cCk ?kCk ?gSG ?gLG ?kss ?zall ?zdict ?gCQ ?pgCQ ?hdCQ ?poCQ ?saCQ ?mkCQ ?kcCQ ?nCQschema ?nCQhead ?nCQparts ?nCQamong ?nCQduplicates ?aQi ?iQi ?lQi ?cQi ?kQi ?q0 ?q1 ?aQu ?lQu ?cQu ?kQu ?haCQ ?hmCQ ?meCQ ?aAn ?iAn ?lAn ?cAn ?kAn ?aCh ?lCh ?cCh ?kCh ?aJo ?lJo ?cJo ?kJo ?aQs ?lQs ?cQs ?kQs ?sfCQ ?r0CQ ?t1CQ ?t2CQ ?tsCQ ?kbb ?kdd ?zbool
    (case aDe => first | rfl | k_is)
    (case lDe => first | rfl | k_is)
    (case cDe => first | rfl | k_is)
    (case kDe => first | rfl | k_is)
    (case aTa => first | rfl | k_is)
    (case lTa => first | rfl | k_is)
    (case cTa => first | rfl | k_is)
    (case kTa => first | rfl | k_is)
    (case aSp => first | rfl | k_is)
    (case lSp => first | rfl | k_is)
    (case cSp => first | rfl | k_is)
    (case kSp => first | rfl | k_is)
    (case aLa => first | rfl | k_is)
    (case lLa => first | rfl | k_is)
    (case cLa => first | rfl | k_is)
    (case kLa => first | rfl | k_is)
    (case aRi => first | rfl | k_is)
    (case lRi => first | rfl | k_is)
    (case cRi => first | rfl | k_is)
    (case kRi => first | rfl | k_is)
    (case aFi => first | rfl | k_is)
    (case lFi => first | rfl | k_is)
    (case cFi => first | rfl | k_is)
    (case kFi => first | rfl | k_is)
    (case aDt => first | rfl | k_is)
    (case lDt => first | rfl | k_is)
    (case cDt => first | rfl | k_is)
    (case kDt => first | rfl | k_is)
    (case aCo => first | rfl | k_is)
    (case lCo => first | rfl | k_is)
    (case cCo => first | rfl | k_is)
    (case kCo => first | rfl | k_is)
    (case aVr => first | rfl | k_is)
    (case lVr => first | rfl | k_is)
    (case cVr => first | rfl | k_is)
    (case kVr => first | rfl | k_is)
    (case aPt => first | rfl | k_is)
    (case lPt => first | rfl | k_is)
    (case cPt => first | rfl | k_is)
    (case kPt => first | rfl | k_is)
    (case aAk => first | rfl | k_is)
    (case lAk => first | rfl | k_is)
    (case cAk => first | rfl | k_is)
    (case kAk => first | rfl | k_is)
    (case aBg => first | rfl | k_is)
    (case lBg => first | rfl | k_is)
    (case cBg => first | rfl | k_is)
    (case kBg => first | rfl | k_is)
    (case aBu => first | rfl | k_is)
    (case lBu => first | rfl | k_is)
    (case cBu => first | rfl | k_is)
    (case kBu => first | rfl | k_is)
    (case aOn => first | rfl | k_is)
    (case lOn => first | rfl | k_is)
    (case cOn => first | rfl | k_is)
    (case kOn => first | rfl | k_is)
    (case aAs => first | rfl | k_is)
    (case lAs => first | rfl | k_is)
    (case cAs => first | rfl | k_is)
    (case kAs => first | rfl | k_is)
    (case aWa => first | rfl | k_is)
    (case lWa => first | rfl | k_is)
    (case cWa => first | rfl | k_is)
    (case kWa => first | rfl | k_is)
    (case gCT => first | rfl | k_is)
    (case pgCT => first | rfl | k_is)
    (case hdCT => first | rfl | k_is)
    (case poCT => first | rfl | k_is)
    (case saCT => first | rfl | k_is)
    (case mkCT => first | rfl | k_is)
    (case kcCT => first | rfl | k_is)
    (case nCTname => first | rfl | k_is)
    (case nCTwidth => first | rfl | k_is)
    (case nCTkey => first | rfl | k_is)
    (case nCTlists => first | rfl | k_is)
    (case nCTrefers => first | rfl | k_is)
    (case aTb => first | rfl | k_is)
    (case iTb => first | rfl | k_is)
    (case lTb => first | rfl | k_is)
    (case cTb => first | rfl | k_is)
    (case kTb => first | rfl | k_is)
    (case d0 => first | rfl | k_is)
    (case d1 => first | rfl | k_is)
    (case d2 => first | rfl | k_is)
    (case t0 => first | rfl | k_is)
    (case t1 => first | rfl | k_is)
    (case gCS => first | rfl | k_is)
    (case pgCS => first | rfl | k_is)
    (case hdCS => first | rfl | k_is)
    (case poCS => first | rfl | k_is)
    (case saCS => first | rfl | k_is)
    (case mkCS => first | rfl | k_is)
    (case kcCS => first | rfl | k_is)
    (case nCSnamed => first | rfl | k_is)
    (case aSi => first | rfl | k_is)
    (case iSi => first | rfl | k_is)
    (case lSi => first | rfl | k_is)
    (case cSi => first | rfl | k_is)
    (case kSi => first | rfl | k_is)
    (case aSt => first | rfl | k_is)
    (case iSt => first | rfl | k_is)
    (case lSt => first | rfl | k_is)
    (case cSt => first | rfl | k_is)
    (case kSt => first | rfl | k_is)
    (case aSr => first | rfl | k_is)
    (case iSr => first | rfl | k_is)
    (case lSr => first | rfl | k_is)
    (case cSr => first | rfl | k_is)
    (case kSr => first | rfl | k_is)
    (case gDU => first | rfl | k_is)
    (case xCDU => first | rfl | k_is)
    (case xVDU => first | rfl | k_is)
    (case saDU => first | rfl | k_is)
    (case gaDU => first | rfl | k_is)
    (case ggDU => first | rfl | k_is)
    (case eCDU => first | rfl | k_is)
    (case tCDU => first | rfl | k_is)
    (case kCDU => first | rfl | k_is)
    (case hdDU => first | rfl | k_is)
    (case haDU => first | rfl | k_is)
    (case hnO => first | rfl | k_is)
    (case htO => first | rfl | k_is)
    (case hmDU => first | rfl | k_is)
    (case nfDU => first | rfl | k_is)
    (case iDU => first | rfl | k_is)
    (case tDU => first | rfl | k_is)
    (case lDU => first | rfl | k_is)
    (case cDU => first | rfl | k_is)
    (case yDU => first | rfl | k_is)
    (case yvDU => first | rfl | k_is)
    (case yfDU => first | rfl | k_is)
    (case wDU => first | rfl | k_is)
    (case clDU => first | rfl | k_is)
    (case mrDU => first | rfl | k_is)
    (case inDU => first | rfl | k_is)
    (case veDU => first | rfl | k_is)
    (case opq => first | rfl | k_is)
    (case msc => first | rfl | k_is)
    (case zsuper => first | rfl | k_is)
    (case gDR => first | rfl | k_is)
    (case xCDR => first | rfl | k_is)
    (case xVDR => first | rfl | k_is)
    (case saDR => first | rfl | k_is)
    (case gaDR => first | rfl | k_is)
    (case ggDR => first | rfl | k_is)
    (case eCDR => first | rfl | k_is)
    (case tCDR => first | rfl | k_is)
    (case kCDR => first | rfl | k_is)
    (case hdDR => first | rfl | k_is)
    (case haDR => first | rfl | k_is)
    (case hmDR => first | rfl | k_is)
    (case nfDR => first | rfl | k_is)
    (case iDR => first | rfl | k_is)
    (case tDR => first | rfl | k_is)
    (case lDR => first | rfl | k_is)
    (case cDR => first | rfl | k_is)
    (case yDR => first | rfl | k_is)
    (case yvDR => first | rfl | k_is)
    (case yfDR => first | rfl | k_is)
    (case wDR => first | rfl | k_is)
    (case clDR => first | rfl | k_is)
    (case mrDR => first | rfl | k_is)
    (case inDR => first | rfl | k_is)
    (case veDR => first | rfl | k_is)
    (case zint => first | rfl | k_is)
    (case zrange => first | rfl | k_is)
    (case zlen => first | rfl | k_is)
    (case zisinstance => first | rfl | k_is)
    (case ztuple => first | rfl | k_is)
    (case zsorted => first | rfl | k_is)
    (case zstr => first | rfl | k_is)
    (case zlist => first | rfl | k_is)
    (case zsum => first | rfl | k_is)
    (case zmin => first | rfl | k_is)
    (case aIv => first | rfl | k_is)
    (case lIv => first | rfl | k_is)
    (case cIv => first | rfl | k_is)
    (case kIv => first | rfl | k_is)
    (case aIt => first | rfl | k_is)
    (case lIt => first | rfl | k_is)
    (case cIt => first | rfl | k_is)
    (case kIt => first | rfl | k_is)
    (case aCp => first | rfl | k_is)
    (case lCp => first | rfl | k_is)
    (case cCp => first | rfl | k_is)
    (case kCp => first | rfl | k_is)
    (case aCk => first | rfl | k_is)
    (case lCk => first | rfl | k_is)
    (case cCk => first | rfl | k_is)
    (case kCk => first | rfl | k_is)
    (case gSG => first | rfl | k_is)
    (case gLG => first | rfl | k_is)
    (case kss => first | rfl | k_is)
    (case zall => first | rfl | k_is)
    (case zdict => first | rfl | k_is)
    (case gCQ => first | rfl | k_is)
    (case pgCQ => first | rfl | k_is)
    (case hdCQ => first | rfl | k_is)
    (case poCQ => first | rfl | k_is)
    (case saCQ => first | rfl | k_is)
    (case mkCQ => first | rfl | k_is)
    (case kcCQ => first | rfl | k_is)
    (case nCQschema => first | rfl | k_is)
    (case nCQhead => first | rfl | k_is)
    (case nCQparts => first | rfl | k_is)
    (case nCQamong => first | rfl | k_is)
    (case nCQduplicates => first | rfl | k_is)
    (case aQi => first | rfl | k_is)
    (case iQi => first | rfl | k_is)
    (case lQi => first | rfl | k_is)
    (case cQi => first | rfl | k_is)
    (case kQi => first | rfl | k_is)
    (case q0 => first | rfl | k_is)
    (case q1 => first | rfl | k_is)
    (case aQu => first | rfl | k_is)
    (case lQu => first | rfl | k_is)
    (case cQu => first | rfl | k_is)
    (case kQu => first | rfl | k_is)
    (case haCQ => first | rfl | k_is)
    (case hmCQ => first | rfl | k_is)
    (case meCQ => first | rfl | k_is)
    (case aAn => first | rfl | k_is)
    (case iAn => first | rfl | k_is)
    (case lAn => first | rfl | k_is)
    (case cAn => first | rfl | k_is)
    (case kAn => first | rfl | k_is)
    (case aCh => first | rfl | k_is)
    (case lCh => first | rfl | k_is)
    (case cCh => first | rfl | k_is)
    (case kCh => first | rfl | k_is)
    (case aJo => first | rfl | k_is)
    (case lJo => first | rfl | k_is)
    (case cJo => first | rfl | k_is)
    (case kJo => first | rfl | k_is)
    (case aQs => first | rfl | k_is)
    (case lQs => first | rfl | k_is)
    (case cQs => first | rfl | k_is)
    (case kQs => first | rfl | k_is)
    (case sfCQ => first | rfl | k_is)
    (case r0CQ => first | rfl | k_is)
    (case t1CQ => first | rfl | k_is)
    (case t2CQ => first | rfl | k_is)
    (case tsCQ => first | rfl | k_is)
    (case kbb => first | rfl | k_is)
    (case kdd => first | rfl | k_is)
    (case zbool => first | rfl | k_is)
