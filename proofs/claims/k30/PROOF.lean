import PyProof.Rows.All
import Wide.All
import OpenK.AllK
import Wide.FinOn
import HandS.ForMost
import HandS.Wide
import HandS.ForExc
import HandS.Deep
import HandS.Evl
import HandS.Walk
import HandS.Codes
import HandS.Zip
import HandS.Property
import HandS.Defaults
import HandS.TupAny
import HandS.More
import HandS.Lambda
import HandS.SortKw
import KE.SortKeyHeap
import HandS.DictComp
import PySem.Challenge.RW_farreads_k30_greatest_shifts
import HandS.DeepEq
import HandS.OwnEq
import KE.GoesEnum
import HandS.EndTab
import PyProof.ReprRoads
import HandS.RaiseMore
import PyProof.ReprLen
import HandS.ExcInit
import HandS.IsInst
import KE.KExcIs
import HandS.Exc
import HandS.ExcOwn
import HandS.ExcField
import HandS.ExcIs
import HandS.Rev
import HandS.SortInts
import HandS.Conv
import PyProof.Rows.CountFlat
import HandS.DictTup
import PyProof.NsCount
import HandS.TupSets
import PyProof.Rows.SortStr
import HandS.Sort
import KE.KDictOf
import KE.KEqDict
import KE.KDictWalk
import HandS.TupMul
import HandS.Comp
import HandS.Small
import HandS.Finally
import KE.GoesZip
set_option Elab.async false
set_option linter.all false
set_option maxRecDepth 100000
set_option maxHeartbeats 8000000
namespace Fr
open PySem PySem.Spec PyProof.Rows L2
section
variable {K : PySem.W.Frag} {H H' : Hp}
theorem sqt (e : Same H H') {a : Addr} {xs : List V} (h : SqT K H a xs) : SqT K H' a xs := Evl.ex_t e h
theorem sql (e : Same H H') {a : Addr} {xs : List V} (h : SqL K H a xs) : SqL K H' a xs := Evl.ex_l e h
/-- lists, tuples, locked things -/
def dat : HO → Bool
  | .lst _ => true
  | .tup _ => true
  | .frz _ _ => true
  | _ => false
/-- what data is made of stays -/
def SD (H H' : Hp) : Prop := ∀ b o, H b = some o → dat o = true → H' b = some o
theorem SD.of (e : Same H H') : SD H H' := fun b o h _ => e b o h
theorem SD.tr {H'' : Hp} (a : SD H H') (b : SD H' H'') : SD H H'' := fun c o h d => b c o (a c o h d) d
theorem SD.upd {s : Addr} {u o : HO} (e : SD H H') (h : H' s = some u) (n : dat u = false) : SD H (upd H' s o) := fun b x q d => by
  have z := e b x q d
  have ne : b ≠ s := fun y => by
    rw [y, h] at z
    cases z
    rw [n] at d
    cases d
  rw [upd_ne ne]
  exact z
theorem sqtd (e : SD H H') {a : Addr} {xs : List V} (h : SqT K H a xs) : SqT K H' a xs := by
  rcases h with (h | ⟨o, h⟩) | h
  · exact .inl (.inl (e _ _ h rfl))
  · exact .inl (.inr ⟨o, e _ _ h rfl⟩)
  · exact .inr h
theorem sqld (e : SD H H') {a : Addr} {xs : List V} (h : SqL K H a xs) : SqL K H' a xs := by
  rcases h with (h | ⟨o, h⟩) | h
  · exact .inl (.inl (e _ _ h rfl))
  · exact .inl (.inr ⟨o, e _ _ h rfl⟩)
  · exact .inr h
mutual
theorem dpd (e : SD H H') : ∀ (d : PyData) (v : V), Dp K H v d → Dp K H' v d
  | .none, _, h => by cases h; exact .non
  | .bool b, _, h => by cases h; exact .bl b
  | .int i, _, h => by cases h; exact .int i
  | .str x, _, h => by cases h; exact .str x
  | .list ds, _, h => by
    cases h with
    | lst hs ha => exact .lst (sqld e hs) (dpsd e ds _ ha)
  | .tuple ds, _, h => by
    cases h with
    | tup hs ha => exact .tup (sqtd e hs) (dpsd e ds _ ha)
  | .dict _, _, h => by cases h
theorem dpsd (e : SD H H') : ∀ (ds : List PyData) (vs : List V), DpAll K H vs ds → DpAll K H' vs ds
  | [], _, h => by cases h; exact .nil
  | d :: ds, _, h => by
    cases h with
    | cons h1 h2 => exact .cons (dpd e d _ h1) (dpsd e ds _ h2)
end
theorem dpm (e : Same H H') (d : PyData) (v : V) (h : Dp K H v d) : Dp K H' v d := dpd (.of e) d v h
theorem dpsm (e : Same H H') (ds : List PyData) (vs : List V) (h : DpAll K H vs ds) : DpAll K H' vs ds := dpsd (.of e) ds vs h
theorem dps_len : ∀ {ds : List PyData} {vs : List V}, DpAll K H vs ds → vs.length = ds.length
  | [], _, h => by cases h; rfl
  | d :: ds, _, h => by
    cases h with
    | cons h1 h2 => exact congrArg Nat.succ (dps_len h2)
theorem dps_get : ∀ {ds : List PyData} {vs : List V} {i : Nat} {v : V}, DpAll K H vs ds → vs[i]? = some v → ∃ d, ds[i]? = some d ∧ Dp K H v d
  | [], _, _, _, h, e => by cases h; cases e
  | d :: ds, _, 0, v, h, e => by
    cases h with
    | cons h1 h2 => cases e; exact ⟨d, rfl, h1⟩
  | d :: ds, _, i + 1, v, h, e => by
    cases h with
    | cons h1 h2 => exact dps_get (i := i) h2 (by simpa using e)
theorem dps_get' : ∀ {ds : List PyData} {vs : List V} {i : Nat} {d : PyData}, DpAll K H vs ds → ds[i]? = some d → ∃ v, vs[i]? = some v ∧ Dp K H v d
  | [], _, _, _, h, e => by cases e
  | d :: ds, _, 0, v, h, e => by
    cases h with
    | cons h1 h2 => cases e; exact ⟨_, rfl, h1⟩
  | d :: ds, _, i + 1, v, h, e => by
    cases h with
    | cons h1 h2 => simpa using dps_get' (i := i) h2 (by simpa using e)
theorem dps_app : ∀ {ds es : List PyData} {vs us : List V}, DpAll K H vs ds → DpAll K H us es → DpAll K H (vs ++ us) (ds ++ es)
  | [], _, _, _, h, k => by cases h; exact k
  | d :: ds, _, _, _, h, k => by
    cases h with
    | cons h1 h2 => exact .cons h1 (dps_app h2 k)
theorem dps_one {v : V} {d : PyData} (h : Dp K H v d) : DpAll K H [v] [d] := .cons h .nil
theorem dps_snoc {ds : List PyData} {vs : List V} {v : V} {d : PyData} (h : DpAll K H vs ds) (k : Dp K H v d) : DpAll K H (vs ++ [v]) (ds ++ [d]) := dps_app h (dps_one k)
/-- a new object leaves what stands -/
theorem snew {p : Addr} {o : HO} (h : H p = none) : Same H (upd H p o) := fun b x e => by
  rw [upd_ne (ne_of_none e h)]
  exact e
theorem smut {p : Addr} {o : HO} (e : Same H H') (h : H p = none) : Same H (upd H' p o) := fun b x q => by
  rw [upd_ne (ne_of_none q h)]
  exact e b x q
theorem dint {v : V} {i : Int} (h : Dp K H v (.int i)) : v = .int i := by cases h; rfl
theorem dstr {v : V} {x : Str} (h : Dp K H v (.str x)) : v = .str x := by cases h; rfl
theorem dtup {v : V} {ds : List PyData} (h : Dp K H v (.tuple ds)) : ∃ a xs, v = .ref a ∧ SqT K H a xs ∧ DpAll K H xs ds := by
  cases h with
  | tup hs ha => exact ⟨_, _, rfl, hs, ha⟩
theorem dlst {v : V} {ds : List PyData} (h : Dp K H v (.list ds)) : ∃ a xs, v = .ref a ∧ SqL K H a xs ∧ DpAll K H xs ds := by
  cases h with
  | lst hs ha => exact ⟨_, _, rfl, hs, ha⟩
theorem dps_ints : ∀ {ns : List Int} {vs : List V}, DpAll K H vs (ns.map PyData.int) → vs = ns.map V.int
  | [], _, h => by cases h; rfl
  | n :: ns, _, h => by
    cases h with
    | cons h1 h2 => cases h1; rw [dps_ints h2]; rfl
theorem dps3 {a b c : PyData} {vs : List V} (h : DpAll K H vs [a, b, c]) : ∃ x y z, vs = [x, y, z] ∧ Dp K H x a ∧ Dp K H y b ∧ Dp K H z c := by
  cases h with
  | cons h1 h =>
    cases h with
    | cons h2 h =>
      cases h with
      | cons h3 h =>
        cases h
        exact ⟨_, _, _, rfl, h1, h2, h3⟩
theorem dps2 {a b : PyData} {vs : List V} (h : DpAll K H vs [a, b]) : ∃ x y, vs = [x, y] ∧ Dp K H x a ∧ Dp K H y b := by
  cases h with
  | cons h1 h =>
    cases h with
    | cons h2 h =>
      cases h
      exact ⟨_, _, rfl, h1, h2⟩
theorem ints_dps : ∀ (ns : List Int), DpAll K H (ns.map V.int) (ns.map PyData.int)
  | [] => .nil
  | n :: ns => .cons (.int n) (ints_dps ns)
end
/-- ** with a base of any size within the line -/
def CPowW (i j : Int) : Prop := 0 ≤ j ∧ j ≤ 3 ∧ i.natAbs < 2 ^ 1000000
section
variable {X : Cx}
theorem op_powW : OpR X (binaryOp .Pow) (rI CPowW fun i j => .int (i ^ j.toNat)) := opI fun i j _ _ _ _ _ hc q => by
  obtain ⟨h0, h3, hb⟩ := hc
  refine pow_int h0 ?_ q
  have b : Builtin.Int.intBits i ≤ i.natAbs.log2 + 1 := by
    unfold Builtin.Int.intBits
    split <;> omega
  have l : i.natAbs.log2 < 1000000 := PySem.Flt.log2_lt_of (by decide) hb
  have c : (Builtin.Int.intBits i : Int) ≤ 1000000 := by omega
  have c0 : (0 : Int) ≤ (Builtin.Int.intBits i : Int) := Int.natCast_nonneg _
  calc (Builtin.Int.intBits i : Int) * j ≤ 1000000 * 3 := Int.mul_le_mul c h3 h0 (by decide)
    _ ≤ 2 ^ 27 := by decide
end
end Fr

namespace Fr
open PySem PySem.Spec PyProof.Rows L2
theorem same_refl {H : Hp} : Same H H := fun _ _ h => h
theorem same_tr {A B C : Hp} (a : Same A B) (b : Same B C) : Same A C := fun x o h => b x o (a x o h)
theorem yat_same {xs : List V} {i : Nat} {H : Hp} {x : V} {H' : Hp} (y : YAt xs i H x H') : Same H H' := by
  obtain ⟨rfl, _⟩ := y
  exact same_refl
theorem ypair_same {xs ys : Nat → Option V} {i : Nat} {H : Hp} {x : V} {H' : Hp} (y : YPair xs ys i H x H') : Same H H' := by
  obtain ⟨T, _, _, _, n, rfl, _⟩ := y
  exact snew n
theorem free_of {H H' : Hp} {p : Addr} (e : Same H H') (h : H' p = none) : H p = none := Same.free e h
theorem get_range {n i : Nat} (h : i < n) : (List.range n)[i]? = some i := by simp [h]
/-- a comprehension whose elements are told by the turn -/
theorem lc_flat {J : It} {n : Nat} {G : Hp → Prop} {Y : Nat → Hp → V → Hp → Prop} (w : Walk J n G Y) {g : TG} {te : TE} {vs : List Nat} {σ : L2.St} {H1 : Hp} {D : Addr} {Qd : Hp → Prop} (f : Nat → V) (hn : n ≤ 1000000) (hD : H1 D = none) (hG : ∀ H, Same H1 H → G H)
    (hY : ∀ i H x H', Y i H x H' → Same H H')
    (hs : ∀ i x H H', i < n → Same H1 H → Y i H x H' → ∀ R : V → Hp → Prop, (∀ H4, Same H' H4 → R (f i) H4) → g x (wipe σ vs) H' fun σ2 H2 => wipe σ2 vs = wipe σ vs ∧ te σ2 H2 R)
    (hd : ∀ H, Same H1 H → H D = some (.lst ((List.range n).map f)) → Qd H) :
    ∃ W : Nat → Nat → Hp → Prop, (∃ m, W 0 m (upd H1 D (.lst []))) ∧ ∀ i m H, W i m H →
      (J.stop i H ∧ Qd H) ∨ (J.go i H ∧ ∃ Nx : Hp → Prop, (∀ H', Nx H' → ∃ m', m' < m ∧ W (i + 1) m' H') ∧ ∀ x H', J.yld i H x H' → g x (wipe σ vs) H' fun σ2 H2 => wipe σ2 vs = wipe σ vs ∧ tYes σ2 H2 fun b H3 =>
        if b = true then te σ2 H3 fun y H4 => ∃ acc, H4 D = some (.lst acc) ∧ acc.length < sizeLine ∧ Nx (upd H4 D (.lst (acc ++ [y]))) else Nx H3) := by
  refine lc_it w (fun i H => Same H1 H ∧ H D = some (.lst ((List.range i).map f))) ⟨snew hD, upd_same⟩ (fun i H _ p => hG H p.1) (fun i x H H' hi p y => ?_) fun H p => hd H p.1 p.2
  have sm := hY i H x H' y
  refine hs i x H H' hi p.1 y _ fun H4 s4 => ⟨_, s4 _ _ (sm _ _ p.2), ?_, ?_, ?_⟩
  · rw [List.length_map, List.length_range]
    exact Nat.lt_of_lt_of_le (by omega : i < 1000001) (by rw [sizeLine_eq]; decide)
  · exact smut (same_tr p.1 (same_tr sm s4)) hD
  · rw [upd_same, List.range_succ, List.map_append]
    rfl
/-- a property that may be read by its name -/
structure Prp (P : Program) (w : World) (K : PySem.W.Frag) (mg : Str → Option Value) (base : Heap) (k : Nat) (C : Addr) (f : Str) (sp : Sp) : Prop where
  ex : ∃ (p g : Addr) (fd : FuncData) (ps : List Str), Cls K C ∧ PropOf K C f p g ∧ FnOk P w K mg base CX0 k g fd ps sp ∧ Binds K fd ps []
section
variable {X : Cx}
theorem pe_pr {k j : Nat} {C : Addr} {f : Str} {sp : Sp} {e : Expr} {pos : Pos} {ta : TE} (he : PE X e ta) (c : Prp X.prog X.w X.K X.mg X.base k C f sp) (hr : Room j X.A) (hk : k + 1 ≤ j) (hab : attributeBase e f X.env (eval e X.env) = eval e X.env) :
    PE X (.Attribute e f pos) (tProp C sp [] E0 ta) := by
  obtain ⟨p, g, fd, ps, hc, hp, F, hb⟩ := c.ex
  exact pe_prop he hc hp F (hr.mono hk) hb .nil pass0 hab
theorem _root_.L2.Room.units1 {k : Nat} {A : Around} (r : Room k A) : A.units + 65 < cLine := by
  have := r.un
  omega
end
def rTupS (K : PySem.W.Frag) : List V → Hp → VK → Prop := fun xs H Q => ∃ p ys, xs = [.ref p] ∧ ((SqL K H p ys ∧ ∀ l, H l = none → Q (.ref l) (upd H l (.tup ys))) ∨ (SqT K H p ys ∧ Q (.ref p) H))
end Fr

namespace Fr
open PySem PySem.Spec PyProof.Rows L2
theorem vals_each1 {α : Type} : ∀ {bs : List (V × α)} {us : List Value}, Vals (bs.map Prod.fst) us → PySem.W.EachIs (fun (v : Value) (x : V × α) => RelV x.1 v) us bs
  | [], _, h => by cases h; exact .nil
  | b :: bs, _, h => by
    cases h with
    | cons h t => exact .cons h (vals_each1 t)
theorem each_vals1 {α : Type} : ∀ {bs : List (V × α)} {us : List Value}, PySem.W.EachIs (fun (v : Value) (x : V × α) => RelV x.1 v) us bs → Vals (bs.map Prod.fst) us
  | [], _, h => by cases h; exact .nil
  | b :: bs, _, h => by
    cases h with
    | cons h t => exact .cons h (each_vals1 t)
/-- one parameter, nothing captured -/
structure LamP (a : Str) (scope : Scope) : Prop where
  kind : scope.kind = .function
  co : scope.isCoroutine = false
  gen : scope.isGenerator = false
  loc : scope.names.lookup a = some .local
  noc : ∀ y ∈ scope.names, y.2 ≠ .cell
  nof : ∀ y ∈ scope.names, y.2 ≠ .free
section
variable {prog : Program} {w : World} {A : Around} {E : Value → Shared → Prop} {s : Shared}
theorem lam_key0 {a q : Str} {f c' t : Addr} {pm ctv : Value} {params : Arguments} {scope : Scope} {cl : List (Str × Addr)} {p1 p2 p3 : Pos} {kk : Nat} {x : Str} {u : Tok} {items : List Value} (L : LamP a scope) (ha : (a == ("__debug__" : Str)) = false)
    (ho : s.heap.get? f = some (PySem.W.kla_obj "<lambda>" q params (.Subscript (.Name a p1) (.Constant (.int 0) kk p2) p3) scope cl pm c' ctv)) (hcr : s.heap.CodeRec (.ref c') q) (hroom : A.depth < recursionLimit) (hlim : s.heap.NoLimit)
    (hbind : ∀ v, bindArgs (PySem.W.kla_fn "<lambda>" q params (.Subscript (.Name a p1) (.Constant (.int 0) kk p2) p3) scope cl pm (.ref c') ctv) ⟨[v], []⟩ = pure [(a, v)]) (ht : IsTup s.heap t (Value.str x u :: items).toArray) :
    wpAny (model prog w) A (call (.ref f) [.ref t]) (PySem.W.KeyPure (.str x) s) E s := by
  refine wpAny_call (PySem.W.kla_callFunE hroom ho rfl L.co L.gen rfl hcr ?_)
  rw [hbind]
  refine wpAny_pure (wpAny_newFunctionEnv (fun y hy => L.noc y hy) (fun y hy => ?_) (fun h₁ hns hsb => ⟨hlim.fresh _ hsb, ?_⟩) L.kind)
  · have e : y = (a, Value.ref t) := by simpa using hy
    rw [e]
    exact L.loc
  · have kp : ∀ b o, s.heap.get? b = some o → h₁.get? b = some o := fun b o e => hsb.extBut b o (Nat.ne_of_lt (Heap.lt_size e)) (Heap.get?_push_of_some _ e)
    refine PySem.W.kla_codeExpr (Subscript_ (wpAny_Name (wpAny_loadName_local (v := .ref t) L.kind L.loc hns ?_ ?_) ha))
    · show List.lookup a ([(a, Value.ref t)] : List (Str × Value)) = _
      simp [List.lookup]
    · refine wpAny_Constant_int ?_
      refine item_tupleL (j := 0) (x := .str x u) (l := Value.str x u :: items) ?_ (by decide) (by decide) ?_ rfl ?_
      · obtain ⟨o, h1, h2, n, h3⟩ := ht
        exact ⟨o, kp _ _ h1, h2, n, h3⟩
      · show (if (decide ((0 : Int) ≤ (if (0 : Int) < 0 then 0 + ((Value.str x u :: items).length : Int) else 0)) && decide ((if (0 : Int) < 0 then 0 + ((Value.str x u :: items).length : Int) else 0) < ((Value.str x u :: items).length : Int))) = true then some (if (0 : Int) < 0 then 0 + ((Value.str x u :: items).length : Int) else 0).toNat else none) = some 0
        rw [if_neg (by decide : ¬ (0 : Int) < 0)]
        have h : (0 : Int) < ((Value.str x u :: items).length : Int) := by
          rw [List.length_cons]
          omega
        rw [decide_eq_true (Int.le_refl 0), decide_eq_true h]
        rfl
      · exact ⟨h₁, _, rfl, kp, PySem.Reads.str x u⟩
end
/-- by the first text, from the least on -/
def leK {β : Type} (k : β → Str) : β → β → Bool := fun a b => decide ((k a).cps.toList ≤ (k b).cps.toList)
def oneV (R : VK) : List V → Hp → Prop
  | [v], H => R v H
  | _, _ => False
theorem oneV_of {R : VK} {vs : List V} {H : Hp} (h : oneV R vs H) : ∃ v, vs = [v] ∧ R v H := by
  match vs, h with
  | [v], h => exact ⟨v, rfl, h⟩
def tSortKey {α : Type} (kf : α → Str) (K : PySem.W.Frag) (T : List (Addr × Str)) (te : TE) : TE := fun σ H Q => te σ H fun v H1 => ∃ (a : Addr) (bs : List (V × α)), v = .ref a ∧ SqL K H1 a (bs.map Prod.fst) ∧ LamX.Tabs T H1 ∧
  (∀ y ∈ bs, ∃ t zs, y.1 = .ref t ∧ SqT K H1 t (.str (kf y.2) :: zs)) ∧ ∀ H2, LamX.ExtN H1 H2 → LamX.Tabs T H2 → ∀ p, H2 p = none → Q (.ref p) (upd H2 p (.lst ((bs.mergeSort (leK fun y => kf y.2)).map Prod.fst)))
theorem same_of_ext {B H1 H2 : Hp} (e : Same B H1) (n : ∀ b ps, B b ≠ some (.tbl ps)) (x : LamX.ExtN H1 H2) : Same B H2 := fun b o h => x b o (e b o h) fun ps z => n b ps (by rw [h, z])
theorem sqt_ext {K : PySem.W.Frag} {H1 H2 : Hp} {a : Addr} {xs : List V} (x : LamX.ExtN H1 H2) (h : SqT K H1 a xs) : SqT K H2 a xs := by
  rcases h with (h | ⟨o, h⟩) | h
  · exact .inl (.inl (x _ _ h fun ps z => by cases z))
  · exact .inl (.inr ⟨o, x _ _ h fun ps z => by cases z⟩)
  · exact .inr h
theorem sql_ext {K : PySem.W.Frag} {H1 H2 : Hp} {a : Addr} {xs : List V} (x : LamX.ExtN H1 H2) (h : SqL K H1 a xs) : SqL K H2 a xs := by
  rcases h with (h | ⟨o, h⟩) | h
  · exact .inl (.inl (x _ _ h fun ps z => by cases z))
  · exact .inl (.inr ⟨o, x _ _ h fun ps z => by cases z⟩)
  · exact .inr h
section
variable {X : Cx}
theorem pe_sortKey {α : Type} (kf : α → Str) {T : List (Addr × Str)} {c P : Addr} {k : Nat} {a : Str} {e : Expr} {params : Arguments} {scope : Scope} {p p1 p2 p3 lpos kpos pos : Pos} {kk : Nat} {te : TE} (hg : Gl X "sorted") (hm : X.mg "sorted" = none) (ha : PE X e te) (hr : Room (k + 1) X.A)
    (TB : LamX.TabB X.base X.mg c P) (hcode : X.env.code = .ref c) (hmT : (P, X.env.qual ++ "<lambda>") ∈ T) (hu : ∀ p ∈ T, p.1 = P → p.2 = X.env.qual ++ "<lambda>") (hdef : defaultsOf params X.env = ([], [])) (L : LamP a scope) (hda : (a == ("__debug__" : Str)) = false)
    (hbind : ∀ (q : Str) (cl : List (Str × Addr)) (pm cv ctv v : Value), bindArgs (PySem.W.kla_fn "<lambda>" q params (.Subscript (.Name a p1) (.Constant (.int 0) kk p2) p3) scope cl pm cv ctv) ⟨[v], []⟩ = pure [(a, v)])
    (he : backTo pos (starEach [e] X.env) = (false, eval e X.env) :: backTo pos (starEach [] X.env) := by rfl) (hpl : (backTo pos (starEach [e] X.env)).any Prod.fst = false := by rfl) (hes : starEach (e :: []) X.env = (false, eval e X.env) :: starEach [] X.env := by rfl) :
    PE X (.Call (.Name "sorted" p) [e] [⟨some "key", .Lambda params (.Subscript (.Name a p1) (.Constant (.int 0) kk p2) p3) scope lpos, kpos⟩] pos) (tSortKey kf X.K T te) := by
  refine ⟨fun pins s σ H Q I h => ?_⟩
  refine wpAny_Call_Name_kw (ld_blt I hg hm PyProof.Rows.boot_sorted ?_)
  refine PyProof.Rows.callWith_kw (thn ((pa_cons ha pa_nil hes).run pos pins s σ H (oneV fun v H1 => ∃ (a : Addr) (bs : List (V × α)), v = .ref a ∧ SqL X.K H1 a (bs.map Prod.fst) ∧ LamX.Tabs T H1 ∧
    (∀ y ∈ bs, ∃ t zs, y.1 = .ref t ∧ SqT X.K H1 t (.str (kf y.2) :: zs)) ∧ ∀ H2, LamX.ExtN H1 H2 → LamX.Tabs T H2 → ∀ p, H2 p = none → Q (.ref p) (upd H2 p (.lst ((bs.mergeSort (leK fun y => kf y.2)).map Prod.fst)))) I h) fun us s1 hh => ?_) he hpl (by rfl) (by rfl)
  · obtain ⟨vs, H1, I1, r1, hh⟩ := hh
    obtain ⟨v, rfl, hh⟩ := oneV_of hh
    obtain ⟨b, bs, rfl, hS, hT, hK, q⟩ := hh
    obtain ⟨u, rfl, hu1⟩ := r1.one
    obtain rfl : u = Value.ref b := hu1
    show wpAny _ _ (evalAll ((do let v ← eval (.Lambda params (.Subscript (.Name a p1) (.Constant (.int 0) kk p2) p3) scope lpos) X.env; standAt pos; pure v) :: [])) _ _ s1
    refine wpAny_evalAll_cons (wpAny_bind (LamX.lam_make2 I1 TB hcode hmT hu hT hdef (fun y hy e => absurd e (L.nof y hy)) fun f c' pm ctv H2 s2 I2 xN hT2 hf hfn hfr hco => wpAny_bind (wpAny_standAt (wpAny_pure (wpAny_evalAll_nil ?_)))))
    show wpAny _ _ (call (.builtin "sorted") [.ref b] [(Str.ofString "key", .ref f)]) _ _ s2
    have hS2 := sql_ext xN hS
    obtain ⟨its, rv, hl, hz⟩ := I2.list hS2
    obtain ⟨⟨oc, vsc, tc, hoc, hdc, hvc⟩, _, _⟩ := I2.hok c' _ hco
    have hcr : s2.heap.CodeRec (.ref c') (X.env.qual ++ "<lambda>") := ⟨c', oc, vsc, tc, rfl, hoc, hdc, hvc⟩
    refine PySem.W.sorted_key_data (β := V × α) (vs := its) (bs := bs) (R := fun v x => RelV x.1 v) (b := false) (fun y => PyData.str (kf y.2)) hl.isList (vals_each1 rv) ?_ ?_ ?_ ?_ (PyProof.Rows.ksk_s1 _ _) (fun _ => PyProof.Rows.ksk_l1 _ _) (fun x => PyProof.Rows.ksk_t1 f x) ?_ ?_
    · intro d hd d' hd'
      obtain ⟨y, _, rfl⟩ := List.mem_map.mp hd
      obtain ⟨y', _, rfl⟩ := List.mem_map.mp hd'
      rfl
    · refine Or.inr fun d hd => ?_
      obtain ⟨y, _, rfl⟩ := List.mem_map.mp hd
      constructor
      · intro z
        cases z
      · intro xs z
        cases z
    · rw [List.length_map] at hz
      exact hz
    · intro y hy
      have := hr.un
      show X.A.units + 2 + PyData.depth (.str (kf y.2)) < cLine
      have e : PyData.depth (.str (kf y.2)) ≤ 1 := by simp [PyData.depth]
      omega
    · intro v y hv hy h tk kp
      obtain ⟨t, zs, ey, ht⟩ := hK y hy
      rw [ey] at hv
      obtain rfl : v = Value.ref t := hv
      obtain ⟨jts, rj, hjt, _⟩ := I2.tuple (sqt_ext xN ht)
      cases rj with
      | @cons _ u0 _ js r0 rr =>
        obtain ⟨t0, rfl⟩ := r0
        obtain ⟨o, h1, h2, n, h3⟩ := hjt
        refine lam_key0 (s := { s2 with heap := h, toks := tk }) (A := X.A.in1.in1) (u := t0) (items := js) L hda (kp _ _ hf) ⟨c', oc, vsc, tc, rfl, kp _ _ hoc, hdc, hvc⟩ ?_ (I2.nolimit.keeps kp) (fun v => hbind _ _ _ _ _ v) ⟨o, kp _ _ h1, h2, n, h3⟩
        have := hr.dp
        show X.A.depth < recursionLimit
        omega
    · intro out cc h' tk kp fresh hD hlen' hE
      have hv := each_vals1 hE
      have hle : PySem.W.dataLe false (fun y : V × α => PyData.str (kf y.2)) = leK fun y => kf y.2 := PySem.W.dataLe_str _
      rw [hle] at hv
      have hl2 : ((bs.mergeSort (leK fun y => kf y.2)).map Prod.fst).length ≤ sizeLine := by
        rw [List.length_map, List.length_mergeSort]
        rw [List.length_map] at hz
        exact hz
      exact ⟨.ref _, upd H2 (s2.heap.objs.size + 1) (.lst ((bs.mergeSort (leK fun y => kf y.2)).map Prod.fst)), I2.laid (t' := tk) kp (Nat.le_succ _) ⟨hl2, out, cc, hv, hD⟩, rfl, q H2 xN hT2 _ (I2.hok.fresh (Nat.le_succ _))⟩
end
/-- a dict comprehension over a walk -/
theorem dc_it {J : It} {n : Nat} {G : Hp → Prop} {Y : Nat → Hp → V → Hp → Prop} (w : Walk J n G Y) {g : TG} {tt : TT} {tk tv : TE} {vs : List Nat} {σ : L2.St} {H1 : Hp} {D : Addr} {Qd : Hp → Prop} (Pv : Nat → Hp → Prop) (h0 : Pv 0 (upd H1 D (.dK []))) (hG : ∀ i H, i ≤ n → Pv i H → G H)
    (hs : ∀ i x H H', i < n → Pv i H → Y i H x H' → g x (wipe σ vs) H' fun σ2 H2 => wipe σ2 vs = wipe σ vs ∧ tt σ2 H2 fun b H3 =>
      if b = true then tk σ2 H3 fun y H4 => tv σ2 H4 fun z H5 => ∃ kvs k, y = kV k ∧ H5 D = some (.dK kvs) ∧ kvs.length < sizeLine ∧ Pv (i + 1) (upd H5 D (.dK (putK kvs k z))) else Pv (i + 1) H3) (hd : ∀ H, Pv n H → Qd H) :
    ∃ W : Nat → Nat → Hp → Prop, (∃ m, W 0 m (upd H1 D (.dK []))) ∧ ∀ i m H, W i m H →
      (J.stop i H ∧ Qd H) ∨ (J.go i H ∧ ∃ Nx : Hp → Prop, (∀ H', Nx H' → ∃ m', m' < m ∧ W (i + 1) m' H') ∧ ∀ x H', J.yld i H x H' → g x (wipe σ vs) H' fun σ2 H2 => wipe σ2 vs = wipe σ vs ∧ tt σ2 H2 fun b H3 =>
        if b = true then tk σ2 H3 fun y H4 => tv σ2 H4 fun z H5 => ∃ kvs k, y = kV k ∧ H5 D = some (.dK kvs) ∧ kvs.length < sizeLine ∧ Nx (upd H5 D (.dK (putK kvs k z))) else Nx H3) := by
  refine ⟨fun i m H => m = n - i ∧ i ≤ n ∧ Pv i H, ⟨n, by simp, Nat.zero_le _, h0⟩, ?_⟩
  rintro i m H ⟨rfl, hi, p⟩
  have q := hG i H hi p
  by_cases hlt : i < n
  · exact .inr ⟨w.goes i H hlt q, Pv (i + 1), fun H' p' => ⟨n - (i + 1), by omega, rfl, hlt, p'⟩, fun x H' y => hs i x H H' hlt p (w.yields i H x H' hlt q y)⟩
  · have e : i = n := by omega
    subst e
    exact .inl ⟨w.stops H q, hd H p⟩
theorem SD.ext {H H' : Hp} (x : LamX.ExtN H H') : SD H H' := fun b o h d => x b o h fun ps z => by
  rw [z] at d
  cases d
theorem tabs_upd {T : List (Addr × Str)} {H : Hp} {s : Addr} {u o : HO} (hT : LamX.Tabs T H) (h : H s = some u) (n1 : ∀ ps, u ≠ .tbl ps) (n2 : ∀ c q, u ≠ LamX.CodeO c q) : LamX.Tabs T (upd H s o) := by
  intro p hp
  obtain ⟨ps, h1, h2, h3⟩ := hT p hp
  refine ⟨ps, ?_, h2, fun pos cv hc => ?_⟩
  · rw [upd_ne fun z => by
      rw [z, h] at h1
      exact n1 _ (Option.some.inj h1)]
    exact h1
  · obtain ⟨c, e1, e2⟩ := h3 pos cv hc
    refine ⟨c, e1, ?_⟩
    rw [upd_ne fun z => by
      rw [z, h] at e2
      exact n2 _ _ (Option.some.inj e2)]
    exact e2
theorem tabs_ins {T : List (Addr × Str)} {H : Hp} {s C dx : Addr} {fs : List (Str × V)} {o : HO} (hT : LamX.Tabs T H) (h : H s = some (.ins C dx fs)) : LamX.Tabs T (upd H s o) := tabs_upd hT h (fun ps z => by cases z) (fun c q z => by unfold LamX.CodeO at z; cases z)
theorem tabs_lst {T : List (Addr × Str)} {H : Hp} {s : Addr} {xs : List V} {o : HO} (hT : LamX.Tabs T H) (h : H s = some (.lst xs)) : LamX.Tabs T (upd H s o) := tabs_upd hT h (fun ps z => by cases z) (fun c q z => by unfold LamX.CodeO at z; cases z)
end Fr

namespace Fr
open PySem PySem.Spec PyProof.Rows L2
section
variable {prog : Program} {w : World} {A : Around} {E : Value → Shared → Prop} {s : Shared}
theorem min_intTup {l : Addr} {xs : Array (Int × Tok)} {Q : Value → Shared → Prop} (hh : A.handled = none) (hl : s.heap.IsTuple l (intItems xs)) (hne : 0 < xs.size)
    (h : ∀ v h' tk, (intItems xs)[argBest (fun i j => decide (numAt xs i < numAt xs j)) (xs.size - 1)]? = some v → (∀ b o, s.heap.get? b = some o → h'.get? b = some o) → Q v { s with heap := h', toks := tk }) :
    wpAny (model prog w) A (call (.builtin "min") [.ref l]) Q E s := by
  refine call_min_walk (wpAny_pyIter_tuple hl ?_)
  obtain ⟨o, ho, hc, n, hd⟩ := hl
  have hlt : l < s.heap.objs.size := Heap.lt_size ho
  refine ⟨_, [_, l], [_], _, _, _, _, rfl, Walks.tuple (A := A.in1) hh _ l (Nat.ne_of_lt hlt) (intItems xs), ⟨⟨_, Heap.get?_push_size _ rfl, rfl, rfl⟩, ⟨o, Heap.get?_push_of_some _ ho, hc, n, hd⟩⟩, fun d hdm => ?_, by simpa [intItems] using hne, CmpOf.ints_lt (numAt xs) (fun _ _ => intItems_at), fun v h' tk hP hk => ?_⟩
  · show d < (s.heap.push _).objs.size
    rw [Heap.size_push]
    rcases List.mem_cons.mp hdm with rfl | hdm
    · exact Nat.lt_succ_self _
    · rcases List.mem_cons.mp hdm with rfl | hdm
      · exact Nat.lt_succ_of_lt hlt
      · cases hdm
  · refine h v h' tk (by simpa [intItems] using hP) fun d o e => hk d o (fun hm => ?_) (Heap.get?_push_of_some _ e)
    rcases List.mem_cons.mp hm with e1 | hm
    · have := Heap.lt_size e
      rw [e1] at this
      exact Nat.lt_irrefl _ this
    · cases hm
end
def rMinT (K : PySem.W.Frag) : List V → Hp → VK → Prop := fun vs H Q => ∃ (a : Addr) (ns : List Int), vs = [V.ref a] ∧ SqT K H a (ns.map V.int) ∧ 0 < ns.length ∧ ∀ m, m ∈ ns → (∀ y, y ∈ ns → m ≤ y) → Q (.int m) H
theorem cr_minT {X : Cx} (hc : X.calm = true) : CallR X (.builtin "min") (rMinT X.K) := by
  intro pins s σ H vs us Q I r h
  obtain ⟨a, ns, rfl, hs, hne, q⟩ := h
  obtain ⟨its, rv, hl, _⟩ := I.tuple hs
  rw [Vals.ref1 r]
  obtain ⟨xs, e⟩ := rv.ints.allInts.items
  have hn : numsOf (intItems xs).toList = ns := by rw [← e]; exact rv.ints.numsOf
  rw [nums_intItems] at hn
  subst hn
  rw [e] at hl
  have hsz : 0 < xs.size := by simpa using hne
  refine min_intTup (I.ok.hd hc) hl hsz fun v h' tk hv hk => ?_
  obtain ⟨t, rfl⟩ := intItems_at hv
  obtain ⟨h1, h2⟩ := argBest_lt (numAt xs) (xs.size - 1)
  refine ⟨.int _, H, I.kept hk, ⟨_, rfl⟩, q _ ?_ fun a ha => ?_⟩
  · rw [numAt_eq]; exact PySem.getD_mem (by rw [List.length_map, Array.length_toList]; omega)
  · obtain ⟨j, hj, rfl⟩ := mem_getD ha
    rw [List.length_map, Array.length_toList] at hj
    rw [← numAt_eq]; exact h2 j (by omega)
theorem sgrow {B H : Hp} {p : Addr} {o : HO} (e : Same B H) : Same (upd B p o) (upd H p o) := fun c u h => by
  by_cases hc : c = p
  · rw [hc, upd_same] at h ⊢
    exact h
  · rw [upd_ne hc] at h ⊢
    exact e c u h
/-- an object that the base does not know may change -/
theorem swrite {B H : Hp} {p : Addr} {o : HO} (e : Same B H) (n : B p = none) : Same B (upd H p o) := fun c u h => by
  rw [upd_ne (ne_of_none h n)]
  exact e c u h
theorem walk_zipT {K : PySem.W.Frag} {a b : Addr} {xs ys : List V} {n : Nat} (hn : n = min xs.length ys.length) : Walk (RZ.ItzT K a b) n (fun H => SqT K H a xs ∧ SqT K H b ys) (YPair (fun i => xs[i]?) (fun i => ys[i]?)) := by
  subst hn
  refine ⟨fun i _ hi q => ?_, fun _ q => ⟨xs, ys, q.1, q.2, by omega⟩, fun i H v H' _ q y => ?_⟩
  · have h1 : i < xs.length := by omega
    have h2 : i < ys.length := by omega
    exact ⟨xs, ys, xs[i], ys[i], q.1, q.2, by simp [h1], by simp [h2]⟩
  · obtain ⟨T, x, z, h1, h2, h3, h4, h5⟩ := y
    exact ⟨T, x, z, h1, h2, h3, h4 xs q.1, h5 ys q.2⟩
theorem range_map_get' {α : Type} (xs : List α) (f : Nat → α) (h : ∀ i x, xs[i]? = some x → f i = x) : (List.range xs.length).map f = xs := by
  refine List.ext_getElem? fun i => ?_
  by_cases hi : i < xs.length
  · rw [List.getElem?_map, get_range hi, List.getElem?_eq_getElem hi]
    exact congrArg some (h i _ (List.getElem?_eq_getElem hi))
  · rw [List.getElem?_eq_none (by simp; omega), List.getElem?_eq_none (by omega)]
/-- p - v -/
def minus (p v : List Int) : List Int := List.zipWith (fun a b => a - b) p v
theorem minus_at {p v : List Int} {i : Nat} {a b : Int} (h1 : p[i]? = some a) (h2 : v[i]? = some b) : (minus p v).getD i 0 = a - b := by
  unfold minus
  rw [List.getD_eq_getElem?_getD, List.getElem?_zipWith, h1, h2]
  rfl
theorem minus_range (p v : List Int) : (List.range (min p.length v.length)).map (fun i => V.int ((minus p v).getD i 0)) = (minus p v).map V.int := by
  have := range_map_get' ((minus p v).map V.int) (fun i => V.int ((minus p v).getD i 0)) (fun i b hb => by
    rw [List.getElem?_map] at hb
    obtain ⟨c, h1, h2⟩ := Option.map_eq_some_iff.mp hb
    rw [List.getD_eq_getElem?_getD, h1]
    exact h2)
  rw [List.length_map] at this
  unfold minus at this ⊢
  rw [List.length_zipWith] at this
  exact this
end Fr

namespace Fr
open PySem PySem.Spec PyProof.Rows L2
def topS (i : Nat) : Stmt := PySem.Challenge.pw_farreads_k30_greatest_shifts.main.body.getD i (.Pass ⟨0, 0, 0, 0⟩)
abbrev s_is_name : Stmt := topS 13
theorem sc_is_name : FnScope ["text", "letter"] ["text"] (defScope s_is_name) := ⟨rfl, rfl, rfl, by decide +kernel, rfl, by decide +kernel, by decide +kernel⟩
-- slots: 0 text, 1 letter
abbrev s_is_read : Stmt := topS 14
theorem sc_is_read : FnScope ["read", "dimensions", "table", "vector", "factor"] ["read", "dimensions"] (defScope s_is_read) := ⟨rfl, rfl, rfl, by decide +kernel, rfl, by decide +kernel, by decide +kernel⟩
-- slots: 0 read, 1 dimensions, 2 table, 3 vector, 4 factor
abbrev s_System_dimensions : Stmt := inClass (topS 30) 3
theorem sc_System_dimensions : FnScope ["self"] ["self"] (defScope s_System_dimensions) := ⟨rfl, rfl, rfl, by decide +kernel, rfl, by decide +kernel, by decide +kernel⟩
-- slots: 0 self
abbrev s_System_modulus : Stmt := inClass (topS 30) 4
theorem sc_System_modulus : FnScope ["self"] ["self"] (defScope s_System_modulus) := ⟨rfl, rfl, rfl, by decide +kernel, rfl, by decide +kernel, by decide +kernel⟩
-- slots: 0 self
abbrev s_System_names : Stmt := inClass (topS 30) 5
theorem sc_System_names : FnScope ["self"] ["self"] (defScope s_System_names) := ⟨rfl, rfl, rfl, by decide +kernel, rfl, by decide +kernel, by decide +kernel⟩
-- slots: 0 self
abbrev s_check_table : Stmt := topS 18
theorem sc_check_table : FnScope ["system", "name"] ["system", "name"] (defScope s_check_table) := ⟨rfl, rfl, rfl, by decide +kernel, rfl, by decide +kernel, by decide +kernel⟩
-- slots: 0 system, 1 name
abbrev s_System_reads : Stmt := inClass (topS 30) 7
theorem sc_System_reads : FnScope ["self", "name"] ["self", "name"] (defScope s_System_reads) := ⟨rfl, rfl, rfl, by decide +kernel, rfl, by decide +kernel, by decide +kernel⟩
-- slots: 0 self, 1 name
abbrev s_check_tables : Stmt := topS 16
theorem sc_check_tables : FnScope ["dimensions", "tables", "names", "table", "many", "row", "name", "_", "reads", "read"] ["dimensions", "tables"] (defScope s_check_tables) := ⟨rfl, rfl, rfl, by decide +kernel, rfl, by decide +kernel, by decide +kernel⟩
-- slots: 0 dimensions, 1 tables, 2 names, 3 table, 4 many, 5 row, 6 name, 7 _, 8 reads, 9 read
abbrev s_check_tables_that_are_read : Stmt := topS 17
theorem sc_check_tables_that_are_read : FnScope ["tables", "names", "table", "row", "read"] ["tables"] (defScope s_check_tables_that_are_read) := ⟨rfl, rfl, rfl, by decide +kernel, rfl, by decide +kernel, by decide +kernel⟩
-- slots: 0 tables, 1 names, 2 table, 3 row, 4 read
abbrev s_check_system : Stmt := topS 15
theorem sc_check_system : FnScope ["dimensions", "tables", "modulus"] ["dimensions", "tables", "modulus"] (defScope s_check_system) := ⟨rfl, rfl, rfl, by decide +kernel, rfl, by decide +kernel, by decide +kernel⟩
-- slots: 0 dimensions, 1 tables, 2 modulus
abbrev s_System_init : Stmt := inClass (topS 30) 0
theorem sc_System_init : FnScope ["self", "dimensions", "tables", "modulus", "rows", "name", "constant", "reads"] ["self", "dimensions", "tables", "modulus"] (defScope s_System_init) := ⟨rfl, rfl, rfl, by decide +kernel, rfl, by decide +kernel, by decide +kernel⟩
-- slots: 0 self, 1 dimensions, 2 tables, 3 modulus, 4 rows, 5 name, 6 constant, 7 reads
structure Rd1 where
  t : Str
  v : List Int
  f : Int
structure Tb where
  n : Str
  c : Int
  rs : List Rd1
def Rd1.d (r : Rd1) : PyData := .tuple [.str r.t, .tuple (r.v.map .int), .int r.f]
/-- as a caller hands it in: the reads in a list -/
def Tb.d (t : Tb) : PyData := .tuple [.str t.n, .int t.c, .list (t.rs.map Rd1.d)]
/-- as a system keeps it -/
def Tb.k (t : Tb) : PyData := .tuple [.int t.c, .tuple (t.rs.map Rd1.d)]
def flds (d m : Int) (t : Addr) : List (Str × V) := putF "_tables" (.ref t) (putF "_modulus" (.int m) (putF "_dimensions" (.int d) []))
theorem nDM : ¬ (("_dimensions" : Str) = "_modulus") := by decide +kernel
theorem nDT : ¬ (("_dimensions" : Str) = "_tables") := by decide +kernel
theorem nMT : ¬ (("_modulus" : Str) = "_tables") := by decide +kernel
theorem flds_d (d m : Int) (t : Addr) : (flds d m t).lookup ("_dimensions" : Str) = some (.int d) := by
  unfold flds
  rw [lookup_putF, if_neg nDT, lookup_putF, if_neg nDM, lookup_putF, if_pos rfl]
theorem flds_m (d m : Int) (t : Addr) : (flds d m t).lookup ("_modulus" : Str) = some (.int m) := by
  unfold flds
  rw [lookup_putF, if_neg nMT, lookup_putF, if_pos rfl]
theorem flds_t (d m : Int) (t : Addr) : (flds d m t).lookup ("_tables" : Str) = some (.ref t) := by
  unfold flds
  rw [lookup_putF, if_pos rfl]
theorem flds_no (d m : Int) (t : Addr) {x : Str} (h1 : ¬ x = "_dimensions") (h2 : ¬ x = "_modulus") (h3 : ¬ x = "_tables") : (flds d m t).lookup x = none := by
  unfold flds
  rw [lookup_putF, if_neg h3, lookup_putF, if_neg h2, lookup_putF, if_neg h1]
  rfl
def KvAt (K : PySem.W.Frag) (H : Hp) (kvs : List (Key × V)) (ts : List Tb) : Prop := Paired (fun (kv : Key × V) (t : Tb) => kv.1 = Sum.inr t.n ∧ Dp K H kv.2 t.k) kvs ts
theorem KvAt.mono {K : PySem.W.Frag} {H H' : Hp} (e : Same H H') : ∀ {kvs : List (Key × V)} {ts : List Tb}, KvAt K H kvs ts → KvAt K H' kvs ts
  | [], _, h => by cases h; exact .nil
  | kv :: kvs, _, h => by
    cases h with
    | cons h1 h2 => exact .cons ⟨h1.1, dpm e _ _ h1.2⟩ (KvAt.mono e h2)
theorem KvAt.monoD {K : PySem.W.Frag} {H H' : Hp} (e : SD H H') : ∀ {kvs : List (Key × V)} {ts : List Tb}, KvAt K H kvs ts → KvAt K H' kvs ts
  | [], _, h => by cases h; exact .nil
  | kv :: kvs, _, h => by
    cases h with
    | cons h1 h2 => exact .cons ⟨h1.1, dpd e _ _ h1.2⟩ (KvAt.monoD e h2)
theorem KvAt.app {K : PySem.W.Frag} {H : Hp} : ∀ {kvs ls : List (Key × V)} {ts us : List Tb}, KvAt K H kvs ts → KvAt K H ls us → KvAt K H (kvs ++ ls) (ts ++ us)
  | [], _, _, _, h, k => by cases h; exact k
  | kv :: kvs, _, _, _, h, k => by
    cases h with
    | cons h1 h2 => exact .cons h1 (KvAt.app h2 k)
theorem KvAt.noVal {K : PySem.W.Frag} {H : Hp} {x : Str} : ∀ {kvs : List (Key × V)} {ts : List Tb}, KvAt K H kvs ts → x ∉ ts.map (·.n) → valV kvs (Sum.inr x) = none
  | [], _, h, e => by cases h; rfl
  | (k, v) :: kvs, _, h, e => by
    cases h with
    | @cons _ t' _ ts' h1 h2 =>
      have h1' : k = Sum.inr t'.n := h1.1
      have hx : ¬ t'.n = x := fun z => e (by rw [← z]; exact List.mem_cons_self)
      have e2 := KvAt.noVal (x := x) h2 fun z => e (List.mem_cons_of_mem _ z)
      unfold valV at e2 ⊢
      rw [List.find?_cons_of_neg (by simp [h1', hx])]
      exact e2
theorem KvAt.len {K : PySem.W.Frag} {H : Hp} {kvs : List (Key × V)} {ts : List Tb} (h : KvAt K H kvs ts) : kvs.length = ts.length := Paired.length h
theorem KvAt.keys {K : PySem.W.Frag} {H : Hp} : ∀ {kvs : List (Key × V)} {ts : List Tb}, KvAt K H kvs ts → kvs.map (fun kv => kV kv.1) = ts.map fun t => V.str t.n
  | [], _, h => by cases h; rfl
  | kv :: kvs, _, h => by
    cases h with
    | cons h1 h2 =>
      rw [List.map_cons, List.map_cons, KvAt.keys h2, h1.1]
      rfl
theorem KvAt.get {K : PySem.W.Frag} {H : Hp} {x : Str} : ∀ {kvs : List (Key × V)} {ts : List Tb}, KvAt K H kvs ts → ∀ {t : Tb}, ts.find? (fun t => decide (t.n = x)) = some t → ∃ v, valV kvs (Sum.inr x) = some v ∧ Dp K H v t.k
  | [], _, h, t, e => by cases h; cases e
  | (k, v) :: kvs, _, h, t, e => by
    cases h with
    | @cons _ t' _ ts' h1 h2 =>
      obtain ⟨h1, h3⟩ := h1
      have h1 : k = Sum.inr t'.n := h1
      by_cases hx : t'.n = x
      · rw [List.find?_cons_of_pos (by simpa using hx)] at e
        cases e
        refine ⟨v, ?_, h3⟩
        unfold valV
        rw [List.find?_cons_of_pos (by simp [h1, hx])]
        rfl
      · rw [List.find?_cons_of_neg (by simpa using hx)] at e
        obtain ⟨v', e1, e2⟩ := KvAt.get h2 e
        refine ⟨v', ?_, e2⟩
        unfold valV at e1 ⊢
        rw [List.find?_cons_of_neg (by simp [h1, hx])]
        exact e1
structure SysAt (K : PySem.W.Frag) (C : Addr) (H : Hp) (s : Addr) (d m : Int) (ts : List Tb) : Prop where
  ob : ∃ (dx t : Addr) (kvs : List (Key × V)), H s = some (.ins C dx (flds d m t)) ∧ H t = some (.dK kvs) ∧ KvAt K H kvs ts
theorem SysAt.mono {K : PySem.W.Frag} {C : Addr} {H H' : Hp} {s : Addr} {d m : Int} {ts : List Tb} (e : Same H H') (h : SysAt K C H s d m ts) : SysAt K C H' s d m ts := by
  obtain ⟨dx, t, kvs, h1, h2, h3⟩ := h.ob
  exact ⟨dx, t, kvs, e _ _ h1, e _ _ h2, h3.mono e⟩
structure TxtC (K : PySem.W.Frag) (mg : Str → Option Value) (C : Addr) : Prop where
  cl : Cls K C
  nD : NoAttr K C "_dimensions"
  nM : NoAttr K C "_modulus"
  nT : NoAttr K C "_tables"
  g_System : mg "System" = some (.ref C)
def okSign (c : Nat) : Bool := !decide ([c] < [97]) && !decide ([122] < [c])
def isName (x : Str) : Bool := decide (1 ≤ (x.length : Int)) && decide ((x.length : Int) ≤ 8) && x.cps.toList.all okSign
structure Txt (mg : Str → Option Value) : Prop where
  b_len : mg "len" = none
  b_all : mg "all" = none
  b_min : mg "min" = none
  b_abs : mg "abs" = none
  b_int : mg "int" = none
  b_list : mg "list" = none
  b_tuple : mg "tuple" = none
  b_range : mg "range" = none
  b_zip : mg "zip" = none
  b_enumerate : mg "enumerate" = none
  b_sorted : mg "sorted" = none
  g_MOST_DIMENSIONS : ∃ u, mg "MOST_DIMENSIONS" = some u ∧ RelV (.int 3) u
  g_MOST_TABLES : ∃ u, mg "MOST_TABLES" = some u ∧ RelV (.int 6) u
  g_MOST_READS : ∃ u, mg "MOST_READS" = some u ∧ RelV (.int 12) u
  g_MOST_LETTERS : ∃ u, mg "MOST_LETTERS" = some u ∧ RelV (.int 8) u
theorem range_map_get {α : Type} (xs : List α) (f : Nat → α) (h : ∀ i x, xs[i]? = some x → f i = x) : (List.range xs.length).map f = xs := by
  refine List.ext_getElem? fun i => ?_
  by_cases hi : i < xs.length
  · rw [List.getElem?_map, get_range hi, List.getElem?_eq_getElem hi]
    exact congrArg some (h i _ (List.getElem?_eq_getElem hi))
  · rw [List.getElem?_eq_none (by simp; omega), List.getElem?_eq_none (by omega)]
section
variable {P : Program} {w : World} {K : PySem.W.Frag} {mg : Str → Option Value} {base : Heap}
def spIsName : Sp := fun vs H Q _ => ∃ x : Str, vs = [.str x] ∧ x.length ≤ 100000 ∧ ∀ H', Same H H' → Q (.bl (isName x)) H'
theorem ok_is_name {f : Addr} {fd : FuncData} (F : Fun K "is_name" "is_name" s_is_name f fd) (T : Txt mg) : FnOk P w K mg base CX0 1 f fd ["text"] spIsName := by
  refine F.ok sc_is_name (fun vs H Q E h => ?_) (fun cdv A outer s H vs Q E hr h => ?_)
  · obtain ⟨x, rfl, _⟩ := h
    rfl
  · obtain ⟨x, rfl, hx, q⟩ := h
    refine ⟨_, (pss_one (ps_ret (pe_and (pe_chain op_le op_le pe_int (pe_callB call_len_str (by rfl) T.b_len PySem.boot_len (pa_cons (pv 0) pa_nil)) (C8.pe_gc (by rfl) T.g_MOST_LETTERS)) (pe_one (pe_callB (cr_all rfl) (by rfl) T.b_all (by decide +kernel) (pa_cons (pe_lc (own := [("letter", 1)]) (g := gName 1) (tt := tYes) (by rfl) sc_is_name.nd (pi_str (pv 0)) (blkOk_by (N := ["text", "letter"]) (sc := defScope s_is_name) (by decide +kernel)) (fun _ _ _ _ _ => (pg_name (i := 1) sc_is_name.nd rfl (by first | exact Or.inl rfl | exact Or.inr rfl))) (fun _ _ _ _ _ => pts_nil) (fun _ _ _ _ _ => (pe_chain op_le_str op_le_str pe_str (pv 1) pe_str))) pa_nil)))))), ?_⟩
    have hs : x.length ≤ sizeLine := Nat.le_trans hx (by rw [sizeLine_eq]; decide)
    refine ⟨.str x, rfl, x, rfl, hs, 1, x.length, rfl, rfl, decide (1 ≤ (x.length : Int)), rfl, ?_⟩
    unfold isName at q
    refine ite2 (fun h1 => ?_) (fun h1 => ?_)
    · refine ⟨x.length, 8, rfl, rfl, decide ((x.length : Int) ≤ 8), rfl, ?_⟩
      rw [h1] at q
      refine ite2 (fun h2 => ?_) (fun h2 => ?_)
      · rw [h2] at q
        refine ⟨.str x, rfl, x, rfl, fun D hD => lc_flat walk_str (fun i => .bl (okSign (x.cps.toList.getD i 0))) ?_ hD (fun _ _ => True.intro) (fun i H x H' y => by obtain ⟨rfl, _⟩ := y; exact same_refl) ?_ ?_⟩
        · show x.length ≤ _
          omega
        · rintro i v H1 H2 hi sm ⟨rfl, c, hc, rfl⟩ R hR
          have ec : x.cps.toList.getD i 0 = c := by
            rw [List.getD_eq_getElem?_getD, Array.getElem?_toList, hc]
            rfl
          refine ⟨rfl, .str ⟨#[c]⟩, rfl, ⟨#[97]⟩, ⟨#[c]⟩, rfl, rfl, _, rfl, ?_⟩
          have e2 : okSign (x.cps.toList.getD i 0) = (!decide ([c] < [97]) && !decide ([122] < [c])) := by rw [ec]; rfl
          refine ite2 (fun h3 => ?_) (fun h3 => ?_)
          · refine ⟨⟨#[c]⟩, ⟨#[122]⟩, rfl, rfl, ?_⟩
            have r := hR H2 same_refl
            rw [e2] at r
            have h3' : (!decide ([c] < [97])) = true := h3
            rw [h3'] at r
            exact r
          · have r := hR H2 same_refl
            rw [e2] at r
            have h3' : (!decide ([c] < [97])) = false := by simpa using h3
            rw [h3'] at r
            exact r
        · intro H1 sm hD1
          refine ⟨D, (List.range x.cps.size).map fun i => okSign (x.cps.toList.getD i 0), rfl, Or.inl (Or.inl ?_), ?_⟩
          · rw [hD1, List.map_map]
            rfl
          · have e : (List.range x.cps.size).map (fun i => okSign (x.cps.toList.getD i 0)) = x.cps.toList.map okSign := by
              have := range_map_get (x.cps.toList.map okSign) (fun i => okSign (x.cps.toList.getD i 0)) (fun i b hb => by
                rw [List.getElem?_map] at hb
                obtain ⟨c, h1, h2⟩ := Option.map_eq_some_iff.mp hb
                rw [List.getD_eq_getElem?_getD, h1]
                exact h2)
              rw [List.length_map] at this
              exact this
            rw [e, List.all_map]
            exact q H1 sm
      · have h2' : decide ((x.length : Int) ≤ 8) = false := by simpa using h2
        rw [h2'] at q
        exact q H same_refl
    · have h1' : decide (1 ≤ (x.length : Int)) = false := by simpa using h1
      rw [h1'] at q
      refine ⟨false, rfl, ?_⟩
      exact q H same_refl
def isRead (d : Int) (r : Rd1) : Bool := isName r.t && (decide ((r.v.length : Int) = d) && !decide (r.f = 0))
def spIsRead (K : PySem.W.Frag) : Sp := fun vs H Q _ => ∃ (v : V) (r : Rd1) (d : Int), vs = [v, .int d] ∧ Dp K H v r.d ∧ r.t.length ≤ 100000 ∧ ∀ H', Same H H' → Q (.bl (isRead d r)) H'
theorem ok_is_read {f : Addr} {fd : FuncData} (F : Fun K "is_read" "is_read" s_is_read f fd) (T : Txt mg) (c_is_name : C8.Cal P w K mg base 1 "is_name" spIsName []) : FnOk P w K mg base CX0 2 f fd ["read", "dimensions"] (spIsRead K) := by
  refine F.ok sc_is_read (fun vs H Q E h => ?_) (fun cdv A outer s H vs Q E hr h => ?_)
  · obtain ⟨v, r, d, rfl, _⟩ := h
    rfl
  · obtain ⟨v, r, d, rfl, hv, hz, q⟩ := h
    refine ⟨_, (pss_cons (ps_asg (pv 0) (pg_tup rfl (pgs_cons (pg_name (i := 2) sc_is_read.nd rfl (by first | exact Or.inl rfl | exact Or.inr rfl)) (pgs_cons (pg_name (i := 3) sc_is_read.nd rfl (by first | exact Or.inl rfl | exact Or.inr rfl)) (pgs_cons (pg_name (i := 4) sc_is_read.nd rfl (by first | exact Or.inl rfl | exact Or.inr rfl)) pgs_nil)))))
  (pss_one (ps_ret (pe_and (C8.pe_c c_is_name hr (by decide) (by rfl) (pa_cons (pv 2) pa_nil)) (pe_and (pe_cmpR op_eq (pe_callB call_len_seq (by rfl) T.b_len PySem.boot_len (pa_cons (pv 3) pa_nil)) (pv 1) (nomark _)) (pe_one (pe_cmpR op_ne (pv 4) pe_int (nomark _)))))))), ?_⟩
    obtain ⟨a, xs, rfl, ht, hd⟩ := dtup hv
    obtain ⟨x1, x2, x3, rfl, h1, h2, h3⟩ := dps3 hd
    obtain rfl := dstr h1
    obtain rfl := dint h3
    obtain ⟨b, ys, rfl, ht2, hd2⟩ := dtup h2
    have hl2 := dps_len hd2
    refine ⟨_, rfl, a, _, rfl, ht, rfl, _, _, rfl, _, _, rfl, _, _, rfl, rfl, ?_⟩
    unfold isRead at q
    refine ⟨.str r.t, rfl, r.t, rfl, hz, fun H1 sm => ⟨_, rfl, ?_⟩⟩
    cases hn : isName r.t with
    | false =>
      refine iteF ?_
      have z := q H1 sm
      rw [hn] at z
      exact z
    | true =>
      refine iteT ?_
      refine ⟨_, rfl, b, ys, rfl, Or.inr (sqt sm ht2), _, rfl, rfl, _, rfl, ?_⟩
      have z := q H1 sm
      rw [hn] at z
      have e : decide (V.int (ys.length : Int) = V.int d) = decide ((r.v.length : Int) = d) := by
        rw [hl2, List.length_map]
        exact decide_eq_decide.mpr ⟨fun h => V.int.inj h, fun h => congrArg V.int h⟩
      rw [e]
      cases hq : decide ((r.v.length : Int) = d) with
      | false =>
        refine iteF ?_
        rw [hq] at z
        exact z
      | true =>
        refine iteT ?_
        rw [hq] at z
        refine ⟨_, rfl, rfl, ?_⟩
        have e3 : decide (V.int r.f = V.int 0) = decide (r.f = 0) := decide_eq_decide.mpr ⟨fun h => V.int.inj h, fun h => congrArg V.int h⟩
        rw [e3]
        exact z
def spDims (K : PySem.W.Frag) (C : Addr) : Sp := fun vs H Q _ => ∃ (s : Addr) (d m : Int) (ts : List Tb), vs = [.ref s] ∧ SysAt K C H s d m ts ∧ Q (.int d) H
theorem ok_dims {f C : Addr} {fd : FuncData} (F : Fun K "dimensions" "System.dimensions" s_System_dimensions f fd) (TC : TxtC K mg C) : FnOk P w K mg base CX0 1 f fd ["self"] (spDims K C) := by
  refine F.ok sc_System_dimensions (fun vs H Q E h => ?_) (fun cdv A outer s H vs Q E hr h => ?_)
  · obtain ⟨s, d, m, ts, rfl, _⟩ := h
    rfl
  · obtain ⟨s, d, m, ts, rfl, S, q⟩ := h
    refine ⟨_, (pss_one (ps_ret (pe_fld (pv 0) rfl))), ?_⟩
    obtain ⟨dx, t, kvs, h1, h2, h3⟩ := S.ob
    exact ⟨_, rfl, s, C, dx, _, _, rfl, h1, TC.cl, TC.nD, flds_d _ _ _, q⟩
def spMod (K : PySem.W.Frag) (C : Addr) : Sp := fun vs H Q _ => ∃ (s : Addr) (d m : Int) (ts : List Tb), vs = [.ref s] ∧ SysAt K C H s d m ts ∧ Q (.int m) H
theorem ok_mod {f C : Addr} {fd : FuncData} (F : Fun K "modulus" "System.modulus" s_System_modulus f fd) (TC : TxtC K mg C) : FnOk P w K mg base CX0 1 f fd ["self"] (spMod K C) := by
  refine F.ok sc_System_modulus (fun vs H Q E h => ?_) (fun cdv A outer s H vs Q E hr h => ?_)
  · obtain ⟨s, d, m, ts, rfl, _⟩ := h
    rfl
  · obtain ⟨s, d, m, ts, rfl, S, q⟩ := h
    refine ⟨_, (pss_one (ps_ret (pe_fld (pv 0) rfl))), ?_⟩
    obtain ⟨dx, t, kvs, h1, h2, h3⟩ := S.ob
    exact ⟨_, rfl, s, C, dx, _, _, rfl, h1, TC.cl, TC.nM, flds_m _ _ _, q⟩
def spNames (K : PySem.W.Frag) (C : Addr) : Sp := fun vs H Q _ => ∃ (s : Addr) (d m : Int) (ts : List Tb), vs = [.ref s] ∧ SysAt K C H s d m ts ∧ ∀ p H', H p = none → Same H H' → H' p = some (.lst (ts.map fun t => V.str t.n)) → Q (.ref p) H'
theorem ok_names {f C : Addr} {fd : FuncData} (F : Fun K "names" "System.names" s_System_names f fd) (T : Txt mg) (TC : TxtC K mg C) : FnOk P w K mg base CX0 1 f fd ["self"] (spNames K C) := by
  refine F.ok sc_System_names (fun vs H Q E h => ?_) (fun cdv A outer s H vs Q E hr h => ?_)
  · obtain ⟨s, d, m, ts, rfl, _⟩ := h
    rfl
  · obtain ⟨s, d, m, ts, rfl, S, q⟩ := h
    refine ⟨_, (pss_one (ps_ret (pe_callTy (call_listD rfl) (by rfl) T.b_list (by decide +kernel) (pa_cons (pe_fld (pv 0) rfl) pa_nil)))), ?_⟩
    obtain ⟨dx, t, kvs, h1, h2, h3⟩ := S.ob
    refine ⟨_, rfl, s, C, dx, _, _, rfl, h1, TC.cl, TC.nT, flds_t _ _ _, t, kvs, rfl, Or.inl h2, fun p hp => ?_⟩
    refine q p _ hp (snew hp) ?_
    rw [upd_same, h3.keys]
def okPoint (d : Int) (p : List Int) : Bool := decide ((p.length : Int) = d) && p.all fun i => decide (0 ≤ i)
def spCheckTable (K : PySem.W.Frag) (C : Addr) : Sp := fun vs H Q _ => ∃ (s : Addr) (d m : Int) (ts : List Tb) (x : Str), vs = [.ref s, .str x] ∧ SysAt K C H s d m ts ∧ x ∈ ts.map (·.n) ∧ ∀ H', Same H H' → Q .non H'
theorem inV_str {x : Str} : ∀ {l : List Str}, x ∈ l → inV (.str x) (l.map V.str) = true := by
  intro l h
  unfold inV
  rw [List.any_map, List.any_eq_true]
  refine ⟨x, h, ?_⟩
  first
    | rfl
    | simp [eqV]
theorem flat_strs (l : List Str) : (l.map V.str).all flatV = true := by
  rw [List.all_map, List.all_eq_true]
  intro x _
  rfl
theorem ok_check_table {f C : Addr} {fd : FuncData} (F : Fun K "check_table" "check_table" s_check_table f fd) (T : Txt mg) (p_names : Prp P w K mg base 1 C "names" (spNames K C)) : FnOk P w K mg base CX0 3 f fd ["system", "name"] (spCheckTable K C) := by
  refine F.ok sc_check_table (fun vs H Q E h => ?_) (fun cdv A outer s H vs Q E hr h => ?_)
  · obtain ⟨s, d, m, ts, x, rfl, _⟩ := h
    rfl
  · obtain ⟨s, d, m, ts, x, rfl, S, hx, q⟩ := h
    refine ⟨_, (pss_one (ps_if (pt_cmpR op_notIn_seq (pv 1) (pe_pr (pv 0) p_names hr (by decide) rfl) (by rfl))
    (pss_one ps_never)
    pss_nil)), ?_⟩
    obtain ⟨dx, t, kvs, h1, h2, h3⟩ := S.ob
    refine ⟨_, rfl, _, rfl, s, dx, _, rfl, h1, s, d, m, ts, rfl, S, fun p H' hp sm hl => ?_⟩
    have e : (ts.map fun t => V.str t.n) = (ts.map (·.n)).map V.str := by
      rw [List.map_map]
      rfl
    refine ⟨p, _, rfl, Or.inl (Or.inl (Or.inl hl)), rfl, ?_, ?_⟩
    · rw [e]
      exact flat_strs _
    · rw [e, inV_str hx]
      exact ⟨_, rfl, iteF (q H' sm)⟩
def spReads (K : PySem.W.Frag) (C : Addr) : Sp := fun vs H Q _ => ∃ (B : Hp) (s : Addr) (d m : Int) (ts : List Tb) (x : Str) (tb : Tb), vs = [.ref s, .str x] ∧ Same B H ∧ SysAt K C B s d m ts ∧ x ∈ ts.map (·.n) ∧ ts.find? (fun t => decide (t.n = x)) = some tb ∧
  ∀ p H' xs, H p = none → Same H H' → H' p = some (.lst xs) → DpAll K B xs (tb.rs.map Rd1.d) → Q (.ref p) H'
theorem ok_reads {f C : Addr} {fd : FuncData} (F : Fun K "reads" "System.reads" s_System_reads f fd) (T : Txt mg) (TC : TxtC K mg C) (c_check_table : C8.Cal P w K mg base 3 "check_table" (spCheckTable K C) []) : FnOk P w K mg base CX0 4 f fd ["self", "name"] (spReads K C) := by
  refine F.ok sc_System_reads (fun vs H Q E h => ?_) (fun cdv A outer s H vs Q E hr h => ?_)
  · obtain ⟨B, s, d, m, ts, x, tb, rfl, _⟩ := h
    rfl
  · obtain ⟨B, s, d, m, ts, x, tb, rfl, sB, S, hx, hf, q⟩ := h
    have hu := hu_of hr
    refine ⟨_, (pss_cons (ps_expr (C8.pe_c c_check_table hr (by decide) (by rfl) (pa_cons (pv 0) (pa_cons (pv 1) pa_nil))))
  (pss_one (ps_ret (pe_callTy call_list_of (by rfl) T.b_list (by decide +kernel) (pa_cons (pe_ix ix_tup (pe_dget hu (pe_fld (pv 0) rfl) (pv 1) (fun _ _ => rfl)) pe_int (fun _ _ => rfl)) pa_nil))))), ?_⟩
    refine ⟨_, rfl, _, rfl, s, d, m, ts, x, rfl, S.mono sB, hx, fun H1 sm => ?_⟩
    obtain ⟨dx, t, kvs, h1, h2, h3⟩ := S.ob
    have sB1 := same_tr sB sm
    have h1 := sB1 _ _ h1
    have h2 := sB1 _ _ h2
    obtain ⟨v, e1, e2⟩ := h3.get hf
    obtain ⟨a, ys, rfl, ht, hd⟩ := dtup e2
    obtain ⟨y1, y2, rfl, g1, g2⟩ := dps2 hd
    obtain ⟨b, zs, rfl, ht2, hd2⟩ := dtup g2
    refine ⟨_, rfl, s, C, dx, _, _, rfl, h1, TC.cl, TC.nT, flds_t _ _ _, _, rfl, t, _, rfl, ?_, a, _, 1, _, rfl, rfl, sqt sB1 ht, rfl, b, zs, rfl, Or.inr (sqt sB1 ht2), fun p hp => ?_⟩
    · have g := DGet.k (k := Sum.inr x) h2
      rw [e1] at g
      exact g
    · exact q p _ _ (free_of sm hp) (same_tr sm (snew hp)) upd_same hd2
structure OkT (d : Int) (ts : List Tb) : Prop where
  names : ∀ t ∈ ts, isName t.n = true
  nodup : (ts.map (·.n)).Nodup
  few : (ts.map fun t => t.rs.length).sum ≤ 12
  reads : ∀ t ∈ ts, ∀ r ∈ t.rs, isRead d r = true
  here : ∀ t ∈ ts, ∀ r ∈ t.rs, r.t ∈ ts.map (·.n)
theorem name_len {x : Str} (h : isName x = true) : x.length ≤ 100000 := by
  unfold isName at h
  rw [Bool.and_eq_true, Bool.and_eq_true] at h
  have := of_decide_eq_true h.1.2
  omega
theorem read_len {d : Int} {r : Rd1} (h : isRead d r = true) : r.t.length ≤ 100000 := by
  unfold isRead at h
  rw [Bool.and_eq_true] at h
  exact name_len h.1
def nth (l : List Str) (i : Nat) : Str := l.getD i Str.empty
theorem nth_of {l : List Str} {i : Nat} {x : Str} (h : l[i]? = some x) : nth l i = x := by
  unfold nth
  rw [List.getD_eq_getElem?_getD, h]
  rfl
theorem nths (l : List Str) : (List.range l.length).map (fun i => V.str (nth l i)) = l.map V.str := by
  have := range_map_get (l.map V.str) (fun i => V.str (nth l i)) (fun i b hb => by
    rw [List.getElem?_map] at hb
    obtain ⟨c, h1, h2⟩ := Option.map_eq_some_iff.mp hb
    rw [nth_of h1]
    exact h2)
  rw [List.length_map] at this
  exact this
theorem cut_to (xs : List V) (i : Nat) (h : i ≤ xs.length) : cutV xs none (some (i : Int)) = xs.take i := by
  unfold cutV
  rw [show HT.sIx xs.length xs.length (some (i : Int)) = min i xs.length from HT.sIx_nat xs.length xs.length i, HT.sIx_none, List.drop_zero, Nat.sub_zero, Nat.min_eq_left h]
theorem notin_take {l : List Str} {i : Nat} {x : Str} (hn : l.Nodup) (h : l[i]? = some x) : x ∉ l.take i := by
  intro hm
  obtain ⟨j, hj, e⟩ := List.mem_iff_getElem.mp hm
  rw [List.length_take] at hj
  have e2 : l[j]? = some x := by
    rw [List.getElem_take] at e
    rw [List.getElem?_eq_getElem (by omega), e]
  have := nd_ix hn e2 h
  omega
theorem inV_no {x : Str} : ∀ {l : List Str}, x ∉ l → inV (.str x) (l.map V.str) = false := by
  intro l h
  unfold inV
  rw [List.any_map, List.any_eq_false]
  intro y hy e
  have e' : y = x := by
    first
      | exact of_decide_eq_true e
      | simpa [eqV] using e
  exact h (e' ▸ hy)
/-- what stands at the i-th place of a list of tables -/
theorem tb_at {H : Hp} {xs : List V} {ts : List Tb} {i : Nat} {x : V} (h : DpAll K H xs (ts.map Tb.d)) (e : xs[i]? = some x) : ∃ t a l ys, ts[i]? = some t ∧ x = .ref a ∧ SqT K H a [.str t.n, .int t.c, .ref l] ∧ SqL K H l ys ∧ DpAll K H ys (t.rs.map Rd1.d) := by
  obtain ⟨d, e1, e2⟩ := dps_get h e
  rw [List.getElem?_map] at e1
  obtain ⟨t, e3, rfl⟩ := Option.map_eq_some_iff.mp e1
  obtain ⟨a, zs, rfl, ht, hd⟩ := dtup e2
  obtain ⟨z1, z2, z3, rfl, h1, h2, h3⟩ := dps3 hd
  obtain rfl := dstr h1
  obtain rfl := dint h2
  obtain ⟨l, ys, rfl, hl, hy⟩ := dlst h3
  exact ⟨t, a, l, ys, e3, rfl, ht, hl, hy⟩
theorem rd_at {H : Hp} {xs : List V} {rs : List Rd1} {i : Nat} {x : V} (h : DpAll K H xs (rs.map Rd1.d)) (e : xs[i]? = some x) : ∃ r a b, rs[i]? = some r ∧ x = .ref a ∧ Dp K H x r.d ∧ SqT K H a [.str r.t, .ref b, .int r.f] ∧ SqT K H b (r.v.map V.int) := by
  obtain ⟨d, e1, e2⟩ := dps_get h e
  rw [List.getElem?_map] at e1
  obtain ⟨r, e3, rfl⟩ := Option.map_eq_some_iff.mp e1
  obtain ⟨a, zs, rfl, ht, hd⟩ := dtup e2
  obtain ⟨z1, z2, z3, rfl, h1, h2, h3⟩ := dps3 hd
  obtain rfl := dstr h1
  obtain rfl := dint h3
  obtain ⟨b, ys, rfl, hb, hy⟩ := dtup h2
  obtain rfl := dps_ints hy
  exact ⟨r, a, b, e3, rfl, e2, ht, hb⟩
def cnt (ts : List Tb) : Nat := (ts.map fun t => t.rs.length).sum
theorem cnt_take {ts : List Tb} {i : Nat} {t : Tb} (h : ts[i]? = some t) : cnt (ts.take (i + 1)) = cnt (ts.take i) + t.rs.length := by
  unfold cnt
  rw [List.take_add_one, h, List.map_append, List.sum_append]
  rfl
theorem cnt_le (ts : List Tb) (i : Nat) : cnt (ts.take i) ≤ cnt ts := by
  unfold cnt
  have e := congrArg (fun l : List Tb => (l.map fun t => t.rs.length).sum) (List.take_append_drop i ts)
  simp only [List.map_append, List.sum_append] at e
  omega
def spCheckTables (K : PySem.W.Frag) : Sp := fun vs H Q _ => ∃ (d : Int) (v : V) (ts : List Tb), vs = [.int d, v] ∧ Dp K H v (.list (ts.map Tb.d)) ∧ ts.length ≤ 6 ∧ OkT d ts ∧ ∀ H', Same H H' → Q .non H'
theorem ok_check_tables {f : Addr} {fd : FuncData} (F : Fun K "check_tables" "check_tables" s_check_tables f fd) (T : Txt mg) (c_is_name : C8.Cal P w K mg base 1 "is_name" spIsName []) (c_is_read : C8.Cal P w K mg base 2 "is_read" (spIsRead K) []) : FnOk P w K mg base CX0 3 f fd ["dimensions", "tables"] (spCheckTables K) := by
  refine F.ok sc_check_tables (fun vs H Q E h => ?_) (fun cdv A outer s H vs Q E hr h => ?_)
  · obtain ⟨d, v, ts, rfl, _⟩ := h
    rfl
  · obtain ⟨d, v, ts, rfl, hv, hl6, O, q⟩ := h
    refine ⟨_, (pss_cons (ps_setLc (i := 2) (own := [("table", 3)]) (g := gName 3) (tt := tYes) (by rfl) sc_check_tables.nd rfl rfl (sw_true rfl rfl rfl (by decide +kernel)) (pi_list (pv 1)) (blkOk_by (N := ["dimensions", "tables", "names", "table", "many", "row", "name", "_", "reads", "read"]) (sc := defScope s_check_tables) (by decide +kernel)) (fun _ _ _ _ _ => (pg_name (i := 3) sc_check_tables.nd rfl (by first | exact Or.inl rfl | exact Or.inr rfl))) (fun _ _ _ _ _ => pts_nil) (fun _ _ _ _ _ => (pe_ix (r := rIxT K) ix_tup (pv 3) pe_int (fun _ _ => rfl))))
  (pss_cons (ps_set (i := 4) sc_check_tables.nd rfl (by first | exact Or.inl rfl | exact Or.inr rfl) pe_int)
  (pss_one (ps_for PassesOwn.never rfl (pi_enum (by rfl) T.b_enumerate (pa_cons (pv 1) pa_nil)) (pg_tup rfl (pgs_cons (pg_name (i := 5) sc_check_tables.nd rfl (by first | exact Or.inl rfl | exact Or.inr rfl)) (pgs_cons (pg_tup rfl (pgs_cons (pg_name (i := 6) sc_check_tables.nd rfl (by first | exact Or.inl rfl | exact Or.inr rfl)) (pgs_cons (pg_name (i := 7) sc_check_tables.nd rfl (by first | exact Or.inl rfl | exact Or.inr rfl)) (pgs_cons (pg_name (i := 8) sc_check_tables.nd rfl (by first | exact Or.inl rfl | exact Or.inr rfl)) pgs_nil)))) pgs_nil)))
    (pss_cons (ps_aug (i := 4) sc_check_tables.nd rfl (by first | exact Or.inl rfl | exact Or.inr rfl) (pe_callB call_len_seq (by rfl) T.b_len PySem.boot_len (pa_cons (pv 8) pa_nil)) ip_add)
    (pss_cons (ps_if (PW.pt (pw_or (pt_not (pt_val (C8.pe_c c_is_name hr (by decide) (by rfl) (pa_cons (pv 6) pa_nil)))) (pw_or (pt_cmpR op_in_seq (pv 6) (pe_slice sl_list (pv 2) po_none (po_some (pv 5))) (by rfl)) (pw_or1 (pt_cmpR op_gt (pv 4) (C8.pe_gc (by rfl) T.g_MOST_READS) (nomark _))))))
      (pss_one ps_never)
      pss_nil)
    (pss_one (ps_if (pt_not (pt_val (pe_callB (cr_all rfl) (by rfl) T.b_all (by decide +kernel) (pa_cons (pe_lc (own := [("read", 9)]) (g := gName 9) (tt := tYes) (by rfl) sc_check_tables.nd (pi_list (pv 8)) (blkOk_by (N := ["dimensions", "tables", "names", "table", "many", "row", "name", "_", "reads", "read"]) (sc := defScope s_check_tables) (by decide +kernel)) (fun _ _ _ _ _ => (pg_name (i := 9) sc_check_tables.nd rfl (by first | exact Or.inl rfl | exact Or.inr rfl))) (fun _ _ _ _ _ => pts_nil) (fun _ _ _ _ _ => (C8.pe_c c_is_read hr (by decide) (by rfl) (pa_cons (pv 9) (pa_cons (pv 0) pa_nil))))) pa_nil))))
      (pss_one ps_never)
      pss_nil)))))))), ?_⟩
    obtain ⟨a, xs, rfl, ha, hd⟩ := dlst hv
    have hxl : xs.length = ts.length := by rw [dps_len hd, List.length_map]
    -- names = [table[0] ..]
    refine ⟨_, rfl, a, rfl, ⟨_, ha⟩, fun D hD => lc_flat (walk_list (K := K) (a := a) (xs := xs)) (fun i => .str (nth (ts.map (·.n)) i)) (by omega) hD (fun H' sm => sql sm ha) (fun i H x H' y => yat_same y) ?_ ?_⟩
    · rintro i x H1 H2 hi sm ⟨rfl, hx⟩ R hR
      obtain ⟨t, b, l, ys, e1, rfl, g1, _, _⟩ := tb_at (dpsm sm _ _ hd) hx
      have en : nth (ts.map (·.n)) i = t.n := nth_of (by rw [List.getElem?_map, e1]; rfl)
      refine ⟨rfl, _, rfl, b, _, 0, _, rfl, rfl, g1, rfl, ?_⟩
      have r := hR H2 same_refl
      rw [en] at r
      exact r
    · intro H1 sm hD1
      have hD1 : H1 D = some (.lst ((ts.map (·.n)).map V.str)) := by
        rw [hD1, hxl, ← nths, List.length_map]
      -- many = 0; the loop
      refine ⟨_, rfl, a, xs, rfl, sql sm ha, for_it (walk_enum (K := K) (a := a) (xs := xs)) (fun i σ H2 => ∃ y5 y6 y7 y8, σ = [some (.int d), some (.ref a), some (.ref D), none, some (.int (cnt (ts.take i))), y5, y6, y7, y8, none] ∧ Same H1 H2)
        ⟨none, none, none, none, rfl, same_refl⟩ (fun i σ H2 _ ⟨_, _, _, _, _, s2⟩ => sql (same_tr sm s2) ha) ?_ ?_⟩
      · rintro i x σ H2 H3 hi ⟨y5, y6, y7, y8, rfl, s2⟩ ⟨Tp, z1, z2, rfl, hT, rfl, e1, e2⟩
        cases e1
        have s3 : Same H1 (upd H2 Tp (.tup [.int (i : Nat), z2])) := same_tr s2 (snew hT)
        obtain ⟨t, b, l, ys, f1, rfl, g1, g2, g3⟩ := tb_at (dpsm (same_tr sm s3) _ _ hd) e2
        have htm : t ∈ ts := List.mem_of_getElem? f1
        have hyl : ys.length = t.rs.length := by rw [dps_len g3, List.length_map]
        refine ⟨Tp, _, rfl, Or.inl (Or.inl upd_same), rfl, _, _, rfl, _, _, rfl, b, _, rfl, g1, rfl, _, _, rfl, _, _, rfl, _, _, rfl, rfl, rfl, ?_⟩
        -- many += len(reads)
        refine ⟨_, rfl, _, rfl, l, ys, rfl, Or.inl g2, _, _, rfl, rfl, ?_⟩
        have hc := cnt_take f1
        have hc2 := cnt_le ts (i + 1)
        have h12 : cnt ts ≤ 12 := O.few
        -- the first test
        refine ⟨.str t.n, rfl, t.n, rfl, name_len (O.names t htm), fun H4 s4 => ⟨_, rfl, ?_⟩⟩
        rw [O.names t htm]
        refine iteF ?_
        have hD4 : H4 D = some (.lst ((ts.map (·.n)).map V.str)) := s4 _ _ (s3 _ _ hD1)
        refine ⟨_, rfl, _, rfl, _, rfl, (i : Int), rfl, D, _, rfl, Or.inl (Or.inl hD4), fun p hp => ?_⟩
        have s5 : Same H4 (upd H4 p (.lst (cutV ((ts.map (·.n)).map V.str) none (some (i : Int))))) := snew hp
        rw [cut_to _ _ (by rw [List.length_map, List.length_map]; omega), ← List.map_take]
        refine ⟨p, _, rfl, Or.inl (Or.inl (Or.inl upd_same)), rfl, flat_strs _, false, ?_, iteF ?_⟩
        · rw [inV_no (notin_take O.nodup (by rw [List.getElem?_map, f1]; rfl))]
          rfl
        · refine ⟨_, rfl, _, 12, rfl, rfl, decide (12 < (cnt (ts.take i) : Int) + (ys.length : Int)), rfl, ?_⟩
          rw [decide_eq_false (by omega)]
          refine iteF ?_
          -- the second test
          have s6 : Same H1 (upd H4 p (.lst (((ts.map (·.n)).take i).map V.str))) := same_tr s3 (same_tr s4 (snew hp))
          refine ⟨_, rfl, l, rfl, ⟨ys, sql (same_tr s4 (snew hp)) g2⟩, fun D2 hD2 => lc_flat (walk_list (K := K) (a := l) (xs := ys)) (fun j => .bl true) (by omega) hD2 (fun H' sm' => sql sm' (sql (same_tr s4 (snew hp)) g2)) (fun i H x H' y => yat_same y) ?_ ?_⟩
          · rintro j x H5 H6 hj sm5 ⟨rfl, hx⟩ R hR
            obtain ⟨r, ra, rb, e3, rfl, e4, _, _⟩ := rd_at (dpsm sm5 _ _ (dpsm (same_tr s4 (snew hp)) _ _ g3)) hx
            have hro := O.reads t htm r (List.mem_of_getElem? e3)
            refine ⟨rfl, _, rfl, _, rfl, .ref ra, r, d, rfl, e4, read_len hro, fun H7 s7 => ?_⟩
            rw [hro]
            exact hR H7 s7
          · intro H5 sm5 hD5
            refine ⟨D2, (List.range ys.length).map fun _ => true, rfl, Or.inl (Or.inl ?_), ⟨_, rfl, ?_⟩⟩
            · rw [hD5, List.map_map]
              rfl
            · have e : ((List.range ys.length).map fun _ => true).all id = true := by
                rw [List.all_map, List.all_eq_true]
                intro _ _
                rfl
              rw [e]
              refine iteF ?_
              refine ⟨some (.int (i : Int)), some (.str t.n), some (.int t.c), some (.ref l), ?_, same_tr s6 sm5⟩
              rw [hc]
              have ec : (cnt (ts.take i) : Int) + (ys.length : Int) = ((cnt (ts.take i) + t.rs.length : Nat) : Int) := by omega
              rw [← ec]
              rfl
      · rintro σ H2 ⟨_, _, _, _, rfl, s2⟩
        exact q H2 (same_tr sm s2)
theorem dict_flat_any : True := True.intro
def spCheckRead (K : PySem.W.Frag) : Sp := fun vs H Q _ => ∃ (d : Int) (v : V) (ts : List Tb), vs = [v] ∧ Dp K H v (.list (ts.map Tb.d)) ∧ ts.length ≤ 6 ∧ OkT d ts ∧ ∀ H', Same H H' → Q .non H'
theorem few_reads {d : Int} {ts : List Tb} (O : OkT d ts) {t : Tb} (h : t ∈ ts) : t.rs.length ≤ 12 := by
  obtain ⟨i, hi⟩ := List.mem_iff_getElem?.mp h
  have h1 := cnt_take hi
  have h2 := cnt_le ts (i + 1)
  have h3 : cnt ts ≤ 12 := O.few
  omega
theorem ok_check_read {f : Addr} {fd : FuncData} (F : Fun K "check_tables_that_are_read" "check_tables_that_are_read" s_check_tables_that_are_read f fd) (T : Txt mg) : FnOk P w K mg base CX0 3 f fd ["tables"] (spCheckRead K) := by
  refine F.ok sc_check_tables_that_are_read (fun vs H Q E h => ?_) (fun cdv A outer s H vs Q E hr h => ?_)
  · obtain ⟨d, v, ts, rfl, _⟩ := h
    rfl
  · obtain ⟨d, v, ts, rfl, hv, hl6, O, q⟩ := h
    refine ⟨_, (pss_cons (ps_set (i := 1) sc_check_tables_that_are_read.nd rfl (by first | exact Or.inl rfl | exact Or.inr rfl) (pe_lc (own := [("table", 2)]) (g := gName 2) (tt := tYes) (by rfl) sc_check_tables_that_are_read.nd (pi_list (pv 0)) (blkOk_by (N := ["tables", "names", "table", "row", "read"]) (sc := defScope s_check_tables_that_are_read) (by decide +kernel)) (fun _ _ _ _ _ => (pg_name (i := 2) sc_check_tables_that_are_read.nd rfl (by first | exact Or.inl rfl | exact Or.inr rfl))) (fun _ _ _ _ _ => pts_nil) (fun _ _ _ _ _ => (pe_ix (r := rIxT K) ix_tup (pv 2) pe_int (fun _ _ => rfl)))))
  (pss_one (ps_for PassesOwn.never rfl (pi_enum (by rfl) T.b_enumerate (pa_cons (pv 0) pa_nil)) (pg_tup rfl (pgs_cons (pg_name (i := 3) sc_check_tables_that_are_read.nd rfl (by first | exact Or.inl rfl | exact Or.inr rfl)) (pgs_cons (pg_name (i := 2) sc_check_tables_that_are_read.nd rfl (by first | exact Or.inl rfl | exact Or.inr rfl)) pgs_nil)))
    (pss_one (ps_if (pt_not (pt_val (pe_callB (cr_all rfl) (by rfl) T.b_all (by decide +kernel) (pa_cons (pe_lc (own := [("read", 4)]) (g := gName 4) (tt := tYes) (by rfl) sc_check_tables_that_are_read.nd (pi_list (pe_ix ix_tup (pv 2) pe_int (fun _ _ => rfl))) (blkOk_by (N := ["tables", "names", "table", "row", "read"]) (sc := defScope s_check_tables_that_are_read) (by decide +kernel)) (fun _ _ _ _ _ => (pg_name (i := 4) sc_check_tables_that_are_read.nd rfl (by first | exact Or.inl rfl | exact Or.inr rfl))) (fun _ _ _ _ _ => pts_nil) (fun _ _ _ _ _ => (pe_cmpR (r := rIn K false) op_in_seq (pe_ix (r := rIxT K) ix_tup (pv 4) pe_int (fun _ _ => rfl)) (pv 1) (by rfl)))) pa_nil))))
      (pss_one ps_never)
      pss_nil))))), ?_⟩
    obtain ⟨a, xs, rfl, ha, hd⟩ := dlst hv
    have hxl : xs.length = ts.length := by rw [dps_len hd, List.length_map]
    refine ⟨_, rfl, a, rfl, ⟨_, ha⟩, fun D hD => lc_flat (walk_list (K := K) (a := a) (xs := xs)) (fun i => .str (nth (ts.map (·.n)) i)) (by omega) hD (fun H' sm => sql sm ha) (fun i H x H' y => yat_same y) ?_ ?_⟩
    · rintro i x H1 H2 hi sm ⟨rfl, hx⟩ R hR
      obtain ⟨t, b, l, ys, e1, rfl, g1, _, _⟩ := tb_at (dpsm sm _ _ hd) hx
      have en : nth (ts.map (·.n)) i = t.n := nth_of (by rw [List.getElem?_map, e1]; rfl)
      refine ⟨rfl, _, rfl, b, _, 0, _, rfl, rfl, g1, rfl, ?_⟩
      have r := hR H2 same_refl
      rw [en] at r
      exact r
    · intro H1 sm hD1
      have hD1 : H1 D = some (.lst ((ts.map (·.n)).map V.str)) := by
        rw [hD1, hxl, ← nths, List.length_map]
      refine ⟨_, rfl, a, xs, rfl, sql sm ha, for_it (walk_enum (K := K) (a := a) (xs := xs)) (fun i σ H2 => ∃ y2 y3, σ = [some (.ref a), some (.ref D), y2, y3, none] ∧ Same H1 H2)
        ⟨none, none, rfl, same_refl⟩ (fun i σ H2 _ ⟨_, _, _, s2⟩ => sql (same_tr sm s2) ha) ?_ ?_⟩
      · rintro i x σ H2 H3 hi ⟨y2, y3, rfl, s2⟩ ⟨Tp, z1, z2, rfl, hT, rfl, e1, e2⟩
        cases e1
        have s3 : Same H1 (upd H2 Tp (.tup [.int (i : Nat), z2])) := same_tr s2 (snew hT)
        obtain ⟨t, b, l, ys, f1, rfl, g1, g2, g3⟩ := tb_at (dpsm (same_tr sm s3) _ _ hd) e2
        have htm : t ∈ ts := List.mem_of_getElem? f1
        have hyl : ys.length = t.rs.length := by rw [dps_len g3, List.length_map]
        have h12 := few_reads O htm
        refine ⟨Tp, _, rfl, Or.inl (Or.inl upd_same), rfl, _, _, rfl, _, _, rfl, rfl, ?_⟩
        refine ⟨_, rfl, b, _, 2, _, rfl, rfl, g1, rfl, l, rfl, ⟨ys, g2⟩, fun D2 hD2 => lc_flat (walk_list (K := K) (a := l) (xs := ys)) (fun j => .bl true) (by omega) hD2 (fun H' sm' => sql sm' g2) (fun i H x H' y => yat_same y) ?_ ?_⟩
        · rintro j x H5 H6 hj sm5 ⟨rfl, hx⟩ R hR
          obtain ⟨r, ra, rb, e3, rfl, e4, g5, _⟩ := rd_at (dpsm sm5 _ _ g3) hx
          have hm := O.here t htm r (List.mem_of_getElem? e3)
          refine ⟨rfl, _, rfl, ra, _, 0, _, rfl, rfl, g5, rfl, _, rfl, D, _, rfl, Or.inl (Or.inl (Or.inl (sm5 _ _ (s3 _ _ hD1)))), rfl, flat_strs _, ?_⟩
          rw [inV_str hm]
          exact hR H6 same_refl
        · intro H5 sm5 hD5
          refine ⟨D2, (List.range ys.length).map fun _ => true, rfl, Or.inl (Or.inl ?_), ⟨_, rfl, ?_⟩⟩
          · rw [hD5, List.map_map]
            rfl
          · have e : ((List.range ys.length).map fun _ => true).all id = true := by
              rw [List.all_map, List.all_eq_true]
              intro _ _
              rfl
            rw [e]
            refine iteF ?_
            exact ⟨some (.ref b), some (.int (i : Int)), rfl, same_tr s3 sm5⟩
      · rintro σ H2 ⟨_, _, rfl, s2⟩
        exact q H2 (same_tr sm s2)
def spCheckSystem (K : PySem.W.Frag) : Sp := fun vs H Q _ => ∃ (d m : Int) (v : V) (ts : List Tb), vs = [.int d, v, .int m] ∧ 1 ≤ d ∧ d ≤ 3 ∧ 2 ≤ m ∧ Dp K H v (.list (ts.map Tb.d)) ∧ 1 ≤ ts.length ∧ ts.length ≤ 6 ∧ OkT d ts ∧ ∀ H', Same H H' → Q .non H'
theorem ok_check_system {f : Addr} {fd : FuncData} (F : Fun K "check_system" "check_system" s_check_system f fd) (T : Txt mg) (c_check_tables : C8.Cal P w K mg base 3 "check_tables" (spCheckTables K) []) (c_check_tables_that_are_read : C8.Cal P w K mg base 3 "check_tables_that_are_read" (spCheckRead K) []) :
    FnOk P w K mg base CX0 4 f fd ["dimensions", "tables", "modulus"] (spCheckSystem K) := by
  refine F.ok sc_check_system (fun vs H Q E h => ?_) (fun cdv A outer s H vs Q E hr h => ?_)
  · obtain ⟨d, m, v, ts, rfl, _⟩ := h
    rfl
  · obtain ⟨d, m, v, ts, rfl, hd1, hd3, hm, hv, hl1, hl6, O, q⟩ := h
    refine ⟨_, (pss_cons (ps_if (pt_not (pt_chain op_le op_le pe_int (pv 0) (C8.pe_gc (by rfl) T.g_MOST_DIMENSIONS)))
    (pss_one ps_never)
    pss_nil)
  (pss_cons (ps_if (pt_not (pt_chain op_le op_le pe_int (pe_callB call_len_seq (by rfl) T.b_len PySem.boot_len (pa_cons (pv 1) pa_nil)) (C8.pe_gc (by rfl) T.g_MOST_TABLES)))
    (pss_one ps_never)
    pss_nil)
  (pss_cons (ps_expr (C8.pe_c c_check_tables hr (by decide) (by rfl) (pa_cons (pv 0) (pa_cons (pv 1) pa_nil))))
  (pss_cons (ps_expr (C8.pe_c c_check_tables_that_are_read hr (by decide) (by rfl) (pa_cons (pv 1) pa_nil)))
  (pss_one (ps_if (pt_cmpR op_lt (pv 2) pe_int (nomark _))
    (pss_one ps_never)
    pss_nil)))))), ?_⟩
    obtain ⟨a, xs, rfl, ha, hd⟩ := dlst hv
    have hxl : xs.length = ts.length := by rw [dps_len hd, List.length_map]
    refine ⟨_, rfl, 1, d, rfl, rfl, decide (1 ≤ d), rfl, ?_⟩
    rw [decide_eq_true hd1]
    refine iteT ⟨d, 3, rfl, rfl, decide (d ≤ 3), rfl, ?_⟩
    rw [decide_eq_true hd3]
    refine iteF ?_
    refine ⟨_, rfl, a, xs, rfl, Or.inl ha, 1, _, rfl, rfl, decide (1 ≤ (xs.length : Int)), rfl, ?_⟩
    rw [decide_eq_true (by omega)]
    refine iteT ⟨_, 6, rfl, rfl, decide ((xs.length : Int) ≤ 6), rfl, ?_⟩
    rw [decide_eq_true (by omega)]
    refine iteF ?_
    refine ⟨_, rfl, _, rfl, d, .ref a, ts, rfl, hv, hl6, O, fun H1 s1 => ?_⟩
    refine ⟨_, rfl, d, .ref a, ts, rfl, dpm s1 _ _ hv, hl6, O, fun H2 s2 => ?_⟩
    refine ⟨_, rfl, m, 2, rfl, rfl, decide (m < 2), rfl, ?_⟩
    rw [decide_eq_false (by omega)]
    exact iteF (q H2 (same_tr s1 s2))
/-- a def with a code object that is known -/
structure FunC (K : PySem.W.Frag) (x qual : Str) (st : Stmt) (f : Addr) (fd : FuncData) (c : Addr) : Prop where
  ex : ∃ (oc : Value) (od : Option Addr) (dV kV doc pm : Value) (an : Option Addr) (ct : Value) (osl : Array (Option Value)),
    fd = PySem.W.fnOf x qual (defArgs st) (defBody st) (defScope st) dV kV doc pm an (.ref c) ct ∧ K.lookup f = some ⟨oc, od, .func fd, osl⟩ ∧ PySem.W.codeIn K (.ref c) qual = true
theorem FunC.ok {x qual : Str} {st : Stmt} {f c : Addr} {fd : FuncData} {N ps : List Str} {k : Nat} {sp : Sp} (F : FunC K x qual st f fd c) (S : FnScope N ps (defScope st)) (len : ∀ vs H Q E, sp vs H Q E → vs.length = ps.length)
    (hbody : ∀ (A : Around) (outer : List Env) (s : Shared) (H : Hp) (vs : List V) (Q : VK) (E : XK), Room k (A.deeper (envOfC qual (defScope st) s.heap.objs.size f (.ref c))) → sp vs H Q E →
      ∃ t, PSs (cxOf CX0 P w K mg base N qual (defScope st) f (.ref c) A outer s H E).nox (defBody st) t ∧ t { nx := fun _ H' => Q .non H', rt := Q } (start N vs) H) : FnOk P w K mg base CX0 (k + 1) f fd ps sp := by
  obtain ⟨oc, od, dV, kV, doc, pm, an, ct, osl, rfl, lk, hcd⟩ := F.ex
  refine fn_of lk hcd S len fun A outer s H vs Q E hr hsp => ?_
  obtain ⟨t, h, q⟩ := hbody A outer s H vs Q E hr hsp
  exact ⟨t, h.nox, q⟩
def srt (ts : List Tb) : List Tb := ts.mergeSort (leK Tb.n)
/-- what a system may be made of -/
structure OkSys (d m : Int) (ts : List Tb) : Prop where
  d1 : 1 ≤ d
  d3 : d ≤ 3
  m2 : 2 ≤ m
  l1 : 1 ≤ ts.length
  l6 : ts.length ≤ 6
  ok : OkT d ts
/-- all but the tables of code objects and one object stay -/
def ExtB (s : Addr) (H H' : Hp) : Prop := ∀ b o, H b = some o → b ≠ s → (∀ ps, o ≠ .tbl ps) → H' b = some o
def spInit (K : PySem.W.Frag) (C : Addr) (TT : List (Addr × Str)) : Sp := fun vs H Q _ => ∃ (s dx : Addr) (d m : Int) (v : V) (ts : List Tb), vs = [.ref s, .int d, v, .int m] ∧ H s = some (.ins C dx []) ∧ LamX.Tabs TT H ∧ OkSys d m ts ∧ Dp K H v (.list (ts.map Tb.d)) ∧
  ∀ H', ExtB s H H' → LamX.Tabs TT H' → SysAt K C H' s d m (srt ts) → Q .non H'
theorem ok_init {f C c Pt : Addr} {fd : FuncData} {TT : List (Addr × Str)} (F : FunC K "__init__" "System.__init__" s_System_init f fd c) (T : Txt mg) (TC : TxtC K mg C) (c_check_system : C8.Cal P w K mg base 4 "check_system" (spCheckSystem K) [])
    (TBc : LamX.TabB base mg c Pt) (hmT : (Pt, ("System.__init__.<locals>.<lambda>" : Str)) ∈ TT) (huT : ∀ p ∈ TT, p.1 = Pt → p.2 = ("System.__init__.<locals>.<lambda>" : Str)) : FnOk P w K mg base CX0 5 f fd ["self", "dimensions", "tables", "modulus"] (spInit K C TT) := by
  refine F.ok sc_System_init (fun vs H Q E h => ?_) (fun A outer sh H vs Q E hr h => ?_)
  · obtain ⟨s, dx, d, m, v, ts, rfl, _⟩ := h
    rfl
  · obtain ⟨s, dx, d, m, v, ts, rfl, hs, hT, O, hv, q⟩ := h
    have hu := hu_of hr
    have hcode : (cxOf CX0 P w K mg base ["self", "dimensions", "tables", "modulus", "rows", "name", "constant", "reads"] "System.__init__" (defScope s_System_init) f (.ref c) A outer sh H E).nox.env.code = .ref c := rfl
    refine ⟨_, (pss_cons (ps_expr (C8.pe_c c_check_system hr (by decide) (by rfl) (pa_cons (pv 1) (pa_cons (pv 2) (pa_cons (pv 3) pa_nil)))))
  (pss_cons (ps_fld (pv 0) (pv 1) rfl)
  (pss_cons (ps_fld (pv 0) (pv 3) rfl)
  (pss_cons (ps_set (i := 4) sc_System_init.nd rfl (by first | exact Or.inl rfl | exact Or.inr rfl) (pe_sortKey Tb.n (a := "table") (by rfl) T.b_sorted (pv 2) hr TBc hcode hmT huT rfl ⟨rfl, rfl, rfl, rfl, by decide +kernel, by decide +kernel⟩ (by decide) (fun _ _ _ _ _ _ => rfl)))
  (pss_one (ps_fld (pv 0) (pe_dc (own := [("name", 5), ("constant", 6), ("reads", 7)]) (g := gTup K 3 (gCons (gName 5) (gCons (gName 6) (gCons (gName 7) gNil)))) (tt := tYes) (by rfl) sc_System_init.nd (pi_list (pv 4)) (blkOk_by (N := ["self", "dimensions", "tables", "modulus", "rows", "name", "constant", "reads"]) (sc := defScope s_System_init) (by decide +kernel)) (fun _ _ _ _ _ => (pg_tup rfl (pgs_cons (pg_name (i := 5) sc_System_init.nd rfl (by first | exact Or.inl rfl | exact Or.inr rfl)) (pgs_cons (pg_name (i := 6) sc_System_init.nd rfl (by first | exact Or.inl rfl | exact Or.inr rfl)) (pgs_cons (pg_name (i := 7) sc_System_init.nd rfl (by first | exact Or.inl rfl | exact Or.inr rfl)) pgs_nil))))) (fun _ _ _ _ _ => pts_nil) (fun _ _ _ _ _ => (pv 5)) (fun _ _ _ _ _ => (pe_tup (pa_cons (pv 6) (pa_cons (pe_callTy (r := rTupS K) call_tuple_of (by rfl) T.b_tuple (by decide +kernel) (pa_cons (pv 7) pa_nil)) pa_nil))))) rfl)))))), ?_⟩
    -- check_system(..)
    refine ⟨_, rfl, _, rfl, _, rfl, d, m, v, ts, rfl, O.d1, O.d3, O.m2, hv, O.l1, O.l6, O.ok, fun H1 s1 => ?_⟩
    have hs1 := s1 _ _ hs
    have hT1 := hT.ext s1
    -- self._dimensions, self._modulus
    refine ⟨_, rfl, _, rfl, s, C, dx, _, rfl, hs1, TC.cl, TC.nD, (by show 0 < 1000; decide), ?_⟩
    have hT2 := tabs_ins (o := .ins C dx (putF "_dimensions" (.int d) [])) hT1 hs1
    have d2 : SD H (upd H1 s (.ins C dx (putF "_dimensions" (.int d) []))) := SD.upd (.of s1) hs1 rfl
    have e2 : ExtB s H (upd H1 s (.ins C dx (putF "_dimensions" (.int d) []))) := fun b o h nb _ => by
      rw [upd_ne nb]
      exact s1 b o h
    have hs2 : (upd H1 s (.ins C dx (putF "_dimensions" (.int d) []))) s = some (.ins C dx (putF "_dimensions" (.int d) [])) := upd_same
    generalize upd H1 s (.ins C dx (putF "_dimensions" (.int d) [])) = H2 at hT2 d2 e2 hs2 ⊢
    refine ⟨_, rfl, _, rfl, s, C, dx, _, rfl, hs2, TC.cl, TC.nM, (by show 1 < 1000; decide), ?_⟩
    have hT3 := tabs_ins (o := .ins C dx (putF "_modulus" (.int m) (putF "_dimensions" (.int d) []))) hT2 hs2
    have d3 : SD H (upd H2 s (.ins C dx (putF "_modulus" (.int m) (putF "_dimensions" (.int d) [])))) := SD.upd d2 hs2 rfl
    have e3 : ExtB s H (upd H2 s (.ins C dx (putF "_modulus" (.int m) (putF "_dimensions" (.int d) [])))) := fun b o h nb nt => by
      rw [upd_ne nb]
      exact e2 b o h nb nt
    have hs3 : (upd H2 s (.ins C dx (putF "_modulus" (.int m) (putF "_dimensions" (.int d) [])))) s = some (.ins C dx (putF "_modulus" (.int m) (putF "_dimensions" (.int d) []))) := upd_same
    generalize upd H2 s (.ins C dx (putF "_modulus" (.int m) (putF "_dimensions" (.int d) []))) = H3 at hT3 d3 e3 hs3 ⊢
    -- rows = sorted(..)
    obtain ⟨a, xs, rfl, ha, hd⟩ := dlst hv
    have hxl : xs.length = ts.length := by rw [dps_len hd, List.length_map]
    have hfst : (xs.zip ts).map Prod.fst = xs := by rw [List.map_fst_zip]; omega
    have hsnd : (xs.zip ts).map Prod.snd = ts := by rw [List.map_snd_zip]; omega
    have hbs : ∀ y ∈ xs.zip ts, Dp K H3 y.1 y.2.d := fun y hy => by
      obtain ⟨i, hi⟩ := List.mem_iff_getElem?.mp hy
      obtain ⟨h1, h2⟩ := List.getElem?_zip_eq_some.mp hi
      obtain ⟨t, _, _, _, e1, _⟩ := tb_at hd h1
      obtain ⟨dd, f1, f2⟩ := dps_get hd h1
      rw [List.getElem?_map, h2] at f1
      cases f1
      exact dpd d3 _ _ f2
    refine ⟨_, rfl, a, xs.zip ts, rfl, (by rw [hfst]; exact sqld d3 ha), hT3, fun y hy => ?_, fun H4 x4 hT4 p hp => ?_⟩
    · obtain ⟨b, zs, e1, ht, hz⟩ := dtup (hbs y hy)
      obtain ⟨z1, z2, z3, rfl, g1, g2, g3⟩ := dps3 hz
      obtain rfl := dstr g1
      exact ⟨b, [z2, z3], e1, ht⟩
    · have hsrt : ((xs.zip ts).mergeSort (leK fun y => y.2.n)).map Prod.snd = srt ts := by
        rw [show (leK fun y : V × Tb => y.2.n) = fun a b => leK Tb.n a.2 b.2 from rfl]
        rw [List.map_mergeSort (r := fun a b : V × Tb => leK Tb.n a.2 b.2) (s := leK Tb.n) (f := Prod.snd) (fun _ _ _ _ => rfl), hsnd]
        rfl
      have hmem : ∀ y ∈ (xs.zip ts).mergeSort (leK fun y => y.2.n), Dp K H4 y.1 y.2.d := fun y hy => dpd (.ext x4) _ _ (hbs y (List.mem_mergeSort.mp hy))
      generalize hL : (xs.zip ts).mergeSort (leK fun y => y.2.n) = bs at hsrt hmem ⊢
      have hbl : bs.length = ts.length := by rw [← hL, List.length_mergeSort, List.length_zip]; omega
      have hs4 : H4 s = some (.ins C dx (putF "_modulus" (.int m) (putF "_dimensions" (.int d) []))) := x4 _ _ hs3 fun ps z => by cases z
      have s5 : Same H4 (upd H4 p (.lst (bs.map Prod.fst))) := snew hp
      have hnd : (bs.map fun y => y.2.n).Nodup := by
        have e : (bs.map fun y => y.2.n) = (srt ts).map (·.n) := by
          rw [← hsrt, List.map_map]
          rfl
        rw [e]
        exact ((List.mergeSort_perm ts (leK Tb.n)).map (·.n)).nodup_iff.mpr O.ok.nodup
      -- self._tables = {..}
      refine ⟨_, rfl, p, rfl, ⟨_, Or.inl (Or.inl upd_same)⟩, fun D hD => dc_it (walk_list (K := K) (a := p) (xs := bs.map Prod.fst)) (fun i H' => ∃ (B : Hp) (kvs : List (Key × V)), Same (upd H4 p (.lst (bs.map Prod.fst))) B ∧ B D = none ∧ Same B H' ∧ H' D = some (.dK kvs) ∧ KvAt K B kvs ((srt ts).take i))
        ⟨_, [], same_refl, hD, snew hD, upd_same, .nil⟩ (fun i H' _ ⟨B, kvs, b1, b2, b3, _⟩ => sql b3 (sql b1 (Or.inl (Or.inl upd_same)))) ?_ ?_⟩
      · rintro i x _ Hi hi ⟨B, kvs, b1, b2, b3, b4, b5⟩ ⟨rfl, hx⟩
        rw [List.getElem?_map] at hx
        obtain ⟨y, hy, rfl⟩ := Option.map_eq_some_iff.mp hx
        have hyd := dpm b1 _ _ (dpm s5 _ _ (hmem y (List.mem_of_getElem? hy)))
        obtain ⟨b, zs, e1, ht, hz⟩ := dtup hyd
        obtain ⟨z1, z2, z3, rfl, g1, g2, g3⟩ := dps3 hz
        obtain rfl := dstr g1
        obtain rfl := dint g2
        obtain ⟨l, ys, rfl, hl, hys⟩ := dlst g3
        have hsi : (srt ts)[i]? = some y.2 := by
          rw [← hsrt, List.getElem?_map, hy]
          rfl
        refine ⟨b, _, e1, sqt b3 ht, rfl, _, _, rfl, _, _, rfl, _, _, rfl, rfl, rfl, ?_⟩
        refine ⟨_, rfl, _, rfl, _, rfl, l, ys, rfl, Or.inl ⟨sql b3 hl, fun q1 hq1 => ?_⟩⟩
        refine ⟨(by show 2 ≤ sizeLine; decide), fun q2 hq2 => ?_⟩
        have nq1 : q1 ≠ D := fun z => by
          rw [z, b4] at hq1
          cases hq1
        have nq2 : q2 ≠ D := fun z => by
          rw [z, upd_ne nq1.symm, b4] at hq2
          cases hq2
        have bq1 : B q1 = none := free_of b3 hq1
        have c1 : Same (upd B q1 (.tup ys)) (upd Hi q1 (.tup ys)) := fun c o h => by
          by_cases hc : c = q1
          · rw [hc, upd_same] at h ⊢
            exact h
          · rw [upd_ne hc] at h ⊢
            exact b3 c o h
        have bq2 : (upd B q1 (.tup ys)) q2 = none := free_of c1 hq2
        have c2 : Same (upd (upd B q1 (.tup ys)) q2 (.tup [.int y.2.c, .ref q1])) (upd (upd Hi q1 (.tup ys)) q2 (.tup [.int y.2.c, .ref q1])) := fun c o h => by
          by_cases hc : c = q2
          · rw [hc, upd_same] at h ⊢
            exact h
          · rw [upd_ne hc] at h ⊢
            exact c1 c o h
        have bb : Same B (upd (upd B q1 (.tup ys)) q2 (.tup [.int y.2.c, .ref q1])) := same_tr (snew bq1) (snew bq2)
        have bD : (upd (upd B q1 (.tup ys)) q2 (.tup [.int y.2.c, .ref q1])) D = none := by
          rw [upd_ne nq2.symm, upd_ne nq1.symm]
          exact b2
        have hDv : (upd (upd Hi q1 (.tup ys)) q2 (.tup [.int y.2.c, .ref q1])) D = some (.dK kvs) := by
          rw [upd_ne nq2.symm, upd_ne nq1.symm]
          exact b4
        have hkl : kvs.length ≤ 6 := by
          rw [b5.len, List.length_take]
          have := O.l6
          have : (srt ts).length = ts.length := List.length_mergeSort _
          omega
        refine ⟨kvs, Sum.inr y.2.n, rfl, hDv, small1000 (by omega), ?_⟩
        have hno : valV kvs (Sum.inr y.2.n) = none := b5.noVal (by
          have e : ((srt ts).take i).map (·.n) = (bs.map fun y => y.2.n).take i := by
            rw [← hsrt, List.map_take, List.map_map]
            rfl
          rw [e]
          exact notin_take hnd (by rw [List.getElem?_map, hy]; rfl))
        refine ⟨_, kvs ++ [(Sum.inr y.2.n, .ref q2)], same_tr b1 bb, bD, ?_, ?_, ?_⟩
        · intro c o h
          have hc : c ≠ D := fun z => by
            rw [z, bD] at h
            cases h
          rw [upd_ne hc]
          exact c2 c o h
        · rw [upd_same, putK_new _ hno]
        · rw [List.take_add_one, hsi]
          refine KvAt.app (b5.mono bb) (.cons ⟨rfl, ?_⟩ .nil)
          refine .tup (Or.inl (Or.inl upd_same)) (.cons (.int _) (.cons (.tup (Or.inl (Or.inl ?_)) (dpsm bb _ _ hys)) .nil))
          rw [upd_ne (ne_of_none upd_same bq2)]
          exact upd_same
      · rintro Hf ⟨B, kvs, b1, b2, b3, b4, b5⟩
        have hlen : (bs.map Prod.fst).length = (srt ts).length := by rw [← hsrt, List.length_map, List.length_map]
        rw [hlen, List.take_length] at b5
        have sf : Same H4 Hf := same_tr s5 (same_tr b1 b3)
        have hsf := sf _ _ hs4
        refine ⟨_, rfl, s, C, dx, _, rfl, hsf, TC.cl, TC.nT, (by show 2 < 1000; decide), ?_⟩
        refine q _ (fun b o h nb nt => ?_) (tabs_ins (hT4.ext sf) hsf) ⟨dx, D, kvs, upd_same, ?_, ?_⟩
        · rw [upd_ne nb]
          exact sf _ _ (x4 _ _ (e3 b o h nb nt) nt)
        · rw [upd_ne fun z => by
            rw [z, hsf] at b4
            cases b4]
          exact b4
        · exact b5.monoD (SD.upd (.of b3) hsf rfl)
end
end Fr

namespace Fr
open PySem PySem.Spec PyProof.Rows L2
abbrev s_Ldraw : Stmt := topS 33
theorem sc_Ldraw : FnScope ["_law_pool_here", "_law_many", "_law_drawn_here", "_law_mixed"] ["_law_pool_here", "_law_many"] (defScope s_Ldraw) := ⟨rfl, rfl, rfl, by decide +kernel, rfl, by decide +kernel, by decide +kernel⟩
-- slots: 0 _law_pool_here, 1 _law_many, 2 _law_drawn_here, 3 _law_mixed
abbrev s_Lpool : Stmt := topS 32
theorem sc_Lpool : FnScope ["_law_script", "_law_at", "_law_given"] ["_law_script", "_law_at"] (defScope s_Lpool) := ⟨rfl, rfl, rfl, by decide +kernel, rfl, by decide +kernel, by decide +kernel⟩
-- slots: 0 _law_script, 1 _law_at, 2 _law_given
/-- the state of the draws: digits, seed, counter -/
structure RngN (a b c : Int) (m : Nat) : Prop where
  a0 : 0 ≤ a
  a1 : True
  b0 : 0 ≤ b
  b1 : b < 2 ^ 62
  c0 : 0 ≤ c
  c1 : c ≤ m
def RngOk (H : Hp) (r : Addr) (m : Nat) : Prop := ∃ a b c : Int, H r = some (.lst [.int a, .int b, .int c]) ∧ RngN a b c m
theorem RngN.mono {a b c : Int} {m m' : Nat} (h : RngN a b c m) (e : m ≤ m') : RngN a b c m' := ⟨h.a0, h.a1, h.b0, h.b1, h.c0, by have := h.c1; omega⟩
theorem RngOk.mono {H : Hp} {r : Addr} {m m' : Nat} (h : RngOk H r m) (e : m ≤ m') : RngOk H r m' := by
  obtain ⟨a, b, c, h1, h2⟩ := h
  exact ⟨a, b, c, h1, h2.mono e⟩
theorem atI_in {α : Type} {xs : List α} {i : Int} (h0 : 0 ≤ i) (h1 : i < xs.length) : ∃ v, atI xs i = some v ∧ v ∈ xs ∧ xs[i.toNat]? = some v := by
  have h2 : i.toNat < xs.length := by omega
  have e := List.getElem?_eq_getElem h2
  refine ⟨xs[i.toNat], ?_, List.getElem_mem h2, e⟩
  have := atI_nat e
  rw [Int.toNat_of_nonneg h0] at this
  exact this
theorem cut_take (xs : List V) (i : Nat) : cutV xs none (some (i : Int)) = xs.take i := by
  unfold cutV
  rw [show HT.sIx xs.length xs.length (some (i : Int)) = min i xs.length from HT.sIx_nat xs.length xs.length i, HT.sIx_none, List.drop_zero, Nat.sub_zero]
  exact (List.take_eq_take_min).symm
theorem cut_all (xs : List V) (i : Nat) (h : xs.length ≤ i) : cutV xs none (some (i : Int)) = xs := by
  unfold cutV
  rw [show HT.sIx xs.length xs.length (some (i : Int)) = min i xs.length from HT.sIx_nat xs.length xs.length i, HT.sIx_none, List.drop_zero, Nat.sub_zero, Nat.min_eq_right h, List.take_length]
theorem p1060 : ((10 : Int) ^ ((60 : Int).toNat)).natAbs < 2 ^ 200 := by decide +kernel
theorem p1060' : ((10 : Int) ^ ((60 : Int).toNat)) < 2 ^ 200 := by decide +kernel
theorem pos1 : (0 : Int) < 2305843009213693921 := by decide
theorem pos2 : (0 : Int) < 2305843009213693951 := by decide
theorem p1060p : 0 < ((10 : Int) ^ ((60 : Int).toNat)) := by decide +kernel
section
variable {P : Program} {w : World} {K : PySem.W.Frag} {mg : Str → Option Value} {base : Heap}
/-- only the state of the draws changed -/
structure Dr (r : Addr) (m : Nat) (H H' : Hp) : Prop where
  ne : ∀ b, b ≠ r → H' b = H b
  ok : RngOk H' r m
structure RS (r : Addr) (m : Nat) (B H : Hp) : Prop where
  s : Same B H
  n : B r = none
  ok : RngOk H r m
theorem RS.dr {r : Addr} {m m' : Nat} {B H H' : Hp} (h : RS r m B H) (d : Dr r m' H H') : RS r m' B H' := ⟨fun b o e => by
  rw [d.ne b (ne_of_none e h.n)]
  exact h.s b o e, h.n, d.ok⟩
theorem RngOk.at {r : Addr} {m : Nat} {H H' : Hp} (h : RngOk H r m) (e : H' r = H r) : RngOk H' r m := by
  obtain ⟨a, b, c, h1, h2⟩ := h
  exact ⟨a, b, c, by rw [e, h1], h2⟩
theorem RngOk.some {r : Addr} {m : Nat} {H : Hp} (h : RngOk H r m) : ∃ o, H r = some o := by
  obtain ⟨a, b, c, h1, h2⟩ := h
  exact ⟨_, h1⟩
theorem RngOk.new {r p : Addr} {m : Nat} {H : Hp} {o : HO} (h : RngOk H r m) (e : H p = none) : RngOk (upd H p o) r m := by
  obtain ⟨o', ho⟩ := h.some
  exact h.at (upd_ne (ne_of_none ho e))
theorem RS.new {r p : Addr} {m : Nat} {B H : Hp} {o : HO} (h : RS r m B H) (e : H p = none) : RS r m B (upd H p o) := ⟨same_tr h.s (snew e), h.n, h.ok.new e⟩
theorem RS.put {r p : Addr} {m : Nat} {B H : Hp} {o : HO} (h : RS r m B H) (e : B p = none) (n : r ≠ p) : RS r m B (upd H p o) := ⟨swrite h.s e, h.n, h.ok.at (upd_ne n)⟩
/-- a new thing that stays -/
theorem RS.keep {r p : Addr} {m : Nat} {B H : Hp} {o : HO} (h : RS r m B H) (e : H p = some o) (k : B p = none) (n : r ≠ p) : RS r m (upd B p o) H := ⟨fun b x q => by
  by_cases hb : b = p
  · rw [hb, upd_same] at q
    rw [hb, e, q]
  · rw [upd_ne hb] at q
    exact h.s b x q, by rw [upd_ne n]; exact h.n, h.ok⟩
theorem RS.ne {r p : Addr} {m : Nat} {B H : Hp} (h : RS r m B H) (e : H p = none) : r ≠ p := by
  obtain ⟨o', ho⟩ := h.ok.some
  exact ne_of_none ho e
theorem RS.mono {r : Addr} {m m' : Nat} {B H : Hp} (h : RS r m B H) (e : m ≤ m') : RS r m' B H := ⟨h.s, h.n, h.ok.mono e⟩
def spDraw : Sp := fun vs H Q _ => ∃ (r : Addr) (lim : Int) (m : Nat), vs = [.ref r, .int lim] ∧ RngOk H r m ∧ m ≤ 2 ^ 60 ∧ 0 < lim ∧ lim.natAbs < 2 ^ 200 ∧ ∀ d H', 0 ≤ d → d < lim → Dr r (m + 1) H H' → Q (.int d) H'
theorem pos3 : (0 : Int) < 162259276829213363391578010288127 := by decide
theorem pos4 : (0 : Int) < 170141183460469231731687303715884105727 := by decide
theorem pos5 : (0 : Int) < 1048576 := by decide
/-- ** with an exponent up to 5 -/
def CPow5 (i j : Int) : Prop := 0 ≤ j ∧ j ≤ 5 ∧ i.natAbs < 2 ^ 1000000
theorem op_pow5 {X : Cx} : OpR X (binaryOp .Pow) (rI CPow5 fun i j => .int (i ^ j.toNat)) := opI fun i j _ _ _ _ _ hc q => by
  obtain ⟨h0, h3, hb⟩ := hc
  refine pow_int h0 ?_ q
  have b : Builtin.Int.intBits i ≤ i.natAbs.log2 + 1 := by
    unfold Builtin.Int.intBits
    split <;> omega
  have l : i.natAbs.log2 < 1000000 := PySem.Flt.log2_lt_of (by decide) hb
  have c : (Builtin.Int.intBits i : Int) ≤ 1000000 := by omega
  have c0 : (0 : Int) ≤ (Builtin.Int.intBits i : Int) := Int.natCast_nonneg _
  calc (Builtin.Int.intBits i : Int) * j ≤ 1000000 * 5 := Int.mul_le_mul c h3 h0 (by decide)
    _ ≤ 2 ^ 27 := by decide
theorem nat_lt_of {x : Int} {n : Nat} (h0 : 0 ≤ x) (h : x < 2 ^ n) : x.natAbs < 2 ^ n := by
  have e : (x.natAbs : Int) = x := Int.natAbs_of_nonneg h0
  have h' : (x.natAbs : Int) < ((2 ^ n : Nat) : Int) := by
    rw [e]
    push_cast
    exact h
  exact Int.ofNat_lt.mp h'
def spPool (K : PySem.W.Frag) : Sp := fun vs H Q _ => ∃ (a : Addr) (ns : List Int) (i : Nat), vs = [.ref a, .int (i : Int)] ∧ SqL K H a (ns.map V.int) ∧ i ≤ 1000 ∧ ns.length ≤ 63 ∧ ∀ p H', H p = none → Same H H' → RngOk H' p 0 → Q (.ref p) H'
theorem ok_pool {f : Addr} {fd : FuncData} (F : Fun K "_law_pool" "_law_pool" s_Lpool f fd) (T : Txt mg) (zm : mg "max" = none) : FnOk P w K mg base CX0 1 f fd ["_law_script", "_law_at"] (spPool K) := by
  refine F.ok sc_Lpool (fun vs H Q E h => ?_) (fun cdv A outer sh H vs Q E hr h => ?_)
  · obtain ⟨a, ns, i, rfl, _⟩ := h
    rfl
  · obtain ⟨a, ns, i, rfl, ha, hi, hl, q⟩ := h
    refine ⟨_, (pss_cons (ps_set (i := 2) sc_Lpool.nd rfl (by first | exact Or.inl rfl | exact Or.inr rfl) pe_int)
  (pss_cons (ps_if (pt_cmpR op_lt (pv 1) (pe_callB call_len_seq (by rfl) T.b_len PySem.boot_len (pa_cons (pv 0) pa_nil)) (nomark _))
    (pss_one (ps_set (i := 2) sc_Lpool.nd rfl (by first | exact Or.inl rfl | exact Or.inr rfl) (pe_ix ix_list (pv 0) (pv 1) (fun _ _ => rfl))))
    pss_nil)
  (pss_one (ps_ret (pe_lst (pa_cons (pe_callB (call_max2 rfl) (by rfl) zm (by decide +kernel) (pa_cons pe_int (pa_cons (pe_op op_sub (pe_callB call_abs (by rfl) T.b_abs (by decide +kernel) (pa_cons (pv 2) pa_nil)) (pe_op op_pow pe_int pe_int)) pa_nil))) (pa_cons (pe_op op_add (pe_op op_mod (pv 2) pe_int) (pe_op op_mulW pe_int (pe_op op_add (pv 1) pe_int))) (pa_cons pe_int pa_nil)))))))), ?_⟩
    have go : ∀ g : Int, ∀ l, H l = none → Q (.ref l) (upd H l (.lst [.int (if (if g < 0 then -g else g) - 10 ^ ((18 : Int).toNat) > 0 then (if g < 0 then -g else g) - 10 ^ ((18 : Int).toNat) else 0), .int (g % 2305843009213693951 + 3367900543 * ((i : Int) + 1)), .int 0])) := fun g l hl' => by
      refine q l _ hl' (snew hl') ⟨_, _, 0, upd_same, ?_, True.intro, ?_, ?_, by decide, by decide⟩
      · split <;> omega
      · have := Int.emod_nonneg g (show (2305843009213693951 : Int) ≠ 0 by decide)
        omega
      · have := Int.emod_lt_of_pos g pos2
        omega
    have wi : ((i : Int) + 1).natAbs < 2 ^ 100 := by omega
    have hp18 : (10 : Int).natAbs < 2 ^ 64 := by decide
    refine ⟨_, rfl, _, rfl, a, _, rfl, Or.inl ha, (i : Int), _, rfl, rfl, _, rfl, ?_⟩
    refine ite2 (fun h1 => ?_) (fun _ => ?_)
    · have h1 : (i : Int) < ((ns.map V.int).length : Int) := of_decide_eq_true h1
      obtain ⟨v, a1, a2, _⟩ := atI_in (xs := ns.map V.int) (i := (i : Int)) (by omega) h1
      obtain ⟨g, _, rfl⟩ := List.mem_map.mp a2
      refine ⟨_, rfl, _, rfl, a, _, _, _, rfl, rfl, ha, a1, ?_⟩
      exact ⟨_, rfl, g, rfl, 10, 18, rfl, rfl, ⟨by decide, by decide, by decide⟩, _, _, rfl, rfl, _, _, rfl, _, rfl, g, _, rfl, rfl, pos2, _, rfl, _, _, rfl, rfl, _, _, rfl, rfl, wide_mul (a := 100) (b := 100) (by decide) wi (by decide) (by decide) (by decide), _, _, rfl, rfl, (by show 3 ≤ sizeLine; decide), go g⟩
    · exact ⟨_, rfl, 0, rfl, 10, 18, rfl, rfl, ⟨by decide, by decide, by decide⟩, _, _, rfl, rfl, _, _, rfl, _, rfl, 0, _, rfl, rfl, pos2, _, rfl, _, _, rfl, rfl, _, _, rfl, rfl, wide_mul (a := 100) (b := 100) (by decide) wi (by decide) (by decide) (by decide), _, _, rfl, rfl, (by show 3 ≤ sizeLine; decide), go 0⟩
theorem pos6 : (0 : Int) < 2 := by decide
theorem ok_draw {f : Addr} {fd : FuncData} (F : Fun K "_law_draw" "_law_draw" s_Ldraw f fd) (T : Txt mg) : FnOk P w K mg base CX0 1 f fd ["_law_pool_here", "_law_many"] spDraw := by
  refine F.ok sc_Ldraw (fun vs H Q E h => ?_) (fun cdv A outer sh H vs Q E hr h => ?_)
  · obtain ⟨r, lim, m, rfl, _⟩ := h
    rfl
  · obtain ⟨r, lim, m, rfl, ⟨a, b, c, hR, N⟩, hm, l0, l1, q⟩ := h
    refine ⟨_, (pss_cons (ps_if (pt_cmpR op_gt (pe_ix ix_list (pv 0) pe_int (fun _ _ => rfl)) pe_int (nomark _))
    (pss_cons (ps_set (i := 2) sc_Ldraw.nd rfl (by first | exact Or.inl rfl | exact Or.inr rfl) (pe_op op_mod (pe_ix ix_list (pv 0) pe_int (fun _ _ => rfl)) (pv 1)))
    (pss_cons (ps_asg (pe_op op_fdivW (pe_ix ix_list (pv 0) pe_int (fun _ _ => rfl)) (pv 1)) (pg_sub (pv 0) pe_int set_list))
    (pss_one (ps_ret (pv 2)))))
    pss_nil)
  (pss_cons (ps_asg (pe_op op_add (pe_ix ix_list (pv 0) pe_int (fun _ _ => rfl)) pe_int) (pg_sub (pv 0) pe_int set_list))
  (pss_cons (ps_set (i := 3) sc_Ldraw.nd rfl (by first | exact Or.inl rfl | exact Or.inr rfl) (pe_op op_mod (pe_op op_pow5 (pe_op op_add (pe_ix ix_list (pv 0) pe_int (fun _ _ => rfl)) (pe_op op_mulW pe_int (pe_ix ix_list (pv 0) pe_int (fun _ _ => rfl)))) pe_int) pe_int))
  (pss_cons (ps_set (i := 3) sc_Ldraw.nd rfl (by first | exact Or.inl rfl | exact Or.inr rfl) (pe_op op_mod (pe_op op_pow5 (pe_op op_add (pv 3) (pe_op op_mulW pe_int (pe_ix ix_list (pv 0) pe_int (fun _ _ => rfl)))) pe_int) pe_int))
  (pss_one (ps_ret (pe_op op_mod (pe_op op_fdivW (pv 3) pe_int) (pv 1)))))))), ?_⟩
    have sq : SqL K H r [.int a, .int b, .int c] := Or.inl (Or.inl hR)
    refine ⟨_, rfl, r, _, 0, _, rfl, rfl, sq, rfl, a, 0, rfl, rfl, decide (0 < a), rfl, ?_⟩
    refine ite2 (fun h0 => ?_) (fun h0 => ?_)
    · have h0 : 0 < a := of_decide_eq_true h0
      refine ⟨_, rfl, r, _, 0, _, rfl, rfl, sq, rfl, _, rfl, a, lim, rfl, rfl, l0, ?_⟩
      refine ⟨_, rfl, r, _, 0, _, rfl, rfl, sq, rfl, _, rfl, a, lim, rfl, rfl, wide_div l0 l1 (by decide) (by decide), ?_⟩
      · refine ⟨_, rfl, r, _, 0, 0, rfl, rfl, hR, rfl, ?_⟩
        refine ⟨_, rfl, q _ _ (Int.emod_nonneg _ (Int.ne_of_gt l0)) (Int.emod_lt_of_pos _ l0) ⟨fun x hx => upd_ne hx, _, b, c, upd_same, ?_⟩⟩
        exact ⟨Int.ediv_nonneg N.a0 (Int.le_of_lt l0), True.intro, N.b0, N.b1, N.c0, by have := N.c1; omega⟩
    · have hc : (c + 1).natAbs < 2 ^ 100 := by
        have h1 := N.c0
        have h2 := N.c1
        omega
      have hcc : c + 1 ≤ ((m + 1 : Nat) : Int) := by
        have h2 := N.c1
        omega
      refine ⟨_, rfl, r, _, 2, _, rfl, rfl, sq, rfl, c, 1, rfl, rfl, _, rfl, r, _, 2, 2, rfl, rfl, hR, rfl, ?_⟩
      have dr : Dr r (m + 1) H (upd H r (.lst [.int a, .int b, .int (c + 1)])) := ⟨fun x hx => upd_ne hx, a, b, c + 1, upd_same, ⟨N.a0, N.a1, N.b0, N.b1, by have := N.c0; omega, hcc⟩⟩
      have hR' : (upd H r (.lst [.int a, .int b, .int (c + 1)])) r = some (.lst [.int a, .int b, .int (c + 1)]) := upd_same
      have sq2 : SqL K (upd H r (.lst [.int a, .int b, .int (c + 1)])) r [.int a, .int b, .int (c + 1)] := Or.inl (Or.inl hR')
      have c0 := N.c0
      have b0 := N.b0
      have b1 := N.b1
      have hc9 : c + 1 < 2 ^ 100 := by omega
      have w1 : (b + 15488653 * (c + 1)).natAbs < 2 ^ 1000000 := Nat.lt_of_lt_of_le (m := 2 ^ 200) (by omega) (Nat.pow_le_pow_right (by decide) (by decide))
      refine ⟨_, rfl, r, _, 1, _, rfl, rfl, sq2, rfl, _, rfl, r, _, 2, _, rfl, rfl, sq2, rfl, _, _, rfl, rfl, wide_mul (a := 100) (b := 100) (by decide) hc (by decide) (by decide) (by decide), _, _, rfl, rfl, _, 3, rfl, rfl, ⟨by decide, by decide, w1⟩, _, _, rfl, rfl, pos3, ?_⟩
      have x0 := Int.emod_nonneg ((b + 15488653 * (c + 1)) ^ 3) (Int.ne_of_gt pos3)
      have x1 := Int.emod_lt_of_pos ((b + 15488653 * (c + 1)) ^ 3) pos3
      have w2 : ((b + 15488653 * (c + 1)) ^ 3 % 162259276829213363391578010288127 + 32454427 * (c + 1)).natAbs < 2 ^ 1000000 := Nat.lt_of_lt_of_le (m := 2 ^ 200) (by omega) (Nat.pow_le_pow_right (by decide) (by decide))
      refine ⟨_, rfl, _, rfl, r, _, 2, _, rfl, rfl, sq2, rfl, _, _, rfl, rfl, wide_mul (a := 100) (b := 100) (by decide) hc (by decide) (by decide) (by decide), _, _, rfl, rfl, _, 5, rfl, rfl, ⟨by decide, by decide, w2⟩, _, _, rfl, rfl, pos4, ?_⟩
      refine ⟨_, rfl, _, _, rfl, rfl, wide_div pos5 (b := 100) (by decide) (by decide) (by decide), _, rfl, _, lim, rfl, rfl, l0, ?_⟩
      exact q _ _ (Int.emod_nonneg _ (Int.ne_of_gt l0)) (Int.emod_lt_of_pos _ l0) dr
end
end Fr

namespace Fr
open PySem PySem.Spec PyProof.Rows L2
/-- all but one place -/
def cutr (H : Hp) (r : Addr) : Hp := fun b => if b = r then none else H b
theorem cutr_ne {H : Hp} {r b : Addr} (h : b ≠ r) : cutr H r b = H b := if_neg h
theorem RS.cut {r : Addr} {m : Nat} {H : Hp} (h : RngOk H r m) : RS r m (cutr H r) H := ⟨fun b o e => by
  unfold cutr at e
  split at e
  · cases e
  · exact e, if_pos rfl, h⟩
section
variable {P : Program} {w : World} {K : PySem.W.Frag} {mg : Str → Option Value} {base : Heap}
def Good (d : PyData) : Prop := d.canLay0 = true ∧ d.depth ≤ 30
theorem goods : ∀ {ds : List PyData}, (∀ d ∈ ds, Good d) → PyData.canLayAll0 ds = true ∧ PyData.depthAll ds ≤ 30
  | [], _ => ⟨by simp [PyData.canLayAll0], by simp [PyData.depthAll]⟩
  | d :: ds, h => by
    obtain ⟨h1, h2⟩ := h d List.mem_cons_self
    obtain ⟨h3, h4⟩ := goods fun e he => h e (List.mem_cons_of_mem _ he)
    exact ⟨by simp [PyData.canLayAll0, h1, h3], by simp [PyData.depthAll]; omega⟩
theorem shaped_list {ds : List PyData} (h : ∀ d ∈ ds, Good d) : SeqAt.shaped (.list ds) = true := by
  obtain ⟨h1, h2⟩ := goods h
  unfold SeqAt.shaped
  rw [Bool.and_eq_true]
  refine ⟨by simpa [PyData.canLay0] using h1, decide_eq_true ?_⟩
  simp [PyData.depth]
  omega
theorem eqv_nil (ds : List PyData) : PyData.eqv (.list ds) (.list []) = ds.isEmpty := by
  cases ds <;> simp [PyData.eqv, PyData.eqvAll]
theorem dps_erase : ∀ {H : Hp} {ds : List PyData} {vs : List V} {k : Nat}, DpAll K H vs ds → DpAll K H (vs.eraseIdx k) (ds.eraseIdx k)
  | _, [], _, _, h => by cases h; exact .nil
  | _, d :: ds, _, 0, h => by
    cases h with
    | cons h1 h2 => exact h2
  | _, d :: ds, _, k + 1, h => by
    cases h with
    | cons h1 h2 => exact .cons h1 (dps_erase h2)
theorem perm_erase {α : Type} : ∀ {xs : List α} {k : Nat} {x : α}, xs[k]? = some x → List.Perm xs (x :: xs.eraseIdx k)
  | [], _, _, h => by cases h
  | y :: xs, 0, x, h => by cases h; exact .refl _
  | y :: xs, k + 1, x, h => by
    have := perm_erase (xs := xs) (k := k) (x := x) (by simpa using h)
    exact (this.cons y).trans (.swap _ _ _)
end
end Fr

namespace Fr
open PySem PySem.Spec PyProof.Rows L2
/-- a statement, up to what holds behind it -/
def tCsq (t : TS) : TS := fun D σ H => ∃ N : L2.St → Hp → Prop, (∀ σ H, N σ H → D.nx σ H) ∧ t { D with nx := N } σ H
theorem ps_csq {X : Cx} {st : Stmt} {t : TS} (h : PS X st t) : PS X st (tCsq t) := ⟨fun pins s σ H D I ⟨N, hN, q⟩ => thn (h.run pins s σ H _ I q) fun f s2 q2 => by
  cases f with
  | next =>
    obtain ⟨σ3, H3, I3, n3⟩ := q2
    exact ⟨σ3, H3, I3, hN _ _ n3⟩
  | cont => exact q2
  | brk => exact q2
  | ret v => exact q2⟩
def W0 : List Str := ["a", "b", "c", "ab", "zz", "readhere"]
def row5 (x : Str) : Str := "row" ++ cutS x none (some 5)
theorem W0_names : ∀ x ∈ W0, isName x = true ∧ isName (row5 x) = true ∧ x.length ≤ 8 ∧ PyData.strOk x = true ∧ PyData.strOk (row5 x) = true ∧ (cutS x none (some 5)).length ≤ 5 := by decide +kernel
theorem W0_nodup : W0.Nodup := by decide +kernel
theorem W0_nodup5 : (W0.map row5).Nodup := by decide +kernel
/-- what words may be -/
structure Words (ws : List Str) (n : Nat) : Prop where
  len : ws.length = n
  nodup : ws.Nodup
  names : ∀ x ∈ ws, isName x = true
  oks : ∀ x ∈ ws, PyData.strOk x = true
  src : (∀ x ∈ ws, x ∈ W0) ∨ ∀ x ∈ ws, x ∈ W0.map row5
def unstr : PyData → Str
  | .str x => x
  | _ => Str.empty
theorem perm_words {es : List PyData} (h : List.Perm (W0.map PyData.str) es) : ∃ ws, es = ws.map PyData.str ∧ List.Perm W0 ws := by
  refine ⟨es.map unstr, ?_, ?_⟩
  · rw [List.map_map]
    refine (List.map_id es).symm.trans (List.map_congr_left fun e he => ?_)
    obtain ⟨x, _, rfl⟩ := List.mem_map.mp (h.mem_iff.mpr he)
    rfl
  · have := h.map unstr
    rw [List.map_map] at this
    have e : W0.map (unstr ∘ PyData.str) = W0 := by
      refine (List.map_congr_left fun e he => ?_).trans (List.map_id W0)
      rfl
    rw [e] at this
    exact this
theorem nthsf (l : List Str) (g : Str → Str) : (List.range l.length).map (fun i => V.str (g (nth l i))) = (l.map g).map V.str := by
  have := range_map_get ((l.map g).map V.str) (fun i => V.str (g (nth l i))) (fun i b hb => by
    rw [List.getElem?_map, List.getElem?_map] at hb
    obtain ⟨c, h1, h2⟩ := Option.map_eq_some_iff.mp hb
    obtain ⟨c', h3, h4⟩ := Option.map_eq_some_iff.mp h1
    rw [nth_of h3, h4]
    exact h2)
  rw [List.length_map, List.length_map] at this
  exact this
theorem RS.grow {r : Addr} {m : Nat} {B H H' : Hp} (h : RS r m B H) (e : Same H H') : RS r m B H' := ⟨same_tr h.s e, h.n, by
  obtain ⟨o, ho⟩ := h.ok.some
  exact h.ok.at (by rw [ho, e _ _ ho])⟩
section
variable {P : Program} {w : World} {K : PySem.W.Frag} {mg : Str → Option Value} {base : Heap}
theorem strs_dps {H : Hp} : ∀ (xs : List Str), DpAll K H (xs.map V.str) (xs.map PyData.str)
  | [] => .nil
  | x :: xs => .cons (.str x) (strs_dps xs)
theorem dps_strs {H : Hp} : ∀ {xs : List Str} {vs : List V}, DpAll K H vs (xs.map PyData.str) → vs = xs.map V.str
  | [], _, h => by cases h; rfl
  | n :: ns, _, h => by
    cases h with
    | cons h1 h2 => cases h1; rw [dps_strs h2]; rfl
structure Row1 where
  t : Addr
  w : Str
  c : Int
  l : Addr
  rs : List Rd1
def Row1.tb (y : Row1) : Tb := ⟨y.w, y.c, y.rs⟩
structure RowsAt (K : PySem.W.Frag) (B H : Hp) (r : Addr) (rows : List Row1) : Prop where
  at_ : ∀ (i : Nat) (y : Row1), rows[i]? = some y → SqT K B y.t [.str y.w, .int y.c, .ref y.l] ∧ B y.l = none ∧ r ≠ y.l ∧ ∃ xs, H y.l = some (.lst xs) ∧ DpAll K B xs (y.rs.map Rd1.d)
  inj : ∀ (i j : Nat) (y z : Row1), rows[i]? = some y → rows[j]? = some z → y.l = z.l → i = j
theorem RowsAt.step {B B' H H' : Hp} {r : Addr} {rows : List Row1} (h : RowsAt K B H r rows) (e : Same B B') (f : ∀ (i : Nat) (y : Row1), rows[i]? = some y → B' y.l = none ∧ H' y.l = H y.l) : RowsAt K B' H' r rows :=
  ⟨fun i y hy => by
    obtain ⟨a1, a2, a3, xs, a4, a5⟩ := h.at_ i y hy
    obtain ⟨b1, b2⟩ := f i y hy
    exact ⟨sqt e a1, b1, a3, xs, by rw [b2, a4], dpsm e _ _ a5⟩, h.inj⟩
theorem get_snoc {α : Type} {xs : List α} {x y : α} {i : Nat} (h : (xs ++ [x])[i]? = some y) : (xs[i]? = some y ∧ i < xs.length) ∨ (i = xs.length ∧ y = x) := by
  by_cases hi : i < xs.length
  · rw [List.getElem?_append_left hi] at h
    exact .inl ⟨h, hi⟩
  · rw [List.getElem?_append_right (by omega)] at h
    have : i - xs.length = 0 := by
      by_cases h0 : i - xs.length = 0
      · exact h0
      · rw [List.getElem?_eq_none (by simp; omega)] at h
        cases h
    rw [this] at h
    cases h
    exact .inr ⟨by omega, rfl⟩
theorem RowsAt.snoc {B H : Hp} {r : Addr} {rows : List Row1} {y : Row1} (h : RowsAt K B H r rows) (a : SqT K B y.t [.str y.w, .int y.c, .ref y.l]) (b : B y.l = none) (c : r ≠ y.l) (d : H y.l = some (.lst [])) (e : y.rs = []) (n : ∀ (i : Nat) (z : Row1), rows[i]? = some z → z.l ≠ y.l) : RowsAt K B H r (rows ++ [y]) :=
  ⟨fun i z hz => by
    rcases get_snoc hz with ⟨h1, _⟩ | ⟨_, rfl⟩
    · exact h.at_ i z h1
    · exact ⟨a, b, c, [], d, by rw [e]; exact .nil⟩, fun i j y' z hy hz hl => by
    rcases get_snoc hy with ⟨h1, k1⟩ | ⟨k1, rfl⟩ <;> rcases get_snoc hz with ⟨h2, k2⟩ | ⟨k2, rfl⟩
    · exact h.inj i j _ _ h1 h2 hl
    · exact absurd hl (n _ _ h1)
    · exact absurd hl.symm (n _ _ h2)
    · omega⟩
theorem get_set {α : Type} {xs : List α} {x y : α} {i j : Nat} (h : (xs.set j x)[i]? = some y) : (i = j ∧ y = x) ∨ (i ≠ j ∧ xs[i]? = some y) := by
  by_cases hi : j = i
  · subst hi
    rw [List.getElem?_set_self'] at h
    cases hx : xs[j]? with
    | none =>
      rw [hx] at h
      cases h
    | some z =>
      rw [hx] at h
      cases h
      exact .inl ⟨rfl, rfl⟩
  · rw [List.getElem?_set_ne hi] at h
    exact .inr ⟨fun e => hi e.symm, h⟩
theorem map_set_same {α β : Type} {xs : List α} {x y : α} {j : Nat} {f : α → β} (h : xs[j]? = some y) (e : f x = f y) : (xs.set j x).map f = xs.map f := by
  rw [List.map_set, e]
  refine List.ext_getElem? fun i => ?_
  by_cases hi : j = i
  · subst hi
    rw [List.getElem?_set_self', List.getElem?_map, h]
    rfl
  · rw [List.getElem?_set_ne hi]
theorem sum_set {α : Type} {f : α → Nat} : ∀ {xs : List α} {x y : α} {j : Nat}, xs[j]? = some y → f x = f y + 1 → ((xs.set j x).map f).sum = (xs.map f).sum + 1
  | [], _, _, _, h, _ => by cases h
  | z :: xs, x, y, 0, h, e => by
    cases h
    simp [e]
    omega
  | z :: xs, x, y, j + 1, h, e => by
    have := sum_set (xs := xs) (x := x) (y := y) (j := j) (by simpa using h) e
    rw [List.set_cons_succ, List.map_cons, List.map_cons, List.sum_cons, List.sum_cons, this]
    omega
/-- a read more at the j-th row -/
theorem RowsAt.put {B H : Hp} {r : Addr} {rows : List Row1} {y : Row1} {j : Nat} {rd : Rd1} {v : V} {xs : List V} (h : RowsAt K B H r rows) (e : rows[j]? = some y) (hx : H y.l = some (.lst xs)) (hv : Dp K B v rd.d) :
    RowsAt K B (upd H y.l (.lst (xs ++ [v]))) r (rows.set j { y with rs := y.rs ++ [rd] }) :=
  ⟨fun i z hz => by
    rcases get_set hz with ⟨rfl, rfl⟩ | ⟨ne, hz⟩
    · obtain ⟨a1, a2, a3, xs', a4, a5⟩ := h.at_ _ y e
      rw [hx] at a4
      cases a4
      refine ⟨a1, a2, a3, xs ++ [v], upd_same, ?_⟩
      show DpAll K B (xs ++ [v]) ((y.rs ++ [rd]).map Rd1.d)
      rw [List.map_append]
      exact dps_snoc a5 hv
    · obtain ⟨a1, a2, a3, xs', a4, a5⟩ := h.at_ _ z hz
      refine ⟨a1, a2, a3, xs', ?_, a5⟩
      rw [upd_ne fun hl => ne (h.inj i j z y hz e hl)]
      exact a4, fun i i' z z' hz hz' hl => by
    rcases get_set hz with ⟨rfl, rfl⟩ | ⟨ne, hz1⟩ <;> rcases get_set hz' with ⟨rfl, rfl⟩ | ⟨ne', hz2⟩
    · rfl
    · exact h.inj _ _ y z' e hz2 hl
    · exact h.inj _ _ z y hz1 e hl
    · exact h.inj _ _ z z' hz1 hz2 hl⟩
theorem RowsAt.dr {B H H' : Hp} {r : Addr} {m : Nat} {rows : List Row1} (h : RowsAt K B H r rows) (d : Dr r m H H') : RowsAt K B H' r rows := h.step same_refl fun j y hy => ⟨(h.at_ j y hy).2.1, d.ne _ (h.at_ j y hy).2.2.1.symm⟩
theorem RowsAt.new {B H : Hp} {r p : Addr} {o : HO} {rows : List Row1} (h : RowsAt K B H r rows) (e : H p = none) : RowsAt K B (upd H p o) r rows := h.step same_refl fun j y hy => by
  obtain ⟨a1, a2, a3, xs, a4, a5⟩ := h.at_ j y hy
  exact ⟨a2, upd_ne (ne_of_none a4 e)⟩
theorem dps_of {α : Type} {H : Hp} {f : α → V} {g : α → PyData} : ∀ {xs : List α}, (∀ x ∈ xs, Dp K H (f x) (g x)) → DpAll K H (xs.map f) (xs.map g)
  | [], _ => .nil
  | x :: xs, h => .cons (h x List.mem_cons_self) (dps_of fun y hy => h y (List.mem_cons_of_mem _ hy))
theorem yes_if {σ : L2.St} {H : Hp} {A B : Hp → Prop} (h : A H) : tYes σ H (fun b H3 => if b = true then A H3 else B H3) := by
  show (if true = true then A H else B H)
  rw [if_pos rfl]
  exact h
theorem mem_le_sum {α : Type} {f : α → Nat} : ∀ {xs : List α} {x : α}, x ∈ xs → f x ≤ (xs.map f).sum
  | [], _, h => by cases h
  | y :: xs, x, h => by
    rw [List.map_cons, List.sum_cons]
    rcases List.mem_cons.mp h with rfl | h
    · omega
    · have := mem_le_sum (f := f) h
      omega
theorem sum_zero {α : Type} {f : α → Nat} : ∀ {xs : List α}, (∀ x ∈ xs, f x = 0) → (xs.map f).sum = 0
  | [], _ => rfl
  | x :: xs, h => by
    rw [List.map_cons, List.sum_cons, h x List.mem_cons_self, sum_zero fun y hy => h y (List.mem_cons_of_mem _ hy)]
theorem RS.vec {r q : Addr} {m m' : Nat} {B H H' : Hp} {o : HO} (h : RS r m B H) (e : RS r m' (upd (cutr H r) q o) H') (n : cutr H r q = none) (k : r ≠ q) : RS r m' (upd B q o) H' ∧ B q = none ∧ H q = none ∧ ∀ b, b ≠ r → H b ≠ none → H' b = H b := by
  have hq : H q = none := by
    rw [cutr_ne k.symm] at n
    exact n
  have keep : ∀ b, b ≠ r → H b ≠ none → H' b = H b := fun b nb hb => by
    cases ho : H b with
    | none => exact absurd ho hb
    | some o' =>
      refine e.s b o' ?_
      rw [upd_ne (ne_of_none ho hq), cutr_ne nb]
      exact ho
  refine ⟨⟨fun b x hx => ?_, by rw [upd_ne k]; exact h.n, e.ok⟩, free_of h.s hq, hq, keep⟩
  by_cases hb : b = q
  · rw [hb, upd_same] at hx
    rw [hb]
    exact e.s q x (by rw [upd_same]; exact hx)
  · rw [upd_ne hb] at hx
    have hH := h.s b x hx
    rw [keep b (ne_of_none hx h.n) (by rw [hH]; exact fun z => by cases z)]
    exact hH
/-- a list of data that may still be changed -/
def LD (K : PySem.W.Frag) (H : Hp) (l : Addr) (ds : List PyData) : Prop := ∃ xs, H l = some (.lst xs) ∧ DpAll K H xs ds
theorem LD.dp {H : Hp} {l : Addr} {ds : List PyData} (h : LD K H l ds) : Dp K H (.ref l) (.list ds) := by
  obtain ⟨xs, h1, h2⟩ := h
  exact .lst (Or.inl (Or.inl h1)) h2
theorem LD.grow {H H' : Hp} {l : Addr} {ds : List PyData} (h : LD K H l ds) (e : Same H H') : LD K H' l ds := by
  obtain ⟨xs, h1, h2⟩ := h
  exact ⟨xs, e _ _ h1, dpsm e _ _ h2⟩
/-- numbers within bounds -/
structure SmT (t : Tb) : Prop where
  c : -99 ≤ t.c ∧ t.c ≤ 99
  f : ∀ rd ∈ t.rs, -10 ≤ rd.f ∧ rd.f ≤ 10
  v : ∀ rd ∈ t.rs, ∀ x ∈ rd.v, -1000 ≤ x ∧ x ≤ 1000
end
end Fr

namespace Fr
open PySem PySem.Spec PyProof.Rows L2
/-- a read of the laws: who, its number, whom, the vector -/
structure RowP where
  w : Str
  n : Nat
  o : Str
  v : List Int
def RowP.d (y : RowP) : PyData := .tuple [.str y.w, .int (y.n : Int), .str y.o, .tuple (y.v.map .int)]
theorem dps4 {K : PySem.W.Frag} {H : Hp} {a b c e : PyData} {vs : List V} (h : DpAll K H vs [a, b, c, e]) : ∃ x y z u, vs = [x, y, z, u] ∧ Dp K H x a ∧ Dp K H y b ∧ Dp K H z c ∧ Dp K H u e := by
  cases h with
  | cons h1 h =>
    obtain ⟨y, z, u, rfl, h2, h3, h4⟩ := dps3 h
    exact ⟨_, _, _, _, rfl, h1, h2, h3, h4⟩
theorem row_at {K : PySem.W.Frag} {H : Hp} {xs : List V} {rows : List RowP} {i : Nat} {x : V} (h : DpAll K H xs (rows.map RowP.d)) (e : xs[i]? = some x) : ∃ y a b, rows[i]? = some y ∧ x = .ref a ∧ SqT K H a [.str y.w, .int (y.n : Int), .str y.o, .ref b] ∧ SqT K H b (y.v.map V.int) := by
  obtain ⟨d, e1, e2⟩ := dps_get h e
  rw [List.getElem?_map] at e1
  obtain ⟨y, e3, rfl⟩ := Option.map_eq_some_iff.mp e1
  obtain ⟨a, zs, rfl, ht, hd⟩ := dtup e2
  obtain ⟨z1, z2, z3, z4, rfl, h1, h2, h3, h4⟩ := dps4 hd
  obtain rfl := dstr h1
  obtain rfl := dint h2
  obtain rfl := dstr h3
  obtain ⟨b, ys, rfl, hb, hy⟩ := dtup h4
  obtain rfl := dps_ints hy
  exact ⟨y, a, b, e3, rfl, ht, hb⟩
theorem good_row (y : RowP) (h1 : PyData.strOk y.w = true) (h2 : PyData.strOk y.o = true) : Good y.d := by
  have hi : ∀ ns : List Int, PyData.canLayAll0 (ns.map PyData.int) = true ∧ PyData.depthAll (ns.map PyData.int) = 0 := by
    intro ns
    induction ns with
    | nil => exact ⟨by simp [PyData.canLayAll0], by simp [PyData.depthAll]⟩
    | cons n ns ih => exact ⟨by simp [PyData.canLayAll0, PyData.canLay0, ih.1], by simp [PyData.depthAll, PyData.depth, ih.2]⟩
  unfold RowP.d
  exact ⟨by simp [PyData.canLay0, PyData.canLayAll0, h1, h2, hi], by simp [PyData.depth, PyData.depthAll, hi]⟩
abbrev s_Lvector : Stmt := topS 34
theorem sc_Lvector : FnScope ["_law_pool_here", "_law_axes", "_law_rows_here", "_law_found", "_law_axis", "_law_part"] ["_law_pool_here", "_law_axes", "_law_rows_here"] (defScope s_Lvector) := ⟨rfl, rfl, rfl, by decide +kernel, rfl, by decide +kernel, by decide +kernel⟩
-- slots: 0 _law_pool_here, 1 _law_axes, 2 _law_rows_here, 3 _law_found, 4 _law_axis, 5 _law_part
section
variable {P : Program} {w : World} {K : PySem.W.Frag} {mg : Str → Option Value} {base : Heap}
def Five (v : List Int) : Prop := ∀ x ∈ v, -5 ≤ x ∧ x ≤ 5
def spVec (K : PySem.W.Frag) : Sp := fun vs H Q _ => ∃ (r lr : Addr) (ax : Int) (m : Nat) (B : Hp) (rows : List RowP), vs = [.ref r, .int ax, .ref lr] ∧ RS r m B H ∧ 1 ≤ ax ∧ ax ≤ 3 ∧ LD K B lr (rows.map RowP.d) ∧ (∀ y ∈ rows, (y.v.length : Int) = ax ∧ Five y.v ∧ PyData.strOk y.w = true ∧ PyData.strOk y.o = true) ∧ rows.length ≤ 100 ∧ m ≤ 2 ^ 59 ∧
  ∀ p H' (v : List Int), B p = none → r ≠ p → (v.length : Int) = ax → Five v → RS r (m + 20) (upd B p (.tup (v.map V.int))) H' → Q (.ref p) H'
theorem ok_vec {f : Addr} {fd : FuncData} (F : Fun K "_law_vector" "_law_vector" s_Lvector f fd) (T : Txt mg) (zm : mg "max" = none) (c_Ldraw : C8.Cal P w K mg base 1 "_law_draw" spDraw []) : FnOk P w K mg base CX0 2 f fd ["_law_pool_here", "_law_axes", "_law_rows_here"] (spVec K) := by
  refine F.ok sc_Lvector (fun vs H Q E h => ?_) (fun cdv A outer sh H vs Q E hr h => ?_)
  · obtain ⟨r, lr, ax, m, B, rows, rfl, _⟩ := h
    rfl
  · obtain ⟨r, lr, ax, m, B, rows, rfl, R, ha1, ha3, hrw, hrows, hlen, hm, q⟩ := h
    refine ⟨_, (pss_cons (ps_setLc (i := 3) (own := [("_law_axis", 4)]) (g := gName 4) (tt := tYes) (by rfl) sc_Lvector.nd rfl rfl (sw_true rfl rfl rfl (by decide +kernel)) (pi_range1 (by rfl) T.b_range (pa_cons (pv 1) pa_nil)) (blkOk_by (N := ["_law_pool_here", "_law_axes", "_law_rows_here", "_law_found", "_law_axis", "_law_part"]) (sc := defScope s_Lvector) (by decide +kernel)) (fun _ _ _ _ _ => (pg_name (i := 4) sc_Lvector.nd rfl (by first | exact Or.inl rfl | exact Or.inr rfl))) (fun _ _ _ _ _ => pts_nil) (fun _ _ _ _ _ => (pe_ix (r := rIxL K) ix_list (pe_lst (pa_cons pe_int (pa_cons pe_int (pa_cons pe_int (pa_cons (pe_un un_neg pe_int) (pa_cons pe_int (pa_cons (pe_un un_neg pe_int) (pa_cons pe_int (pa_cons (pe_op op_sub (C8.pe_c c_Ldraw hr (by decide) (by rfl) (pa_cons (pv 0) (pa_cons pe_int pa_nil))) pe_int) pa_nil))))))))) (C8.pe_c c_Ldraw hr (by decide) (by rfl) (pa_cons (pv 0) (pa_cons pe_int pa_nil))) (fun _ _ => rfl))))
  (pss_cons (ps_if (PW.pt (pw_and (pt_cmpR (op_neD hr.units) (pv 2) (pe_lst pa_nil) (nomark _)) (pw_and1 (pt_cmpR op_eq (C8.pe_c c_Ldraw hr (by decide) (by rfl) (pa_cons (pv 0) (pa_cons pe_int pa_nil))) pe_int (nomark _)))))
    (pss_cons (ps_setLc (i := 3) (own := [("_law_part", 5)]) (g := gName 5) (tt := tYes) (by rfl) sc_Lvector.nd rfl rfl (sw_true rfl rfl rfl (by decide +kernel)) (pi_tup (pe_ix ix_tup (pe_ix ix_list (pv 2) (C8.pe_c c_Ldraw hr (by decide) (by rfl) (pa_cons (pv 0) (pa_cons (pe_callB call_len_seq (by rfl) T.b_len PySem.boot_len (pa_cons (pv 2) pa_nil)) pa_nil))) (fun _ _ => rfl)) pe_int (fun _ _ => rfl))) (blkOk_by (N := ["_law_pool_here", "_law_axes", "_law_rows_here", "_law_found", "_law_axis", "_law_part"]) (sc := defScope s_Lvector) (by decide +kernel)) (fun _ _ _ _ _ => (pg_name (i := 5) sc_Lvector.nd rfl (by first | exact Or.inl rfl | exact Or.inr rfl))) (fun _ _ _ _ _ => pts_nil) (fun _ _ _ _ _ => (pe_op op_sub pe_int (pv 5))))
    (pss_one (ps_if (pt_cmpR op_eq (C8.pe_c c_Ldraw hr (by decide) (by rfl) (pa_cons (pv 0) (pa_cons pe_int pa_nil))) pe_int (nomark _))
      (pss_cons (ps_set (i := 4) sc_Lvector.nd rfl (by first | exact Or.inl rfl | exact Or.inr rfl) (C8.pe_c c_Ldraw hr (by decide) (by rfl) (pa_cons (pv 0) (pa_cons (pv 1) pa_nil))))
      (pss_one (ps_asg (pe_callB (call_max2 rfl) (by rfl) zm (by decide +kernel) (pa_cons (pe_un un_neg pe_int) (pa_cons (pe_callB (call_min2 rfl) (by rfl) T.b_min (by decide +kernel) (pa_cons pe_int (pa_cons (pe_op op_add (pe_ix ix_list (pv 3) (pv 4) (fun _ _ => rfl)) pe_int) pa_nil))) pa_nil))) (pg_sub (pv 3) (pv 4) set_list))))
      pss_nil)))
    pss_nil)
  (pss_one (ps_ret (pe_callTy call_tuple_of (by rfl) T.b_tuple (by decide +kernel) (pa_cons (pv 3) pa_nil)))))), ?_⟩
    refine ⟨_, rfl, ax, rfl, by omega, by omega, fun D hD => ?_⟩
    have bD := free_of R.s hD
    have rD := R.ne hD
    refine lc_it walk_range (fun i H' => ∃ xs : List Int, xs.length = i ∧ Five xs ∧ H' D = some (.lst (xs.map V.int)) ∧ RS r (m + 2 * i) B H') ⟨[], rfl, (by intro x hx; cases hx), upd_same, R.new hD⟩ (fun _ _ _ _ => True.intro) ?_ ?_
    · rintro i y _ H1 hi ⟨xs, e1, e2, e3, e4⟩ ⟨rfl, rfl⟩
      have hi3 : i < 3 := by omega
      refine ⟨rfl, yes_if ?_⟩
      refine ⟨1, rfl, 2, rfl, _, rfl, r, 11, _, rfl, e4.ok, by omega, by decide, by decide, fun d1 H2 d10 d11 D1 => ⟨_, _, rfl, rfl, (by show 8 ≤ sizeLine; decide), fun p hp => ?_⟩⟩
      have R2 := e4.dr D1
      have D2 : H2 D = some (.lst (xs.map V.int)) := by rw [D1.ne _ rD.symm]; exact e3
      have R3 := R2.new (o := .lst ([0, 0, 1, -1, 1, -2, 2, d1 - 5].map V.int)) hp
      have D3 : (upd H2 p (.lst ([0, 0, 1, -1, 1, -2, 2, d1 - 5].map V.int))) D = some (.lst (xs.map V.int)) := snew hp _ _ D2
      have p3 : (upd H2 p (.lst ([0, 0, 1, -1, 1, -2, 2, d1 - 5].map V.int))) p = some (.lst ([0, 0, 1, -1, 1, -2, 2, d1 - 5].map V.int)) := upd_same
      refine ⟨_, rfl, r, 8, _, rfl, R3.ok, by omega, by decide, by decide, fun d2 H4 d20 d21 D4 => ?_⟩
      have R4 := R3.dr D4
      have D5 : H4 D = some (.lst (xs.map V.int)) := by rw [D4.ne _ rD.symm]; exact D3
      have p4 : H4 p = some (.lst ([0, 0, 1, -1, 1, -2, 2, d1 - 5].map V.int)) := by rw [D4.ne _ (R2.ne hp).symm]; exact p3
      obtain ⟨v, a1, a2, _⟩ := atI_in (xs := [0, 0, 1, -1, 1, -2, 2, d1 - 5].map V.int) d20 d21
      obtain ⟨n, hn, rfl⟩ := List.mem_map.mp a2
      have hnb : -5 ≤ n ∧ n ≤ 5 := by
        simp only [List.mem_cons, List.not_mem_nil, or_false] at hn
        omega
      refine ⟨p, _, d2, .int n, rfl, rfl, Or.inl (Or.inl p4), a1, ?_⟩
      refine ⟨_, D5, small1000 (by rw [List.length_map]; omega), xs ++ [n], by rw [List.length_append, e1]; rfl, ?_, by rw [upd_same, List.map_append]; rfl, (R4.put bD rD).mono (by omega)⟩
      intro x hx
      rcases List.mem_append.mp hx with h | h
      · exact e2 x h
      · rw [List.mem_singleton.mp h]
        exact hnb
    · rintro H1 ⟨xs, e1, e2, e3, e4⟩
      have e4 := e4.mono (show m + 2 * ax.toNat ≤ m + 6 by omega)
      have e1 : (xs.length : Int) = ax := by omega
      obtain ⟨rx, r1, r2⟩ := id hrw
      have hxl : rx.length = rows.length := by rw [dps_len r2, List.length_map]
      -- the end
      have fin : ∀ (D : Addr) (H2 : Hp) (xs : List Int) (k : Nat), B D = none → r ≠ D → H2 D = some (.lst (xs.map V.int)) → (xs.length : Int) = ax → Five xs → RS r (m + k) B H2 → k ≤ 20 → ∃ (a : Addr) (ys : List V), [V.ref D] = [V.ref a] ∧ ((SqL K H2 a ys ∧ ∀ l, H2 l = none → Q (.ref l) (upd H2 l (.tup ys))) ∨ (SqT K H2 a ys ∧ Q (.ref a) H2)) := fun D H2 xs k b1 b2 b3 b4 b5 b6 b7 =>
        ⟨D, _, rfl, Or.inl ⟨Or.inl (Or.inl b3), fun l hl => q l _ xs (free_of b6.s hl) (b6.ne hl) b4 b5 (((b6.new hl).keep upd_same (free_of b6.s hl) (b6.ne hl)).mono (by omega))⟩⟩
      refine ⟨_, rfl, Nat.zero_le _, fun p hp => ⟨.list (rows.map RowP.d), .list [], .lst (Or.inl (Or.inl (snew hp _ _ (e4.s _ _ r1)))) (dpsm (same_tr e4.s (snew hp)) _ _ r2), .lst (Or.inl (Or.inl upd_same)) .nil, shaped_list (fun d hd => by
        obtain ⟨y, hy, rfl⟩ := List.mem_map.mp hd
        exact good_row y (hrows y hy).2.2.1 (hrows y hy).2.2.2), shaped_list (by intro d h; cases h), _, rfl, ?_⟩⟩
      rw [eqv_nil]
      have D1 : (upd H1 p (.lst [])) D = some (.lst (xs.map V.int)) := snew hp _ _ e3
      have R1 : RS r (m + 6) B (upd H1 p (.lst [])) := e4.new hp
      generalize upd H1 p (.lst []) = H2 at D1 R1
      clear e3 e4
      cases hrows0 : rows with
      | nil =>
        refine iteF ?_
        exact ⟨_, rfl, fin D H2 xs 6 bD rD D1 e1 e2 R1 (by decide)⟩
      | cons y0 ys0 =>
        rw [← hrows0]
        have hpos : 0 < rows.length := by rw [hrows0]; exact Nat.succ_pos _
        have hne : (rows.map RowP.d).isEmpty = false := by rw [hrows0]; rfl
        rw [hne]
        refine iteT ?_
        refine ⟨_, rfl, r, 3, _, rfl, R1.ok, by omega, by decide, by decide, fun d3 H3 d30 d31 D3 => ⟨rfl, _, rfl, ?_⟩⟩
        have R3 := R1.dr D3
        have Da : H3 D = some (.lst (xs.map V.int)) := by rw [D3.ne _ rD.symm]; exact D1
        refine ite2 (fun _ => ?_) (fun _ => ⟨_, rfl, fin D H3 xs (6 + 1) bD rD Da e1 e2 R3 (by decide)⟩)
        refine ⟨_, rfl, _, rfl, _, rfl, lr, rx, rfl, Or.inl (Or.inl (Or.inl (R3.s _ _ r1))), r, _, _, rfl, R3.ok, by omega, by omega, by omega, fun d4 H4 d40 d41 D4 => ?_⟩
        have R4 := R3.dr D4
        obtain ⟨vy, a1, a2, a3⟩ := atI_in (xs := rx) d40 d41
        obtain ⟨y, ya, yb, b1, rfl, b2, b3⟩ := row_at r2 a3
        have hy := hrows y (List.mem_of_getElem? b1)
        refine ⟨lr, rx, d4, _, rfl, rfl, Or.inl (Or.inl (R4.s _ _ r1)), a1, ya, _, 3, _, rfl, rfl, sqt R4.s b2, rfl, yb, rfl, ⟨_, sqt R4.s b3⟩, fun E hE => ?_⟩
        have bE := free_of R4.s hE
        have rE := R4.ne hE
        refine lc_it (walk_tup (K := K) (a := yb) (xs := y.v.map V.int)) (fun i H' => ∃ zs : List Int, zs.length = i ∧ Five zs ∧ H' E = some (.lst (zs.map V.int)) ∧ RS r (m + 6 + 1 + 1) B H') ⟨[], rfl, (by intro x hx; cases hx), upd_same, R4.new hE⟩ (fun i H' _ ⟨zs, _, _, _, c4⟩ => sqt c4.s b3) ?_ ?_
        · rintro i x _ H5 hi ⟨zs, c1, c2, c3, c4⟩ ⟨rfl, hx⟩
          rw [List.getElem?_map] at hx
          obtain ⟨n, hn, rfl⟩ := Option.map_eq_some_iff.mp hx
          have nb := hy.2.1 n (List.mem_of_getElem? hn)
          rw [List.length_map] at hi
          refine ⟨rfl, yes_if ?_⟩
          refine ⟨_, rfl, _, _, rfl, rfl, _, c3, small1000 (by rw [List.length_map]; omega), zs ++ [0 - n], by rw [List.length_append, c1]; rfl, ?_, by rw [upd_same, List.map_append]; rfl, c4.put bE rE⟩
          intro x hx
          rcases List.mem_append.mp hx with h | h
          · exact c2 x h
          · rw [List.mem_singleton.mp h]
            omega
        · rintro H5 ⟨zs, c1, c2, c3, c4⟩
          rw [List.length_map] at c1
          have zl : (zs.length : Int) = ax := by omega
          refine ⟨_, rfl, r, 2, _, rfl, c4.ok, by omega, by decide, by decide, fun d6 H6 d60 d61 D6 => ⟨rfl, _, rfl, ?_⟩⟩
          have R6 := c4.dr D6
          have E6 : H6 E = some (.lst (zs.map V.int)) := by rw [D6.ne _ rE.symm]; exact c3
          refine ite2 (fun _ => ?_) (fun _ => ⟨_, rfl, fin E H6 zs (6 + 1 + 1 + 1) bE rE E6 zl c2 R6 (by decide)⟩)
          refine ⟨_, rfl, _, rfl, r, ax, _, rfl, R6.ok, by omega, by omega, by omega, fun d7 H7 d70 d71 D7 => ?_⟩
          have R7 := R6.dr D7
          have E7 : H7 E = some (.lst (zs.map V.int)) := by rw [D7.ne _ rE.symm]; exact E6
          have d71' : d7 < ((zs.map V.int).length : Int) := by rw [List.length_map, zl]; exact d71
          obtain ⟨vz, f1, f2, f3⟩ := atI_in (xs := zs.map V.int) d70 d71'
          obtain ⟨n, hn, rfl⟩ := List.mem_map.mp f2
          have hix : ixN (zs.map V.int).length d7 = some d7.toNat := by
            unfold ixN
            rw [if_pos d70, if_pos d71']
          refine ⟨5, rfl, _, rfl, _, rfl, E, _, d7, _, rfl, rfl, Or.inl (Or.inl E7), f1, n, 1, rfl, rfl, _, _, rfl, _, _, rfl, ?_⟩
          refine ⟨_, rfl, _, rfl, E, _, d7, d7.toNat, rfl, rfl, E7, hix, ?_⟩
          have em : ∀ k : Int, (zs.map V.int).set d7.toNat (.int k) = (zs.set d7.toNat k).map V.int := fun k => by rw [List.map_set]
          rw [em]
          refine ⟨_, rfl, fin E _ (zs.set d7.toNat _) (6 + 1 + 1 + 1 + 1) bE rE upd_same (by rw [List.length_set]; exact zl) ?_ (R7.put bE rE) (by decide)⟩
          intro x hx
          rcases List.mem_or_eq_of_mem_set hx with h | h
          · exact c2 x h
          · rw [h]
            split <;> split <;> omega
end
end Fr

namespace Fr
open PySem PySem.Spec PyProof.Rows L2
def kw2 {α : Type} : List α → List α → List α
  | [], [c, s] => [s, c]
  | _, _ => []
structure CalK (P : Program) (w : World) (K : PySem.W.Frag) (mg : Str → Option Value) (base : Heap) (k : Nat) (x : Str) (sp : Sp) (ks : List Str) (gV : List V → List V → List V) : Prop where
  ex : ∃ (f : Addr) (fd : FuncData) (ps : List Str) (g : List Value → List Value → List Value), FnOk P w K mg base CX0 k f fd ps sp ∧ mg x = some (.ref f) ∧ PySem.W.keepIn K (.ref f) = true ∧ KBinds K fd ps ks g gV
theorem pe_ck {X : Cx} {k j : Nat} {x : Str} {sp : Sp} {ks : List Str} {gV : List V → List V → List V} {kws : List Keyword} {tk : TA} {p pos : Pos} (c : CalK X.prog X.w X.K X.mg X.base k x sp ks gV) (hr : Room j X.A) (hk : k ≤ j) (hg : Gl X x) (hkw : PK X kws tk)
    (hall : (backToKw pos (keywordEach kws X.env)).all (·.1.isSome) = true := by rfl) (hks : (backToKw pos (keywordEach kws X.env)).filterMap (·.1) = ks := by rfl) (hdb : (x == ("__debug__" : Str)) = false := by decide)
    (hpl : ((backTo pos (starEach [] X.env)).any (·.1) || (backToKw pos (keywordEach kws X.env)).any (·.1.isNone)) = false := by rfl) :
    PE X (.Call (.Name x p) [] kws pos) (tCallK sp gV C8.E0 tNil tk) := by
  obtain ⟨f, fd, ps, g, F, hm, kp, hb⟩ := c.ex
  refine ⟨fun pins s σ H Q I h => ?_⟩
  refine wpAny_Call_Name_kw (ld_glob I hg hm ?_ hdb)
  refine PySem.W.callWith_KW0 (h₀ := X.base) I.ok.mod.kin kp hall (thn (hkw.run pos pins s σ H _ I h) fun ws s2 ⟨zs, H2, I2, rz, q2⟩ => ⟨I2.kIn, ?_⟩) hpl
  rw [hks]
  exact run_fnk (us := []) (vs := []) F (hr.mono hk) hb pass0 I2 .nil rz q2
def bs (H : Hp) (r : Addr) : Hp := fun b => if b = r then none else match H b with
  | some (.tbl _) => none
  | o => o
theorem bs_of {H : Hp} {r b : Addr} {o : HO} (h : H b = some o) (n : b ≠ r) (t : ∀ ps, o ≠ .tbl ps) : bs H r b = some o := by
  unfold bs
  rw [if_neg n, h]
  cases o <;> first | rfl | exact absurd rfl (t _)
theorem of_bs {H : Hp} {r b : Addr} {o : HO} (h : bs H r b = some o) : H b = some o ∧ b ≠ r ∧ ∀ ps, o ≠ .tbl ps := by
  unfold bs at h
  by_cases n : b = r
  · rw [if_pos n] at h
    cases h
  · rw [if_neg n] at h
    cases e : H b with
    | none =>
      rw [e] at h
      cases h
    | some u =>
      rw [e] at h
      cases u <;> first | (cases h; exact ⟨rfl, n, fun ps z => by cases z⟩) | cases h
structure LS (TT : List (Addr × Str)) (r : Addr) (m : Nat) (B H : Hp) : Prop where
  rs : RS r m B H
  tb : LamX.Tabs TT H
  nt : ∀ b ps, B b ≠ some (.tbl ps)
theorem tabs_dr {TT : List (Addr × Str)} {r : Addr} {m m' : Nat} {H H' : Hp} (hT : LamX.Tabs TT H) (h : RngOk H r m) (d : Dr r m' H H') : LamX.Tabs TT H' := by
  obtain ⟨a, b, c, h1, _⟩ := h
  obtain ⟨a', b', c', h2, _⟩ := d.ok
  have e : H' = upd H r (.lst [.int a', .int b', .int c']) := funext fun x => by
    by_cases hx : x = r
    · rw [hx, h2, upd_same]
    · rw [upd_ne hx, d.ne x hx]
  rw [e]
  exact tabs_lst hT h1
theorem LS.dr {TT : List (Addr × Str)} {r : Addr} {m m' : Nat} {B H H' : Hp} (h : LS TT r m B H) (d : Dr r m' H H') : LS TT r m' B H' := ⟨h.rs.dr d, tabs_dr h.tb h.rs.ok d, h.nt⟩
theorem LS.new {TT : List (Addr × Str)} {r p : Addr} {m : Nat} {B H : Hp} {o : HO} (h : LS TT r m B H) (e : H p = none) : LS TT r m B (upd H p o) := ⟨h.rs.new e, h.tb.ext (snew e), h.nt⟩
theorem LS.grow {TT : List (Addr × Str)} {r : Addr} {m : Nat} {B H H' : Hp} (h : LS TT r m B H) (e : Same H H') : LS TT r m B H' := ⟨h.rs.grow e, h.tb.ext e, h.nt⟩
theorem LS.put {TT : List (Addr × Str)} {r p : Addr} {m : Nat} {B H : Hp} {o : HO} {xs : List V} (h : LS TT r m B H) (e : B p = none) (n : r ≠ p) (l : H p = some (.lst xs)) : LS TT r m B (upd H p o) := ⟨h.rs.put e n, tabs_lst h.tb l, h.nt⟩
theorem LS.mono {TT : List (Addr × Str)} {r : Addr} {m m' : Nat} {B H : Hp} (h : LS TT r m B H) (e : m ≤ m') : LS TT r m' B H := ⟨h.rs.mono e, h.tb, h.nt⟩
/-- a base of its own -/
theorem LS.own {TT : List (Addr × Str)} {r : Addr} {m : Nat} {H : Hp} (h : RngOk H r m) (t : LamX.Tabs TT H) : LS TT r m (bs H r) H := ⟨⟨fun b o e => (of_bs e).1, by
  cases e : bs H r r with
  | none => rfl
  | some o => exact absurd rfl (of_bs e).2.1, h⟩, t, fun b ps e => (of_bs e).2.2 ps rfl⟩
theorem tabs_cut {TT : List (Addr × Str)} {r : Addr} {m : Nat} {H H' : Hp} (hT : LamX.Tabs TT H) (h : RngOk H r m) (s : Same (cutr H r) H') : LamX.Tabs TT H' := by
  obtain ⟨a, b, c, h1, _⟩ := h
  intro p hp
  obtain ⟨ps, e1, e2, e3⟩ := hT p hp
  refine ⟨ps, s _ _ ?_, e2, fun pos cv hc => ?_⟩
  · rw [cutr_ne fun z => by rw [z, h1] at e1; cases e1]
    exact e1
  · obtain ⟨c', f1, f2⟩ := e3 pos cv hc
    refine ⟨c', f1, s _ _ ?_⟩
    rw [cutr_ne fun z => by rw [z, h1] at f2; unfold LamX.CodeO at f2; cases f2]
    exact f2
def tupo : HO → Bool
  | .tup _ => true
  | .frz _ (.tup _) => true
  | _ => false
def ST (H H' : Hp) : Prop := ∀ b o, H b = some o → tupo o = true → H' b = some o
theorem ST.of {H H' : Hp} (e : Same H H') : ST H H' := fun b o h _ => e b o h
theorem ST.tr {A B C : Hp} (a : ST A B) (b : ST B C) : ST A C := fun x o h d => b x o (a x o h d) d
theorem ST.put {H : Hp} {l : Addr} {xs : List V} {o : HO} (h : H l = some (.lst xs)) : ST H (upd H l o) := fun b u e d => by
  rw [upd_ne fun z => by rw [z, h] at e; cases e; cases d]
  exact e
theorem ST.dr {H H' : Hp} {r : Addr} {m m' : Nat} (h : RngOk H r m) (d : Dr r m' H H') : ST H H' := fun b u e t => by
  obtain ⟨x, y, z, h1, _⟩ := h
  rw [d.ne b fun q => by rw [q, h1] at e; cases e; cases t]
  exact e
theorem ST.bs {H : Hp} {r : Addr} {m : Nat} (h : RngOk H r m) : ST H (Fr.bs H r) := fun b u e t => by
  obtain ⟨x, y, z, h1, _⟩ := h
  refine bs_of e (fun q => ?_) fun ps q => ?_
  · rw [q, h1] at e
    cases e
    cases t
  · rw [q] at t
    cases t
mutual
def noL : PyData → Bool
  | .list _ => false
  | .tuple ds => noLs ds
  | .dict _ => false
  | .none => true
  | .bool _ => true
  | .int _ => true
  | .str _ => true
def noLs : List PyData → Bool
  | [] => true
  | d :: ds => noL d && noLs ds
end
theorem noLs_map {α : Type} {g : α → PyData} (h : ∀ x, noL (g x) = true) : ∀ xs : List α, noLs (xs.map g) = true
  | [] => rfl
  | x :: xs => by
    show (noL (g x) && noLs (xs.map g)) = true
    rw [h x, noLs_map h xs]
    rfl
theorem noL_ints (ns : List Int) : noLs (ns.map PyData.int) = true := noLs_map (fun _ => rfl) ns
theorem noL_rd (r : Rd1) : noL r.d = true := by
  show (true && (noLs (r.v.map PyData.int) && (true && true))) = true
  rw [noL_ints]
  rfl
theorem noL_k (t : Tb) : noL t.k = true := by
  show (true && (noLs (t.rs.map Rd1.d) && true)) = true
  rw [noLs_map noL_rd]
  rfl
section
variable {K : PySem.W.Frag}
theorem sqtt {H H' : Hp} (e : ST H H') {a : Addr} {xs : List V} (h : SqT K H a xs) : SqT K H' a xs := by
  rcases h with (h | ⟨o, h⟩) | h
  · exact .inl (.inl (e _ _ h rfl))
  · exact .inl (.inr ⟨o, e _ _ h rfl⟩)
  · exact .inr h
mutual
theorem dpt {H H' : Hp} (e : ST H H') : ∀ (d : PyData) (v : V), noL d = true → Dp K H v d → Dp K H' v d
  | .none, _, _, h => by cases h; exact .non
  | .bool b, _, _, h => by cases h; exact .bl b
  | .int i, _, _, h => by cases h; exact .int i
  | .str x, _, _, h => by cases h; exact .str x
  | .list ds, _, n, h => by cases n
  | .tuple ds, _, n, h => by
    cases h with
    | tup hs ha => exact .tup (sqtt e hs) (dpst e ds _ n ha)
  | .dict _, _, _, h => by cases h
theorem dpst {H H' : Hp} (e : ST H H') : ∀ (ds : List PyData) (vs : List V), noLs ds = true → DpAll K H vs ds → DpAll K H' vs ds
  | [], _, _, h => by cases h; exact .nil
  | d :: ds, _, n, h => by
    have n' : (noL d && noLs ds) = true := n
    rw [Bool.and_eq_true] at n'
    cases h with
    | cons h1 h2 => exact .cons (dpt e d _ n'.1 h1) (dpst e ds _ n'.2 h2)
end
theorem kvt {H H' : Hp} (e : ST H H') : ∀ {kvs : List (Key × V)} {ts : List Tb}, KvAt K H kvs ts → KvAt K H' kvs ts
  | [], _, h => by cases h; exact .nil
  | kv :: kvs, _, h => by
    cases h with
    | cons h1 h2 => exact .cons ⟨h1.1, dpt e _ _ (noL_k _) h1.2⟩ (kvt e h2)
end
section
variable {P : Program} {w : World} {K : PySem.W.Frag} {mg : Str → Option Value} {base : Heap}
theorem sd_bs {B H : Hp} {r : Addr} (s : Same B H) (n : B r = none) : SD B (bs H r) := fun b o h d => bs_of (s b o h) (ne_of_none h n) fun ps z => by
  rw [z] at d
  cases d
theorem SysAt.bs {C : Addr} {H : Hp} {r s : Addr} {m : Nat} {d md : Int} {ts : List Tb} (h : SysAt K C H s d md ts) (hr : RngOk H r m) (e : ∀ kvs, KvAt K H kvs ts → KvAt K (Fr.bs H r) kvs ts) : SysAt K C (Fr.bs H r) s d md ts := by
  obtain ⟨dx, t, kvs, h1, h2, h3⟩ := h.ob
  obtain ⟨a, b, c, h4, _⟩ := hr
  refine ⟨dx, t, kvs, bs_of h1 (fun z => ?_) (fun ps z => by cases z), bs_of h2 (fun z => ?_) (fun ps z => by cases z), e _ h3⟩
  · rw [z, h4] at h1
    cases h1
  · rw [z, h4] at h2
    cases h2
theorem find_nodup {x : Str} : ∀ {ts : List Tb} {tb : Tb}, (ts.map (·.n)).Nodup → tb ∈ ts → tb.n = x → ts.find? (fun t => decide (t.n = x)) = some tb
  | [], _, _, h, _ => by cases h
  | t :: ts, tb, n, h, e => by
    rw [List.map_cons, List.nodup_cons] at n
    rcases List.mem_cons.mp h with rfl | h
    · exact List.find?_cons_of_pos (by simpa using e)
    · rw [List.find?_cons_of_neg fun z => n.1 (by
        have : t.n = x := of_decide_eq_true z
        rw [this, ← e]
        exact List.mem_map.mpr ⟨tb, h, rfl⟩)]
      exact find_nodup n.2 h e
end
end Fr

namespace Fr
open PySem PySem.Spec PyProof.Rows L2
inductive KvEq (K : PySem.W.Frag) (H : Hp) (ls : List (Key × V)) : List (Key × V) → Bool → Prop
  | nil : KvEq K H ls [] true
  | miss {k : Key} {v : V} {r : List (Key × V)} : valV ls k = none → KvEq K H ls ((k, v) :: r) false
  | hit {k : Key} {v u : V} {r : List (Key × V)} {d e : PyData} {b : Bool} : valV ls k = some u → Dp K H v d → Dp K H u e → SeqAt.shaped d = true → SeqAt.shaped e = true → KvEq K H ls r b → KvEq K H ls ((k, v) :: r) (PyData.eqv d e && b)
def rEqKv (K : PySem.W.Frag) : R2 := fun x y H Q => ∃ (a b : Addr) (ks ls : List (Key × V)) (r : Bool), x = .ref a ∧ y = .ref b ∧ H a = some (.dK ks) ∧ H b = some (.dK ls) ∧ (ks.length = ls.length → KvEq K H ls ks r) ∧ Q (.bl (ks.length == ls.length && r)) H
section
variable {X : Cx} {pins : List (Addr × Obj)} {σ : L2.St} {H : Hp} {s : Shared}
theorem kvHits (I : Inv X pins σ H s) {A : Around} (hu : A.units + 64 < cLine) {ls : List (Key × V)} {vb : List (Key × Value)} (rb : KV ls vb) {ks : List (Key × V)} {r : Bool} (h : KvEq X.K H ls ks r) :
    ∀ {va : List (Key × Value)}, KV ks va → PySem.W.KeqHitsP X.prog X.w A s vb va r := by
  induction h with
  | nil =>
    intro va ra
    cases ra
    exact .nil
  | @miss k v t hv =>
    intro va ra
    cases ra with
    | @cons _ q _ qs h1 h2 =>
      obtain ⟨key, u⟩ := q
      obtain ⟨h1, h3⟩ := h1
      have h1' : k = key := h1
      subst h1'
      exact .miss (RelO.none_of (by rw [← hv]; exact rb.val k))
  | @hit k v u t d e b hv hd he sd se _ ih =>
    intro va ra
    cases ra with
    | @cons _ q _ qs h1 h2 =>
      obtain ⟨key, w⟩ := q
      obtain ⟨h1, h3⟩ := h1
      have h1' : k = key := h1
      subst h1'
      have rr : RelO (some u) (valueAt vb k) := by rw [← hv]; exact rb.val k
      obtain ⟨y, hy, ry⟩ := rr.some_of
      obtain ⟨as, q1⟩ := Dp.reads I d _ _ hd h3
      obtain ⟨bs, q2⟩ := Dp.reads I e _ _ he ry
      exact .hit hy (SeqAt.eqAt_reads d e A s _ _ as bs q1 q2 (SeqAt.canLay_of_shaped sd) (SeqAt.canLay_of_shaped se) (SeqAt.room_of_shaped sd hu)).eqP (ih h2)
theorem op_eqKv (hu : X.A.units + 65 < cLine) : OpR X (compareOp .Eq) (rEqKv X.K) := by
  intro pins s σ H x y v u Q I rx ry h
  obtain ⟨a, b, ks, ls, r, rfl, rfl, ha, hb, hr, q⟩ := h
  cases (show v = Value.ref a from rx)
  cases (show u = Value.ref b from ry)
  obtain ⟨_, ya, va, ra, da⟩ := (show ObjOk X.prog X.w H s.heap a (.dK ks) from I.hok a _ ha)
  obtain ⟨_, yb, vb, rb, db⟩ := (show ObjOk X.prog X.w H s.heap b (.dK ls) from I.hok b _ hb)
  have e1 : va.length = ks.length := ra.length.symm
  have e2 : vb.length = ls.length := rb.length.symm
  refine PySem.W.rcP_dicts (knd := mixKind X.prog X.w) (r := r) ya yb da db (by omega) (fun e => kvHits I (by show X.A.units + 1 + 64 < cLine; omega) rb (hr (by omega)) ra) _ _ ?_
  rw [e1, e2]
  exact ⟨.bl _, H, I, rfl, q⟩
end
structure EqM (P : Program) (w : World) (K : PySem.W.Frag) (mg : Str → Option Value) (base : Heap) (k : Nat) (C : Addr) (sp : Sp) : Prop where
  ex : ∃ (f : Addr) (fd : FuncData) (ps : List Str), Cls K C ∧ PySem.W.findIn K (.ref C) "__eq__" = some (some (.ref f)) ∧ PySem.W.isFn K (.ref f) = true ∧ FnOk P w K mg base CX0 k f fd ps sp ∧ Binds K fd ps []
def rEqOwn (C : Addr) (sp : Sp) : R2 := fun x y H Q => ∃ (a b dx dy : Addr) (fs gs : List (Str × V)), x = .ref a ∧ y = .ref b ∧ H a = some (.ins C dx fs) ∧ H b = some (.ins C dy gs) ∧ sp [.ref a, .ref b] H (fun v H' => ∃ r, v = .bl r ∧ Q (.bl r) H') C8.E0
theorem op_eqOwn {X : Cx} {k j : Nat} {C : Addr} {sp : Sp} (c : EqM X.prog X.w X.K X.mg X.base k C sp) (hr : Room j X.A) (hk : k ≤ j) : OpR X (compareOp .Eq) (rEqOwn C sp) := by
  intro pins s σ H x y v u Q I rx ry h
  obtain ⟨a, b, dx, dy, fs, gs, rfl, rfl, ha, hb, h⟩ := h
  cases (show v = Value.ref a from rx)
  cases (show u = Value.ref b from ry)
  obtain ⟨f, fd, ps, hc, hs, hf, F, hbd⟩ := c.ex
  obtain ⟨mA, J, _⟩ := ins_get I.hok ha
  obtain ⟨mB, J', _⟩ := ins_get I.hok hb
  obtain ⟨od, J, _⟩ := J.look
  obtain ⟨od', J', _⟩ := J'.look
  obtain ⟨m, hF⟩ := I.fr
  have hu : X.A.units < cLine := (hr.mono hk).units0
  refine PySem.W.cmp_K (op := .Eq) (tb := .ref C) hu hF I.ok.mod.kin J J'.type (by simp [PySem.W.notFirst]) hs hf ?_
  refine wpAny_mono (run_fn (us := [.ref a, .ref b]) (vs := [.ref a, .ref b]) F (hr.mono hk) hbd .nil pass0 I (.cons rfl (.cons rfl .nil)) h) (fun r s' q => ?_) fun _ _ x => x
  obtain ⟨z, H', I', rz, t, rfl, q⟩ := q
  obtain rfl : r = Value.bool t := rz
  exact ⟨.bl t, H', I', rfl, q⟩
structure MetK (P : Program) (w : World) (K : PySem.W.Frag) (mg : Str → Option Value) (base : Heap) (k : Nat) (C : Addr) (m : Str) (sp : Sp) (ks : List Str) (gV : List V → List V → List V) : Prop where
  ex : ∃ (f : Addr) (fd : FuncData) (ps : List Str) (g : List Value → List Value → List Value), Cls K C ∧ Meth K C m f ∧ FnOk P w K mg base CX0 k f fd ps sp ∧ KBinds K fd ps ks g gV
def tMethK (C : Addr) (m : Str) (sp : Sp) (gV : List V → List V → List V) (E : XK) (ta : TE) (tk : TA) : TE := fun σ H Q => ta σ H fun x H1 => ∃ a dx fs, x = .ref a ∧ H1 a = some (.ins C dx fs) ∧ fs.lookup m = none ∧
  tk σ H1 fun zs H2 => sp (gV [x] zs) H2 Q E
theorem pe_mtk {X : Cx} {k j : Nat} {C : Addr} {m : Str} {sp : Sp} {ks : List Str} {gV : List V → List V → List V} {o : Expr} {kws : List Keyword} {ta : TE} {tk : TA} {apos pos : Pos} {pl : Sem Bool} (c : MetK X.prog X.w X.K X.mg X.base k C m sp ks gV) (hr : Room j X.A) (hk : k ≤ j) (he : PE X o ta) (hkw : PK X kws tk)
    (hall : (backToKw pos (keywordEach kws X.env)).all (·.1.isSome) = true := by rfl) (hks : (backToKw pos (keywordEach kws X.env)).filterMap (·.1) = ks := by rfl)
    (hpl : ((backTo pos (starEach [] X.env)).any (·.1) || (backToKw pos (keywordEach kws X.env)).any (·.1.isNone)) = false := by rfl)
    (ht : eval (.Call (.Attribute o m apos) [] kws pos) X.env = (do
      let ov ← eval o X.env
      standAt apos.atName
      let (f, first) ← holding [ov] (getMethod ov m pl)
      callWith pos f first (backTo pos (starEach [] X.env)) (backToKw pos (keywordEach kws X.env))) := by rfl) :
    PE X (.Call (.Attribute o m apos) [] kws pos) (tMethK C m sp gV C8.E0 ta tk) := by
  obtain ⟨f, fd, ps, g, hc, hm, F, hb⟩ := c.ex
  refine ⟨fun pins s σ H Q I h => ?_⟩
  refine PySem.W.methodCall_KW (pl := pl) (thn (he.run pins s σ H _ I h) fun u s1 ⟨x, H1, I1, rx, a, dx, fs, ex, ea, l, q⟩ => ?_) ht
  subst ex
  obtain rfl : u = Value.ref a := rx
  refine getmeth_ok I1 ea hc hm l ?_
  refine PySem.W.callWith_KW0 (first := [.ref a]) (h₀ := X.base) I.ok.mod.kin hm.kp hall (thn (hkw.run pos pins s1 σ H1 _ I1 q) fun ws s2 ⟨zs, H2, I2, rz, q2⟩ => ⟨I2.kIn, ?_⟩) hpl
  rw [hks]
  exact run_fnk (us := [.ref a]) (vs := [.ref a]) F (hr.mono hk) hb pass0 I2 (.cons rfl .nil) rz q2
def kw1 {α : Type} : List α → List α → List α
  | [s], [c] => [s, c]
  | _, _ => []
end Fr

namespace Fr
open PySem PySem.Spec PyProof.Rows L2
theorem iter_dict : typeLookup (.type "dict") "__iter__" = pure (some (.builtin "dict.__iter__")) := by rw [typeLookup_type, builtinLookup_eq_fast]; kernel_rfl
section
variable {prog : Program} {w : World} {A : Around} {E : Value → Shared → Prop} {s : Shared}
theorem wp_putNew {d : Addr} {kvs : List (Key × Value)} {k : Key} {x v : Value} {Q : Unit → Shared → Prop} (hx : (mixKind prog w).is k x = true) (hm : s.heap.DictOf (mixKind prog w) d kvs) (hno : k ∉ kvs.map (·.1))
    (hQ : ∀ h', h'.DictOf (mixKind prog w) d (kvs ++ [(k, v)]) → Heap.SameBut d s.heap h' → Q () { s with heap := h' }) (hsz : kvs.length ≤ sizeLine) :
    wpAny (model prog w) A (dictPut d ((mixKind prog w).hash k) x v) Q E s := by
  obtain ⟨o, es, ep, ho, hc, hd, hk, hp, hn⟩ := hm
  have hes : es.size ≤ sizeLine := by
    have e1 := hp.length
    rw [Array.length_toList] at e1
    omega
  unfold dictPut
  refine wpAny_bind (wpAny_dictFind_of hx ho hd hk ?_)
  have hidx : (es.findIdx? fun e => (mixKind prog w).is k e.key) = none := by
    have z : (es.findIdx? fun e => (mixKind prog w).is k e.key) = kvs.findIdx? fun kv => decide (kv.1 = k) := by
      rw [← hp.findIdx k]
      obtain ⟨l⟩ := es
      simp
    rw [z, List.findIdx?_eq_none_iff]
    intro kv hkv
    exact decide_eq_false fun e => hno (List.mem_map.mpr ⟨kv, hkv, e⟩)
  rw [hidx]
  refine wpAny_updateDictKeys (hz := hes) ho hd (hQ _ ⟨_, _, ep + 1, Heap.get?_update_self _ ho (Obj.isFreed_of_dict (Obj.data_mapDictKeys hd _)), hc.mapDictKeys _, Obj.data_mapDictKeys hd _, hk.push hx _, ?_, ?_⟩ (Heap.SameBut.update ..))
  · have z := hp.append hx ((mixKind prog w).hash k) v
    obtain ⟨l⟩ := es
    simpa using z
  · rw [List.map_append, List.nodup_append]
    refine ⟨hn, by simp, ?_⟩
    intro a ha b hb
    rw [List.mem_singleton.mp hb]
    exact fun e => hno (by rw [e] at ha; exact ha)
theorem wp_mergeMap {d o : Addr} {kvs more : List (Key × Value)} {Q : Unit → Shared → Prop} (hdo : d ≠ o) (hoS : (o == sysModules) = false) (hd : s.heap.DictOf (mixKind prog w) d kvs) (ho : s.heap.DictOf (mixKind prog w) o more)
    (hnd : ((kvs ++ more).map (·.1)).Nodup) (hsz : kvs.length + more.length ≤ sizeLine) (hQ : ∀ h', h'.DictOf (mixKind prog w) d (kvs ++ more) → Heap.SameBut d s.heap h' → Q () { s with heap := h' }) :
    wpAny (model prog w) A (mergeMapping d (.ref o) false) Q E s := by
  obtain ⟨od, esd, epd, hod, hcd, hdd, hkd, hpd, hnd'⟩ := id hd
  obtain ⟨oo, eso, epo, hoo, hco, hdo', hko, hpo, hno⟩ := id ho
  have hlen : more.length = eso.size := by
    rw [← hpo.length]
    simp
  unfold mergeMapping
  refine wpAny_bind (wpAny_isInstance (T := "dict") ho.typeIs PySem.F.sub_dict_dict ?_)
  rw [if_pos rfl]
  refine wpAny_bind (wpAny_specialOf ho.typeIs iter_dict ?_)
  refine wpAny_bind (wpAny_pure ?_)
  have hb : ((some (Value.builtin "dict.__iter__") : Option Value) == some (Value.builtin "dict.__iter__")) = true := by rfl
  rw [hb]
  dsimp only
  rw [if_neg (by rw [hoS]; exact Bool.false_ne_true)]
  have tail : ∀ {T : Sem Unit}, T = (do
      let l ← dictEntries o
      let epoch ← dictEpoch o
      forIn (List.range l.size) PUnit.unit fun i (_ : PUnit) => (do
        let l' ← dictEntries o
        match l'[i]? with
          | some e => do
            holding [e.key, e.val] (dictPut d e.hash e.key e.val)
            let ep' ← dictEpoch o
            if (ep' != epoch) = true then do
                (unsupported "dict.changed-during-merge" : Sem PUnit)
                pure (ForInStep.yield PUnit.unit)
              else pure (ForInStep.yield PUnit.unit)
          | _ => do
            (unsupported "dict.changed-during-merge" : Sem PUnit)
            pure (ForInStep.yield PUnit.unit) : Sem (ForInStep PUnit))
      pure ()) → wpAny (model prog w) A T Q E s := by
    intro T hT
    rw [hT]
    refine wpAny_bind (wpAny_dictEntries hoo hdo' ?_)
    refine wpAny_bind (wpAny_dictEpoch hoo hdo' ?_)
    refine wpAny_bind ?_
    refine wpAny_forIn_list _ (fun rest _ s' => ∃ h' i, s' = { s with heap := h' } ∧ rest = (List.range eso.size).drop i ∧ i ≤ eso.size ∧ h'.DictOf (mixKind prog w) d (kvs ++ more.take i) ∧ h'.get? o = some oo ∧ Heap.SameBut d s.heap h') _ ?_ ?_ _ _
      ⟨s.heap, 0, rfl, rfl, Nat.zero_le _, by rw [List.take_zero, List.append_nil]; exact hd, hoo, Heap.SameBut.refl _ _⟩
    · rintro x rest b s' ⟨h', i, rfl, hr, hi, hd', hoo', hs'⟩
      have hlt : i < eso.size := by
        rcases Nat.lt_or_ge i eso.size with h | h
        · exact h
        · rw [List.drop_of_length_le (by simpa using h)] at hr
          cases hr
      rw [List.drop_eq_getElem_cons (by simpa using hlt)] at hr
      injection hr with h1 h2
      rw [List.getElem_range] at h1
      subst h1
      refine wpAny_bind (wpAny_dictEntries hoo' hdo' ?_)
      rw [Array.getElem?_eq_getElem hlt]
      obtain ⟨⟨k, v⟩, hkv⟩ : ∃ kv, more[x]? = some kv := ⟨more[x]'(by omega), List.getElem?_eq_getElem _⟩
      obtain ⟨hkey, hval⟩ := hpo.get? (e := eso[x]) (by simp [hlt]) hkv
      obtain ⟨k', hkey', hhash⟩ := hko eso[x] (Array.getElem_mem hlt)
      obtain rfl : k' = k := (mixKind prog w).inj _ _ _ hkey' hkey
      have hlm : x < more.length := by omega
      have hno' : k' ∉ (kvs ++ more.take x).map (·.1) := fun hm => by
        have z : ((kvs ++ more).map (·.1)).Nodup := hnd
        have e2 : kvs ++ more = (kvs ++ more.take x) ++ ((k', v) :: more.drop (x + 1)) := by
          rw [List.append_assoc]
          congr 1
          have g : more[x] = (k', v) := by
            rw [List.getElem?_eq_getElem hlm] at hkv
            exact Option.some.inj hkv
          rw [← g, ← List.drop_eq_getElem_cons hlm, List.take_append_drop]
        rw [e2, List.map_append, List.nodup_append] at z
        exact z.2.2 k' hm k' (by rw [List.map_cons]; exact List.mem_cons_self) rfl
      show wpAny _ _ (holding [eso[x].key, eso[x].val] (dictPut d eso[x].hash eso[x].key eso[x].val) >>= _) _ _ _
      rw [hhash, hval]
      refine wpAny_bind (wpAny_holding (wp_putNew hkey hd' hno' (fun h'' hd'' hs'' => ?_) (by rw [List.length_append, List.length_take]; omega)))
      have hoo'' : h''.get? o = some oo := (hs''.2 o (Ne.symm hdo)).trans hoo'
      refine wpAny_bind (wpAny_dictEpoch hoo'' hdo' ?_)
      rw [if_neg (by simp)]
      exact wpAny_pure ⟨h'', x + 1, rfl, h2, hlt, by rw [List.take_add_one, hkv, ← List.append_assoc]; exact hd'', hoo'', hs'.trans hs''⟩
    · rintro b s' ⟨h', i, rfl, hr, hi, hd', hoo', hs'⟩
      have hin : i = eso.size := by
        rcases Nat.lt_or_ge i eso.size with h | h
        · rw [List.drop_eq_getElem_cons (by simpa using h)] at hr
          cases hr
        · exact Nat.le_antisymm hi h
      refine wpAny_pure (hQ h' ?_ hs')
      rw [hin, ← hlen, List.take_length] at hd'
      exact hd'
  refine wpAny_bind (wpAny_dictEntries hod hdd ?_)
  split
  · refine wpAny_bind (wpAny_dictEntries hoo hdo' ?_)
    refine wpAny_bind ?_
    rw [← Array.forIn_toList]
    refine wpAny_forIn_list _ (fun rest _ s' => s' = s ∧ ∀ e ∈ rest, e ∈ eso.toList) _ ?_ ?_ _ _ ⟨rfl, fun e he => he⟩
    · rintro x rest b s' ⟨rfl, hm⟩
      obtain ⟨k, hk, _⟩ := hko x (by simpa using hm x List.mem_cons_self)
      have hk : keyIs k x.key = true := hk
      rcases keyIs_shape hk with ⟨i, t, _, e⟩ | ⟨z, t, _, e⟩
      · rw [e]
        exact wpAny_pure ⟨rfl, fun y hy => hm y (List.mem_cons_of_mem _ hy)⟩
      · rw [e]
        exact wpAny_pure ⟨rfl, fun y hy => hm y (List.mem_cons_of_mem _ hy)⟩
    · rintro b s' ⟨rfl, _⟩
      exact tail rfl
  · exact tail rfl
end
end Fr

namespace Fr
open PySem PySem.Spec PyProof.Rows L2
theorem kv_keys : ∀ {kvs : List (Key × V)} {vs : List (Key × Value)}, KV kvs vs → vs.map (·.1) = kvs.map (·.1)
  | [], _, h => by cases h; rfl
  | p :: kvs, _, h => by
    cases h with
    | cons h1 h2 =>
      rw [List.map_cons, List.map_cons, kv_keys h2, h1.1]
theorem kv_app : ∀ {kvs ls : List (Key × V)} {vs us : List (Key × Value)}, KV kvs vs → KV ls us → KV (kvs ++ ls) (vs ++ us)
  | [], _, _, _, h, k => by cases h; exact k
  | p :: kvs, _, _, _, h, k => by
    cases h with
    | cons h1 h2 => exact .cons h1 (kv_app h2 k)
def tMrg (t1 t2 : TE) : TE := fun σ H Q => ∀ p, H p = none → t1 σ (upd H p (.dK [])) fun x H1 => ∃ (a : Addr) (ks : List (Key × V)), x = .ref a ∧ H1 a = some (.dK ks) ∧ a ≠ p ∧ H1 p = some (.dK []) ∧ (ks.map (·.1)).Nodup ∧
  t2 σ (upd H1 p (.dK ks)) fun y H2 => ∃ (b : Addr) (ls : List (Key × V)), y = .ref b ∧ H2 b = some (.dK ls) ∧ b ≠ p ∧ H2 p = some (.dK ks) ∧ ((ks ++ ls).map (·.1)).Nodup ∧ ks.length + ls.length ≤ sizeLine ∧ Q (.ref p) (upd H2 p (.dK (ks ++ ls)))
theorem pe_mrg {X : Cx} {e1 e2 : Expr} {t1 t2 : TE} {pos : Pos} (he1 : PE X e1 t1) (he2 : PE X e2 t2) : PE X (.Dict [none, none] [e1, e2] pos) (tMrg t1 t2) := by
  refine ⟨fun pins s σ H Q I q => ?_⟩
  rw [arm_eval_Dict]
  refine wpAny_bind (wpAny_standAt ?_)
  show wpAny _ _ (dictDisplay [(none, do let x ← eval e1 X.env; standAt pos; pure x), (none, do let x ← eval e2 X.env; standAt pos; pure x)]) _ _ s
  unfold dictDisplay
  dsimp only
  simp only [List.forIn_cons, List.forIn_nil]
  have hn := I.hok.fresh (Nat.le_refl s.heap.objs.size)
  have I1 := I.laid (a := s.heap.objs.size) (o := .dK []) (h' := s.heap.push { cls := .type "dict", data := .dict #[] }) (t' := s.toks) (fun _ _ q => Heap.get?_push_of_some _ q) (Nat.le_refl _) (dk_empty s.heap I.big)
  refine wpAny_bind (wpAny_bind (wpAny_bind ?_))
  show wpAny _ _ (pure none) _ _ _
  refine wpAny_pure ?_
  dsimp only
  refine wpAny_bind (wpAny_alloc ?_)
  refine wpAny_bind (wpAny_holding (wpAny_bind (thn (he1.run pins _ σ _ _ I1 (q s.heap.objs.size hn)) fun u s1 ⟨x, H1, I2, rx, a, ks, ex, ha, nap, hp, nd, q2⟩ => wpAny_bind (wpAny_standAt (wpAny_pure ?_)))))
  subst ex
  obtain rfl : u = Value.ref a := rx
  obtain ⟨zp, hdp, vs0, r0, ddp⟩ := dk_of I2.hok hp
  cases r0
  obtain ⟨za, hda, va, ra, dda⟩ := dk_of I2.hok ha
  have nva : (va.map (·.1)).Nodup := by
    have e : va.map (·.1) = ks.map (·.1) := kv_keys ra
    rw [e]
    exact nd
  refine wpAny_bind (wpAny_onRaise (wpAny_tryCatch (wpAny_onRaise (wpAny_holding (wp_mergeMap (Ne.symm nap) hda ddp dda (by simpa using nva) (by simpa using (by rw [← ra.length]; exact za)) fun h2 dd2 sb2 => ?_)))))
  have I3 : Inv X pins σ (upd H1 s.heap.objs.size (.dK ks)) { s1 with heap := h2, toks := s1.toks } := d_write I2 (by rw [hp]; exact True.intro) sb2 (let ⟨q, _, _, hq, _⟩ := dd2; ⟨q, hq⟩) (dk_new za hdp ra (by simpa using dd2))
  refine wpAny_pure ?_
  dsimp only
  refine wpAny_bind (wpAny_bind ?_)
  show wpAny _ _ (pure (some s.heap.objs.size)) _ _ _
  refine wpAny_pure ?_
  dsimp only
  refine wpAny_bind (wpAny_pure ?_)
  refine wpAny_bind (wpAny_holding (wpAny_bind (thn (he2.run pins _ σ _ _ I3 q2) fun u2 s3 ⟨y, H2, I4, ry, b, ls, ey, hb, nbp, hp2, nd2, hz2, q3⟩ => wpAny_bind (wpAny_standAt (wpAny_pure ?_)))))
  subst ey
  obtain rfl : u2 = Value.ref b := ry
  obtain ⟨zp2, hdp2, vs2, r2, ddp2⟩ := dk_of I4.hok hp2
  obtain ⟨zb, hdb, vb, rb, ddb⟩ := dk_of I4.hok hb
  have nvb : ((vs2 ++ vb).map (·.1)).Nodup := by
    have e : (vs2 ++ vb).map (·.1) = (ks ++ ls).map (·.1) := by
      rw [List.map_append, List.map_append, kv_keys r2, kv_keys rb]
    rw [e]
    exact nd2
  refine wpAny_bind (wpAny_onRaise (wpAny_tryCatch (wpAny_onRaise (wpAny_holding (wp_mergeMap (Ne.symm nbp) hdb ddp2 ddb nvb (by rw [← r2.length, ← rb.length]; exact hz2) fun h3 dd3 sb3 => ?_)))))
  have I5 : Inv X pins σ (upd H2 s.heap.objs.size (.dK (ks ++ ls))) { s3 with heap := h3, toks := s3.toks } := d_write I4 (by rw [hp2]; exact True.intro) sb3 (let ⟨q, _, _, hq, _⟩ := dd3; ⟨q, hq⟩) (dk_new (by rw [List.length_append]; exact hz2) hdp2 (kv_app r2 rb) dd3)
  refine wpAny_pure ?_
  dsimp only
  refine wpAny_pure ?_
  refine wpAny_bind ?_
  show wpAny _ _ (pure (some s.heap.objs.size)) _ _ _
  refine wpAny_pure ?_
  exact wpAny_pure ⟨.ref _, _, I5, rfl, q3⟩
end Fr

namespace Fr
open PySem PySem.Spec PyProof.Rows L2
theorem enum_newT {v : Value} {o : Obj} {G : Heap → Prop} (B : Begins v o G) :
    Meets (Builtin.«enumerate.__new__» ⟨[.type "enumerate", v], []⟩) (fun _ R s => G s.heap ∧
      R (.ok (.ret (.ref (s.heap.push o).objs.size))) { s with heap := (s.heap.push o).push { cls := .type "enumerate", data := .fields #[.none, .bool false, .ref s.heap.objs.size, rawInt 0, .none, .none] } }) :=
  .of_wp fun prog w A R s h => by
    obtain ⟨hp, g, d, tk, os⟩ := s
    obtain ⟨h1, h⟩ := h
    have hsub := sub_enumerate
    have it : ∀ {A' : Around} {E : Value → Shared → Prop} {Q : Value → Shared → Prop}, Q (.ref hp.objs.size) ⟨hp.push o, g, d, tk, os⟩ → wpAny (model prog w) A' (pyIter v) Q E ⟨hp, g, d, tk, os⟩ := fun q => B.iter prog w _ _ ⟨hp, g, d, tk, os⟩ _ h1 q
    wp_walk using it
    refine wpAny_stack_any fun st => wpAny_pure ?_
    split
    · rename_i c _ _ _ _ _
      cases (c == Value.type "enumerate") <;> (wp_walk using it; exact ⟨_, rfl, h⟩)
    · wp_walk using it
      exact ⟨_, rfl, h⟩
section
variable {prog : Program} {w : World} {A : Around} {E : Value → Shared → Prop} {s : Shared}
theorem call_enumT {v : Value} {o : Obj} {G : Heap → Prop} {Q : Value → Shared → Prop} (B : Begins v o G) (h1 : G s.heap)
    (h : ∀ h', IsEnum h' (s.heap.objs.size + 1) s.heap.objs.size 0 .none → h'.get? s.heap.objs.size = some o → (∀ b u, s.heap.get? b = some u → h'.get? b = some u) → Q (.ref (s.heap.objs.size + 1)) { s with heap := h' }) :
    wpAny (model prog w) A (call (.type "enumerate") [v]) Q E s := by
  refine callType_new PySem.F.called_enumerate (by decide) (PySem.F.typeCall_enumerate_1 _) (PySem.F.newCall_enumerate_1 _) (fun obj => PySem.F.args_object_init_2 obj _) PySem.F.entry_enumerate_new (enum_newT B) ⟨h1, ?_⟩
  have hz : (s.heap.push o).objs.size = s.heap.objs.size + 1 := Heap.size_push ..
  show _ ∧ _
  rw [hz]
  have he : IsEnum ((s.heap.push o).push { cls := .type "enumerate", data := .fields #[.none, .bool false, .ref s.heap.objs.size, rawInt 0, .none, .none] }) (s.heap.objs.size + 1) s.heap.objs.size 0 .none := by
    have z := Heap.get?_push_size (s.heap.push o) (o := { cls := .type "enumerate", data := .fields #[.none, .bool false, .ref s.heap.objs.size, rawInt 0, .none, .none] }) rfl
    rw [hz] at z
    exact z
  exact ⟨⟨_, he, rfl⟩, h _ he (Heap.get?_push_of_some _ (Heap.get?_push_size _ B.free)) fun b u e => Heap.get?_push_of_some _ (Heap.get?_push_of_some _ e)⟩
end
section
variable {prog : Program} {w : World} {A : Around} {E : Value → Shared → Prop} {s : Shared}
theorem enumT_end {e it a : Addr} {i : Nat} {items : Array Value} {old : Value} {Q : Option Value → Shared → Prop} (hh : A.in1.handled = none) (he : IsEnum s.heap e it i old) (hit : s.heap.IsTupleIter it a i) (ht : s.heap.IsTuple a items) (hne : a ≠ it) (hx : items[i]? = none)
    (hQ : ∀ h', Heap.ExtBut it s.heap h' → Q none { s with heap := h' }) : wpAny (model prog w) A (pyNext (.ref e)) Q E s := by
  have hT : s.TypeIs (.ref e) "enumerate" := ⟨_, he, rfl⟩
  unfold pyNext
  refine wpAny_bind (wpAny_attempt (wpAny_callSpecial?_slot (name := Str.ofString "__next__") hT PySem.F.slot_enumerate_next (wpAny_call_entry PySem.F.slot_enumerate_next hT PySem.F.entry_enumerate_next ?_ (PySem.F.args_enumerate_next_1 _))))
  show wpAny _ _ (field (.ref e) 2 >>= _) _ _ _
  refine wpAny_bind (wpAny_field he rfl (x := .ref it) rfl ?_)
  refine wpAny_bind (wpAny_nextOf_tuple_end hh hit ht hx fun h' x he' hx' => ?_)
  obtain ⟨o, ho, hc⟩ := hx'
  exact wpAny_bind (wpAny_isInstance (T := "StopIteration") (b := true) ⟨o, ho, hc⟩ isSubtype_stop (wpAny_pure (hQ _ he')))
end
/-- the tuple at a as it stands, each item in a new pair -/
def IteT (K : PySem.W.Frag) (a : Addr) : It :=
  ⟨fun i H => ∃ (xs : List V) (x : V), SqT K H a xs ∧ xs[i]? = some x, fun i H v H' => ∃ T x, v = .ref T ∧ H T = none ∧ H' = upd H T (.tup [.int (i : Nat), x]) ∧ ∀ xs, SqT K H a xs → xs[i]? = some x, fun i H => ∃ xs : List V, SqT K H a xs ∧ xs.length ≤ i⟩
theorem turn_enumT {P : Program} {w : World} {K : PySem.W.Frag} {elts : List Expr} {kk : Nat} {tpos : Pos} (a e it : Addr) :
    Turn P w K (.Tuple elts kk tpos) (IteT K a) [e, it] e (fun i h => (∃ old, IsEnum h e it ((i : Nat) : Int) old) ∧ h.IsTupleIter it a i ∧ e ≠ it ∧ a ≠ e ∧ a ≠ it) where
  mem := by simp
  obj := fun i h st b hb => by
    obtain ⟨⟨old, he⟩, ⟨o, ho, hc, hd⟩, _⟩ := st
    rcases (show b = e ∨ b = it by simpa using hb) with z | z <;> rw [z]
    · exact ⟨_, he, fun v q => nomatch q⟩
    · exact ⟨o, ho, fun v q => by rw [hd] at q; cases q⟩
  keep := fun i h h' st k => let ⟨⟨old, he⟩, hi, ne⟩ := st; ⟨⟨old, k e (by simp) _ he⟩, hi.at fun o q => k it (by simp) o q, ne⟩
  item := by
    intro X hP hw hK hc i pins s σ H E I hf st hg
    subst hP hw hK
    obtain ⟨⟨old, he⟩, hit, hne, hae, hai⟩ := st
    obtain ⟨xs, x, hq, hx⟩ := hg
    obtain ⟨its, rv, p, hz⟩ := I.tuple hq
    obtain ⟨u, hu, ru⟩ := rv.get hx
    have hel : e < s.heap.objs.size := Heap.lt_size he
    have hil : it < s.heap.objs.size := by
      obtain ⟨_, q, _⟩ := hit
      exact Heap.lt_size q
    have hlt : i < its.toArray.size := by
      rw [List.size_toArray]
      exact (List.getElem?_eq_some_iff.mp hu).1
    refine wpAny_pyNext_enum_itemD (Draws.tuple (show X.A.in1.handled = none from I.ok.hd hc) it a hai its.toArray) he ⟨hit, p⟩ hlt hne (by simp [hne, Ne.symm hae]) fun u' h' tk hP ho hst hT hsz hk => ?_
    obtain rfl : u' = u := by
      have z : its.toArray[i]? = some u' := hP
      rw [List.getElem?_toArray, hu] at z
      exact (Option.some.inj z).symm
    refine ⟨_, rfl, wpAny_letOwnedTupleGo_enum (s := { s with heap := h', toks := tk + 1 }) ho fun h'' he' sb => ?_⟩
    have hT2 : h''.get? s.heap.objs.size = some { cls := .type "tuple", data := .seq #[.int i tk, u'] } := (sb.2 _ (Nat.ne_of_gt hel)).trans hT
    have nw : ObjOk X.prog X.w (upd H s.heap.objs.size (.tup [.int (i : Nat), x])) h'' s.heap.objs.size (.tup [.int (i : Nat), x]) :=
      ⟨by show 2 ≤ sizeLine; decide, [.int i tk, u'], .cons ⟨_, rfl⟩ (.cons ru .nil), ⟨_, hT2, rfl, _, rfl⟩⟩
    have I1 : Inv X pins σ (upd H s.heap.objs.size (.tup [.int (i : Nat), x])) { s with heap := h'', toks := tk + 1 } :=
      I.turnedNew (ch := [e, it]) (fun b ob nb q => (sb.2 b (fun z => nb (by simp [z]))).trans (hk b ob (fun z => nb (by simp [z])) (fun z => nb (by simp [z])) q)) hf (Nat.le_refl _) nw
    refine ⟨.ref s.heap.objs.size, _, I1, rfl, ⟨_, x, rfl, I.hok.fresh (Nat.le_refl _), rfl, fun ys hy => by rw [I.tuple_inj hy hq]; exact hx⟩, ⟨⟨u', ?_⟩, hst.1.at fun o q => (sb.2 it (Ne.symm hne)).trans q, hne, hae, hai⟩, fun b hb => ?_⟩
    · rw [show ((i + 1 : Nat) : Int) = (i : Int) + 1 by omega]
      exact he'
    · have hb' : b < s.heap.objs.size := by
        rcases (show b = e ∨ b = it by simpa using hb) with z | z <;> rw [z]
        · exact hel
        · exact hil
      rw [upd_ne (Nat.ne_of_lt hb')]
      exact (hf b hb).1
  done := by
    intro X hP hw hK hc i pins s σ H E I hf st hg
    subst hP hw hK
    obtain ⟨⟨old, he⟩, hit, hne, hae, hai⟩ := st
    obtain ⟨xs, hq, hx⟩ := hg
    obtain ⟨its, rv, p, hz⟩ := I.tuple hq
    obtain ⟨f0, f1, f2, f3, f4, f5⟩ := hf it (by simp)
    have hl := rv.length
    exact enumT_end (show X.A.in1.handled = none from I.ok.hd hc) he hit p hai (by simp; omega) fun h' eb => ⟨rfl, I.turned (t' := s.toks) (fun b o hb q => eb b o hb q) f0 f1 f3 f4 f5⟩
  self := fun A i s Q E st h => let ⟨⟨_, he⟩, _⟩ := st; wpAny_pyIter_enum he h
def iEnumT (K : PySem.W.Frag) (ta : TA) : TI := fun σ H R => ta σ H fun vs H1 => ∃ a xs, vs = [.ref a] ∧ SqT K H1 a xs ∧ R (IteT K a) H1
theorem pi_enumT {X : Cx} {e : Expr} {ta : TA} {p pos tpos : Pos} {elts : List Expr} {kk : Nat} (hg : Gl X "enumerate") (hm : X.mg "enumerate" = none) (ha : PA X [e] ta) (hs : starEach [e] X.env = [(false, eval e X.env)] := by rfl) :
    PI X (.Tuple elts kk tpos) (.Call (.Name "enumerate" p) [e] [] pos) (iEnumT X.K ta) := by
  refine ⟨fun pins s σ H R I h => ?_⟩
  refine Call_ (ld_blt I hg hm boot_enumerate (PyProof.Rows.callWith_type1 (thn (ha.run pos pins s σ H _ I h) fun us s1 ⟨vs, H1, I1, r1, a, xs, ex, hq, q⟩ => ?_) hs rfl))
  subst ex
  obtain rfl := Vals.ref1 r1
  obtain ⟨its, rv, p', hz⟩ := I1.tuple hq
  have hal : a < s1.heap.objs.size := by
    obtain ⟨o, ho, _⟩ := id p'
    exact Heap.lt_size ho
  refine call_enumT (begins_tuple a its.toArray) p' fun h' he hit hk => wpAny_pyIter_enum he ?_
  have I2 : Inv X pins σ H1 { s1 with heap := h' } := I1.kept (t' := s1.toks) hk
  refine ⟨s1.heap.objs.size + 1, [s1.heap.objs.size + 1, s1.heap.objs.size], _, _, H1, rfl, I2, turn_enumT a (s1.heap.objs.size + 1) s1.heap.objs.size,
    ⟨⟨.none, he⟩, ⟨_, hit, rfl, rfl⟩, Nat.succ_ne_self _, Nat.ne_of_lt (Nat.lt_succ_of_lt hal), Nat.ne_of_lt hal⟩, fun b hb => ?_, q⟩
  have hle : s1.heap.objs.size ≤ b := by
    rcases (show b = s1.heap.objs.size + 1 ∨ b = s1.heap.objs.size by simpa using hb) with z | z <;> rw [z]
    · exact Nat.le_add_right _ _
    · exact Nat.le_refl _
  exact I1.fpOk hle (I1.hok.fresh hle)
theorem walk_enumT {K : PySem.W.Frag} {a : Addr} {xs : List V} : Walk (IteT K a) xs.length (fun H => SqT K H a xs) (YPair (fun i => some (.int (i : Nat))) (fun i => xs[i]?)) := by
  refine ⟨fun i _ hi q => ⟨xs, xs[i], q, by simp [hi]⟩, fun _ q => ⟨xs, q, Nat.le_refl _⟩, fun i H v H' _ q y => ?_⟩
  obtain ⟨T, x, y1, y2, y3, y4⟩ := y
  exact ⟨T, .int (i : Nat), x, y1, y2, y3, rfl, y4 xs q⟩
end Fr

namespace Fr
open PySem PySem.Spec PyProof.Rows L2
/-- o.f in a comprehension's block -/
theorem pe_fldK {X : Cx} {K' : PySem.W.Frag} {e : Expr} {f : Str} {pos : Pos} {ta : TE} (he : PE X e ta) (hb : attributeBase e f X.env (eval e X.env) = eval e X.env := by rfl) (hK : X.K = K' := by rfl) : PE X (.Attribute e f pos) (tFld K' ta f) := by
  subst hK
  exact pe_fld he hb
structure LenM (P : Program) (w : World) (K : PySem.W.Frag) (mg : Str → Option Value) (base : Heap) (k : Nat) (C : Addr) (sp : Sp) : Prop where
  ex : ∃ (f : Addr) (fd : FuncData) (ps : List Str), Cls K C ∧ PySem.W.findIn K (.ref C) "__len__" = some (some (.ref f)) ∧ PySem.W.isFn K (.ref f) = true ∧ FnOk P w K mg base CX0 k f fd ps sp ∧ Binds K fd ps []
def rLenOwn (C : Addr) (sp : Sp) : List V → Hp → VK → Prop := fun xs H Q => ∃ (a dx : Addr) (fs : List (Str × V)), xs = [.ref a] ∧ H a = some (.ins C dx fs) ∧ sp [.ref a] H (fun v H' => ∃ n : Nat, v = .int n ∧ n < 1000000 ∧ Q (.int n) H') C8.E0
theorem call_lenOwn {X : Cx} {k j : Nat} {C : Addr} {sp : Sp} (c : LenM X.prog X.w X.K X.mg X.base k C sp) (hr : Room j X.A) (hk : k + 1 ≤ j) : CallR X (.builtin "len") (rLenOwn C sp) := by
  intro pins s σ H xs us Q I r h
  obtain ⟨a, dx, fs, rfl, ha, h⟩ := h
  obtain ⟨u, rfl, ru⟩ := vals1 r
  obtain rfl : u = Value.ref a := ru
  obtain ⟨f, fd, ps, hc, hs, hf, F, hb⟩ := c.ex
  obtain ⟨mA, J, _⟩ := ins_get I.hok ha
  obtain ⟨od, J, _⟩ := J.look
  have sp1 : PySem.W.Looks (model X.prog X.w) s.heap (specialOf (.ref a) "__len__") (some (.ref f)) := J.type.andThen (PySem.W.looks_findIn I.kIn hs)
  refine Calls.call_function_entry kind_len plain_len entry_len (args_len1 _) ?_
  unfold Builtin.«len»
  refine wpAny_bind (m := oneArg "len" _) (wpAny_pure ?_)
  refine wpAny_bind (m := callSpecial? (.ref a) (Str.ofString "__len__")) ?_
  unfold callSpecial?
  refine wpAny_bind (sp1.here ?_)
  refine wpAny_holding (wpAny_bind ((PySem.W.bind_fn I.kIn _ (beq_iff_eq.mp hf)).here ?_))
  have hrk : Room (k + 1) X.A := hr.mono hk
  have r2 : Vals [V.ref a] [Value.ref a] := .cons rfl .nil
  have hl := F.len _ _ _ _ h
  have bt := hb s [.ref a] I.kIn (by simpa using hl)
  refine wpAny_bind (wpAny_call (codeAny_mono (F.run X.A.in1 X.stack s H ⟨[.ref a], []⟩ [.ref a] [.ref a] _ C8.E0 hrk.in1 I.env0.in1 (by simpa using bt) r2 h) fun rs s2 z => ?_))
  match rs, z with
  | .error er, z => exact pass0 (X := X) pins σ H s er s2 I z
  | .ok (.ret v), z =>
    obtain ⟨y, H', I', ry, n, rfl, hn, q⟩ := I.after z
    obtain ⟨t, rfl⟩ : ∃ t, v = Value.int n t := ry
    refine wpAny_pure ?_
    refine wpAny_bind (wpAny_holding (wpAny_pure ?_))
    refine wpAny_bind (wpAny_letGo ?_)
    show wpAny _ _ (if ((n : Nat) : Int) < 0 then _ else _) _ _ _
    rw [if_neg (by omega)]
    show wpAny _ _ (if ((n : Nat) : Int) ≥ 2 ^ 63 then _ else _) _ _ _
    rw [if_neg (by omega)]
    exact wpAny_bind (wpAny_mkInt (wpAny_pure ⟨_, rfl, .int n, H', I'.tok _, ⟨_, rfl⟩, q⟩))
  | .ok .next, z => exact z.elim
  | .ok .brk, z => exact z.elim
  | .ok .cont, z => exact z.elim
end Fr

namespace Fr
open PySem PySem.Spec PyProof.Rows L2
/-- room, and nothing under repr -/
structure RoomG (k : Nat) (A : Around) : Prop where
  room : Room k A
  free : A.guards = some []
structure FnG (P : Program) (w : World) (K : PySem.W.Frag) (mg : Str → Option Value) (base : Heap) (k : Nat) (f : Addr) (fd : FuncData) (ps : List Str) (sp : Sp) : Prop where
  len : ∀ vs H Q E, sp vs H Q E → vs.length = ps.length
  go : ∀ (A : Around) (outer : List Env) (s : Shared) (H : Hp) (args : Args) (us : List Value) (vs : List V) (Q : VK) (E : XK), RoomG k A → Env0 P w K mg base A outer s H → BindsTo s fd args (ps.zip us) → Vals vs us → sp vs H Q E → codeAny (model P w) A (.call (.ref f) args) (CR CX0 outer P w H s Q E) s
section
variable {P : Program} {w : World} {K : PySem.W.Frag} {mg : Str → Option Value} {base : Heap}
/-- a def by its body -/
theorem fnG_of {k : Nat} {f : Addr} {x qual : Str} {pa : Arguments} {body : List Stmt} {sc : Scope} {dV kV doc pm cd ct oc : Value} {an od : Option Addr} {osl : Array (Option Value)} {N ps : List Str} {sp : Sp}
    (lk : K.lookup f = some ⟨oc, od, .func (PySem.W.fnOf x qual pa body sc dV kV doc pm an cd ct), osl⟩) (hcd : PySem.W.codeIn K cd qual = true) (S : FnScope N ps sc) (len : ∀ vs H Q E, sp vs H Q E → vs.length = ps.length)
    (hb : ∀ (A : Around) (outer : List Env) (s : Shared) (H : Hp) (vs : List V) (Q : VK) (E : XK), RoomG k (A.deeper (envOfC qual sc s.heap.objs.size f cd)) → sp vs H Q E → ∃ t, PSs (cxOf CX0 P w K mg base N qual sc f cd A outer s H E) body t ∧ t { nx := fun _ H' => Q .non H', rt := Q } (start N vs) H) :
    FnG P w K mg base (k + 1) f (PySem.W.fnOf x qual pa body sc dV kV doc pm an cd ct) ps sp where
  len := len
  go A outer s H args us vs Q E hr e0 bt rv hq := by
    have h1 : vs.length = ps.length := len _ _ _ _ hq
    have inK : K.In s.heap := e0.mod.kin.keeps fun b o z => (e0.bs b o z).1
    have noL : s.heap.NoLimit := e0.mod.nolimit.keeps fun b o z => (e0.bs b o z).1
    have kinds : ∀ y ∈ ps.zip us, sc.names.lookup y.1 = some .local ∨ (sc.names.lookup y.1 = some .cell ∧ ((cellsFrom (s.heap.objs.size + 1) sc.names []).lookup y.1).isSome = true) := by
      intro y hy
      obtain ⟨n, v⟩ := y
      cases S.par n (List.of_mem_zip hy).1 with
      | inl z => exact Or.inl z
      | inr z => exact Or.inr ⟨z, PySem.W.cellsFrom_some _ _ _ (Or.inl z)⟩
    refine codeAny_call_function hr.room.depth (inK _ _ lk) rfl S.co S.gen rfl (PySem.W.codeRec_of inK hcd) (bt _ _ _ _ (wpAny_newFunctionEnv_cells S.kind kinds ?_))
    rintro _ rfl s1 ic
    refine ⟨noL.keeps ic.toInCall.keep, codeAny_func ?_⟩
    obtain ⟨t, pt, ht⟩ := hb A outer s H vs Q E ⟨hr.room.deeper _, hr.free⟩ hq
    have I0 := inv_start (CX := CX0) (E := E) S hr.room.hd e0 h1 rv ic
    refine wpAny_mono (pt.run [] s1 (start N vs) H _ I0 ht) (fun fl s2 z => ?_) fun _ _ z => z
    cases fl with
    | next =>
      obtain ⟨_, H2, J, q⟩ := z
      exact ⟨V.non, H2, J.os, J.bare, J.base, J.hok, rfl, q⟩
    | ret u =>
      obtain ⟨v, _, H2, J, ru, q⟩ := z
      exact ⟨v, H2, J.os, J.bare, J.base, J.hok, ru, q⟩
    | brk => exact z.elim fun _ z => z.elim fun _ z => z.2.elim
    | cont => exact z.elim fun _ z => z.elim fun _ z => z.2.elim
theorem Fun_okG {x qual : Str} {st : Stmt} {f : Addr} {fd : FuncData} {N ps : List Str} {k : Nat} {sp : Sp} (F : Fun K x qual st f fd) (S : FnScope N ps (defScope st)) (len : ∀ vs H Q E, sp vs H Q E → vs.length = ps.length)
    (hb : ∀ (cd : Value) (A : Around) (outer : List Env) (s : Shared) (H : Hp) (vs : List V) (Q : VK) (E : XK), RoomG k (A.deeper (envOfC qual (defScope st) s.heap.objs.size f cd)) → sp vs H Q E →
      ∃ t, PSs (cxOf CX0 P w K mg base N qual (defScope st) f cd A outer s H E).nox (defBody st) t ∧ t { nx := fun _ H' => Q .non H', rt := Q } (start N vs) H) : FnG P w K mg base (k + 1) f fd ps sp := by
  obtain ⟨oc, od, kV, doc, pm, an, cd, ct, osl, rfl, lk, hcd⟩ := F.ex
  refine fnG_of lk hcd S len fun A outer s H vs Q E hr hq => ?_
  obtain ⟨t, pt, ht⟩ := hb cd A outer s H vs Q E hr hq
  exact ⟨t, pt.nox, ht⟩
/-- a def of this kind that may be called by its name -/
structure CalG (P : Program) (w : World) (K : PySem.W.Frag) (mg : Str → Option Value) (base : Heap) (k : Nat) (x : Str) (sp : Sp) : Prop where
  ex : ∃ (f : Addr) (fd : FuncData) (ps : List Str), FnG P w K mg base k f fd ps sp ∧ mg x = some (.ref f) ∧ PySem.W.keepIn K (.ref f) = true ∧ Binds K fd ps []
end
section
variable {X : Cx} {k j : Nat} {x : Str} {sp : Sp} {p pos : Pos} {e : Expr} {es : List Expr} {t : TA}
theorem pe_cG (c : CalG X.prog X.w X.K X.mg X.base k x sp) (hr : RoomG j X.A) (hk : k ≤ j) (hg : Gl X x) (ha : PA X (e :: es) t) (hdb : (x == ("__debug__" : Str)) = false := by decide)
    (he : starEach (e :: es) X.env = (false, eval e X.env) :: starEach es X.env := by rfl) (hpl : (backTo pos (starEach es X.env)).any (·.1) = false := by rfl) : PE X (.Call (.Name x p) (e :: es) [] pos) (tCall sp [] C8.E0 t) := by
  obtain ⟨f, fd, ps, F, hm, kp, hb⟩ := c.ex
  constructor
  intro pins s σ H Q I h
  refine wpAny_Call_Name_kw (ld_glob I hg hm (PySem.W.callWith_K (h₀ := X.base) I.ok.mod.kin kp (thn (ha.run pos pins s σ H _ I h) ?_) he hpl) hdb)
  rintro us s1 ⟨vs, H1, I1, r, q⟩
  refine ⟨I1.kIn, wpAny_call ?_⟩
  have r2 : Vals (vs ++ []) (us ++ []) := r.append .nil
  have hl : (us ++ ([] : List Value)).length = ps.length := r2.length.symm.trans (F.len _ _ _ _ q)
  refine codeAny_mono (F.go X.A X.stack s1 H1 ⟨us, []⟩ (us ++ []) (vs ++ []) Q C8.E0 ⟨hr.room.mono hk, hr.free⟩ I1.env0 (hb s1 us I1.kIn hl) r2 q) fun rs s2 z => ?_
  match rs, z with
  | .error er, z => exact pass0 (X := X) pins σ H1 s1 er s2 I1 z
  | .ok (.ret u), z => exact I1.after z
  | .ok .next, z => exact z.elim
  | .ok .brk, z => exact z.elim
  | .ok .cont, z => exact z.elim
/-- repr(e), e plain data -/
def rReprD (K : PySem.W.Frag) : List V → Hp → VK → Prop := fun xs H Q => ∃ (v : V) (d : PyData), xs = [v] ∧ Dp K H v d ∧ d.canLay0 = true ∧ d.showable = true ∧ d.depth ≤ 60 ∧ ((∃ i, d = .int i) ∨ d.shown.length ≤ sizeLine) ∧ Q (.str d.shown) H
theorem call_reprD (hg : X.A.guards = some []) (hu : X.A.units + 65 < cLine) : CallR X (.builtin "repr") (rReprD X.K) := by
  intro pins s σ H xs us Q I r h
  obtain ⟨v, d, rfl, hd, hc, hs, h6, hz, q⟩ := h
  obtain ⟨u, rfl, ru⟩ := vals1 r
  obtain ⟨as, rd⟩ := Dp.reads I d v u hd ru
  cases hd with
  | non =>
    cases (show u = Value.none from ru)
    simp only [PyData.shown] at q hz
    exact P.repr_of_none ⟨.str _, H, I.tok _, ⟨_, rfl⟩, q⟩
  | bl b =>
    cases (show u = Value.bool b from ru)
    simp only [PyData.shown] at q hz
    refine P.repr_of_bool ⟨.str _, H, I.tok _, ⟨_, rfl⟩, ?_⟩
    cases b <;> exact q
  | int i =>
    obtain ⟨t, rfl⟩ := (show ∃ t, u = Value.int i t from ru)
    simp only [PyData.shown] at q hz
    simp only [PyData.showable] at hs
    exact P.repr_of_int (of_decide_eq_true hs) ⟨.str _, H, I.tok _, ⟨_, rfl⟩, q⟩
  | str y =>
    obtain ⟨t, rfl⟩ := (show ∃ t, u = Value.str y t from ru)
    simp only [PyData.shown] at q hz
    exact P.repr_of_str ⟨.str _, H, I.tok _, ⟨_, rfl⟩, q⟩ (hz.resolve_left fun ⟨_, z⟩ => by cases z)
  | lst hq ha =>
    cases (show u = Value.ref _ from ru)
    exact repr_of_reads' rd hs (PyData.noDict_hsm (PyData.hasDict_of_canLay _ hc)) hg (by omega) (fun _ _ z => z) (fun h' t tk k => ⟨.str _, H, I.kept k, ⟨_, rfl⟩, q⟩) (hz.resolve_left fun ⟨_, z⟩ => by cases z)
  | tup hq ha =>
    cases (show u = Value.ref _ from ru)
    exact repr_of_reads' rd hs (PyData.noDict_hsm (PyData.hasDict_of_canLay _ hc)) hg (by omega) (fun _ _ z => z) (fun h' t tk k => ⟨.str _, H, I.kept k, ⟨_, rfl⟩, q⟩) (hz.resolve_left fun ⟨_, z⟩ => by cases z)
end
end Fr

namespace Fr
open PySem PySem.Spec PyProof.Rows L2
structure Shw (d : PyData) (k w : Nat) : Prop where
  lay : d.canLay0 = true
  sho : d.showable = true
  dep : d.depth ≤ k
  int : d.intsShort 13 = true
  wt : d.weight ≤ w
structure ShwA (ds : List PyData) (k w : Nat) : Prop where
  lay : PyData.canLayAll0 ds = true
  sho : PyData.showableAll ds = true
  dep : PyData.depthAll ds ≤ k
  int : PyData.intsShortAll 13 ds = true
  wt : PyData.weightAll ds ≤ w
theorem ShwA.nil {k : Nat} : ShwA [] k 0 := ⟨by simp [PyData.canLayAll0], by simp [PyData.showableAll], by simp [PyData.depthAll], by simp [PyData.intsShortAll], by simp [PyData.weightAll]⟩
theorem ShwA.cons {d : PyData} {ds : List PyData} {k w v u : Nat} (h : Shw d k w) (t : ShwA ds k v) (e : w + 1 + v ≤ u) : ShwA (d :: ds) k u :=
  ⟨by simp [PyData.canLayAll0, h.lay, t.lay], by simp [PyData.showableAll, h.sho, t.sho], by simp only [PyData.depthAll]; have := h.dep; have := t.dep; omega, by simp [PyData.intsShortAll, h.int, t.int],
    by simp only [PyData.weightAll]; have := h.wt; have := t.wt; omega⟩
theorem ShwA.c {d : PyData} {ds : List PyData} {k w v : Nat} (h : Shw d k w) (t : ShwA ds k v) : ShwA (d :: ds) k (w + 1 + v) := .cons h t (Nat.le_refl _)
theorem Shw.list {ds : List PyData} {k w : Nat} (h : ShwA ds k w) : Shw (.list ds) (k + 1) w :=
  ⟨by simp [PyData.canLay0, h.lay], by simp [PyData.showable, h.sho], by simp only [PyData.depth]; have := h.dep; omega, by simp [PyData.intsShort, h.int], by simp only [PyData.weight]; exact h.wt⟩
theorem Shw.tup {ds : List PyData} {k w : Nat} (h : ShwA ds k w) : Shw (.tuple ds) (k + 1) w :=
  ⟨by simp [PyData.canLay0, h.lay], by simp [PyData.showable, h.sho], by simp only [PyData.depth]; have := h.dep; omega, by simp [PyData.intsShort, h.int], by simp only [PyData.weight]; exact h.wt⟩
theorem Shw.one {i : Int} {k : Nat} (h : i.natAbs < 10 ^ 12) : Shw (.int i) k 40 := by
  have z := PyData.intsShortAll_ints [i] (by intro n hn; rw [List.mem_singleton.mp hn]; exact h)
  have hl : i.natAbs.log2 < 40 := by
    by_cases h0 : i.natAbs = 0
    · rw [h0]; decide
    · exact (Nat.log2_lt h0).mpr (Nat.lt_trans h (by decide))
  refine ⟨by simp [PyData.canLay0], by simp only [PyData.showable]; exact decide_eq_true (by omega), by simp [PyData.depth], ?_, ?_⟩
  · simp only [List.map_cons, List.map_nil, PyData.intsShortAll, Bool.and_eq_true] at z
    exact z.1
  · simp only [PyData.weight]
    split <;> omega
theorem Shw.str {x : Str} {k w : Nat} (h : PyData.strOk x = true) (e : x.length ≤ w) : Shw (.str x) k w :=
  ⟨by simpa [PyData.canLay0] using h, by simp [PyData.showable], by simp [PyData.depth], by simp [PyData.intsShort], by simp only [PyData.weight]; exact e⟩
theorem ShwA.map {α : Type} {f : α → PyData} {k w : Nat} : ∀ {xs : List α}, (∀ x ∈ xs, Shw (f x) k w) → ShwA (xs.map f) k (xs.length * (w + 1))
  | [], _ => by simpa using ShwA.nil
  | x :: xs, h => .cons (h x List.mem_cons_self) (ShwA.map fun y hy => h y (List.mem_cons_of_mem _ hy)) (by rw [List.length_cons, Nat.succ_mul]; omega)
theorem Shw.mono {d : PyData} {k w j v : Nat} (h : Shw d k w) (e : k ≤ j) (f : w ≤ v) : Shw d j v := ⟨h.lay, h.sho, Nat.le_trans h.dep e, h.int, Nat.le_trans h.wt f⟩
theorem ShwA.mono {d : List PyData} {k w j v : Nat} (h : ShwA d k w) (e : k ≤ j) (f : w ≤ v) : ShwA d j v := ⟨h.lay, h.sho, Nat.le_trans h.dep e, h.int, Nat.le_trans h.wt f⟩
/-- what repr asks -/
theorem Shw.asks {d : PyData} {k w : Nat} (h : Shw d k w) (e : k ≤ 60) (f : w ≤ 1000000) : d.canLay0 = true ∧ d.showable = true ∧ d.depth ≤ 60 ∧ ((∃ i, d = .int i) ∨ d.shown.length ≤ sizeLine) :=
  ⟨h.lay, h.sho, Nat.le_trans h.dep e, .inr (PyData.shown_fits (by decide) (by decide) (PyData.leavesShort_of_canLay0 13 d h.lay h.int) (Nat.le_trans h.wt (Nat.le_trans f (by decide))))⟩
theorem Shw.shaped {d : PyData} {k w : Nat} (h : Shw d k w) (e : k ≤ 60) : SeqAt.shaped d = true := by
  unfold SeqAt.shaped
  rw [h.lay, decide_eq_true (Nat.le_trans h.dep (Nat.le_trans e (by decide)))]
  rfl
end Fr

namespace Fr
open PySem PySem.Spec PyProof.Rows L2
def In2 (J1 : It) (g1 : TG) (tt1 : TT) (te : TE) (vs1 : List Nat) (D : Addr) (σ2 : L2.St) (H4 : Hp) (Nx : Hp → Prop) : Prop := ∃ W1 : Nat → Nat → Hp → Prop, (∃ m, W1 0 m H4) ∧ ∀ j k H, W1 j k H →
  (J1.stop j H ∧ Nx H) ∨ (J1.go j H ∧ ∃ Nx1 : Hp → Prop, (∀ H', Nx1 H' → ∃ k', k' < k ∧ W1 (j + 1) k' H') ∧ ∀ x H', J1.yld j H x H' → g1 x (wipe σ2 vs1) H' fun σ3 H5 => wipe σ3 vs1 = wipe σ2 vs1 ∧ tt1 σ3 H5 fun b H6 =>
    if b = true then te σ3 H6 fun y H7 => ∃ acc, H7 D = some (.lst acc) ∧ acc.length < sizeLine ∧ Nx1 (upd H7 D (.lst (acc ++ [y]))) else Nx1 H6)
theorem in2_mono {J1 : It} {g1 : TG} {tt1 : TT} {te : TE} {vs1 : List Nat} {D : Addr} {σ2 : L2.St} {H4 : Hp} {Nx Nx' : Hp → Prop} (h : In2 J1 g1 tt1 te vs1 D σ2 H4 Nx) (e : ∀ H, Nx H → Nx' H) : In2 J1 g1 tt1 te vs1 D σ2 H4 Nx' := by
  obtain ⟨W1, w0, st⟩ := h
  refine ⟨W1, w0, fun j k H w => ?_⟩
  rcases st j k H w with ⟨a, b⟩ | ⟨a, Nx1, b, c⟩
  · exact .inl ⟨a, e H b⟩
  · exact .inr ⟨a, Nx1, b, c⟩
theorem lc2_it {J : It} {n : Nat} {G : Hp → Prop} {Y : Nat → Hp → V → Hp → Prop} (w : Walk J n G Y) {g g1 : TG} {tt tt1 : TT} {wi1 : TI} {te : TE} {vs vs1 : List Nat} {σ : L2.St} {H1 : Hp} {D : Addr} {Qd : Hp → Prop} (Pv : Nat → Hp → Prop) (h0 : Pv 0 (upd H1 D (.lst []))) (hG : ∀ i H, i ≤ n → Pv i H → G H)
    (hs : ∀ i x H H', i < n → Pv i H → Y i H x H' → ∀ Nx : Hp → Prop, (∀ H, Pv (i + 1) H → Nx H) → g x (wipe σ vs) H' fun σ2 H2 => wipe σ2 vs = wipe σ vs ∧ tt σ2 H2 fun b H3 =>
      if b = true then wi1 σ2 H3 fun J1 H4 => In2 J1 g1 tt1 te vs1 D σ2 H4 Nx else Nx H3) (hd : ∀ H, Pv n H → Qd H) :
    ∃ W : Nat → Nat → Hp → Prop, (∃ m, W 0 m (upd H1 D (.lst []))) ∧ ∀ i m H, W i m H →
      (J.stop i H ∧ Qd H) ∨ (J.go i H ∧ ∃ Nx : Hp → Prop, (∀ H', Nx H' → ∃ m', m' < m ∧ W (i + 1) m' H') ∧ ∀ x H', J.yld i H x H' → g x (wipe σ vs) H' fun σ2 H2 => wipe σ2 vs = wipe σ vs ∧ tt σ2 H2 fun b H3 =>
        if b = true then wi1 σ2 H3 fun J1 H4 => In2 J1 g1 tt1 te vs1 D σ2 H4 Nx else Nx H3) := by
  refine ⟨fun i m H => m = n - i ∧ i ≤ n ∧ Pv i H, ⟨n, by simp, Nat.zero_le _, h0⟩, ?_⟩
  rintro i m H ⟨rfl, hi, p⟩
  have q := hG i H hi p
  by_cases hlt : i < n
  · exact .inr ⟨w.goes i H hlt q, Pv (i + 1), fun H' p' => ⟨n - (i + 1), by omega, rfl, hlt, p'⟩, fun x H' y => hs i x H H' hlt p (w.yields i H x H' hlt q y) _ fun _ h => h⟩
  · have e : i = n := by omega
    subst e
    exact .inl ⟨w.stops H q, hd H p⟩
theorem in2_it {J1 : It} {n : Nat} {G : Hp → Prop} {Y : Nat → Hp → V → Hp → Prop} (w : Walk J1 n G Y) {g1 : TG} {tt1 : TT} {te : TE} {vs1 : List Nat} {D : Addr} {σ2 : L2.St} {H4 : Hp} {Nx : Hp → Prop} (Pv : Nat → Hp → Prop) (h0 : Pv 0 H4) (hG : ∀ i H, i ≤ n → Pv i H → G H)
    (hs : ∀ i x H H', i < n → Pv i H → Y i H x H' → g1 x (wipe σ2 vs1) H' fun σ3 H5 => wipe σ3 vs1 = wipe σ2 vs1 ∧ tt1 σ3 H5 fun b H6 =>
      if b = true then te σ3 H6 fun y H7 => ∃ acc, H7 D = some (.lst acc) ∧ acc.length < sizeLine ∧ Pv (i + 1) (upd H7 D (.lst (acc ++ [y]))) else Pv (i + 1) H6) (hd : ∀ H, Pv n H → Nx H) : In2 J1 g1 tt1 te vs1 D σ2 H4 Nx := by
  refine ⟨fun i m H => m = n - i ∧ i ≤ n ∧ Pv i H, ⟨n, by simp, Nat.zero_le _, h0⟩, ?_⟩
  rintro i m H ⟨rfl, hi, p⟩
  have q := hG i H hi p
  by_cases hlt : i < n
  · exact .inr ⟨w.goes i H hlt q, Pv (i + 1), fun H' p' => ⟨n - (i + 1), by omega, rfl, hlt, p'⟩, fun x H' y => hs i x H H' hlt p (w.yields i H x H' hlt q y)⟩
  · have e : i = n := by omega
    subst e
    exact .inl ⟨w.stops H q, hd H p⟩
theorem unlock {H H' : Hp} {t : Addr} {od : PySem.Obj} {u : HO} (h : H t = some u) (s : Same (upd H t (.frz od u)) H') : Same H (upd H' t u) := fun b o e => by
  by_cases hb : b = t
  · rw [hb, upd_same]
    rw [hb, h] at e
    exact e
  · rw [upd_ne hb]
    exact s b o (by rw [upd_ne hb]; exact e)
theorem st_unlock {B H' : Hp} {t : Addr} {u v : HO} (s : Same B H') (h : B t = some u) (n : tupo u = false) : ST B (upd H' t v) := fun b o e d => by
  have hb : b ≠ t := fun z => by
    rw [z, h] at e
    cases e
    rw [n] at d
    cases d
  rw [upd_ne hb]
  exact s b o e
def nrD (x : Str × Nat) : PyData := .tuple [.str x.1, .int (x.2 : Nat)]
def nam1 (t : Tb) : List (Str × Nat) := (List.range t.rs.length).map fun i => (t.n, i)
def named (ts : List Tb) : List (Str × Nat) := ts.flatMap nam1
theorem named_take {ts : List Tb} {i : Nat} {t : Tb} (h : ts[i]? = some t) : named (ts.take (i + 1)) = named (ts.take i) ++ nam1 t := by
  unfold named
  rw [List.take_add_one, h, List.flatMap_append]
  simp
theorem named_len (ts : List Tb) : (named ts).length = (ts.map fun t => t.rs.length).sum := by
  unfold named
  rw [List.length_flatMap]
  congr 1
  refine List.map_congr_left fun t _ => ?_
  unfold nam1
  rw [List.length_map, List.length_range]
theorem mem_named {ts : List Tb} {x : Str} {i : Nat} : (x, i) ∈ named ts ↔ ∃ t ∈ ts, t.n = x ∧ i < t.rs.length := by
  unfold named nam1
  rw [List.mem_flatMap]
  constructor
  · rintro ⟨t, ht, h⟩
    obtain ⟨j, hj, e⟩ := List.mem_map.mp h
    cases e
    exact ⟨t, ht, rfl, List.mem_range.mp hj⟩
  · rintro ⟨t, ht, rfl, h⟩
    exact ⟨t, ht, List.mem_map.mpr ⟨i, List.mem_range.mpr h, rfl⟩⟩
theorem noL_nr (x : Str × Nat) : noL (nrD x) = true := rfl
theorem noL_tb_k (t : Tb) : noL t.k = true := noL_k t
theorem LD.ext {K : PySem.W.Frag} {H H' : Hp} {l : Addr} {ds : List PyData} (h : LD K H l ds) (e : LamX.ExtN H H') : LD K H' l ds := by
  obtain ⟨xs, h1, h2⟩ := h
  exact ⟨xs, e _ _ h1 (fun ps z => by cases z), dpsd (SD.ext e) _ _ h2⟩
theorem LD.st {K : PySem.W.Frag} {H H' : Hp} {l : Addr} {ds : List PyData} (h : LD K H l ds) (e : ST H H') (n : noLs ds = true) (f : H' l = H l) : LD K H' l ds := by
  obtain ⟨xs, h1, h2⟩ := h
  exact ⟨xs, by rw [f, h1], dpst e _ _ n h2⟩
theorem name_ok {x : Str} (h : isName x = true) : PyData.strOk x = true ∧ x.length ≤ 8 := by
  unfold isName at h
  rw [Bool.and_eq_true, Bool.and_eq_true] at h
  refine ⟨?_, by have := of_decide_eq_true h.1.2; omega⟩
  unfold PyData.strOk
  rw [Array.all_eq_true_iff_forall_mem]
  intro c hc
  have z := List.all_eq_true.mp h.2 c (Array.mem_toList_iff.mpr hc)
  unfold okSign at z
  rw [Bool.and_eq_true] at z
  have z2 : ¬ ([122] < [c]) := by simpa using z.2
  have : ¬ (122 < c) := fun q => z2 (by rw [List.cons_lt_cons_iff]; exact Or.inl q)
  exact decide_eq_true (by omega)
structure Lay (d : PyData) (k : Nat) : Prop where
  lay : d.canLay0 = true
  dep : d.depth ≤ k
structure LayA (ds : List PyData) (k : Nat) : Prop where
  lay : PyData.canLayAll0 ds = true
  dep : PyData.depthAll ds ≤ k
theorem LayA.nil {k : Nat} : LayA [] k := ⟨by simp [PyData.canLayAll0], by simp [PyData.depthAll]⟩
theorem LayA.cons {d : PyData} {ds : List PyData} {k : Nat} (h : Lay d k) (t : LayA ds k) : LayA (d :: ds) k := ⟨by simp [PyData.canLayAll0, h.lay, t.lay], by simp only [PyData.depthAll]; have := h.dep; have := t.dep; omega⟩
theorem LayA.map {α : Type} {f : α → PyData} {k : Nat} : ∀ {xs : List α}, (∀ x ∈ xs, Lay (f x) k) → LayA (xs.map f) k
  | [], _ => .nil
  | x :: xs, h => .cons (h x List.mem_cons_self) (LayA.map fun y hy => h y (List.mem_cons_of_mem _ hy))
theorem Lay.int {i : Int} {k : Nat} : Lay (.int i) k := ⟨by simp [PyData.canLay0], by simp [PyData.depth]⟩
theorem Lay.str {x : Str} {k : Nat} (h : PyData.strOk x = true) : Lay (.str x) k := ⟨by simpa [PyData.canLay0] using h, by simp [PyData.depth]⟩
theorem Lay.list {ds : List PyData} {k : Nat} (h : LayA ds k) : Lay (.list ds) (k + 1) := ⟨by simp [PyData.canLay0, h.lay], by simp only [PyData.depth]; have := h.dep; omega⟩
theorem Lay.tup {ds : List PyData} {k : Nat} (h : LayA ds k) : Lay (.tuple ds) (k + 1) := ⟨by simp [PyData.canLay0, h.lay], by simp only [PyData.depth]; have := h.dep; omega⟩
theorem Lay.shaped {d : PyData} {k : Nat} (h : Lay d k) (e : k ≤ 60) : SeqAt.shaped d = true := by
  unfold SeqAt.shaped
  rw [h.lay, decide_eq_true (Nat.le_trans h.dep (Nat.le_trans e (by decide)))]
  rfl
theorem lay_rd {d : Int} {r : Rd1} (h : isRead d r = true) : Lay r.d 2 := by
  unfold isRead at h
  rw [Bool.and_eq_true] at h
  exact .tup (.cons (.str (name_ok h.1).1) (.cons (.tup (.map fun _ _ => .int)) (.cons .int .nil)))
theorem lay_k {d : Int} {ts : List Tb} (O : OkT d ts) {t : Tb} (h : t ∈ ts) : Lay t.k 4 := .tup (.cons .int (.cons (.tup (.map fun r hr => lay_rd (O.reads t h r hr))) .nil))
theorem lay_tb {d : Int} {ts : List Tb} (O : OkT d ts) {t : Tb} (h : t ∈ ts) : Lay t.d 4 := .tup (.cons (.str (name_ok (O.names t h)).1) (.cons .int (.cons (.list (.map fun r hr => lay_rd (O.reads t h r hr))) .nil)))
theorem lay_nr {x : Str × Nat} (h : isName x.1 = true) : Lay (nrD x) 1 := .tup (.cons (.str (name_ok h).1) (.cons .int .nil))
theorem lay_named {d : Int} {ts : List Tb} (O : OkT d ts) {x : Str × Nat} (h : x ∈ named ts) : Lay (nrD x) 1 := by
  obtain ⟨t, ht, e, _⟩ := mem_named.mp (show (x.1, x.2) ∈ named ts from h)
  exact lay_nr (by rw [← e]; exact O.names t ht)
theorem eqv_nr (a b : Str × Nat) : PyData.eqv (nrD a) (nrD b) = decide (a = b) := by
  obtain ⟨x, i⟩ := a
  obtain ⟨y, j⟩ := b
  unfold nrD
  simp only [PyData.eqv, PyData.eqvAll, Bool.and_true]
  by_cases h1 : x = y
  · by_cases h2 : i = j
    · subst h1 h2
      simp
    · have : ¬ ((i : Int) = (j : Int)) := by omega
      simp [h2, this]
  · simp [h1]
theorem KvAt.ext {K : PySem.W.Frag} {H H' : Hp} (e : LamX.ExtN H H') {kvs : List (Key × V)} {ts : List Tb} (h : KvAt K H kvs ts) : KvAt K H' kvs ts := h.monoD (SD.ext e)
theorem SysAt.ext {K : PySem.W.Frag} {C : Addr} {H H' : Hp} {s : Addr} {d m : Int} {ts : List Tb} (e : LamX.ExtN H H') (h : SysAt K C H s d m ts) : SysAt K C H' s d m ts := by
  obtain ⟨dx, t, kvs, h1, h2, h3⟩ := h.ob
  exact ⟨dx, t, kvs, e _ _ h1 (fun ps z => by cases z), e _ _ h2 (fun ps z => by cases z), h3.ext e⟩
def tabEq (ts us : List Tb) : Bool := ts.length == us.length && ts.all fun t => match us.find? (fun u => decide (u.n = t.n)) with
  | none => false
  | some u => PyData.eqv t.k u.k
theorem kvEq_of {K : PySem.W.Frag} {H : Hp} {ls : List (Key × V)} {us : List Tb} (hl : KvAt K H ls us) (su : ∀ u ∈ us, SeqAt.shaped u.k = true) : ∀ {ks : List (Key × V)} {ts : List Tb}, KvAt K H ks ts → (∀ t ∈ ts, SeqAt.shaped t.k = true) →
    KvEq K H ls ks (ts.all fun t => match us.find? (fun u => decide (u.n = t.n)) with
      | none => false
      | some u => PyData.eqv t.k u.k)
  | [], _, h, _ => by
    cases h
    exact .nil
  | (k, v) :: ks, _, h, st => by
    cases h with
    | @cons _ t _ ts h1 h2 =>
      obtain ⟨e1, e2⟩ := h1
      have e1 : k = Sum.inr t.n := e1
      subst e1
      have ih := kvEq_of hl su h2 fun t ht => st t (List.mem_cons_of_mem _ ht)
      rw [List.all_cons]
      cases hf : us.find? (fun u => decide (u.n = t.n)) with
      | none =>
        refine .miss (hl.noVal fun hm => ?_)
        obtain ⟨u, hu, e⟩ := List.mem_map.mp hm
        have z := List.find?_eq_none.mp hf u hu
        exact z (decide_eq_true e)
      | some u =>
        obtain ⟨y, y1, y2⟩ := hl.get hf
        exact .hit y1 e2 y2 (st t List.mem_cons_self) (su u (List.mem_of_find?_eq_some hf)) ih
theorem find_nodup' {ts : List Tb} (hn : (ts.map (·.n)).Nodup) {t : Tb} (h : t ∈ ts) : ts.find? (fun u => decide (u.n = t.n)) = some t := find_nodup hn h rfl
theorem tabEq_refl {ts : List Tb} (hn : (ts.map (·.n)).Nodup) (st : ∀ t ∈ ts, SeqAt.shaped t.k = true) : tabEq ts ts = true := by
  unfold tabEq
  rw [Bool.and_eq_true]
  refine ⟨by simp, List.all_eq_true.mpr fun t ht => ?_⟩
  rw [find_nodup' hn ht]
  exact SeqAt.eqv_refl _ (SeqAt.canLay_of_shaped (st t ht))
end Fr

namespace Fr
open PySem PySem.Spec PyProof.Rows L2
theorem ltCps_iff : ∀ a b : List Nat, ltCps a b = true ↔ a < b
  | [], [] => by simp [ltCps]
  | [], b :: t => by simp [ltCps]
  | a :: r, [] => by simp [ltCps]
  | a :: r, b :: t => by
    rw [List.cons_lt_cons_iff, ← ltCps_iff r t]
    simp [ltCps]
theorem rising_pw : ∀ (l : List Str) (p : Str), risingS p l = true → (p :: l).Pairwise fun a b => a.cps.toList ≤ b.cps.toList
  | [], p, _ => by simp
  | x :: r, p, h => by
    unfold risingS at h
    rw [Bool.and_eq_true] at h
    have ih := rising_pw r x h.2
    have hx : p.cps.toList ≤ x.cps.toList := fun z => by
      have := (ltCps_iff x.cps.toList p.cps.toList).mpr z
      rw [this] at h
      exact Bool.noConfusion h.1
    rw [List.pairwise_cons]
    refine ⟨fun y hy => ?_, ih⟩
    rcases List.mem_cons.mp hy with rfl | hy
    · exact hx
    · exact List.le_trans hx ((List.pairwise_cons.mp ih).1 y hy)
theorem sorted_pw {l : List Str} (h : sortedS l = true) : l.Pairwise fun a b => a.cps.toList ≤ b.cps.toList := by
  cases l with
  | nil => exact .nil
  | cons x r => exact rising_pw r x h
theorem str_antisymm {a b : Str} (h : a.cps.toList ≤ b.cps.toList) (k : b.cps.toList ≤ a.cps.toList) : a = b := by
  have e := List.le_antisymm h k
  obtain ⟨a⟩ := a
  obtain ⟨b⟩ := b
  have e : a.toList = b.toList := e
  rw [Array.toList_inj.mp e]
theorem srt_pw (ts : List Tb) : ((srt ts).map (·.n)).Pairwise fun a b => a.cps.toList ≤ b.cps.toList := by
  rw [List.pairwise_map]
  have h := List.pairwise_mergeSort (le := leK Tb.n) (fun a b c h1 h2 => decide_eq_true (List.le_trans (of_decide_eq_true h1) (of_decide_eq_true h2))) (fun a b => by
    unfold leK
    rw [Bool.or_eq_true, decide_eq_true_eq, decide_eq_true_eq]
    exact List.le_total _ _) ts
  exact h.imp fun h => of_decide_eq_true h
theorem srt_perm (ts : List Tb) : (srt ts).Perm ts := List.mergeSort_perm ts (leK Tb.n)
theorem sorted_names {ys : List Str} {ts : List Tb} (p : ys.Perm (ts.map (·.n))) (h : sortedS ys = true) : ys = (srt ts).map (·.n) :=
  List.Perm.eq_of_pairwise (fun _ _ _ _ h k => str_antisymm h k) (sorted_pw h) (srt_pw ts) (p.trans ((srt_perm ts).map (·.n)).symm)
/-- one order alone -/
theorem srt_same {ts us : List Tb} (p : ts.Perm us) (n : (ts.map (·.n)).Nodup) : srt ts = srt us := by
  have e : (srt ts).map (·.n) = (srt us).map (·.n) := List.Perm.eq_of_pairwise (fun _ _ _ _ h k => str_antisymm h k) (srt_pw ts) (srt_pw us) ((((srt_perm ts).trans p).trans (srt_perm us).symm).map (·.n))
  have hp : (srt ts).Perm (srt us) := ((srt_perm ts).trans p).trans (srt_perm us).symm
  have hl : (srt ts).length = (srt us).length := hp.length_eq
  refine List.ext_getElem? fun i => ?_
  cases h : (srt ts)[i]? with
  | none =>
    rw [List.getElem?_eq_none_iff] at h
    rw [List.getElem?_eq_none (by omega)]
  | some t =>
    have hi : i < (srt us).length := by
      have := (List.getElem?_eq_some_iff.mp h).1
      omega
    rw [List.getElem?_eq_getElem hi]
    have h1 : ((srt us).map (·.n))[i]? = some t.n := by rw [← e, List.getElem?_map, h]; rfl
    rw [List.getElem?_map, List.getElem?_eq_getElem hi] at h1
    have h2 : ((srt us)[i]).n = t.n := Option.some.inj h1
    have m1 : t ∈ srt us := hp.mem_iff.mp (List.mem_of_getElem? h)
    have m2 : (srt us)[i] ∈ srt us := List.getElem_mem hi
    have nn : ((srt us).map (·.n)).Nodup := (((srt_perm us).trans p.symm).map (·.n)).nodup_iff.mpr n
    have f1 := find_nodup (x := t.n) nn m1 rfl
    have f2 := find_nodup (x := t.n) nn m2 h2
    rw [f1] at f2
    exact f2
end Fr

namespace Fr
open PySem PySem.Spec PyProof.Rows L2
abbrev s_System_len : Stmt := inClass (topS 30) 1
theorem sc_System_len : FnScope ["self"] ["self"] (defScope s_System_len) := ⟨rfl, rfl, rfl, by decide +kernel, rfl, by decide +kernel, by decide +kernel⟩
-- slots: 0 self
abbrev s_System_eq : Stmt := inClass (topS 30) 2
theorem sc_System_eq : FnScope ["self", "other"] ["self", "other"] (defScope s_System_eq) := ⟨rfl, rfl, rfl, by decide +kernel, rfl, by decide +kernel, by decide +kernel⟩
-- slots: 0 self, 1 other
abbrev s_System_constant : Stmt := inClass (topS 30) 6
theorem sc_System_constant : FnScope ["self", "name"] ["self", "name"] (defScope s_System_constant) := ⟨rfl, rfl, rfl, by decide +kernel, rfl, by decide +kernel, by decide +kernel⟩
-- slots: 0 self, 1 name
abbrev s_System_all_reads : Stmt := inClass (topS 30) 8
theorem sc_System_all_reads : FnScope ["self", "name", "number"] ["self"] (defScope s_System_all_reads) := ⟨rfl, rfl, rfl, by decide +kernel, rfl, by decide +kernel, by decide +kernel⟩
-- slots: 0 self, 1 name, 2 number
abbrev s_Systemwith_tables : Stmt := inClass (topS 30) 15
theorem sc_Systemwith_tables : FnScope ["self", "tables", "made", "name"] ["self", "tables"] (defScope s_Systemwith_tables) := ⟨rfl, rfl, rfl, by decide +kernel, rfl, by decide +kernel, by decide +kernel⟩
-- slots: 0 self, 1 tables, 2 made, 3 name
section
variable {P : Program} {w : World} {K : PySem.W.Frag} {mg : Str → Option Value} {base : Heap}
def spLenS (K : PySem.W.Frag) (C : Addr) : Sp := fun vs H Q _ => ∃ (s : Addr) (d m : Int) (ts : List Tb), vs = [.ref s] ∧ SysAt K C H s d m ts ∧ Q (.int (ts.length : Nat)) H
theorem ok_lenS {f C : Addr} {fd : FuncData} (F : Fun K "__len__" "System.__len__" s_System_len f fd) (T : Txt mg) (TC : TxtC K mg C) : FnOk P w K mg base CX0 1 f fd ["self"] (spLenS K C) := by
  refine F.ok sc_System_len (fun vs H Q E h => ?_) (fun cdv A outer s H vs Q E hr h => ?_)
  · obtain ⟨s, d, m, ts, rfl, _⟩ := h
    rfl
  · obtain ⟨s, d, m, ts, rfl, S, q⟩ := h
    refine ⟨_, (pss_one (ps_ret (pe_callB call_lenD (by rfl) T.b_len PySem.boot_len (pa_cons (pe_fld (pv 0) rfl) pa_nil)))), ?_⟩
    obtain ⟨dx, t, kvs, h1, h2, h3⟩ := S.ob
    refine ⟨_, rfl, s, C, dx, _, _, rfl, h1, TC.cl, TC.nT, flds_t _ _ _, t, kvs, rfl, h2, ?_⟩
    rw [h3.len]
    exact q
def spSysEq (K : PySem.W.Frag) (C : Addr) : Sp := fun vs H Q _ => ∃ (a b : Addr) (d m d' m' : Int) (ts us : List Tb), vs = [.ref a, .ref b] ∧ SysAt K C H a d m ts ∧ SysAt K C H b d' m' us ∧ (∀ t ∈ ts, SeqAt.shaped t.k = true) ∧ (∀ t ∈ us, SeqAt.shaped t.k = true) ∧
  Q (.bl (decide (d = d') && (decide (m = m') && tabEq ts us))) H
theorem dec_int (a b : Int) : decide (V.int a = V.int b) = decide (a = b) := decide_eq_decide.mpr ⟨fun h => V.int.inj h, fun h => congrArg V.int h⟩
theorem ok_eqS {f C : Addr} {fd : FuncData} (F : Fun K "__eq__" "System.__eq__" s_System_eq f fd) (T : Txt mg) (TC : TxtC K mg C) (zi : mg "isinstance" = none) (isC : C8.InsC K C) : FnOk P w K mg base CX0 1 f fd ["self", "other"] (spSysEq K C) := by
  refine F.ok sc_System_eq (fun vs H Q E h => ?_) (fun cdv A outer s H vs Q E hr h => ?_)
  · obtain ⟨a, b, d, m, d', m', ts, us, rfl, _⟩ := h
    rfl
  · obtain ⟨a, b, d, m, d', m', ts, us, rfl, S, S', st, su, q⟩ := h
    refine ⟨_, (pss_one (ps_ret (pe_and (pe_callB (C8.call_isC isC) (by rfl) zi (by decide +kernel) (pa_cons (pv 1) (pa_cons (pe_glob (v := .ref C) (by rfl) TC.g_System rfl) pa_nil))) (pe_and (pe_cmpR op_eq (pe_fld (pv 0) rfl) (pe_fld (pv 1) rfl) (nomark _)) (pe_and (pe_cmpR op_eq (pe_fld (pv 0) rfl) (pe_fld (pv 1) rfl) (nomark _)) (pe_one (pe_cmpR (op_eqKv hr.units1) (pe_fld (pv 0) rfl) (pe_fld (pv 1) rfl) (nomark _)))))))), ?_⟩
    obtain ⟨dx, t, kvs, h1, h2, h3⟩ := S.ob
    obtain ⟨dx', t', kvs', h1', h2', h3'⟩ := S'.ob
    refine ⟨_, rfl, b, dx', _, rfl, h1', _, rfl, iteT ?_⟩
    refine ⟨_, rfl, a, C, dx, _, _, rfl, h1, TC.cl, TC.nD, flds_d _ _ _, _, rfl, b, C, dx', _, _, rfl, h1', TC.cl, TC.nD, flds_d _ _ _, rfl, _, rfl, ?_⟩
    rw [dec_int]
    cases e1 : decide (d = d') with
    | false =>
      rw [e1] at q
      exact iteF q
    | true =>
      rw [e1, Bool.true_and] at q
      refine iteT ?_
      refine ⟨_, rfl, a, C, dx, _, _, rfl, h1, TC.cl, TC.nM, flds_m _ _ _, _, rfl, b, C, dx', _, _, rfl, h1', TC.cl, TC.nM, flds_m _ _ _, rfl, _, rfl, ?_⟩
      rw [dec_int]
      cases e2 : decide (m = m') with
      | false =>
        rw [e2] at q
        exact iteF q
      | true =>
        rw [e2, Bool.true_and] at q
        refine iteT ?_
        refine ⟨_, rfl, a, C, dx, _, _, rfl, h1, TC.cl, TC.nT, flds_t _ _ _, _, rfl, b, C, dx', _, _, rfl, h1', TC.cl, TC.nT, flds_t _ _ _, t, t', kvs, kvs', _, rfl, rfl, h2, h2', fun _ => kvEq_of h3' su h3 st, ?_⟩
        unfold tabEq at q
        rw [h3.len, h3'.len]
        exact q
def spConst (K : PySem.W.Frag) (C : Addr) : Sp := fun vs H Q _ => ∃ (s : Addr) (d m : Int) (ts : List Tb) (x : Str) (tb : Tb), vs = [.ref s, .str x] ∧ SysAt K C H s d m ts ∧ x ∈ ts.map (·.n) ∧ ts.find? (fun t => decide (t.n = x)) = some tb ∧ ∀ H', Same H H' → Q (.int tb.c) H'
theorem ok_const {f C : Addr} {fd : FuncData} (F : Fun K "constant" "System.constant" s_System_constant f fd) (T : Txt mg) (TC : TxtC K mg C) (c_check_table : C8.Cal P w K mg base 3 "check_table" (spCheckTable K C) []) : FnOk P w K mg base CX0 4 f fd ["self", "name"] (spConst K C) := by
  refine F.ok sc_System_constant (fun vs H Q E h => ?_) (fun cdv A outer s H vs Q E hr h => ?_)
  · obtain ⟨s, d, m, ts, x, tb, rfl, _⟩ := h
    rfl
  · obtain ⟨s, d, m, ts, x, tb, rfl, S, hx, hf, q⟩ := h
    have hu := hu_of hr
    refine ⟨_, (pss_cons (ps_expr (C8.pe_c c_check_table hr (by decide) (by rfl) (pa_cons (pv 0) (pa_cons (pv 1) pa_nil))))
  (pss_one (ps_ret (pe_ix ix_tup (pe_dget hu (pe_fld (pv 0) rfl) (pv 1) (fun _ _ => rfl)) pe_int (fun _ _ => rfl))))), ?_⟩
    refine ⟨_, rfl, _, rfl, s, d, m, ts, x, rfl, S, hx, fun H1 sm => ?_⟩
    obtain ⟨dx, t, kvs, h1, h2, h3⟩ := (S.mono sm).ob
    obtain ⟨v, e1, e2⟩ := h3.get hf
    obtain ⟨a, ys, rfl, ht, hd⟩ := dtup e2
    obtain ⟨y1, y2, rfl, g1, g2⟩ := dps2 hd
    obtain rfl := dint g1
    refine ⟨_, rfl, s, C, dx, _, _, rfl, h1, TC.cl, TC.nT, flds_t _ _ _, _, rfl, t, _, rfl, ?_, a, _, 0, _, rfl, rfl, ht, rfl, q H1 sm⟩
    have g := DGet.k (k := Sum.inr x) h2
    rw [e1] at g
    exact g
def spAll (K : PySem.W.Frag) (C : Addr) : Sp := fun vs H Q _ => ∃ (s : Addr) (d m : Int) (ts : List Tb), vs = [.ref s] ∧ SysAt K C H s d m ts ∧ (ts.map (·.n)).Nodup ∧ (ts.map fun t => t.rs.length).sum ≤ 1000 ∧ ∀ p H', H p = none → Same H H' → LD K H' p ((named ts).map nrD) → Q (.ref p) H'
theorem DGet.frz {H : Hp} {a : Addr} {o : PySem.Obj} {kvs : List (Key × V)} {k : Key} (e : H a = some (.frz o (.dK kvs))) : DGet H a (kV k) (valV kvs k) := .inl ⟨kvs, k, .inr ⟨o, e⟩, rfl, rfl⟩
theorem kv_at {H : Hp} : ∀ {kvs : List (Key × V)} {ts : List Tb} {i : Nat} {k : Key} {v : V}, KvAt K H kvs ts → kvs[i]? = some (k, v) → ∃ t, ts[i]? = some t ∧ k = Sum.inr t.n ∧ Dp K H v t.k
  | [], _, _, _, _, h, e => by cases e
  | p :: kvs, _, 0, k, v, h, e => by
    cases h with
    | cons h1 h2 =>
      cases e
      exact ⟨_, rfl, h1⟩
  | p :: kvs, _, i + 1, k, v, h, e => by
    cases h with
    | cons h1 h2 => exact kv_at (i := i) h2 (by simpa using e)
theorem st_upd {H : Hp} {t : Addr} {u v : HO} (h : H t = some u) (n : tupo u = false) : ST H (upd H t v) := fun b o e d => by
  have hb : b ≠ t := fun z => by
    rw [z, h] at e
    cases e
    rw [n] at d
    cases d
  rw [upd_ne hb]
  exact e
theorem ok_all {f C : Addr} {fd : FuncData} (F : Fun K "all_reads" "System.all_reads" s_System_all_reads f fd) (T : Txt mg) (TC : TxtC K mg C) : FnOk P w K mg base CX0 1 f fd ["self"] (spAll K C) := by
  refine F.ok sc_System_all_reads (fun vs H Q E h => ?_) (fun cdv A outer sh H vs Q E hr h => ?_)
  · obtain ⟨s, d, m, ts, rfl, _⟩ := h
    rfl
  · obtain ⟨s, d, m, ts, rfl, S, hn, hfew, q⟩ := h
    have hu := hu_of hr
    refine ⟨_, (pss_one (ps_ret (pe_lock (pe_lc2 (own := [("name", 1), ("number", 2)]) (vs1 := [2]) (g := gName 1) (g1 := gName 2) (tt := tYes) (tt1 := tYes) (by rfl) sc_System_all_reads.nd (pi_keys (pe_fld (pv 0) rfl)) (blkOk_by (N := ["self", "name", "number"]) (sc := defScope s_System_all_reads) (by decide +kernel)) (by decide) (fun _ _ _ _ _ => (pg_name (i := 1) sc_System_all_reads.nd rfl (by first | exact Or.inl rfl | exact Or.inr rfl))) (fun _ _ _ _ _ => pts_nil) (fun _ _ _ _ _ => (pi_range1 (by rfl) T.b_range (pa_cons (pe_callB (r := Evl.rLenS K) call_len_seq (by rfl) T.b_len PySem.boot_len (pa_cons (pe_ix (r := rIxT K) ix_tup (pe_dget hu (pe_fldK (K' := K) (pv 0)) (pv 1) (fun _ _ => rfl)) pe_int (fun _ _ => rfl)) pa_nil)) pa_nil))) (fun _ _ _ _ _ => (pg_name (i := 2) sc_System_all_reads.nd rfl (by first | exact Or.inl rfl | exact Or.inr rfl))) (fun _ _ _ _ _ => pts_nil) (fun _ _ _ _ _ => (pe_tup (pa_cons (pv 1) (pa_cons (pv 2) pa_nil)))))))), ?_⟩
    obtain ⟨dx, t, kvs, h1, h2, h3⟩ := S.ob
    have nst : s ≠ t := fun z => by
      rw [z, h2] at h1
      cases h1
    refine ⟨t, .dK kvs, h2, True.intro, fun od => ?_⟩
    have l1 : (upd H t (.frz od (.dK kvs))) s = some (.ins C dx (flds d m t)) := by rw [upd_ne nst]; exact h1
    have l2 : (upd H t (.frz od (.dK kvs))) t = some (.frz od (.dK kvs)) := upd_same
    have l3 : KvAt K (upd H t (.frz od (.dK kvs))) kvs ts := kvt (st_upd h2 rfl) h3
    have back : ∀ H', Same (upd H t (.frz od (.dK kvs))) H' → Same H (upd H' t (.dK kvs)) := fun H' e => unlock h2 e
    generalize hL : upd H t (.frz od (.dK kvs)) = HL at l1 l2 l3 back
    refine ⟨_, rfl, s, C, dx, _, _, rfl, l1, TC.cl, TC.nT, flds_t _ _ _, t, od, rfl, Or.inl ⟨kvs, l2, fun D hD => ?_⟩⟩
    refine lc2_it (walk_keys (o := od) (d := t) (kvs := kvs)) (fun i H' => ∃ (B : Hp) (xs : List V), Same HL B ∧ B D = none ∧ Same B H' ∧ H' D = some (.lst xs) ∧ DpAll K B xs ((named (ts.take i)).map nrD))
      ⟨HL, [], same_refl, hD, snew hD, upd_same, .nil⟩ (fun i H' _ ⟨B, xs, b1, _, b3, _⟩ => b3 _ _ (b1 _ _ l2)) ?_ ?_
    · rintro i x Hi _ hi ⟨B, xs, b1, b2, b3, b4, b5⟩ ⟨rfl, k, v, hk, rfl⟩ Nx hNx
      obtain ⟨tb, ht, rfl, hv⟩ := kv_at l3 hk
      have hf := find_nodup' hn (List.mem_of_getElem? ht)
      obtain ⟨v', e1, e2⟩ := l3.get hf
      have sBi := same_tr b1 b3
      refine ⟨rfl, yes_if ?_⟩
      obtain ⟨a, ys, rfl, hta, hda⟩ := dtup (dpm sBi _ _ e2)
      obtain ⟨y1, y2, rfl, g1, g2⟩ := dps2 hda
      obtain ⟨b, zs, rfl, htb, hdb⟩ := dtup g2
      have hzl : zs.length = tb.rs.length := by rw [dps_len hdb, List.length_map]
      have hrl : tb.rs.length ≤ 1000 := Nat.le_trans (mem_le_sum (f := fun t : Tb => t.rs.length) (List.mem_of_getElem? ht)) hfew
      refine ⟨_, rfl, s, C, dx, _, _, rfl, sBi _ _ l1, TC.cl, TC.nT, flds_t _ _ _, _, rfl, t, _, rfl, ?_, a, _, 1, _, rfl, rfl, hta, rfl, b, zs, rfl, Or.inr htb, (zs.length : Int), rfl, by omega, by omega, ?_⟩
      · have g := DGet.frz (k := Sum.inr tb.n) (sBi _ _ l2)
        rw [e1] at g
        exact g
      · have htn : ((zs.length : Int)).toNat = tb.rs.length := by omega
        rw [htn]
        refine in2_it walk_range (fun j H' => ∃ (B : Hp) (xs : List V), Same HL B ∧ B D = none ∧ Same B H' ∧ H' D = some (.lst xs) ∧ DpAll K B xs ((named (ts.take i) ++ (List.range j).map fun n => (tb.n, n)).map nrD))
          ⟨B, xs, b1, b2, b3, b4, by rw [List.range_zero, List.map_nil, List.append_nil]; exact b5⟩ (fun _ _ _ _ => True.intro) ?_ ?_
        · rintro j y _ Hj hj ⟨B2, xs2, c1, c2, c3, c4, c5⟩ ⟨rfl, rfl⟩
          refine ⟨rfl, yes_if ?_⟩
          refine ⟨_, rfl, _, rfl, (by show 2 ≤ sizeLine; decide), fun u hu2 => ?_⟩
          have nu : u ≠ D := fun z => by
            rw [z, c4] at hu2
            cases hu2
          have bu := free_of c3 hu2
          have c3' : Same (upd B2 u (.tup [.str tb.n, .int (0 + (j : Int))])) (upd Hj u (.tup [.str tb.n, .int (0 + (j : Int))])) := sgrow c3
          have bD : (upd B2 u (.tup [.str tb.n, .int (0 + (j : Int))])) D = none := by
            rw [upd_ne nu.symm]
            exact c2
          have hxl : xs2.length ≤ 2000 := by
            rw [dps_len c5, List.length_map, List.length_append, named_len, List.length_map, List.length_range]
            have e := congrArg (fun l : List Tb => (l.map fun t => t.rs.length).sum) (List.take_append_drop i ts)
            simp only [List.map_append, List.sum_append] at e
            omega
          refine ⟨xs2, by rw [upd_ne nu.symm]; exact c4, Nat.lt_of_le_of_lt hxl (by rw [sizeLine_eq]; decide), _, xs2 ++ [.ref u], same_tr c1 (snew bu), bD, swrite c3' bD, upd_same, ?_⟩
          have e : named (ts.take i) ++ (List.range (j + 1)).map (fun n => (tb.n, n)) = (named (ts.take i) ++ (List.range j).map fun n => (tb.n, n)) ++ [(tb.n, j)] := by
            rw [List.range_succ, List.map_append, List.append_assoc]
            rfl
          rw [e, List.map_append]
          refine dps_snoc (dpsm (snew bu) _ _ c5) (.tup (Or.inl (Or.inl upd_same)) (.cons (.str _) (.cons ?_ .nil)))
          rw [Int.zero_add]
          exact .int _
        · rintro H' ⟨B2, xs2, c1, c2, c3, c4, c5⟩
          refine hNx _ ⟨B2, xs2, c1, c2, c3, c4, ?_⟩
          rw [named_take ht]
          exact c5
    · rintro H' ⟨B, xs, b1, b2, b3, b4, b5⟩
      have hlt : kvs.length = ts.length := h3.len
      rw [hlt, List.take_length] at b5
      have tD : D ≠ t := fun z => by
        rw [z, l2] at hD
        cases hD
      refine ⟨b3 _ _ (b1 _ _ l2), q D _ ?_ (back _ (same_tr b1 b3)) ⟨xs, by rw [upd_ne tD]; exact b4, dpst (st_unlock b3 (b1 _ _ l2) rfl) _ _ (noLs_map noL_nr _) b5⟩⟩
      rw [← hL, upd_ne tD] at hD
      exact hD
end
end Fr

namespace Fr
open PySem PySem.Spec PyProof.Rows L2
theorem putF_flds (d m : Int) (t t' : Addr) : putF "_tables" (.ref t') (flds d m t) = flds d m t' := by
  unfold flds
  simp only [putF, if_neg nDM, if_neg nDT, if_neg nMT, if_true]
def bare : Tb := ⟨"a", 0, []⟩
theorem bare_ok {d m : Int} (h1 : 1 ≤ d) (h3 : d ≤ 3) (hm : 2 ≤ m) : OkSys d m [bare] :=
  ⟨h1, h3, hm, by decide, by decide, ⟨(by intro t ht; rw [List.mem_singleton.mp ht]; decide +kernel), (by simp), (by decide), (by intro t ht r hr; rw [List.mem_singleton.mp ht] at hr; cases hr), (by intro t ht r hr; rw [List.mem_singleton.mp ht] at hr; cases hr)⟩⟩
theorem keys_kv {K : PySem.W.Frag} {H : Hp} : ∀ {kvs : List (Key × V)} {ts : List Tb}, KvAt K H kvs ts → kvs.map (·.1) = (ts.map (·.n)).map Sum.inr
  | [], _, h => by cases h; rfl
  | p :: kvs, _, h => by
    cases h with
    | cons h1 h2 =>
      rw [List.map_cons, List.map_cons, List.map_cons, keys_kv h2, h1.1]
section
variable {P : Program} {w : World} {K : PySem.W.Frag} {mg : Str → Option Value} {base : Heap}
def spWith (K : PySem.W.Frag) (C : Addr) (TT : List (Addr × Str)) : Sp := fun vs H Q _ => ∃ (s t : Addr) (d m : Int) (ts us : List Tb) (kvs : List (Key × V)), vs = [.ref s, .ref t] ∧ SysAt K C H s d m ts ∧ 1 ≤ d ∧ d ≤ 3 ∧ 2 ≤ m ∧ H t = some (.dK kvs) ∧ KvAt K H kvs us ∧ (us.map (·.n)).Nodup ∧ us.length ≤ 60 ∧ LamX.Tabs TT H ∧
  ∀ x H', H x = none → LamX.ExtN H H' → LamX.Tabs TT H' → SysAt K C H' x d m (srt us) → Q (.ref x) H'
theorem ok_with {f C : Addr} {fd : FuncData} {TT : List (Addr × Str)} (F : Fun K "_with_tables" "System._with_tables" s_Systemwith_tables f fd) (T : Txt mg) (TC : TxtC K mg C) (m_System3 : C8.Mak P w K mg base 5 "System" C (spInit K C TT) []) : FnOk P w K mg base CX0 7 f fd ["self", "tables"] (spWith K C TT) := by
  refine F.ok sc_Systemwith_tables (fun vs H Q E h => ?_) (fun cdv A outer sh H vs Q E hr h => ?_)
  · obtain ⟨s, t, d, m, ts, us, kvs, rfl, _⟩ := h
    rfl
  · obtain ⟨s, t, d, m, ts, us, kvs, rfl, S, hd1, hd3, hm2, ht, hkv, hnd, hlen, hT, q⟩ := h
    have hu := hu_of hr
    refine ⟨_, (pss_cons (ps_set (i := 2) sc_Systemwith_tables.nd rfl (by first | exact Or.inl rfl | exact Or.inr rfl) (C8.pe_mk m_System3 hr (by decide) (by rfl) (pa_cons (pe_fld (pv 0) rfl) (pa_cons (pe_lst (pa_cons (pe_tup (pa_cons pe_str (pa_cons pe_int (pa_cons (pe_lst pa_nil) pa_nil)))) pa_nil)) (pa_cons (pe_fld (pv 0) rfl) pa_nil)))))
  (pss_cons (ps_fld (pv 2) (pe_dc (own := [("name", 3)]) (g := gName 3) (tt := tYes) (by rfl) sc_Systemwith_tables.nd (pi_list (pe_callB (call_sortedD rfl) (by rfl) T.b_sorted (by decide +kernel) (pa_cons (pv 1) pa_nil))) (blkOk_by (N := ["self", "tables", "made", "name"]) (sc := defScope s_Systemwith_tables) (by decide +kernel)) (fun _ _ _ _ _ => (pg_name (i := 3) sc_Systemwith_tables.nd rfl (by first | exact Or.inl rfl | exact Or.inr rfl))) (fun _ _ _ _ _ => pts_nil) (fun _ _ _ _ _ => (pv 3)) (fun _ _ _ _ _ => (pe_dget hu (pv 1) (pv 3) (fun _ _ => rfl)))) rfl)
  (pss_one (ps_ret (pv 2))))), ?_⟩
    obtain ⟨dx, tt, kvs0, h1, h2, h3⟩ := S.ob
    -- made = System(..)
    refine ⟨_, rfl, s, C, dx, _, _, rfl, h1, TC.cl, TC.nD, flds_d _ _ _, Nat.zero_le _, fun l0 hl0 => ⟨(by show 3 ≤ sizeLine; decide), fun t0 ht0 => ⟨(by show 1 ≤ sizeLine; decide), fun l1 hl1 => ?_⟩⟩⟩
    have s1 : Same H (upd (upd (upd H l0 (.lst [])) t0 (.tup [.str "a", .int 0, .ref l0])) l1 (.lst [.ref t0])) := same_tr (snew hl0) (same_tr (snew ht0) (snew hl1))
    have D1 : Dp K (upd (upd (upd H l0 (.lst [])) t0 (.tup [.str "a", .int 0, .ref l0])) l1 (.lst [.ref t0])) (.ref l1) (.list ([bare].map Tb.d)) := by
      refine .lst (Or.inl (Or.inl upd_same)) (.cons (.tup (Or.inl (Or.inl (snew hl1 _ _ upd_same))) (.cons (.str _) (.cons (.int _) (.cons (.lst (Or.inl (Or.inl (snew hl1 _ _ (snew ht0 _ _ upd_same)))) .nil) .nil)))) .nil)
    generalize upd (upd (upd H l0 (.lst [])) t0 (.tup [.str "a", .int 0, .ref l0])) l1 (.lst [.ref t0]) = H1 at s1 D1
    refine ⟨_, rfl, s, C, dx, _, _, rfl, s1 _ _ h1, TC.cl, TC.nM, flds_m _ _ _, fun x dx2 nx ndx nex => ?_⟩
    have sx : Same H1 (upd (upd H1 dx2 (.own x)) x (.ins C dx2 [])) := same_tr (snew ndx) (snew (by rw [upd_ne nex.symm]; exact nx))
    refine ⟨x, dx2, d, m, .ref l1, [bare], rfl, upd_same, (hT.ext s1).ext sx, bare_ok hd1 hd3 hm2, dpm sx _ _ D1, fun H2 E2 hT2 S2 => ⟨rfl, ?_⟩⟩
    have xH : H x = none := free_of s1 nx
    have e2 : LamX.ExtN H H2 := fun b o e n => E2 b o (sx b o (s1 b o e)) (ne_of_none (s1 b o e) nx) n
    obtain ⟨dx3, t3, kvs3, o1, o2, o3⟩ := S2.ob
    have ht2 := e2 _ _ ht (fun ps z => by cases z)
    have hk2 := hkv.ext e2
    -- sorted(tables)
    refine ⟨_, rfl, t, kvs, us.map (·.n), rfl, Or.inl ht2, keys_kv hk2, by rw [List.length_map]; omega, fun ys p perm so hp => ?_⟩
    have ey := sorted_names perm so
    have sl : (srt us).length = us.length := List.length_mergeSort _
    have nds : ((srt us).map (·.n)).Nodup := ((srt_perm us).map (·.n)).nodup_iff.mpr hnd
    have s3 : Same H2 (upd H2 p (.lst (ys.map V.str))) := snew hp
    have hyl : (ys.map V.str).length = us.length := by rw [List.length_map, ey, List.length_map, sl]
    refine ⟨p, rfl, ⟨_, Or.inl (Or.inl upd_same)⟩, fun D hD => dc_it (walk_list (K := K) (a := p) (xs := ys.map V.str)) (fun i H' => ∃ kvs', Same (upd H2 p (.lst (ys.map V.str))) (upd H' D (.dK kvs')) ∧ H' D = some (.dK kvs') ∧ KvAt K H2 kvs' ((srt us).take i) ∧ ∀ b, b ≠ D → (upd H2 p (.lst (ys.map V.str))) b = H' b)
      ⟨[], fun b o e => by rw [upd_ne (ne_of_none e hD), upd_ne (ne_of_none e hD)]; exact e, upd_same, .nil, fun b hb => (upd_ne hb).symm⟩ (fun i H' _ ⟨kvs', b1, b2, _, b4⟩ => Or.inl (Or.inl (by rw [← b4 p fun z => by rw [← z, upd_same] at hD; cases hD]; exact upd_same))) ?_ ?_⟩
    · rintro i y _ Hi hi ⟨kvs', b1, b2, b3, b4⟩ ⟨rfl, hy⟩
      rw [List.getElem?_map, ey, List.getElem?_map] at hy
      obtain ⟨z, hz, rfl⟩ := Option.map_eq_some_iff.mp hy
      obtain ⟨u, hu1, rfl⟩ := Option.map_eq_some_iff.mp hz
      have humem : u ∈ us := (srt_perm us).mem_iff.mp (List.mem_of_getElem? hu1)
      have hf := find_nodup' hnd humem
      obtain ⟨v, e1, e3⟩ := hk2.get hf
      have tD : t ≠ D := ne_of_none (s3 _ _ ht2) hD
      have htI : Hi t = some (.dK kvs) := by rw [← b4 t tD]; exact s3 _ _ ht2
      refine ⟨rfl, yes_if ?_⟩
      refine ⟨_, rfl, _, rfl, _, rfl, t, v, rfl, ?_, kvs', Sum.inr u.n, rfl, b2, ?_, ?_⟩
      · have g := DGet.k (k := Sum.inr u.n) htI
        rw [e1] at g
        exact g
      · have : kvs'.length ≤ 60 := by
          rw [b3.len, List.length_take]
          omega
        exact Nat.lt_of_le_of_lt this (by rw [sizeLine_eq]; decide)
      · have hno : valV kvs' (Sum.inr u.n) = none := b3.noVal (by
          rw [List.map_take]
          exact notin_take nds (by rw [List.getElem?_map, hu1]; rfl))
        rw [putK_new _ hno]
        refine ⟨kvs' ++ [(Sum.inr u.n, v)], fun b o e => ?_, upd_same, ?_, fun b hb => by rw [upd_ne hb]; exact b4 b hb⟩
        · have hb : b ≠ D := ne_of_none e hD
          rw [upd_ne hb, upd_ne hb, ← b4 b hb]
          exact e
        · rw [List.take_add_one, hu1]
          exact b3.app (.cons ⟨rfl, e3⟩ .nil)
    · rintro Hf ⟨kvs', b1, b2, b3, b4⟩
      rw [hyl, ← sl, List.take_length] at b3
      have xD : x ≠ D := ne_of_none (s3 _ _ o1) hD
      have hxf : Hf x = some (.ins C dx3 (flds d m t3)) := by rw [← b4 x xD]; exact s3 _ _ o1
      refine ⟨_, rfl, x, C, dx3, _, rfl, hxf, TC.cl, TC.nT, (by show 3 < 1000; decide), _, rfl, ?_⟩
      rw [putF_flds]
      have sf : Same H2 Hf := fun b o e => by
        have hb : b ≠ D := ne_of_none (s3 _ _ e) hD
        rw [← b4 b hb]
        exact s3 _ _ e
      refine q x _ xH (fun b o e n => ?_) (tabs_ins (hT2.ext sf) hxf) ⟨dx3, D, kvs', upd_same, by rw [upd_ne xD.symm]; exact b2, b3.monoD (SD.upd (.of sf) hxf rfl)⟩
      rw [upd_ne (ne_of_none e xH)]
      exact sf _ _ (e2 _ _ e n)
end
end Fr

namespace Fr
open PySem PySem.Spec PyProof.Rows L2
theorem OkT.perm {d : Int} {ts us : List Tb} (p : ts.Perm us) (O : OkT d ts) : OkT d us := by
  refine ⟨fun t ht => O.names t (p.mem_iff.mpr ht), (p.map (·.n)).nodup_iff.mp O.nodup, ?_, fun t ht => O.reads t (p.mem_iff.mpr ht), fun t ht r hr => (p.map (·.n)).mem_iff.mp (O.here t (p.mem_iff.mpr ht) r hr)⟩
  rw [← (p.map fun t => t.rs.length).sum_nat]
  exact O.few
section
variable {P : Program} {w : World} {K : PySem.W.Frag} {mg : Str → Option Value} {base : Heap}
theorem mk_sys {C : Addr} {TT : List (Addr × Str)} {H : Hp} {d m : Int} {v : V} {ts : List Tb} {R : Hp → Prop} {E : XK} (hT : LamX.Tabs TT H) (O : OkSys d m ts) (hv : Dp K H v (.list (ts.map Tb.d))) {x dx : Addr} (nx : H x = none) (ndx : H dx = none) (nex : dx ≠ x)
    (q : ∀ H', LamX.ExtN H H' → LamX.Tabs TT H' → SysAt K C H' x d m (srt ts) → R H') : spInit K C TT [.ref x, .int d, v, .int m] (upd (upd H dx (.own x)) x (.ins C dx [])) (fun v H2 => v = .non ∧ R H2) E := by
  have sx : Same H (upd (upd H dx (.own x)) x (.ins C dx [])) := same_tr (snew ndx) (snew (by rw [upd_ne nex.symm]; exact nx))
  exact ⟨x, dx, d, m, v, ts, rfl, upd_same, hT.ext sx, O, dpm sx _ _ hv, fun H2 E2 hT2 S2 => ⟨rfl, q H2 (fun b o e n => E2 b o (sx b o e) (ne_of_none e nx) n) hT2 S2⟩⟩
theorem eq_sys {C a b : Addr} {H : Hp} {d m : Int} {ts : List Tb} {Q : VK} (S : SysAt K C H a d m ts) (S' : SysAt K C H b d m ts) (O : OkT d ts) (q : Q (.bl true) H) : rEqOwn C (spSysEq K C) (.ref a) (.ref b) H Q := by
  have sh : ∀ t ∈ ts, SeqAt.shaped t.k = true := fun t ht => (lay_k O ht).shaped (by decide)
  obtain ⟨dx, t, kvs, h1, _⟩ := id S.ob
  obtain ⟨dx', t', kvs', h1', _⟩ := id S'.ob
  refine ⟨a, b, dx, dx', _, _, rfl, rfl, h1, h1', a, b, d, m, d, m, ts, ts, rfl, S, S', sh, sh, _, rfl, ?_⟩
  rw [tabEq_refl O.nodup sh, decide_eq_true rfl, decide_eq_true rfl]
  exact q
theorem no_fld {d m : Int} {t : Addr} {x : Str} (h : decide (x = "_dimensions" ∨ x = "_modulus" ∨ x = "_tables") = false) : (flds d m t).lookup x = none := by
  have h := of_decide_eq_false h
  exact flds_no _ _ _ (fun e => h (.inl e)) (fun e => h (.inr (.inl e))) fun e => h (.inr (.inr e))
end
section
variable {K : PySem.W.Frag} {TT : List (Addr × Str)} {r : Addr} {m m' : Nat} {B B' H H' : Hp}
theorem LS.ext (h : LS TT r m B H) (x : LamX.ExtN H H') (t : LamX.Tabs TT H') : LS TT r m B H' := by
  obtain ⟨a, b, c, e, n⟩ := h.rs.ok
  exact ⟨⟨same_of_ext h.rs.s h.nt x, h.rs.n, a, b, c, x _ _ e (fun ps z => by cases z), n⟩, t, h.nt⟩
theorem LS.up (h : LS TT r m B H) : Same B (bs H r) := fun b o e => bs_of (h.rs.s b o e) (ne_of_none e h.rs.n) fun ps z => h.nt b ps (by rw [e, z])
theorem LS.re (h : LS TT r m B H) : LS TT r m (bs H r) H := LS.own h.rs.ok h.tb
theorem LS.call (h : LS TT r m B H) (R : RS r m' B' H') (s : Same (cutr H r) B') : LS TT r m' B H' :=
  ⟨⟨fun b o e => R.s _ _ (s _ _ (by rw [cutr_ne (ne_of_none e h.rs.n)]; exact h.rs.s b o e)), h.rs.n, R.ok⟩, tabs_cut h.tb h.rs.ok (same_tr s R.s), h.nt⟩
theorem LD.bs {l : Addr} {ds : List PyData} (h : LD K H l ds) (n : noLs ds = true) (ok : RngOk H r m) (ne : r ≠ l) : LD K (Fr.bs H r) l ds := by
  obtain ⟨xs, h1, h2⟩ := h
  exact ⟨xs, bs_of h1 ne.symm (fun ps z => by cases z), dpst (ST.bs ok) _ _ n h2⟩
theorem ST.cut (ok : RngOk H r m) : ST H (cutr H r) := fun b o e d => by
  obtain ⟨x, y, z, h1, _⟩ := ok
  rw [cutr_ne fun q => by rw [q, h1] at e; cases e; cases d]
  exact e
theorem sd_to (s : Same B H) (n : B r = none) (x : LamX.ExtN H H') : SD B (Fr.bs H' r) := fun b o e d => by
  have nt : ∀ ps, o ≠ .tbl ps := fun ps z => by
    rw [z] at d
    cases d
  exact bs_of (x _ _ (s _ _ e) nt) (ne_of_none e n) nt
theorem LD.to {l : Addr} {ds : List PyData} (h : LD K B l ds) (s : Same B H) (n : B r = none) (x : LamX.ExtN H H') : LD K (Fr.bs H' r) l ds := by
  obtain ⟨xs, h1, h2⟩ := h
  exact ⟨xs, sd_to s n x _ _ h1 rfl, dpsd (sd_to s n x) _ _ h2⟩
theorem SysAt.re {C s : Addr} {d md : Int} {ts : List Tb} (h : SysAt K C H s d md ts) (ok : RngOk H r m) : SysAt K C (Fr.bs H r) s d md ts := h.bs ok fun _ => kvt (ST.bs ok)
end
/-- an expression, up to what holds behind it -/
def tCsqE (t : TE) : TE := fun σ H Q => ∃ N : V → Hp → Prop, (∀ v H, N v H → Q v H) ∧ t σ H N
theorem pe_csqE {X : Cx} {e : Expr} {t : TE} (h : PE X e t) : PE X e (tCsqE t) := ⟨fun pins s σ H Q I ⟨N, hN, q⟩ => thn (h.run pins s σ H _ I q) fun v s1 ⟨x, H1, I1, r, n⟩ => ⟨x, H1, I1, r, hN _ _ n⟩⟩
theorem dps_take {K : PySem.W.Frag} {H : Hp} : ∀ (n : Nat) {vs : List V} {ds : List PyData}, DpAll K H vs ds → DpAll K H (vs.take n) (ds.take n)
  | 0, _, _, _ => by rw [List.take_zero, List.take_zero]; exact .nil
  | n + 1, _, _, h => by
    cases h with
    | nil => exact .nil
    | cons h1 h2 => exact .cons h1 (dps_take n h2)
theorem LS.keep {TT : List (Addr × Str)} {r p : Addr} {m : Nat} {B H : Hp} {o : HO} (h : LS TT r m B H) (e : H p = some o) (k : B p = none) (n : r ≠ p) (t : ∀ ps, o ≠ .tbl ps) : LS TT r m (upd B p o) H :=
  ⟨h.rs.keep e k n, h.tb, fun b ps z => by
    by_cases hb : b = p
    · rw [hb, upd_same] at z
      exact t ps (Option.some.inj z)
    · rw [upd_ne hb] at z
      exact h.nt b ps z⟩
theorem LD.dr {K : PySem.W.Frag} {H H' : Hp} {l r : Addr} {m m' : Nat} {ds : List PyData} (h : LD K H l ds) (n : noLs ds = true) (ok : RngOk H r m) (d : Dr r m' H H') (ne : r ≠ l) : LD K H' l ds := h.st (ST.dr ok d) n (d.ne _ ne.symm)
theorem srt_srt {ts : List Tb} (n : (ts.map (·.n)).Nodup) : srt (srt ts) = srt ts := (srt_same (srt_perm ts).symm n).symm
theorem LS.sub {TT : List (Addr × Str)} {r : Addr} {m : Nat} {B0 B H : Hp} (h : LS TT r m B H) (s : Same B0 B) : LS TT r m B0 H := by
  refine ⟨⟨same_tr s h.rs.s, ?_, h.rs.ok⟩, h.tb, fun b ps z => h.nt b ps (s _ _ z)⟩
  cases e : B0 r with
  | none => rfl
  | some o =>
    have z := s _ _ e
    rw [h.rs.n] at z
    cases z
end Fr

namespace Fr
open PySem PySem.Spec PyProof.Rows L2
/-- what the written part says of an error class -/
structure ErrC (K : PySem.W.Frag) (C : Addr) : Prop where
  oex : OexC K C
  ga : PySem.W.findIn K (.ref C) "__getattribute__" = some (some (.builtin "BaseException.__getattribute__"))
  gg : PySem.W.findIn K (.ref C) "__getattr__" = some none
  hd : PySem.W.hasDictIn K C = true
  kc : PySem.W.findIn K (.ref C) "__class__" = some (some (.builtin "object.__class__"))
  kg : PySem.W.specialIn K (.builtin "object.__class__") "__get__" = some (some (.builtin "getset_descriptor.__get__"))
  kt : PySem.W.takesIn K (.builtin "object.__class__") = some true
  km : PySem.W.mroIn K C (.type "object") = some true
/-- an error at a with these attributes -/
def ErrAt (H : Hp) (a C : Addr) (fs : List (Str × V)) : Prop := ∃ d : Addr, H a = some (exo a C (some d)) ∧ H d = some (exd d fs)
theorem ErrAt.mono {H H' : Hp} {a C : Addr} {fs : List (Str × V)} (h : ErrAt H a C fs) (e : Same H H') : ErrAt H' a C fs := by
  obtain ⟨d, h1, h2⟩ := h
  exact ⟨d, e _ _ h1, e _ _ h2⟩
section
variable {X : Cx} {C fI : Addr} {k : Nat} {fd : FuncData} {ps : List Str} {sp : Sp} {x f : Str} {p pos : Pos} {e : Expr} {es : List Expr} {t : TA} {te : TE}
/-- C(e, ..), the error itself -/
def tMkV (C : Addr) (sp : Sp) (t : TA) : TE := fun σ H Q => t σ H fun vs H1 => vs.length ≤ 1000 ∧ ∀ a, H1 a = none → sp (.ref a :: vs) (upd H1 a (exo a C none)) (fun v H2 => v = .non ∧ Q (.ref a) H2) C8.E0
theorem pe_mkV (T : OexC X.K C) (iC : PySem.W.findIn X.K (.ref C) "__init__" = some (some (.ref fI))) (tI : PySem.W.typeIn X.K (.ref fI) = some (.type "function")) (F : FnOk X.prog X.w X.K X.mg X.base CX0 k fI fd ps sp) (hr : Room (k + 1) X.A) (hb : Binds X.K fd ps [])
    (hg : Gl X x) (hm : X.mg x = some (.ref C)) (ha : PA X (e :: es) t) (hdb : (x == ("__debug__" : Str)) = false := by decide) (he : starEach (e :: es) X.env = (false, eval e X.env) :: starEach es X.env := by rfl) (hpl : (backTo pos (starEach es X.env)).any (·.1) = false := by rfl) :
    PE X (.Call (.Name x p) (e :: es) [] pos) (tMkV C sp t) := by
  constructor
  intro pins s σ H Q I h
  obtain ⟨nm, q, N, bs, bm, sn, sub, ab, col, dd, k0, k1, k2, k3, k5, hC, hbm⟩ := T.cls
  refine wpAny_Call_Name_kw (ld_glob I hg hm (PySem.W.callWith_K (h₀ := X.base) I.ok.mod.kin T.kC (thn (ha.run pos pins s σ H _ I h) ?_) he hpl) hdb)
  rintro us s1 ⟨vs, H1, I1, r1, hz, q1⟩
  refine ⟨I1.kIn, ?_⟩
  show wpAny _ _ (call (.ref C) us) _ _ _
  obtain ⟨hp, g, dr, tk, os⟩ := s1
  have big : hp.objs.size ≤ hp.objs.size + 1 := Nat.le_succ _
  have hq := q1 (hp.objs.size + 1) (I1.hok.fresh big)
  have old : ∀ b o, hp.get? b = some o → ((hp.push (PySem.W.kdv_tup us)).push (PySem.HandSPX.excO C hp.objs.size)).get? b = some o := fun b o z => Heap.get?_push_of_some _ (Heap.get?_push_of_some _ z)
  have new : ((hp.push (PySem.W.kdv_tup us)).push (PySem.HandSPX.excO C hp.objs.size)).get? (hp.objs.size + 1) = some (PySem.HandSPX.excO C hp.objs.size) := by heap_get
  have J : Inv X pins σ (upd H1 (hp.objs.size + 1) (exo (hp.objs.size + 1) C none)) ⟨(hp.push (PySem.W.kdv_tup us)).push (PySem.HandSPX.excO C hp.objs.size), g, dr, tk, os⟩ := I1.laid (t' := tk) (o := exo (hp.objs.size + 1) C none) old big (exo_ok new)
  have rr : Vals (V.ref (hp.objs.size + 1) :: vs) (Value.ref (hp.objs.size + 1) :: us) := .cons rfl r1
  have hl : ((Value.ref (hp.objs.size + 1) :: us) ++ ([] : List Value)).length = ps.length := by
    rw [List.append_nil, ← rr.length]
    exact F.len _ _ _ _ hq
  have hu : us.length ≤ sizeLine := by
    rw [← Paired.length r1, sizeLine_eq]
    omega
  have bd := hb ⟨(hp.push (PySem.W.kdv_tup us)).push (PySem.HandSPX.excO C hp.objs.size), g, dr, tk, os⟩ (Value.ref (hp.objs.size + 1) :: us) J.kIn hl
  rw [List.append_nil] at bd
  refine wpAny_call (PySem.HandSPX.call_own PySem.F.excBase_ValueError (fun Y => PySem.HandSPX.refsVE_contains Y bm hbm) (I1.kIn _ _ hC) (PySem.W.looks_findIn I1.kIn iC) (fun self => PySem.W.bind_fn I1.kIn self tI) hu
    (codeAny_mono (FnOk.run F _ X.stack _ _ ⟨Value.ref (hp.objs.size + 1) :: us, []⟩ (Value.ref (hp.objs.size + 1) :: us) _ _ C8.E0 (hr.make C us []) (J.env0.make C us []) bd rr hq) ?_))
  intro rs s2 z
  match rs, z with
  | .error er, z => exact pass0 (X := X) pins σ _ _ er s2 J z
  | .ok .next, z => exact z.elim
  | .ok .brk, z => exact z.elim
  | .ok .cont, z => exact z.elim
  | .ok (.ret u), z =>
    obtain ⟨v, H2, I3, rv, ev, q3⟩ := J.after z
    subst ev
    exact ⟨rv, .ref (hp.objs.size + 1), H2, I3, rfl, q3⟩
/-- e.f, e an error -/
def tErrF (K : PySem.W.Frag) (f : Str) (te : TE) : TE := fun σ H Q => te σ H fun x H1 => ∃ (a C : Addr) (fs : List (Str × V)) (v : V), x = .ref a ∧ ErrC K C ∧ ErrAt H1 a C fs ∧ PySem.W.findIn K (.ref C) f = some none ∧ fs.lookup f = some v ∧ Q v H1
theorem pe_errF (he : PE X e te) (hb : attributeBase e f X.env (eval e X.env) = eval e X.env := by rfl) : PE X (.Attribute e f pos) (tErrF X.K f te) := by
  constructor
  intro pins s σ H Q I h
  refine attr_of hb (thn (he.run pins s σ H _ I h) ?_)
  rintro u s1 ⟨x, H1, I1, rx, a, C, fs, v, rfl, T, ⟨d, h1, h2⟩, no, hl, q⟩
  obtain rfl : u = Value.ref a := rx
  obtain ⟨t1, ho⟩ := exo_at I1.hok h1
  obtain ⟨mA, hns, rel⟩ := exd_at I1.hok h2
  obtain ⟨od, hod, lk⟩ := lookIn_ns hns
  obtain ⟨u, hu, ru⟩ := RelO.some_of (v := v) (o := mA f) (by rw [← hl]; exact rel f)
  exact HandSPX.exc_get I1.kIn (od := some od) ⟨ho, rfl, rfl, hod⟩ T.ga T.gg T.oex.exC (PySem.W.findObj_own T.hd no rfl (by rw [lk, hu])) (handed_of ru) ⟨v, H1, I1.tok _, ru, q⟩
/-- isinstance(e, c), e an error -/
def rIsX (K : PySem.W.Frag) : List V → Hp → VK → Prop := fun xs H Q => ∃ (a C : Addr) (fs : List (Str × V)) (c : V) (cv : Value) (b : Bool), xs = [.ref a, c] ∧ ErrC K C ∧ ErrAt H a C fs ∧ ClsV c cv ∧ PySem.W.kitOne K (.ref C) cv = some b ∧ Q (.bl b) H
theorem call_isX : CallR X (.builtin "isinstance") (rIsX X.K) := by
  intro pins s σ H xs us Q I r h
  obtain ⟨a, C, fs, c, cv, b, rfl, T, ⟨d, h1, h2⟩, hc, e, q⟩ := h
  obtain ⟨u1, u2, rfl, r1, r2⟩ := vals2 r
  obtain rfl := hc.eq r2
  obtain rfl : u1 = Value.ref a := r1
  obtain ⟨t1, ho⟩ := exo_at I.hok h1
  obtain ⟨mA, hns, rel⟩ := exd_at I.hok h2
  obtain ⟨od, hod, lk⟩ := lookIn_ns hns
  have is : PySem.W.InstAt s.heap a _ C (some od) := ⟨ho, rfl, rfl, hod⟩
  have cl : (PySem.W.clsIn X.K C).isSome = true := by
    obtain ⟨cd, hcd, _⟩ := PySem.W.any_some T.hd
    rw [hcd]
    rfl
  exact PySem.W.kia_one (PySem.W.kitx_exc cl T.ga T.gg T.oex.exC T.kc T.kg T.kt T.km) I.kIn is e (fun z => by cases z) fun tk => ⟨.bl b, H, I.tok tk, rfl, q⟩
end
end Fr

namespace Fr
open PySem PySem.Spec PyProof.Rows L2
/-- an error as a thing that is tracked: its class, its dict -/
def exq (a : Addr) (cls : Value) (d : Option Addr) : HO := .ext fun h => ∃ (o : PySem.Obj) (vs : Array Value), h.get? a = some o ∧ Zc cls d o ∧ o.data = .fields vs
theorem exq_ok {P : Program} {w : World} {H : Hp} {h : Heap} {a : Addr} {cls : Value} {d : Option Addr} {o : PySem.Obj} {vs : Array Value} (e : h.get? a = some o) (z : Zc cls d o) (f : o.data = .fields vs) : ObjOk P w H h a (exq a cls d) :=
  ⟨⟨o, vs, e, z, f⟩, ⟨_, e⟩, fun h1 h2 q k => by
    obtain ⟨o', vs', e', z', f'⟩ := q
    exact ⟨o', vs', k _ e', z', f'⟩⟩
section
variable {X : Cx} {pins : List (Addr × PySem.Obj)} {σ : L2.St} {H : Hp} {s : Shared} {a : Addr} {o : HO}
/-- a thing of the heap that was not tracked is tracked from now on -/
theorem inv_adopt (I : Inv X pins σ H s) (na : H a = none) (old : X.s_0.heap.get? a = none) (nl : a ≠ X.env.locals) (nc : ∀ x c, X.env.cells.lookup x = some c → c ≠ a) (np : ∀ p ∈ X.pn ++ pins, p.1 ≠ a) (new : ObjOk X.prog X.w (upd H a o) s.heap a o) : Inv X pins σ (upd H a o) s := by
  have up : ∀ {b : Addr} {u : HO}, H b = some u → upd H a o b = some u := fun {b u} e => by
    rw [upd_ne (ne_of_none e na)]
    exact e
  have u := I.base
  refine { I with base := { keep := u.keep, slot := u.slot, free := ?_, there := u.there, tups := ?_, frzs := ?_, tbls := ?_ }, free := ?_, freeC := ?_, pin := ?_, hok := ?_ }
  · intro b q e n hx
    have hb : b ≠ a := fun z => by
      rw [z, old] at e
      cases e
    rw [upd_ne hb]
    exact u.free b q e n hx
  · exact fun b xs e => up (u.tups b xs e)
  · exact fun b q v e => up (u.frzs b q v e)
  · intro b ps e
    obtain ⟨more, z⟩ := u.tbls b ps e
    exact ⟨more, up z⟩
  · rw [upd_ne nl.symm]
    exact I.free
  · intro x c e
    rw [upd_ne (nc x c e)]
    exact I.freeC x c e
  · intro p hp
    obtain ⟨z1, z2, z3⟩ := I.pin p hp
    exact ⟨z1, by rw [upd_ne (np p hp)]; exact z2, z3⟩
  · intro b q e
    by_cases hb : b = a
    · subst hb
      rw [upd_same] at e
      cases e
      exact new
    · rw [upd_ne hb] at e
      exact (I.hok b q e).stay (fun _ _ _ z => z) (fun c z => up z) fun c xs z => up z
end
/-- what a body must know of its error when the clause keeps it: slot i is the clause's name, slot j the variable -/
def wKeep (K : PySem.W.Frag) (c : Value) (i j : Nat) (D : Ends) : WX := fun cls d σ H => PySem.W.exmOne K cls c = some true ∧ ∀ a, H a = none → D.nx ((((σ.set i (some (.ref a))).set j (some (.ref a)))).set i none) (upd H a (exq a cls d))
section
variable {X : Cx} {x n y : Str} {c : Value} {i j : Nat} {body : List Stmt} {np yp ep pos pos' apos : Pos} {tb : WX → TS}
theorem ps_try_keep (hs : X.stack = X.env :: X.outer) (hf : X.env.frame = some X.env.locals) (hex : X.ex = []) (hN : X.N.Nodup) (hi : X.N[i]? = some n) (hj : X.N[j]? = some y) (hln : X.env.kindOf n = some .local) (hly : X.env.kindOf y = some .local) (hij : i ≠ j) (hc : Names X x c)
    (hb : ∀ (W : WX) (pn : List (Addr × PySem.Obj)) (xe : Value → Shared → Prop), Takes (X.tr pn xe) W → PassesOwn (model X.prog X.w) X.A X.env xe → PSs (X.tr pn xe) body (tb W))
    (hsw : swapsWith (.Name n ep) (some (.Name y yp)) apos.line X.env = pure false := by rfl) (hd : (n == ("__debug__" : Str)) = false := by decide) (hcd : (n == ("__classdict__" : Str)) = false := by decide) :
    PS X (.Try body [.ExceptHandler (some (.Name x np)) (some n) [.Assign [.Name y yp] (.Name n ep) apos] pos'] [] [] pos) (fun D σ H => tb (wKeep X.K c i j D) D σ H) := by
  constructor
  intro pins s σ H D I h
  have ok := I.ok
  have fra : X.A.frames = some (X.env :: X.outer) := ok.frames.trans (congrArg some hs)
  obtain ⟨xe, hxe⟩ : ∃ xe : Value → Shared → Prop, xe = fun e s₁ => wpAny (model X.prog X.w) X.A (noteFrame e X.env) (fun _ s₂ => wpAny (model X.prog X.w) X.A (setFlight e none) (fun _ s₃ =>
    wpAny (model X.prog X.w) X.A (handleBy e X.env [.ExceptHandler (some (.Name x np)) (some n) [.Assign [.Name y yp] (.Name n ep) apos] pos']) (SP X pins D) X.xe s₃) X.xe s₂) X.xe s₁ := ⟨_, rfl⟩
  have pas : PassesOwn (model X.prog X.w) X.A X.env xe := by rw [hxe]; exact PassesOwn.looking
  have caught : Takes (X.tr (X.pn ++ pins) xe) (wKeep X.K c i j D) := by
    rw [hxe]
    rintro u s1 ⟨a, B, sI, pins', σ1, H1, cls, d, rfl, J0, nb, up, sky, na, os, ag, hb1, hyes⟩
    have J : Inv X pins σ1 H1 sI := J0.ofTry ok
    have sky1 : Sky B (X.env :: X.outer) a (Zc cls d) X.env.locals s1.heap := hs ▸ sky
    show wpAny (model X.prog X.w) X.A (noteFrame (.ref a) X.env) _ _ _
    refine Sky.land Zc.steady fra hf sky1 fun g3 fly3 u3 => ?_
    have K3 : Inv X pins σ1 H1 { s1 with heap := g3 } := J.landed nb fly3.1 (up.trans u3) os ag
    obtain ⟨q3, vs3, at3, z3, dat3⟩ := fly3.there
    have out : a ∉ frs (X.env :: X.outer) := fun hm => by
      obtain ⟨_, q', e', nof⟩ := fly3.2.2.1.mem hm
      rw [at3] at e'
      cases e'
      exact nof _ dat3
    have aL : a ≠ X.env.locals := fun z => out (List.mem_filterMap.mpr ⟨X.env, List.mem_cons_self, by rw [hf, z]⟩)
    have aF : a ∉ X.fs := fun hm => by
      obtain ⟨e, he, q⟩ := List.mem_filterMap.mp hm
      exact out (List.mem_filterMap.mpr ⟨e, List.mem_cons_of_mem _ he, q⟩)
    have gone : sI.heap.get? a = none := by
      cases q : sI.heap.get? a with
      | none => rfl
      | some w =>
        have z := nb a w q (by rw [hs]; exact out)
        rw [fly3.2.1] at z
        cases z
    have S3 := K3.suite at3 dat3 na aL aF
    refine wpAny_handleBy_cons (codeAny_handlers_test ?_) (by intro q; cases q)
    have ty3 : PySem.W.Looks (model X.prog X.w) g3 (typeOf (.ref a)) cls := fun A Q E s k q => wpAny_typeOf_ref (k _ _ at3) (by rw [z3.1]; exact q)
    have hit := PySem.W.exm_one (M := model X.prog X.w) K3.kIn ty3 hb1
    have asks : ∀ {Q : Value → Shared → Prop} {E : Value → Shared → Prop}, Q c { s1 with heap := g3 } → wpAny (model X.prog X.w) (X.A.mark (some (.ref a))) (eval (.Name x np) X.env) Q E { s1 with heap := g3 } := fun {Q E} q => by
      obtain ⟨hg, nd, hm | ⟨hm, hv, nn⟩⟩ := hc
      · exact ld_glob S3 hg hm q nd
      · exact ld_blt S3 hg hm hv q nn nd
    refine asks (hit.here ?_)
    refine codeAny_handlers_suite_as (HandSPX.lands_againZ fly3 fun g4 fly4 u4 => ?_)
    have K4 : Inv X pins σ1 H1 { s1 with heap := g4 } := J.landed nb fly4.1 ((up.trans u3).trans u4) os ag
    obtain ⟨q4, vs4, at4, z4, dat4⟩ := fly4.there
    have S4 := K4.suite at4 dat4 na aL aF
    have one : PSs (X.suite a ((a, q4) :: (X.pn ++ pins))) [.Assign [.Name y yp] (.Name n ep) apos] (tAsg (tVar i) (gName j)) :=
      pss_one (ps_set (X := X.suite a ((a, q4) :: (X.pn ++ pins))) hN hj (.inl hly) (pe_var (X := X.suite a ((a, q4) :: (X.pn ++ pins))) hi (.inl hln) hd hcd) hsw (.inr hly))
    refine store_ok (X := X.suite a ((a, q4) :: (X.pn ++ pins))) (v := .ref a) S4 hN hi (.inl hln) rfl (fun s5 S5 => ?_) (.inr hln)
    have hlen : i < σ1.length := by
      rw [K4.len]
      exact (List.getElem?_eq_some_iff.mp hi).1
    refine wpAny_mono (one.run [] s5 _ H1 { nx := fun σ' H' => σ' = (σ1.set i (some (.ref a))).set j (some (.ref a)) ∧ H' = H1, rt := fun _ _ => False, bk := fun _ _ => False, ct := fun _ _ => False } S5 ⟨.ref a, List.getElem?_set_self hlen, rfl, rfl⟩) (fun f s6 q => ?_) (fun _ _ z => False.elim z)
    cases f with
    | brk => obtain ⟨_, _, _, z⟩ := q; exact z.elim
    | cont => obtain ⟨_, _, _, z⟩ := q; exact z.elim
    | ret u => obtain ⟨_, _, _, _, _, z⟩ := q; exact z.elim
    | next =>
      obtain ⟨σ6, H6, S6, rfl, rfl⟩ := q
      obtain ⟨at6, _⟩ := S6.pin (a, q4) (List.mem_append_left _ List.mem_cons_self)
      have K6 : Inv X pins _ H6 s6 := S6.unsuite ok
      have K7 := inv_adopt K6 na ?_ aL ?_ ?_ (exq_ok at6 z4 dat4)
      · exact gone_ok K7 hN hi hln fun s7 K8 => ⟨_, _, K8, hyes a na⟩
      · cases q : X.s_0.heap.get? a with
        | none => rfl
        | some w =>
          obtain ⟨w', z⟩ := J.base.there a w q (by rw [hex]; exact fun z => nomatch z)
          rw [gone] at z
          cases z
      · intro v k e z
        subst z
        obtain ⟨w, q, z, _⟩ := J.cell v _ e
        rw [gone] at z
        cases z
      · intro p hp z
        obtain ⟨e, _⟩ := J.pin p hp
        rw [z, gone] at e
        cases e
  have R := (hb (wKeep X.K c i j D) (X.pn ++ pins) xe caught pas).run [] s σ H D (I.toTry _) h
  rw [hxe] at R
  refine wpAny_Try_except (wpAny_mono R (fun f s1 q => ?_) fun _ _ z => z)
  cases f with
  | next =>
    obtain ⟨σ1, H1, J, z⟩ := q
    exact wpAny_execs_nil ⟨σ1, H1, J.ofTry ok, z⟩
  | brk =>
    obtain ⟨σ1, H1, J, z⟩ := q
    exact ⟨σ1, H1, J.ofTry ok, z⟩
  | cont =>
    obtain ⟨σ1, H1, J, z⟩ := q
    exact ⟨σ1, H1, J.ofTry ok, z⟩
  | ret u =>
    obtain ⟨v, σ1, H1, J, r, z⟩ := q
    exact ⟨v, σ1, H1, J.ofTry ok, r, z⟩
end
end Fr

namespace Fr
open PySem PySem.Spec PyProof.Rows L2
section
variable {P : Program} {w : World} {K : PySem.W.Frag} {mg : Str → Option Value} {base : Heap}
/-- the promise of a def whose body may raise -/
theorem fun_okX {x qual : Str} {st : Stmt} {f : Addr} {fd : FuncData} {N ps : List Str} {k : Nat} {sp : Sp} (F : Fun K x qual st f fd) (S : FnScope N ps (defScope st)) (len : ∀ vs H Q E, sp vs H Q E → vs.length = ps.length)
    (body : ∀ (cdv : Value) (A : Around) (outer : List Env) (s : Shared) (H : Hp) (vs : List V) (Q : VK) (E : XK), Room k (A.deeper (envOfC qual (defScope st) s.heap.objs.size f cdv)) → sp vs H Q E →
      ∃ t, PSs (cxOf (L2.CX P w) P w K mg base N qual (defScope st) f cdv A outer s H E) (defBody st) t ∧ t { nx := fun _ H' => Q .non H', rt := Q } (start N vs) H) : FnOk P w K mg base (L2.CX P w) (k + 1) f fd ps sp := by
  obtain ⟨oc, od, kV, doc, pm, an, cdv, ct, osl, rfl, lk, hcd⟩ := F.ex
  exact fn_of lk hcd S len fun A outer s H vs Q E hr hsp => body cdv A outer s H vs Q E hr hsp
/-- a def that raises, by its name -/
structure CalX (P : Program) (w : World) (K : PySem.W.Frag) (mg : Str → Option Value) (base : Heap) (k : Nat) (x : Str) (sp : Sp) : Prop where
  ex : ∃ (f : Addr) (fd : FuncData) (ps : List Str), FnOk P w K mg base (L2.CX P w) k f fd ps sp ∧ mg x = some (.ref f) ∧ PySem.W.keepIn K (.ref f) = true ∧ Binds K fd ps []
theorem pe_cx {X : Cx} {k j : Nat} {x : Str} {sp : Sp} {W : WX} {e : Expr} {es : List Expr} {t : TA} {p pos : Pos} (c : CalX X.prog X.w X.K X.mg X.base k x sp) (hr : Room j X.A) (hk : k ≤ j) (hg : Gl X x) (tk : Takes X W) (ha : PA X (e :: es) t)
    (hdb : (x == ("__debug__" : Str)) = false := by decide) (he : starEach (e :: es) X.env = (false, eval e X.env) :: starEach es X.env := by rfl) (hpl : (backTo pos (starEach es X.env)).any (·.1) = false := by rfl) : PE X (.Call (.Name x p) (e :: es) [] pos) (tCallS sp (WE W) t) := by
  obtain ⟨f, fd, ps, F, hm, kp, b⟩ := c.ex
  exact pe_callS F (hr.mono hk) hg hm kp b (fun σ => passAt tk σ) ha hdb he hpl
/-- two promises of one def, one of them without errors -/
theorem fn_or {k : Nat} {f : Addr} {fd : FuncData} {ps : List Str} {sp0 sp1 : Sp} (F0 : FnOk P w K mg base CX0 k f fd ps sp0) (F1 : FnOk P w K mg base (L2.CX P w) k f fd ps sp1) : FnOk P w K mg base (L2.CX P w) k f fd ps (fun vs H Q E => sp0 vs H Q E ∨ sp1 vs H Q E) :=
  ⟨fun vs H Q E h => h.elim (F0.len vs H Q E) (F1.len vs H Q E), fun A outer s H args us vs Q E hr e0 hb r h => h.elim
    (fun h => codeAny_mono (F0.run A outer s H args us vs Q E hr e0 hb r h) fun rs s' z => by
      cases rs with
      | error e => exact False.elim z
      | ok fl => cases fl <;> exact z) (F1.run A outer s H args us vs Q E hr e0 hb r)⟩
end
def ErrQ (H : Hp) (a C : Addr) (fs : List (Str × V)) : Prop := ∃ d : Addr, H a = some (exq a (.ref C) (some d)) ∧ H d = some (.xd fs)
theorem ErrQ.mono {H H' : Hp} {a C : Addr} {fs : List (Str × V)} (h : ErrQ H a C fs) (e : Same H H') : ErrQ H' a C fs := by
  obtain ⟨d, h1, h2⟩ := h
  exact ⟨d, e _ _ h1, e _ _ h2⟩
theorem ErrQ.look {X : Cx} {pins : List (Addr × PySem.Obj)} {σ : L2.St} {H : Hp} {s : Shared} {a C : Addr} {fs : List (Str × V)} (I : Inv X pins σ H s) (h : ErrQ H a C fs) :
    ∃ (o od : PySem.Obj) (mA : Str → Option Value), PySem.W.InstAt s.heap a o C (some od) ∧ (∀ f, RelO (fs.lookup f) (mA f)) ∧ ∀ f, PySem.W.lookIn f od = some (mA f) := by
  obtain ⟨d, h1, h2⟩ := h
  obtain ⟨⟨o, vs, e, z, df⟩, _⟩ := (show ObjOk X.prog X.w H s.heap a (exq a (.ref C) (some d)) from I.hok a _ h1)
  obtain ⟨mA, hns, rel⟩ := (show ObjOk X.prog X.w H s.heap d (.xd fs) from I.hok d _ h2)
  obtain ⟨od, hod, lk⟩ := lookIn_ns hns
  refine ⟨o, od, mA, ⟨e, z.1, ?_, ?_⟩, rel, lk⟩
  · unfold PySem.W.notCls
    rw [df]
  · rw [z.2]
    exact hod
section
variable {X : Cx} {f : Str} {pos : Pos} {e : Expr} {te : TE}
/-- e.f, e a caught error -/
def tErrG (K : PySem.W.Frag) (f : Str) (te : TE) : TE := fun σ H Q => te σ H fun x H1 => ∃ (a C : Addr) (fs : List (Str × V)) (v : V), x = .ref a ∧ ErrC K C ∧ ErrQ H1 a C fs ∧ PySem.W.findIn K (.ref C) f = some none ∧ fs.lookup f = some v ∧ Q v H1
theorem pe_errG (he : PE X e te) (hb : attributeBase e f X.env (eval e X.env) = eval e X.env := by rfl) : PE X (.Attribute e f pos) (tErrG X.K f te) := by
  constructor
  intro pins s σ H Q I h
  refine attr_of hb (thn (he.run pins s σ H _ I h) ?_)
  rintro u s1 ⟨x, H1, I1, rx, a, C, fs, v, rfl, T, eq, no, hl, q⟩
  obtain rfl : u = Value.ref a := rx
  obtain ⟨o, od, mA, J, rel, lk⟩ := eq.look I1
  obtain ⟨u, hu, ru⟩ := RelO.some_of (v := v) (o := mA f) (by rw [← hl]; exact rel f)
  exact HandSPX.exc_get I1.kIn J T.ga T.gg T.oex.exC (PySem.W.findObj_own T.hd no rfl (by rw [lk, hu])) (handed_of ru) ⟨v, H1, I1.tok _, ru, q⟩
/-- isinstance(e, c), e a caught error -/
def rIsQ (K : PySem.W.Frag) : List V → Hp → VK → Prop := fun xs H Q => ∃ (a C : Addr) (fs : List (Str × V)) (c : V) (cv : Value) (b : Bool), xs = [.ref a, c] ∧ ErrC K C ∧ ErrQ H a C fs ∧ ClsV c cv ∧ PySem.W.kitOne K (.ref C) cv = some b ∧ Q (.bl b) H
theorem ErrC.cl {K : PySem.W.Frag} {C : Addr} (T : ErrC K C) : (PySem.W.clsIn K C).isSome = true := by
  obtain ⟨cd, hcd, _⟩ := PySem.W.any_some T.hd
  rw [hcd]
  rfl
theorem call_isQ : CallR X (.builtin "isinstance") (rIsQ X.K) := by
  intro pins s σ H xs us Q I r h
  obtain ⟨a, C, fs, c, cv, b, rfl, T, eq, hc, e, q⟩ := h
  obtain ⟨u1, u2, rfl, r1, r2⟩ := vals2 r
  obtain rfl := hc.eq r2
  obtain rfl : u1 = Value.ref a := r1
  obtain ⟨o, od, mA, J, _, _⟩ := eq.look I
  exact PySem.W.kia_one (PySem.W.kitx_exc T.cl T.ga T.gg T.oex.exC T.kc T.kg T.kt T.km) I.kIn J e (fun z => by cases z) fun tk => ⟨.bl b, H, I.tok tk, rfl, q⟩
/-- isinstance(e, (c, ..)), e a caught error -/
def rIsQT (K : PySem.W.Frag) : List V → Hp → VK → Prop := fun xs H Q => ∃ (a C tp : Addr) (fs : List (Str × V)) (cs : List V) (ws : List Value) (b : Bool), xs = [.ref a, .ref tp] ∧ ErrC K C ∧ ErrQ H a C fs ∧ H tp = some (.tup cs) ∧ Paired ClsV cs ws ∧ PySem.W.kitAny K (.ref C) ws = some b ∧ Q (.bl b) H
theorem call_isQT : CallR X (.builtin "isinstance") (rIsQT X.K) := by
  intro pins s σ H xs us Q I r h
  obtain ⟨a, C, tp, fs, cs, ws, b, rfl, T, eq, ht, hc, e, q⟩ := h
  obtain ⟨u1, u2, rfl, r1, r2⟩ := vals2 r
  obtain rfl : u2 = Value.ref tp := r2
  obtain rfl : u1 = Value.ref a := r1
  obtain ⟨o, od, mA, J, _, _⟩ := eq.look I
  obtain ⟨_, its, rv, to, h1, h2, n, h3⟩ := (show ObjOk X.prog X.w H s.heap tp (.tup cs) from I.hok tp _ ht)
  obtain rfl := ClsV.all hc rv
  obtain ⟨oc, odd, dt, sl⟩ := to
  simp only at h2 h3
  subst h2 h3
  exact PySem.W.kia_tup (PySem.W.kitx_exc T.cl T.ga T.gg T.oex.exC T.kc T.kg T.kt T.km) I.kIn J h1 e (fun z => by cases z) fun tk => ⟨.bl b, H, I.tok tk, rfl, q⟩
end
end Fr

namespace Fr
open PySem PySem.Spec PyProof.Rows L2
abbrev s_ReadError_init : Stmt := inClass (topS 2) 0
theorem sc_ReadError_init : FnScope ["self", "value"] ["self", "value"] (defScope s_ReadError_init) := ⟨rfl, rfl, rfl, by decide +kernel, rfl, by decide +kernel, by decide +kernel⟩
-- slots: 0 self, 1 value
section
variable {P : Program} {w : World} {K : PySem.W.Frag} {mg : Str → Option Value} {base : Heap}
/-- self.value = value, the error being made -/
def spErrI (K : PySem.W.Frag) : Sp := fun vs H Q _ => ∃ (a C : Addr) (y : V), vs = [.ref a, y] ∧ OexC K C ∧ H a = some (exo a C none) ∧ PySem.W.findIn K (.ref C) "value" = some none ∧ ∀ dx, H dx = none → dx ≠ a → Q .non (upd (upd H dx (exd dx [(("value" : Str), y)])) a (exo a C (some dx)))
theorem ok_errI {f : Addr} {fd : FuncData} (F : Fun K "__init__" "ReadError.__init__" s_ReadError_init f fd) : FnOk P w K mg base CX0 1 f fd ["self", "value"] (spErrI K) := by
  refine F.ok sc_ReadError_init (fun vs H Q E h => ?_) (fun cdv A outer sh H vs Q E hr h => ?_)
  · obtain ⟨a, C, y, rfl, _⟩ := h
    rfl
  · obtain ⟨a, C, y, rfl, T, ha, no, q⟩ := h
    exact ⟨_, pss_one (ps_ost (pv 0) (pv 1)), _, rfl, _, rfl, a, C, rfl, T, no, Or.inl ⟨ha, q⟩⟩
/-- an error class of the program, to be raised -/
structure MkR (P : Program) (w : World) (K : PySem.W.Frag) (mg : Str → Option Value) (base : Heap) (k : Nat) (x : Str) (C : Addr) : Prop where
  err : ErrC K C
  no : PySem.W.findIn K (.ref C) "value" = some none
  ex : ∃ (f : Addr) (fd : FuncData) (ps : List Str), PySem.W.findIn K (.ref C) "__init__" = some (some (.ref f)) ∧ PySem.W.typeIn K (.ref f) = some (.type "function") ∧ FnOk P w K mg base CX0 k f fd ps (spErrI K) ∧ Binds K fd ps [] ∧ mg x = some (.ref C)
theorem ps_err {X : Cx} {W : WX} {k j : Nat} {x : Str} {C : Addr} {e : Expr} {t : TA} {p pos pos' : Pos} (c : MkR X.prog X.w X.K X.mg X.base k x C) (hc : X.calm = true) (tk : Takes X W) (hr : Room j X.A) (hk : k + 1 ≤ j) (hg : Gl X x) (ha : PA X [e] t)
    (hdb : (x == ("__debug__" : Str)) = false := by decide) (he : starEach [e] X.env = (false, eval e X.env) :: starEach [] X.env := by rfl) : PS X (.Raise (some (.Call (.Name x p) [e] [] pos)) none pos') (fun _ σ H => tMkO C (spErrI X.K) [] t σ H fun cls d H' => W cls d σ H') := by
  obtain ⟨f, fd, ps, i, ty, F, b, hm⟩ := c.ex
  exact ps_raise hc tk (pmk_oex c.err.oex i ty F (hr.mono hk) b .nil pass0 hg hm ha hdb he rfl)
theorem err_raise {C : Addr} {y : V} {Q : XK} {H1 : Hp} {vs : List V} (e : vs = [y]) (T : OexC K C) (no : PySem.W.findIn K (.ref C) "value" = some none) (q : ∀ d, H1 d = none → Q (.ref C) (some d) (upd H1 d (.xd [(("value" : Str), y)]))) :
    vs.length ≤ 1000 ∧ ∀ a, H1 a = none → spErrI K (.ref a :: (vs ++ [])) (upd H1 a (exo a C none))
      (fun v H2 => v = .non ∧ ∃ (d : Addr) (fs : List (Str × V)), H2 a = some (exo a C (some d)) ∧ H2 d = some (exd d fs) ∧ H1 d = none ∧ Q (.ref C) (some d) (upd (L2.del H2 a) d (.xd fs))) (fun _ _ _ => False) := by
  subst e
  refine ⟨(by show 1 ≤ 1000; decide), fun a ha => ⟨a, C, y, rfl, T, upd_same, no, fun dx hdx ne => ⟨rfl, dx, _, upd_same, by rw [upd_ne ne]; exact upd_same, ?_, ?_⟩⟩⟩
  · rw [upd_ne ne] at hdx
    exact hdx
  · have hd : H1 dx = none := by
      rw [upd_ne ne] at hdx
      exact hdx
    have e : upd (L2.del (upd (upd (upd H1 a (exo a C none)) dx (exd dx [(("value" : Str), y)])) a (exo a C (some dx))) a) dx (.xd [(("value" : Str), y)]) = upd H1 dx (.xd [(("value" : Str), y)]) := by
      funext b
      by_cases h1 : b = dx
      · rw [h1, upd_same, upd_same]
      · rw [upd_ne h1, upd_ne h1]
        by_cases h2 : b = a
        · rw [h2, del_same, ha]
        · rw [del_ne h2, upd_ne h2, upd_ne h1, upd_ne h2]
    rw [e]
    exact q dx hd
end
end Fr

namespace Fr
open PySem PySem.Spec PyProof.Rows L2
def rnD (x : Str × Int) : PyData := .tuple [.str x.1, .int x.2]
/-- the read is there -/
def isNm (ts : List Tb) (x : Str × Int) : Bool := decide (0 ≤ x.2) && decide ((x.1, x.2.toNat) ∈ named ts)
theorem isNm_iff {ts : List Tb} {x : Str × Int} : isNm ts x = true ↔ ∃ t ∈ ts, t.n = x.1 ∧ 0 ≤ x.2 ∧ x.2 < (t.rs.length : Int) := by
  unfold isNm
  rw [Bool.and_eq_true, decide_eq_true_eq, decide_eq_true_eq, mem_named]
  constructor
  · rintro ⟨h, t, ht, e, l⟩
    exact ⟨t, ht, e, h, by omega⟩
  · rintro ⟨t, ht, e, h, l⟩
    exact ⟨h, t, ht, e, by omega⟩
section
variable {P : Program} {w : World} {K : PySem.W.Frag} {mg : Str → Option Value} {base : Heap}
end
end Fr

namespace Fr
open PySem PySem.Spec PyProof.Rows L2
abbrev s_links_of : Stmt := topS 21
theorem sc_links_of : FnScope ["system", "links", "name", "number", "table", "vector", "_"] ["system"] (defScope s_links_of) := ⟨rfl, rfl, rfl, by decide +kernel, rfl, by decide +kernel, by decide +kernel⟩
-- slots: 0 system, 1 links, 2 name, 3 number, 4 table, 5 vector, 6 _
/-- a link: who reads, the number, the read -/
structure Lk where
  n : Str
  i : Nat
  r : Rd1
def Lk.k (l : Lk) : List Key := [Sum.inr l.n, Sum.inl (l.i : Int)]
def Lk.d (l : Lk) : PyData := .tuple [.str l.n, .str l.r.t, .tuple (l.r.v.map .int)]
def links (ts : List Tb) : List Lk := ts.flatMap fun t => t.rs.zipIdx.map fun p => ⟨t.n, p.2, p.1⟩
theorem nam1_links (t : Tb) : (t.rs.zipIdx.map fun p => (⟨t.n, p.2, p.1⟩ : Lk)).map (fun l => (l.n, l.i)) = nam1 t := by
  unfold nam1
  rw [List.map_map]
  refine List.ext_getElem? fun i => ?_
  rw [List.getElem?_map, List.getElem?_map, List.getElem?_zipIdx]
  cases h : t.rs[i]? with
  | none =>
    rw [List.getElem?_eq_none (by rw [List.length_range]; exact List.getElem?_eq_none_iff.mp h)]
    rfl
  | some r =>
    have hi := (List.getElem?_eq_some_iff.mp h).1
    rw [List.getElem?_range hi]
    simp
theorem links_named : ∀ ts : List Tb, (links ts).map (fun l => (l.n, l.i)) = named ts
  | [] => rfl
  | t :: ts => by
    show ((t.rs.zipIdx.map fun p => (⟨t.n, p.2, p.1⟩ : Lk)) ++ links ts).map (fun l => (l.n, l.i)) = nam1 t ++ named ts
    rw [List.map_append, nam1_links, links_named ts]
theorem mem_links {ts : List Tb} {l : Lk} : l ∈ links ts ↔ ∃ t ∈ ts, t.n = l.n ∧ t.rs[l.i]? = some l.r := by
  unfold links
  rw [List.mem_flatMap]
  constructor
  · rintro ⟨t, ht, h⟩
    obtain ⟨p, hp, rfl⟩ := List.mem_map.mp h
    refine ⟨t, ht, rfl, ?_⟩
    exact List.mem_zipIdx_iff_getElem?.mp hp
  · rintro ⟨t, ht, e, h⟩
    refine ⟨t, ht, List.mem_map.mpr ⟨(l.r, l.i), List.mem_zipIdx_iff_getElem?.mpr h, ?_⟩⟩
    rw [e]
def LkAt (K : PySem.W.Frag) (H : Hp) (kvs : List (List Key × V)) (ls : List Lk) : Prop := Paired (fun (kv : List Key × V) (l : Lk) => kv.1 = l.k ∧ Dp K H kv.2 l.d) kvs ls
theorem LkAt.mono {K : PySem.W.Frag} {H H' : Hp} (e : SD H H') : ∀ {kvs : List (List Key × V)} {ls : List Lk}, LkAt K H kvs ls → LkAt K H' kvs ls
  | [], _, h => by cases h; exact .nil
  | kv :: kvs, _, h => by
    cases h with
    | cons h1 h2 => exact .cons ⟨h1.1, dpd e _ _ h1.2⟩ (LkAt.mono e h2)
theorem LkAt.len {K : PySem.W.Frag} {H : Hp} {kvs : List (List Key × V)} {ls : List Lk} (h : LkAt K H kvs ls) : kvs.length = ls.length := Paired.length h
theorem LkAt.snoc {K : PySem.W.Frag} {H : Hp} {l : Lk} {u : V} : ∀ {kvs : List (List Key × V)} {ls : List Lk}, LkAt K H kvs ls → Dp K H u l.d → LkAt K H (kvs ++ [(l.k, u)]) (ls ++ [l])
  | [], _, h, hu => by cases h; exact .cons ⟨rfl, hu⟩ .nil
  | kv :: kvs, _, h, hu => by
    cases h with
    | cons h1 h2 => exact .cons h1 (LkAt.snoc h2 hu)
theorem lk_inj {a b : Lk} (h : a.k = b.k) : (a.n, a.i) = (b.n, b.i) := by
  unfold Lk.k at h
  injection h with h1 h2
  injection h2 with h2 _
  have e1 := Sum.inr.inj h1
  have e2 := Sum.inl.inj h2
  rw [e1, Int.ofNat.inj e2]
theorem LkAt.noVal {K : PySem.W.Frag} {H : Hp} {l : Lk} : ∀ {kvs : List (List Key × V)} {ls : List Lk}, LkAt K H kvs ls → (l.n, l.i) ∉ ls.map (fun l => (l.n, l.i)) → valV kvs l.k = none
  | [], _, h, _ => by cases h; rfl
  | kv :: kvs, _, h, n => by
    cases h with
    | @cons _ g _ ls h1 h2 =>
      rw [valV_neg (fun z => n (by rw [← lk_inj (h1.1.symm.trans z)]; exact List.mem_cons_self))]
      exact LkAt.noVal h2 fun z => n (List.mem_cons_of_mem _ z)
/-- what the dict holds at a named read -/
theorem LkAt.val {K : PySem.W.Frag} {H : Hp} {x : Str} {n : Int} : ∀ {kvs : List (List Key × V)} {ls : List Lk}, LkAt K H kvs ls →
    (valV kvs [Sum.inr x, Sum.inl n] = none ∧ ∀ l ∈ ls, ¬ (l.n = x ∧ (l.i : Int) = n)) ∨ ∃ l ∈ ls, l.n = x ∧ (l.i : Int) = n ∧ ∃ u, valV kvs [Sum.inr x, Sum.inl n] = some u ∧ Dp K H u l.d
  | [], _, h => by
    cases h
    exact .inl ⟨rfl, fun l hl => by cases hl⟩
  | kv :: kvs, _, h => by
    cases h with
    | @cons _ g _ ls h1 h2 =>
      by_cases e : g.n = x ∧ (g.i : Int) = n
      · refine .inr ⟨g, List.mem_cons_self, e.1, e.2, kv.2, valV_pos ?_, h1.2⟩
        rw [h1.1]
        unfold Lk.k
        rw [e.1, e.2]
      · have ne : ¬ kv.1 = [Sum.inr x, Sum.inl n] := fun z => e (by
          rw [h1.1] at z
          unfold Lk.k at z
          injection z with z1 z2
          injection z2 with z2 _
          exact ⟨Sum.inr.inj z1, Sum.inl.inj z2⟩)
        rcases LkAt.val (x := x) (n := n) h2 with ⟨a, b⟩ | ⟨l, a, b, c, u, d, f⟩
        · refine .inl ⟨by rw [valV_neg ne]; exact a, fun l hl => ?_⟩
          rcases List.mem_cons.mp hl with rfl | hl
          · exact e
          · exact b l hl
        · exact .inr ⟨l, List.mem_cons_of_mem _ a, b, c, u, by rw [valV_neg ne]; exact d, f⟩
end Fr

namespace Fr
open PySem PySem.Spec PyProof.Rows L2
theorem nam1_nodup (t : Tb) : (nam1 t).Nodup := by
  unfold nam1
  refine List.Pairwise.map _ (fun a b h z => h ?_) List.nodup_range
  exact (Prod.mk.inj z).2
theorem named_nodup : ∀ {ts : List Tb}, (ts.map (·.n)).Nodup → (named ts).Nodup
  | [], _ => List.nodup_nil
  | t :: ts, n => by
    rw [List.map_cons, List.nodup_cons] at n
    show (nam1 t ++ named ts).Nodup
    rw [List.nodup_append]
    refine ⟨nam1_nodup t, named_nodup n.2, fun a ha b hb => ?_⟩
    rintro rfl
    obtain ⟨x, i⟩ := a
    obtain ⟨u, hu, e, _⟩ := mem_named.mp hb
    unfold nam1 at ha
    obtain ⟨j, _, hj⟩ := List.mem_map.mp ha
    have e2 := (Prod.mk.inj hj).1
    exact n.1 (List.mem_map.mpr ⟨u, hu, by rw [e, e2]⟩)
theorem notin_takeG {α : Type} {xs : List α} {i : Nat} {x : α} (n : xs.Nodup) (h : xs[i]? = some x) : x ∉ xs.take i := fun m => by
  obtain ⟨j, hj, e⟩ := List.mem_iff_getElem.mp m
  rw [List.length_take] at hj
  rw [List.getElem_take] at e
  obtain ⟨hi, e2⟩ := List.getElem?_eq_some_iff.mp h
  have := (List.getElem_inj n).mp (e.trans e2.symm)
  omega
section
variable {P : Program} {w : World} {K : PySem.W.Frag} {mg : Str → Option Value} {base : Heap}
def spLinks (K : PySem.W.Frag) (C : Addr) : Sp := fun vs H Q _ => ∃ (s : Addr) (d m : Int) (ts : List Tb), vs = [.ref s] ∧ SysAt K C H s d m ts ∧ (ts.map (·.n)).Nodup ∧ (ts.map fun t => t.rs.length).sum ≤ 100 ∧ ∀ p H' kvs, H p = none → Same H H' → H' p = some (.dT kvs) → LkAt K H' kvs (links ts) → Q (.ref p) H'
theorem ok_links {f C : Addr} {fd : FuncData} (F : Fun K "links_of" "links_of" s_links_of f fd) (T : Txt mg) (TC : TxtC K mg C) (t_reads : C8.Met P w K mg base 4 C "reads" (spReads K C) []) (t_all_reads : C8.Met P w K mg base 1 C "all_reads" (spAll K C) []) : FnOk P w K mg base CX0 5 f fd ["system"] (spLinks K C) := by
  refine F.ok sc_links_of (fun vs H Q E h => ?_) (fun cdv A outer sh H vs Q E hr h => ?_)
  · obtain ⟨s, d, m, ts, rfl, _⟩ := h
    rfl
  · obtain ⟨s, d, m, ts, rfl, S, hnd, hfew, q⟩ := h
    have hu := hu_of hr
    refine ⟨_, (pss_cons (ps_set (i := 1) sc_links_of.nd rfl (by first | exact Or.inl rfl | exact Or.inr rfl) pe_dnewT)
  (pss_cons (ps_for PassesOwn.never rfl (pi_list (C8.pe_mt0 t_all_reads hr (by decide) (pv 0))) (pg_tup rfl (pgs_cons (pg_name (i := 2) sc_links_of.nd rfl (by first | exact Or.inl rfl | exact Or.inr rfl)) (pgs_cons (pg_name (i := 3) sc_links_of.nd rfl (by first | exact Or.inl rfl | exact Or.inr rfl)) pgs_nil)))
    (pss_cons (ps_asg (pe_ix ix_list (C8.pe_mt t_reads hr (by decide) (pv 0) (pa_cons (pv 2) pa_nil)) (pv 3) (fun _ _ => rfl)) (pg_tup rfl (pgs_cons (pg_name (i := 4) sc_links_of.nd rfl (by first | exact Or.inl rfl | exact Or.inr rfl)) (pgs_cons (pg_name (i := 5) sc_links_of.nd rfl (by first | exact Or.inl rfl | exact Or.inr rfl)) (pgs_cons (pg_name (i := 6) sc_links_of.nd rfl (by first | exact Or.inl rfl | exact Or.inr rfl)) pgs_nil)))))
    (pss_one (ps_dput hu (pv 1) (pe_tup (pa_cons (pv 2) (pa_cons (pv 3) pa_nil))) (pe_tup (pa_cons (pv 2) (pa_cons (pv 4) (pa_cons (pv 5) pa_nil)))) rfl))))
  (pss_one (ps_ret (pv 1))))), ?_⟩
    refine fun p hp => ?_
    have S1 := S.mono (snew (o := .dT []) hp)
    have p1 : (upd H p (.dT [])) p = some (.dT []) := upd_same
    have nfl : ∀ {t : Addr} {z : Str}, ¬ z = "_dimensions" → ¬ z = "_modulus" → ¬ z = "_tables" → (flds d m t).lookup z = none := fun a b c => flds_no _ _ _ a b c
    obtain ⟨dx, tt, tkv, h1, h2, h3⟩ := id S1.ob
    refine ⟨_, rfl, s, dx, _, rfl, h1, nfl (by decide +kernel) (by decide +kernel) (by decide +kernel), s, d, m, ts, rfl, S1, hnd, Nat.le_trans hfew (by decide), fun a H2 ha s2 L2' => ?_⟩
    obtain ⟨xs, hx, hxd⟩ := L2'
    have xl : xs.length = (links ts).length := by rw [dps_len hxd, List.length_map, ← links_named, List.length_map]
    have ll : (links ts).length ≤ 100 := by
      rw [← List.length_map (f := fun l : Lk => (l.n, l.i)), links_named, named_len]
      exact hfew
    have lnd : ((links ts).map fun l => (l.n, l.i)).Nodup := by rw [links_named]; exact named_nodup hnd
    have p2 := s2 _ _ p1
    have nap : a ≠ p := (ne_of_none p1 ha).symm
    refine ⟨a, rfl, ⟨_, Or.inl (Or.inl hx)⟩, ?_⟩
    refine for_it (walk_list (K := K) (a := a) (xs := xs)) (fun i σ H' => ∃ (y2 y3 y4 y5 y6 : Option V) (Bi : Hp) (kvs : List (List Key × V)), σ = [some (.ref s), some (.ref p), y2, y3, y4, y5, y6] ∧ Same H Bi ∧ Bi p = none ∧ Same Bi H' ∧ H' p = some (.dT kvs) ∧ LkAt K Bi kvs ((links ts).take i) ∧ H' a = some (.lst xs) ∧ DpAll K H' xs ((named ts).map nrD))
      ⟨_, _, _, _, _, H, [], rfl, same_refl, hp, same_tr (snew hp) s2, p2, .nil, hx, hxd⟩ (fun i σ H' _ ⟨_, _, _, _, _, _, _, _, _, _, _, _, _, c, _⟩ => Or.inl (Or.inl c)) ?_ ?_
    · rintro i y σ _ H3 hi ⟨y2, y3, y4, y5, y6, Bi, kvs, rfl, b1, b2, b3, b4, b5, b6, b7⟩ ⟨rfl, hy⟩
      obtain ⟨dd, e1, e2⟩ := dps_get b7 hy
      rw [← links_named, List.map_map, List.getElem?_map] at e1
      obtain ⟨lk, hlk, rfl⟩ := Option.map_eq_some_iff.mp e1
      obtain ⟨tb, htb, hn, hrd⟩ := mem_links.mp (List.mem_of_getElem? hlk)
      have e2 : Dp K H3 y (nrD (lk.n, lk.i)) := e2
      obtain ⟨ya, ys, rfl, ht, hd⟩ := dtup e2
      obtain ⟨y1, y2', rfl, g1, g2⟩ := dps2 hd
      obtain rfl := dstr g1
      obtain rfl := dint g2
      have s3 := same_tr b1 b3
      have S3 := S.mono s3
      obtain ⟨dx3, t3, tkv3, o1, o2, o3⟩ := id S3.ob
      have hmem : lk.n ∈ ts.map (·.n) := List.mem_map.mpr ⟨tb, htb, hn⟩
      have hf : ts.find? (fun t => decide (t.n = lk.n)) = some tb := find_nodup hnd htb hn
      refine ⟨ya, _, rfl, ht, rfl, _, _, rfl, _, _, rfl, rfl, ?_⟩
      refine ⟨_, rfl, s, dx3, _, rfl, o1, nfl (by decide +kernel) (by decide +kernel) (by decide +kernel), _, rfl, Bi, s, d, m, ts, lk.n, tb, rfl, b3, S.mono b1, hmem, hf, fun l H4 rs hl s4 hl4 hrs => ?_⟩
      have rl : rs.length = tb.rs.length := by rw [dps_len hrs, List.length_map]
      have hi2 := (List.getElem?_eq_some_iff.mp hrd).1
      obtain ⟨v, a1, a2, a3⟩ := atI_in (xs := rs) (i := (lk.i : Int)) (by omega) (by omega)
      rw [Int.toNat_natCast] at a3
      have b34 := same_tr b3 s4
      obtain ⟨rd, ra, rb, c3, rfl, c4, c5, c6⟩ := rd_at hrs a3
      rw [hrd] at c3
      cases c3
      refine ⟨_, rfl, l, _, _, _, rfl, rfl, Or.inl (Or.inl hl4), a1, ra, _, rfl, sqt b34 c5, rfl, _, _, rfl, _, _, rfl, _, _, rfl, rfl, ?_⟩
      refine ⟨_, rfl, _, rfl, _, rfl, (by show 3 ≤ sizeLine; decide), fun u hu1 => ⟨_, rfl, _, rfl, _, rfl, (by show 2 ≤ sizeLine; decide), fun kb hkb => ?_⟩⟩
      have p4 := s4 _ _ b4
      have bu := free_of b34 hu1
      have c1 := sgrow (o := .tup [.str lk.n, .str lk.r.t, .ref rb]) (p := u) b34
      have bB := snew (o := .tup [.str lk.n, .str lk.r.t, .ref rb]) bu
      have p5 := snew (o := .tup [.str lk.n, .str lk.r.t, .ref rb]) hu1 _ _ p4
      have np : p ≠ u := ne_of_none p4 hu1
      have bp : (upd Bi u (.tup [.str lk.n, .str lk.r.t, .ref rb])) p = none := by rw [upd_ne np]; exact b2
      have uB : (upd Bi u (.tup [.str lk.n, .str lk.r.t, .ref rb])) u = some (.tup [.str lk.n, .str lk.r.t, .ref rb]) := upd_same
      have s5 := same_tr s4 (snew (o := .tup [.str lk.n, .str lk.r.t, .ref rb]) hu1)
      generalize upd Bi u (.tup [.str lk.n, .str lk.r.t, .ref rb]) = B2 at c1 bB bp uB
      generalize upd H4 u (.tup [.str lk.n, .str lk.r.t, .ref rb]) = H5 at c1 p5 s5 hkb ⊢
      have k6 : (upd H5 kb (.tup [.str lk.n, .int (lk.i : Int)])) kb = some (.tup (lk.k.map kV)) := upd_same
      have p6 := snew (o := .tup [.str lk.n, .int (lk.i : Int)]) hkb _ _ p5
      have c2 := same_tr c1 (snew (o := .tup [.str lk.n, .int (lk.i : Int)]) hkb)
      have s6 := same_tr s5 (snew (o := .tup [.str lk.n, .int (lk.i : Int)]) hkb)
      have hkl : kvs.length < sizeLine := by
        rw [b5.len, List.length_take, sizeLine_eq]
        omega
      refine ⟨p, _, rfl, DPut.t (k := lk.k) p6 k6 hkl, ?_⟩
      have hno : valV kvs lk.k = none := b5.noVal (by
        rw [List.map_take]
        exact notin_takeG lnd (by rw [List.getElem?_map, hlk]; rfl))
      rw [putK_new _ hno]
      refine ⟨_, _, _, _, _, B2, _, rfl, same_tr b1 bB, bp, swrite c2 bp, upd_same, ?_, by rw [upd_ne nap]; exact s6 _ _ b6, dpsd (SD.upd (.of s6) p6 rfl) _ _ b7⟩
      rw [List.take_add_one, hlk]
      exact (b5.mono (.of bB)).snoc (.tup (Or.inl (Or.inl uB)) (.cons (.str _) (.cons (.str _) (.cons (.tup (sqt bB c6) (ints_dps _)) .nil))))
    · rintro σ H3 ⟨y2, y3, y4, y5, y6, Bi, kvs, rfl, b1, b2, b3, b4, b5, b6, b7⟩
      rw [xl, List.take_length] at b5
      exact ⟨_, rfl, q p H3 kvs hp (same_tr b1 b3) b4 (b5.mono (.of b3))⟩
end
end Fr

namespace Fr
open PySem PySem.Spec PyProof.Rows L2
/-- a named read as a tuple that is tracked -/
def TkAt (H : Hp) (v : V) (x : Str × Int) : Prop := ∃ a, v = .ref a ∧ H a = some (.tup [.str x.1, .int x.2])
def TksAt (H : Hp) (vs : List V) (xs : List (Str × Int)) : Prop := Paired (TkAt H) vs xs
theorem TksAt.mono {H H' : Hp} (e : Same H H') : ∀ {vs : List V} {xs : List (Str × Int)}, TksAt H vs xs → TksAt H' vs xs
  | [], _, h => by cases h; exact .nil
  | v :: vs, _, h => by
    cases h with
    | cons h1 h2 =>
      obtain ⟨a, h3, h4⟩ := h1
      exact .cons ⟨a, h3, e _ _ h4⟩ (TksAt.mono e h2)
theorem TksAt.len {H : Hp} {vs : List V} {xs : List (Str × Int)} (h : TksAt H vs xs) : vs.length = xs.length := Paired.length h
theorem TksAt.get {H : Hp} : ∀ {vs : List V} {xs : List (Str × Int)} {i : Nat} {v : V}, TksAt H vs xs → vs[i]? = some v → ∃ x, xs[i]? = some x ∧ TkAt H v x
  | [], _, _, _, h, e => by cases e
  | v :: vs, _, 0, _, h, e => by
    cases h with
    | cons h1 h2 => cases e; exact ⟨_, rfl, h1⟩
  | v :: vs, _, i + 1, _, h, e => by
    cases h with
    | cons h1 h2 =>
      obtain ⟨x, a, b⟩ := TksAt.get (i := i) h2 (by simpa using e)
      exact ⟨x, by simpa using a, b⟩
theorem TkAt.dp {K : PySem.W.Frag} {H : Hp} {v : V} {x : Str × Int} (h : TkAt H v x) : Dp K H v (rnD x) := by
  obtain ⟨a, rfl, e⟩ := h
  exact .tup (Or.inl (Or.inl e)) (.cons (.str _) (.cons (.int _) .nil))
theorem TksAt.dps {K : PySem.W.Frag} {H : Hp} : ∀ {vs : List V} {xs : List (Str × Int)}, TksAt H vs xs → DpAll K H vs (xs.map rnD)
  | [], _, h => by cases h; exact .nil
  | v :: vs, _, h => by
    cases h with
    | cons h1 h2 => exact .cons h1.dp (TksAt.dps h2)
/-- links[read] -/
theorem lk_get {K : PySem.W.Frag} {H : Hp} {p : Addr} {kvs : List (List Key × V)} {ts : List Tb} {v : V} {x : Str × Int} (hp : H p = some (.dT kvs)) (hl : LkAt K H kvs (links ts)) (hv : TkAt H v x) :
    (isNm ts x = false ∧ DGet H p v none) ∨ (isNm ts x = true ∧ ∃ l ∈ links ts, l.n = x.1 ∧ ∃ u, DGet H p v (some u) ∧ Dp K H u l.d) := by
  obtain ⟨a, rfl, e⟩ := hv
  have g : DGet H p (.ref a) (valV kvs [Sum.inr x.1, Sum.inl x.2]) := DGet.t hp (k := [Sum.inr x.1, Sum.inl x.2]) e
  rcases hl.val (x := x.1) (n := x.2) with ⟨h1, h2⟩ | ⟨l, h1, h2, h3, u, h4, h5⟩
  · rw [h1] at g
    refine .inl ⟨?_, g⟩
    rw [Bool.eq_false_iff]
    intro z
    obtain ⟨t, ht, hn, i0, i1⟩ := isNm_iff.mp z
    have hi : x.2.toNat < t.rs.length := by omega
    exact h2 ⟨x.1, x.2.toNat, t.rs[x.2.toNat]⟩ (mem_links.mpr ⟨t, ht, hn, List.getElem?_eq_getElem hi⟩) ⟨rfl, Int.toNat_of_nonneg i0⟩
  · rw [h4] at g
    refine .inr ⟨?_, l, h1, h2, u, g, h5⟩
    obtain ⟨t, ht, hn, hr⟩ := mem_links.mp h1
    have := (List.getElem?_eq_some_iff.mp hr).1
    exact isNm_iff.mpr ⟨t, ht, hn.trans h2, by omega, by omega⟩
section
variable {P : Program} {w : World} {K : PySem.W.Frag} {mg : Str → Option Value} {base : Heap}
theorem mem_cut {xs : List V} {lo hi : Option Int} {v : V} (h : v ∈ cutV xs lo hi) : v ∈ xs := by
  unfold cutV at h
  exact List.mem_of_mem_drop (List.mem_of_mem_take h)
theorem TksAt.mem {H : Hp} : ∀ {vs : List V} {xs : List (Str × Int)} {v : V}, TksAt H vs xs → v ∈ vs → ∃ x, x ∈ xs ∧ TkAt H v x
  | [], _, _, _, e => by cases e
  | v :: vs, _, _, h, e => by
    cases h with
    | cons h1 h2 =>
      rcases List.mem_cons.mp e with rfl | e
      · exact ⟨_, List.mem_cons_self, h1⟩
      · obtain ⟨x, a, b⟩ := TksAt.mem h2 e
        exact ⟨x, List.mem_cons_of_mem _ a, b⟩
end
end Fr

namespace Fr
open PySem PySem.Spec PyProof.Rows L2
theorem countIn_strs (k : Str) : ∀ ks : List Str, countIn (.str k) (ks.map PyData.str) = ((ks.count k : Nat) : Int)
  | [] => rfl
  | x :: ks => by
    rw [List.map_cons, countIn, countIn_strs k ks, List.count_cons]
    show (if (x == k) = true then 1 else 0) + _ = _
    by_cases h : x = k
    · rw [h]
      simp
      omega
    · have h' : (x == k) = false := beq_eq_false_iff_ne.mpr h
      rw [h']
      simp
section
variable {X : Cx}
def rCountS (K : PySem.W.Frag) : V → List V → Hp → VK → Prop := fun x xs H Q => ∃ (a : Addr) (ks : List Str) (k : Str), x = .ref a ∧ xs = [.str k] ∧ SqL K H a (ks.map V.str) ∧ Q (.int (ks.count k : Nat)) H
theorem mt_count : MtR X "list.count" (rCountS X.K) := by
  intro pins s σ H x xs v us Q I rx rxs h
  obtain ⟨a, ks, k, rfl, rfl, hl, q⟩ := h
  cases rx
  obtain ⟨u, rfl, t, rfl⟩ := vals1 rxs
  obtain ⟨its, r, hp, hz⟩ := I.list hl
  refine count_list_strs (vs := its) hp.isList r.strs ?_
  rw [countIn_strs]
  exact ⟨.int (ks.count k : Nat), H, I.tok _, ⟨_, rfl⟩, q⟩
/-- sorted(t), t a tuple of ints -/
def rSortedIT (K : PySem.W.Frag) : List V → Hp → VK → Prop := fun vs H Q => ∃ (a : Addr) (ns : List Int), vs = [V.ref a] ∧ SqT K H a (ns.map V.int) ∧
  ∀ (ns' : List Int) (p : Addr), ns'.Perm ns → ns'.Pairwise (· ≤ ·) → H p = none → Q (.ref p) (upd H p (.lst (ns'.map V.int)))
theorem cr_sortedIT : CallR X (.builtin "sorted") (rSortedIT X.K) := by
  intro pins s σ H vs us Q I r h
  obtain ⟨a, ns, rfl, hs, q⟩ := h
  obtain ⟨its, rv, ⟨o, ho, hc, n, hd⟩, hz⟩ := I.tuple hs
  rw [Vals.ref1 r]
  have hi := rv.ints
  have hlz : its.length ≤ sizeLine := by rw [← rv.length]; exact hz
  refine Calls.call_function_entry kind_sorted plain_sorted entry_sorted (args_sorted1 _) ?_
  unfold Builtin.«sorted»
  refine wpAny_bind (m := checkCount "sorted" 1 1 _) (wpAny_pure ?_)
  refine wpAny_bind (wpAny_collect_seq a (.inr rfl) ho hc hd (fun h1 keep => ?_) (by rw [List.size_toArray]; exact hlz))
  have I1 : Inv X pins σ H { s with heap := h1 } := I.kept (t' := s.toks) keep
  refine wpAny_bind (wpAny_newList ?_ hlz)
  have hL : (h1.push (seqObj "list" its.toArray 0)).get? h1.objs.size = some (seqObj "list" its.toArray 0) := Heap.get?_push_size _ rfl
  refine wpAny_bind (wpAny_holding (wpAny_call_entry slot_list_sort ⟨_, hL, rfl⟩ entry_list_sort (SrtO.list_sort_ord SrtO.swo_int hL hlz (fun h2 => SrtO.ints_sortable hi h2) fun out so sb => ⟨_, rfl, ?_⟩) (args_list_sort _)))
  obtain ⟨k1, k2, k3⟩ := SrtO.ints_out hi so sb
  obtain ⟨ep, he'⟩ := PyProof.Rows.sortedHeap_at (vs := its) (out := out.toArray) hL
  have hlen : ((out.map SrtO.iv).map V.int).length ≤ sizeLine := by
    rw [List.length_map, k2.length_eq]
    rw [List.length_map] at hz
    exact hz
  refine wpAny_pure ⟨_, rfl, .ref h1.objs.size, upd H h1.objs.size (.lst ((out.map SrtO.iv).map V.int)), ?_, rfl, q _ _ k2 k3 (I1.hok.fresh (Nat.le_refl _))⟩
  refine I1.laid (t' := s.toks) (fun b ob hb => ?_) (Nat.le_refl _) ⟨hlen, out, ep, vals_of_ints k1, by simpa using he'⟩
  have hlt : b < h1.objs.size := Heap.lt_size hb
  have hlt2 : b < (h1.push (seqObj "list" its.toArray 0)).objs.size := by rw [Heap.size_push]; exact Nat.lt_succ_of_lt hlt
  rw [PyProof.Rows.sortedHeap_old (Nat.ne_of_lt hlt) hlt2]
  exact Heap.get?_push_of_some _ hb
/-- walked in a comprehension's block -/
theorem pi_tupK {K' : PySem.W.Frag} {tg l : Expr} {tl : TE} (hl : PE X l tl) (hK : X.K = K' := by rfl) : PI X tg l (iTup K' tl) := by
  subst hK
  exact pi_tup hl
theorem pi_listK {K' : PySem.W.Frag} {tg l : Expr} {tl : TE} (hl : PE X l tl) (hK : X.K = K' := by rfl) : PI X tg l (iList K' tl) := by
  subst hK
  exact pi_list hl
/-- list(d.values()) -/
def tLstVals (te : TE) : TE := fun σ H Q => te σ H fun x H1 => ∃ (d : Addr) (kvs : List (Key × V)), x = .ref d ∧ H1 d = some (.dK kvs) ∧ ∀ q, H1 q = none → Q (.ref q) (upd H1 q (.lst (kvs.map (·.2))))
theorem pe_listVals {e : Expr} {te : TE} {p apos cpos pos : Pos} (hc : X.calm = true) (hg : Gl X "list") (hm : X.mg "list" = none) (he : PE X e te) (hbase : attributeBase e "values" X.env (eval e X.env) = eval e X.env := by rfl) (hline : (apos.endLine == cpos.line) = true := by rfl)
    (na : starEach [.Call (.Attribute e "values" apos) [] [] cpos] X.env = (false, eval (.Call (.Attribute e "values" apos) [] [] cpos) X.env) :: starEach [] X.env := by rfl) : PE X (.Call (.Name "list" p) [.Call (.Attribute e "values" apos) [] [] cpos] [] pos) (tLstVals te) := by
  refine ⟨fun pins s σ H Q I h => ?_⟩
  refine Call_ (ld_blt I hg hm boot_list (PyProof.Rows.callWith_type1 (args_cons ?_ na) na))
  refine wpAny_Call_method (T := "dict") (id := "dict.values") hbase rfl hline PySem.F.plainAttrs_dict PySem.F.slot_dict_values PySem.F.type_dict_values (thn (he.run pins s σ H _ I h) fun u s1 ⟨x, H1, I1, rx, d, kvs, ex, hd, q⟩ => ?_)
  subst ex
  obtain rfl : u = Value.ref d := rx
  obtain ⟨z, lo, vs, rk, hdd⟩ := (show ObjOk X.prog X.w H1 s1.heap d (.dK kvs) from I1.hok d _ hd)
  obtain ⟨ep, hat⟩ := hdd.dictAt
  have hl : kvs.length = vs.length := Paired.length rk
  refine ⟨hdd.typeIs, hdd.mapOf.noDict, ?_⟩
  have I2 : Inv X pins σ H1 { s1 with heap := s1.heap.push { cls := .type "dict_values", data := .fields #[.ref d] } } := I1.kept (t' := s1.toks) fun b ob q => Heap.get?_push_of_some _ q
  have fin : wpAny (model X.prog X.w) X.A (call (.type "list") [.ref s1.heap.objs.size]) (EP X pins σ Q) X.xe { s1 with heap := s1.heap.push { cls := .type "dict_values", data := .fields #[.ref d] } } := by
    refine PySem.W.kdl_call (PySem.W.kdl_values (knd := mixKind X.prog X.w) (r := s1.heap.objs.size) (d := d) (kvs := vs) (ep := ep)) (I2.ok.hd hc) ⟨⟨_, Heap.get?_push_size _ rfl, rfl, rfl⟩, hat.push _⟩ (by rw [← hl]; exact z) fun h' tk acc' c' hkeep hS hacc => ?_
    refine ⟨.ref _, upd H1 _ (.lst (kvs.map (·.2))), I2.laid hkeep (Nat.le_refl _) (show ObjOk X.prog X.w _ _ _ (.lst (kvs.map (·.2))) from ⟨?_, acc'.toList, c', ?_, ?_⟩), rfl, q _ (I2.hok.fresh (Nat.le_refl _))⟩
    · rw [List.length_map]; exact z
    · have el : acc'.toList.length = acc'.size := by simp
      refine vals_of_at (by rw [List.length_map, el, hacc.1, hl]) fun j x w h1 h2 => ?_
      obtain ⟨k, hky⟩ := hacc.2 j w (by rw [← Array.getElem?_toList]; exact h2)
      rw [List.getElem?_map] at h1
      obtain ⟨kv, h3, rfl⟩ := Option.map_eq_some_iff.mp h1
      obtain ⟨y, h4, h5⟩ := KV.at' rk hky
      rw [h3] at h4
      cases h4
      exact h5
    · rw [Array.toArray_toList]; exact hS
  show wpAny _ _ (callWith cpos (.builtin "dict.values") [.ref d] [] []) _ X.xe s1
  exact method_meetsIn PySem.F.slot_dict_values PySem.F.entry_dict_values rfl (PySem.evalArgs_none ⟨rfl, hdd.typeIs, PySem.F.args_dict_values_1 _, _, meets_dict_values (mixKind X.prog X.w) d lo, ⟨vs, hdd⟩, args_nil fin⟩)
end
end Fr

namespace Fr
open PySem PySem.Spec PyProof.Rows L2
theorem rd_len2 {d : Int} {r : Rd1} (h : isRead d r = true) : (r.v.length : Int) = d := by
  unfold isRead at h
  rw [Bool.and_eq_true, Bool.and_eq_true] at h
  exact of_decide_eq_true h.2.1
theorem at_nat2 {v : List Int} {k : Nat} (h : k < v.length) : ∃ n, v[k]? = some n ∧ atI (v.map V.int) (0 + (k : Int)) = some (V.int n) := by
  obtain ⟨x, a1, a2, a3⟩ := atI_in (xs := v.map V.int) (i := 0 + (k : Int)) (by omega) (by rw [List.length_map]; omega)
  rw [show (0 + (k : Int)).toNat = k by omega, List.getElem?_map] at a3
  obtain ⟨n, h1, rfl⟩ := Option.map_eq_some_iff.mp a3
  exact ⟨n, h1, a1⟩
section
variable {P : Program} {w : World} {K : PySem.W.Frag} {mg : Str → Option Value} {base : Heap}
end
end Fr

namespace Fr
open PySem PySem.Spec PyProof.Rows L2
section
variable {prog : Program} {w : World} {A : Around} {E : Value → Shared → Prop} {s : Shared}
theorem max_intTup {l : Addr} {xs : Array (Int × Tok)} {Q : Value → Shared → Prop} (hh : A.handled = none) (hl : s.heap.IsTuple l (intItems xs)) (hne : 0 < xs.size)
    (h : ∀ v h' tk, (intItems xs)[argBest (fun i j => decide (numAt xs i > numAt xs j)) (xs.size - 1)]? = some v → (∀ b o, s.heap.get? b = some o → h'.get? b = some o) → Q v { s with heap := h', toks := tk }) :
    wpAny (model prog w) A (call (.builtin "max") [.ref l]) Q E s := by
  refine call_max_walk (wpAny_pyIter_tuple hl ?_)
  obtain ⟨o, ho, hc, n, hd⟩ := hl
  have hlt : l < s.heap.objs.size := Heap.lt_size ho
  refine ⟨_, [_, l], [_], _, _, _, _, rfl, Walks.tuple (A := A.in1) hh _ l (Nat.ne_of_lt hlt) (intItems xs), ⟨⟨_, Heap.get?_push_size _ rfl, rfl, rfl⟩, ⟨o, Heap.get?_push_of_some _ ho, hc, n, hd⟩⟩, fun d hdm => ?_, by simpa [intItems] using hne, CmpOf.ints_gt (numAt xs) (fun _ _ => intItems_at), fun v h' tk hP hk => ?_⟩
  · show d < (s.heap.push _).objs.size
    rw [Heap.size_push]
    rcases List.mem_cons.mp hdm with rfl | hdm
    · exact Nat.lt_succ_self _
    · rcases List.mem_cons.mp hdm with rfl | hdm
      · exact Nat.lt_succ_of_lt hlt
      · cases hdm
  · refine h v h' tk (by simpa [intItems] using hP) fun d o e => hk d o (fun hm => ?_) (Heap.get?_push_of_some _ e)
    rcases List.mem_cons.mp hm with e1 | hm
    · have := Heap.lt_size e
      rw [e1] at this
      exact Nat.lt_irrefl _ this
    · cases hm
end
def rMaxT (K : PySem.W.Frag) : List V → Hp → VK → Prop := fun vs H Q => ∃ (a : Addr) (ns : List Int), vs = [V.ref a] ∧ SqT K H a (ns.map V.int) ∧ 0 < ns.length ∧ ∀ m, m ∈ ns → (∀ y, y ∈ ns → y ≤ m) → Q (.int m) H
theorem cr_maxT {X : Cx} (hc : X.calm = true) : CallR X (.builtin "max") (rMaxT X.K) := by
  intro pins s σ H vs us Q I r h
  obtain ⟨a, ns, rfl, hs, hne, q⟩ := h
  obtain ⟨its, rv, hl, _⟩ := I.tuple hs
  rw [Vals.ref1 r]
  obtain ⟨xs, e⟩ := rv.ints.allInts.items
  have hn : numsOf (intItems xs).toList = ns := by rw [← e]; exact rv.ints.numsOf
  rw [nums_intItems] at hn
  subst hn
  rw [e] at hl
  have hsz : 0 < xs.size := by simpa using hne
  refine max_intTup (I.ok.hd hc) hl hsz fun v h' tk hv hk => ?_
  obtain ⟨t, rfl⟩ := intItems_at hv
  obtain ⟨h1, h2⟩ := argBest_gt (numAt xs) (xs.size - 1)
  refine ⟨.int _, H, I.kept hk, ⟨_, rfl⟩, q _ ?_ fun a ha => ?_⟩
  · rw [numAt_eq]; exact PySem.getD_mem (by rw [List.length_map, Array.length_toList]; omega)
  · obtain ⟨j, hj, rfl⟩ := mem_getD ha
    rw [List.length_map, Array.length_toList] at hj
    rw [← numAt_eq]; exact h2 j (by omega)
end Fr

namespace Fr
open PySem PySem.Spec PyProof.Rows L2
/-- each row is of the table that the one before reads -/
def chn : List RowP → Prop
  | [] => True
  | [_] => True
  | a :: b :: l => a.o = b.w ∧ chn (b :: l)
/-- a walk from a table to a table -/
def Wk (s : Str) : List RowP → Str → Prop
  | [], t => s = t
  | a :: l, t => s = a.w ∧ Wk a.o l t
/-- a closed walk -/
def Cl (w : List RowP) : Prop := ∃ a l, w = a :: l ∧ Wk a.w w a.w
def asum (k : Nat) (w : List RowP) : Int := (w.map fun r => r.v.getD k 0).sum
theorem asum_app (k : Nat) (w u : List RowP) : asum k (w ++ u) = asum k w + asum k u := by
  unfold asum
  rw [List.map_append, List.sum_append]
theorem wk_app {w u : List RowP} : ∀ {s t : Str}, Wk s (w ++ u) t ↔ ∃ m, Wk s w m ∧ Wk m u t := by
  induction w with
  | nil =>
    intro s t
    constructor
    · intro h
      exact ⟨s, rfl, h⟩
    · rintro ⟨m, rfl, h⟩
      exact h
  | cons a w ih =>
    intro s t
    constructor
    · rintro ⟨h1, h2⟩
      obtain ⟨m, h3, h4⟩ := ih.mp h2
      exact ⟨m, ⟨h1, h3⟩, h4⟩
    · rintro ⟨m, ⟨h1, h3⟩, h4⟩
      exact ⟨h1, ih.mpr ⟨m, h3, h4⟩⟩
theorem wk_end {w : List RowP} {s t t' : Str} (h : Wk s w t) (k : Wk s w t') : t = t' := by
  induction w generalizing s with
  | nil => exact h.symm.trans k
  | cons a w ih => exact ih h.2 k.2
theorem cl_wk {w : List RowP} {s : Str} (n : w ≠ []) (h : Wk s w s) : Cl w := by
  cases w with
  | nil => exact absurd rfl n
  | cons a l =>
    have e : s = a.w := h.1
    exact ⟨a, l, rfl, by rw [← e]; exact h⟩
theorem cl_head {a : RowP} {l : List RowP} (h : Cl (a :: l)) : Wk a.w (a :: l) a.w := by
  obtain ⟨b, m, e, z⟩ := h
  cases e
  exact z
theorem split_dup {w : List RowP} (h : ¬ (w.map (·.w)).Nodup) : ∃ p a q b r, w = p ++ (a :: q ++ b :: r) ∧ a.w = b.w := by
  induction w with
  | nil => exact absurd List.nodup_nil h
  | cons c w ih =>
    rw [List.map_cons, List.nodup_cons] at h
    by_cases hc : c.w ∈ w.map (·.w)
    · obtain ⟨b, hb, e⟩ := List.mem_map.mp hc
      obtain ⟨q, r, rfl⟩ := List.append_of_mem hb
      exact ⟨[], c, q, b, r, rfl, e.symm⟩
    · obtain ⟨p, a, q, b, r, e, z⟩ := ih fun n => h ⟨hc, n⟩
      exact ⟨c :: p, a, q, b, r, by rw [e]; rfl, z⟩
/-- a closed walk with a sum below 0 has one in it on which no table stands twice -/
theorem simple_of {k : Nat} : ∀ (n : Nat) (w : List RowP), w.length ≤ n → Cl w → asum k w < 0 → ∃ u, (∀ r ∈ u, r ∈ w) ∧ Cl u ∧ asum k u < 0 ∧ (u.map (·.w)).Nodup := by
  intro n
  induction n with
  | zero =>
    intro w hl hc _
    obtain ⟨a, l, rfl, _⟩ := hc
    exact absurd hl (by simp)
  | succ n ih =>
    intro w hl hc hs
    by_cases nd : (w.map (·.w)).Nodup
    · exact ⟨w, fun r h => h, hc, hs, nd⟩
    · obtain ⟨p, a, q, b, r, rfl, e⟩ := split_dup nd
      obtain ⟨c, l, ec, hw⟩ := hc
      obtain ⟨m, h1, h2⟩ := wk_app.mp hw
      obtain ⟨m2, h3, h4⟩ := wk_app.mp h2
      have em : m = a.w := h3.1
      have em2 : m2 = b.w := h4.1
      have c1 : Cl (a :: q) := cl_wk (s := a.w) (by simp) (by rw [em, em2, ← e] at h3; exact h3)
      have c2 : Cl (p ++ b :: r) := cl_wk (s := c.w) (by simp) (wk_app.mpr ⟨m, h1, by rw [em, e, ← em2]; exact h4⟩)
      have es : asum k (p ++ (a :: q ++ b :: r)) = asum k (a :: q) + asum k (p ++ b :: r) := by
        rw [asum_app, asum_app, asum_app]
        omega
      rw [es] at hs
      have hlen : (p ++ (a :: q ++ b :: r)).length = (a :: q).length + (p ++ b :: r).length := by
        simp only [List.length_append, List.length_cons]
        omega
      rw [hlen] at hl
      by_cases hn : asum k (a :: q) < 0
      · obtain ⟨u, h5, h6, h7, h8⟩ := ih (a :: q) (by simp only [List.length_append, List.length_cons] at hl ⊢; omega) c1 hn
        exact ⟨u, fun r' hr' => List.mem_append_right _ (List.mem_append_left _ (h5 r' hr')), h6, h7, h8⟩
      · obtain ⟨u, h5, h6, h7, h8⟩ := ih (p ++ b :: r) (by simp only [List.length_append, List.length_cons] at hl ⊢; omega) c2 (by omega)
        refine ⟨u, fun r' hr' => ?_, h6, h7, h8⟩
        rcases List.mem_append.mp (h5 r' hr') with z | z
        · exact List.mem_append_left _ z
        · exact List.mem_append_right _ (List.mem_append_right _ z)
def sLt (a b : Str) : Prop := a.cps.toList < b.cps.toList
theorem str_ext {a b : Str} (h : a.cps.toList = b.cps.toList) : a = b := by
  cases a
  cases b
  exact congrArg Str.mk (Array.toList_inj.mp h)
theorem sLt_or {a b : Str} (h : a ≠ b) : sLt a b ∨ sLt b a := by
  by_cases z : a.cps.toList < b.cps.toList
  · exact .inl z
  · by_cases z2 : b.cps.toList < a.cps.toList
    · exact .inr z2
    · exact absurd (str_ext (List.le_antisymm (List.not_lt.mp z2) (List.not_lt.mp z))) h
theorem sLt_trans {a b c : Str} (h : sLt a b) (k : sLt b c) : sLt a c := List.lt_trans h k
/-- a row of the least table -/
theorem least_row : ∀ (w : List RowP), w ≠ [] → (w.map (·.w)).Nodup → ∃ p a q, w = p ++ a :: q ∧ ∀ r ∈ p ++ q, sLt a.w r.w
  | [], h, _ => absurd rfl h
  | [a], _, _ => ⟨[], a, [], rfl, fun r h => by cases h⟩
  | a :: b :: l, _, nd => by
    rw [List.map_cons, List.nodup_cons] at nd
    obtain ⟨p, c, q, e, hc⟩ := least_row (b :: l) (by simp) nd.2
    have hne : a.w ≠ c.w := fun z => nd.1 (by rw [e, z]; simp)
    rcases sLt_or hne with z | z
    · refine ⟨[], a, b :: l, rfl, fun r hr => ?_⟩
      rw [List.nil_append, e] at hr
      rcases List.mem_append.mp hr with h | h
      · exact sLt_trans z (hc r (List.mem_append_left _ h))
      · rcases List.mem_cons.mp h with rfl | h
        · exact z
        · exact sLt_trans z (hc r (List.mem_append_right _ h))
    · refine ⟨a :: p, c, q, by rw [e]; rfl, fun r hr => ?_⟩
      rcases List.mem_cons.mp (show r ∈ a :: (p ++ q) from hr) with rfl | h
      · exact z
      · exact hc r h
theorem cl_rot {p q : List RowP} (hq : q ≠ []) (h : Cl (p ++ q)) : Cl (q ++ p) := by
  obtain ⟨a, l, e, hw⟩ := h
  obtain ⟨m, h1, h2⟩ := wk_app.mp hw
  exact cl_wk (s := m) (by simp [hq]) (wk_app.mpr ⟨a.w, h2, h1⟩)
/-- no row but the first one is of a table as little as the first one's -/
def Led (w : List RowP) : Prop := ∃ a l, w = a :: l ∧ ∀ r ∈ l, sLt a.w r.w
/-- the closed walks that the law looks for -/
def Cyc (E w : List RowP) : Prop := Cl w ∧ (∀ r ∈ w, r ∈ E) ∧ (w.map (·.w)).Nodup ∧ Led w
theorem cyc_of {k : Nat} {E w : List RowP} (hc : Cl w) (hE : ∀ r ∈ w, r ∈ E) (hs : asum k w < 0) : ∃ u, Cyc E u ∧ asum k u < 0 := by
  obtain ⟨u, h1, h2, h3, h4⟩ := simple_of (k := k) w.length w (Nat.le_refl _) hc hs
  obtain ⟨a0, l0, e0, _⟩ := id h2
  obtain ⟨p, a, q, rfl, hl⟩ := least_row u (by rw [e0]; simp) h4
  have perm : (a :: q ++ p).Perm (p ++ a :: q) := List.perm_append_comm
  refine ⟨a :: q ++ p, ⟨cl_rot (by simp) h2, fun r hr => hE r (h1 r (perm.mem_iff.mp hr)), (perm.map (·.w)).nodup_iff.mpr h4, a, q ++ p, rfl, fun r hr => hl r ?_⟩, ?_⟩
  · rcases List.mem_append.mp hr with z | z
    · exact List.mem_append_right _ z
    · exact List.mem_append_left _ z
  · rw [asum_app] at h3 ⊢
    omega
end Fr

namespace Fr
open PySem PySem.Spec PyProof.Rows L2
theorem wk_iff : ∀ (w : List RowP) (a : RowP) (s t : Str), Wk s (a :: w) t ↔ s = a.w ∧ (a :: w).map (·.o) = w.map (·.w) ++ [t]
  | [], a, s, t => by
    constructor
    · rintro ⟨h1, h2⟩
      exact ⟨h1, by show [a.o] = [t]; rw [show a.o = t from h2]⟩
    · rintro ⟨h1, h2⟩
      refine ⟨h1, ?_⟩
      show a.o = t
      simpa using h2
  | b :: w, a, s, t => by
    constructor
    · rintro ⟨h1, h2⟩
      obtain ⟨h3, h4⟩ := (wk_iff w b a.o t).mp h2
      refine ⟨h1, ?_⟩
      rw [List.map_cons, h4, h3]
      rfl
    · rintro ⟨h1, h2⟩
      rw [List.map_cons, List.map_cons (f := fun r : RowP => r.w), List.cons_append] at h2
      injection h2 with h3 h4
      exact ⟨h1, (wk_iff w b a.o t).mpr ⟨h3, h4⟩⟩
theorem cl_iff {w : List RowP} : Cl w ↔ w ≠ [] ∧ w.map (·.o) = (w.drop 1 ++ w.take 1).map (·.w) := by
  cases w with
  | nil =>
    constructor
    · rintro ⟨a, l, e, _⟩
      cases e
    · rintro ⟨h, _⟩
      exact absurd rfl h
  | cons a l =>
    have e : ((a :: l).drop 1 ++ (a :: l).take 1).map (·.w) = l.map (·.w) ++ [a.w] := by simp
    rw [e]
    constructor
    · intro h
      exact ⟨by simp, ((wk_iff l a a.w a.w).mp (cl_head h)).2⟩
    · rintro ⟨_, h⟩
      exact ⟨a, l, rfl, (wk_iff l a a.w a.w).mpr ⟨rfl, h⟩⟩
def RowP.k (y : RowP) : Str × Int := (y.w, (y.n : Int))
def lkR (l : Lk) : RowP := ⟨l.n, l.i, l.r.t, l.r.v⟩
def rowsS (ts : List Tb) : List RowP := (links ts).map lkR
/-- the row of a named read -/
def rowOf (E : List RowP) (x : Str × Int) : Option RowP := E.find? fun y => decide (y.k = x)
def KeyU (E : List RowP) : Prop := ∀ y ∈ E, ∀ z ∈ E, y.k = z.k → y = z
theorem rowOf_some {E : List RowP} {x : Str × Int} {y : RowP} (h : rowOf E x = some y) : y ∈ E ∧ y.k = x := ⟨List.mem_of_find?_eq_some h, by simpa using List.find?_some h⟩
theorem rowOf_eq {E : List RowP} (U : KeyU E) {y : RowP} (h : y ∈ E) : rowOf E y.k = some y := by
  cases e : rowOf E y.k with
  | none => exact absurd (decide_eq_true rfl : decide (y.k = y.k) = true) (by simpa using List.find?_eq_none.mp e y h)
  | some z =>
    obtain ⟨h1, h2⟩ := rowOf_some e
    rw [U z h1 y h h2]
theorem rowOf_none {E : List RowP} {x : Str × Int} (h : rowOf E x = none) : ∀ y ∈ E, y.k ≠ x := fun y hy e => by
  have := List.find?_eq_none.mp h y hy
  simp [e] at this
/-- a list of named reads that is a closed walk -/
def CW (E : List RowP) (xs : List (Str × Int)) (w : List RowP) : Prop := w.map RowP.k = xs ∧ (∀ r ∈ w, r ∈ E) ∧ Cl w
theorem key_rowsS {ts : List Tb} (n : (ts.map (·.n)).Nodup) : KeyU (rowsS ts) := fun y hy z hz e => by
  obtain ⟨a, ha, rfl⟩ := List.mem_map.mp hy
  obtain ⟨b, hb, rfl⟩ := List.mem_map.mp hz
  obtain ⟨t, ht, h1, h2⟩ := mem_links.mp ha
  obtain ⟨u, hu, h3, h4⟩ := mem_links.mp hb
  have e1 : a.n = b.n := congrArg Prod.fst e
  have e2 : (a.i : Int) = (b.i : Int) := congrArg Prod.snd e
  have e3 : t = u := by
    have f1 := find_nodup' n ht
    have f2 := find_nodup' n hu
    rw [h3, ← e1, ← h1, f1] at f2
    exact Option.some.inj f2
  subst e3
  have e4 : a.i = b.i := by omega
  rw [e4, h4] at h2
  have e5 := Option.some.inj h2
  unfold lkR
  rw [e1, e4, e5]
/-- a list of named reads that are there, as rows -/
theorem rows_ex {E : List RowP} : ∀ {xs : List (Str × Int)}, (∀ x ∈ xs, (rowOf E x).isSome = true) → ∃ w : List RowP, w.map RowP.k = xs ∧ (∀ r ∈ w, r ∈ E) ∧ ∀ (i : Nat) (x : Str × Int), xs[i]? = some x → ∃ r, w[i]? = some r ∧ rowOf E x = some r
  | [], _ => ⟨[], rfl, (fun r h => (List.not_mem_nil h).elim), (fun i x h => by simp at h)⟩
  | x :: xs, h => by
    obtain ⟨w, h1, h2, h3⟩ := rows_ex fun y hy => h y (List.mem_cons_of_mem _ hy)
    obtain ⟨r, hr⟩ := Option.isSome_iff_exists.mp (h x (List.mem_cons_self ..))
    obtain ⟨a, b⟩ := rowOf_some hr
    refine ⟨r :: w, by rw [List.map_cons, h1, b], fun r' hr' => ?_, fun i y hy => ?_⟩
    · rcases List.mem_cons.mp hr' with rfl | z
      · exact a
      · exact h2 _ z
    · cases i with
      | zero => cases hy; exact ⟨r, rfl, hr⟩
      | succ i => exact h3 i y hy
end Fr

namespace Fr
open PySem PySem.Spec PyProof.Rows L2
/-- the pairs, each a new tuple; the key's own tuple -/
def Itit (d : Addr) (o : PySem.Obj) (kvs : List (List Key × V)) : It :=
  ⟨fun i H => H d = some (.frz o (.dT kvs)) ∧ i < kvs.length, fun i H x H' => ∃ T k v q, kvs[i]? = some (k, v) ∧ x = .ref T ∧ H q = some (.tup (k.map kV)) ∧ H T = none ∧ H' = upd H T (.tup [.ref q, v]), fun i H => H d = some (.frz o (.dT kvs)) ∧ kvs.length ≤ i⟩
theorem frzT2 {X : Cx} {pins : List (Addr × PySem.Obj)} {σ : L2.St} {H : Hp} {s : Shared} {d : Addr} {o : PySem.Obj} {kvs : List (List Key × V)} (I : Inv X pins σ H s) (h : H d = some (.frz o (.dT kvs))) :
    (d == sysModules) = false ∧ s.heap.get? d = some o ∧ o.ExactDict ∧ ∃ (es : Array DictEntry) (ep : Nat), o.data = .dict es ep ∧ es.size = kvs.length ∧
      ∀ (i : Nat) (k : List Key) (v : V), kvs[i]? = some (k, v) → ∃ (en : DictEntry) (q : Addr), es[i]? = some en ∧ en.key = .ref q ∧ H q = some (.tup (k.map kV)) ∧ RelV v en.val := by
  obtain ⟨hd, z, hs, xs, pr, o', es, ep, ho, hx, hdt, he, _⟩ := I.hok d _ h
  rw [hd] at ho
  cases ho
  refine ⟨hs, hd, hx, es, ep, hdt, ?_, fun i k v e => ?_⟩
  · have l1 : es.size = xs.length := size_of_entries he
    have l2 : kvs.length = xs.length := Paired.length pr
    omega
  · obtain ⟨b, hb, e1, e2, e3⟩ := paired_get pr e
    have q := entry_at he i
    rw [hb] at q
    exact ⟨_, b.2.1, q, rfl, e2, e3⟩
section
variable {P : Program} {w : World} {K : PySem.W.Frag} {d : Addr} {o : PySem.Obj} {es : Array DictEntry} {ep : Nat}
theorem turn_itemsT {kvs : List (List Key × V)} {elts : List Expr} {kk : Nat} {tpos : Pos} (it : Addr) (hod : o.data = .dict es ep) :
    Turn P w K (.Tuple elts kk tpos) (Itit d o kvs) [it] it (fun i h => ∃ ok ov, IsItemIter h it d i kvs.length ep ok ov) where
  mem := by simp
  obj := fun i h st b hb => by
    have e : b = it := by simpa using hb
    subst e
    obtain ⟨ok, ov, e⟩ := st
    exact ⟨_, e, fun v z => nomatch z⟩
  keep := fun i h h' st k => let ⟨ok, ov, e⟩ := st; ⟨ok, ov, k it (by simp) _ e⟩
  item := by
    intro X hP hw hK hc i pins s σ H E I hf st hg
    subst hP hw hK
    obtain ⟨hd, hi⟩ := hg
    obtain ⟨hs, hgd, hx, es', ep', hdt, hsz, ent⟩ := frzT2 I hd
    obtain ⟨rfl, rfl⟩ := dict_ep hod hdt
    obtain ⟨⟨k, v⟩, hkv⟩ : ∃ p, kvs[i]? = some p := ⟨kvs[i], List.getElem?_eq_getElem hi⟩
    obtain ⟨en, q, hen, hkey, hq, ru⟩ := ent i k v hkv
    obtain ⟨ok, ov, he⟩ := st
    rw [← hsz] at he
    have hlt : it < s.heap.objs.size := Heap.lt_size he
    have hi' : i < es'.size := by omega
    have een : es'[i] = en := by
      have z := Array.getElem?_eq_getElem hi'
      rw [hen] at z
      exact (Option.some.inj z).symm
    refine DT.nextI he ⟨o, hgd, hx, hdt⟩ hi' fun h' ho hT hz hk => ?_
    rw [een] at ho hT
    refine ⟨_, rfl, wpAny_letOwnedTupleGo_items (s := { s with heap := h' }) ho fun h'' he' sb => ?_⟩
    have hT2 : h''.get? s.heap.objs.size = some { cls := .type "tuple", data := .seq #[en.key, en.val] } := (sb.2 _ (Nat.ne_of_gt hlt)).trans hT
    have new : ObjOk X.prog X.w (upd H s.heap.objs.size (.tup [.ref q, v])) h'' s.heap.objs.size (.tup [.ref q, v]) :=
      ⟨by show 2 ≤ sizeLine; decide, [en.key, en.val], .cons hkey (.cons ru .nil), ⟨_, hT2, rfl, _, rfl⟩⟩
    have I1 : Inv X pins σ (upd H s.heap.objs.size (.tup [.ref q, v])) { s with heap := h'' } :=
      I.turnedNew (t' := s.toks) (ch := [it]) (fun b ob hb e => (sb.2 b (by simpa using hb)).trans (hk b ob (by simpa using hb) e)) hf (Nat.le_refl _) new
    refine ⟨.ref s.heap.objs.size, _, I1, rfl, ⟨_, k, v, q, hkv, rfl, hq, I.hok.fresh (Nat.le_refl _), rfl⟩, ⟨en.key, en.val, ?_⟩, fun b hb => ?_⟩
    · rw [← hsz]; exact he'
    · have e : b = it := by simpa using hb
      rw [e, upd_ne (Nat.ne_of_lt hlt)]
      exact (hf it (by simp)).1
  done := by
    intro X hP hw hK hc i pins s σ H E I hf st hg
    subst hP hw hK
    obtain ⟨hd, hi⟩ := hg
    obtain ⟨f0, f1, f2, f3, f4, f5⟩ := hf it (by simp)
    obtain ⟨hs, hgd, hx, es', ep', hdt, hsz, ent⟩ := frzT2 I hd
    obtain ⟨rfl, rfl⟩ := dict_ep hod hdt
    obtain ⟨ok, ov, he⟩ := st
    rw [← hsz] at he
    exact DT.endI (I.ok.hd hc) he ⟨o, hgd, hx, hdt⟩ (by omega) fun h' eb => ⟨rfl, I.turned (t' := s.toks) (fun b ob hb e => eb b ob hb e) f0 f1 f3 f4 f5⟩
  self := fun A i s Q E st h => let ⟨_, _, e⟩ := st; PySem.W.kcp_self e h
end
def iItemsT (td : TE) : TI := fun σ H R => td σ H fun x H1 => ∃ d o kvs, x = .ref d ∧ H1 d = some (.frz o (.dT kvs)) ∧ R (Itit d o kvs) H1
section
variable {X : Cx} {e : Expr} {td : TE} {apos cpos : Pos}
theorem pi_itemsT {elts : List Expr} {kk : Nat} {tpos : Pos} (he : PE X e td) (hbase : attributeBase e "items" X.env (eval e X.env) = eval e X.env := by rfl) (hline : (apos.endLine == cpos.line) = true := by rfl) :
    PI X (.Tuple elts kk tpos) (.Call (.Attribute e "items" apos) [] [] cpos) (iItemsT td) := by
  refine ⟨fun pins s σ H R I h => ?_⟩
  refine wpAny_Call_method (T := "dict") (id := "dict.items") hbase rfl hline F.plainAttrs_dict F.slot_dict_items F.type_dict_items (thn (he.run pins s σ H _ I h) fun u s1 ⟨x, H1, I1, rx, d, o, kvs, ex, hd, q⟩ => ?_)
  subst ex
  obtain rfl : u = Value.ref d := rx
  obtain ⟨hs, hgd, hx, es, ep, hdt, hsz, ent⟩ := frzT2 I1 hd
  have hr : DT.Raw s1.heap d es ep := ⟨o, hgd, hx, hdt⟩
  refine ⟨hr.typeIs, ?_, ?_⟩
  · exact fun b hb => by cases hb; exact ⟨o, hgd, hx.2.1⟩
  have I2 : Inv X pins σ H1 { s1 with heap := s1.heap.push { cls := .type "dict_items", data := .fields #[.ref d] } } := I1.kept (t' := s1.toks) fun b ob q => Heap.get?_push_of_some _ q
  have fin : wpAny (model X.prog X.w) X.A (pyIter (.ref s1.heap.objs.size)) (PIE X pins σ (.Tuple elts kk tpos) R) X.xe { s1 with heap := s1.heap.push { cls := .type "dict_items", data := .fields #[.ref d] } } := by
    refine DT.iterI (d := d) ⟨_, Heap.get?_push_size _ rfl, rfl, rfl⟩ (hr.push _) (pi_one (tk := s1.toks) I2 _ (turn_itemsT _ hdt) ⟨.none, .none, ?_⟩ q)
    rw [← hsz]
    exact Heap.get?_push_size _ rfl
  show wpAny _ _ (callWith cpos (.builtin "dict.items") [.ref d] [] []) _ X.xe s1
  exact method_meetsIn F.slot_dict_items F.entry_dict_items rfl (PySem.evalArgs_none ⟨rfl, hr.typeIs, F.args_dict_items_1 _, _, DT.meetsItems (es := es) (ep := ep) hs, hr, fin⟩)
theorem walk_itemsT {d : Addr} {o : PySem.Obj} {kvs : List (List Key × V)} : Walk (Itit d o kvs) kvs.length (fun H => H d = some (.frz o (.dT kvs))) (fun i H x H' => ∃ T k v q, kvs[i]? = some (k, v) ∧ x = .ref T ∧ H q = some (.tup (k.map kV)) ∧ H T = none ∧ H' = upd H T (.tup [.ref q, v])) :=
  ⟨fun _ _ hi q => ⟨q, hi⟩, fun _ q => ⟨q, Nat.le_refl _⟩, fun _ _ _ _ _ _ y => y⟩
end
end Fr

namespace Fr
open PySem PySem.Spec PyProof.Rows L2
/-- links[read], with its row -/
theorem lk_get2 {K : PySem.W.Frag} {H : Hp} {p : Addr} {kvs : List (List Key × V)} {ts : List Tb} {v : V} {x : Str × Int} (n : (ts.map (·.n)).Nodup) (hp : H p = some (.dT kvs)) (hl : LkAt K H kvs (links ts)) (hv : TkAt H v x) :
    (rowOf (rowsS ts) x = none ∧ isNm ts x = false ∧ DGet H p v none) ∨ (∃ l ∈ links ts, rowOf (rowsS ts) x = some (lkR l) ∧ isNm ts x = true ∧ ∃ u, DGet H p v (some u) ∧ Dp K H u l.d) := by
  obtain ⟨a, rfl, e⟩ := hv
  have g : DGet H p (.ref a) (valV kvs [Sum.inr x.1, Sum.inl x.2]) := DGet.t hp (k := [Sum.inr x.1, Sum.inl x.2]) e
  have U := key_rowsS n
  rcases hl.val (x := x.1) (n := x.2) with ⟨h1, h2⟩ | ⟨l, h1, h2, h3, u, h4, h5⟩
  · rw [h1] at g
    refine .inl ⟨?_, ?_, g⟩
    · cases ee : rowOf (rowsS ts) x with
      | none => rfl
      | some y =>
        obtain ⟨z1, z2⟩ := rowOf_some ee
        obtain ⟨l, hl', rfl⟩ := List.mem_map.mp z1
        exact absurd ⟨congrArg Prod.fst z2, congrArg Prod.snd z2⟩ (h2 l hl')
    · rw [Bool.eq_false_iff]
      intro z
      obtain ⟨t, ht, hn, i0, i1⟩ := isNm_iff.mp z
      have hi : x.2.toNat < t.rs.length := by omega
      exact h2 ⟨x.1, x.2.toNat, t.rs[x.2.toNat]⟩ (mem_links.mpr ⟨t, ht, hn, List.getElem?_eq_getElem hi⟩) ⟨rfl, Int.toNat_of_nonneg i0⟩
  · rw [h4] at g
    have ek : (lkR l).k = x := Prod.ext h2 h3
    refine .inr ⟨l, h1, by rw [← ek]; exact rowOf_eq U (List.mem_map.mpr ⟨l, h1, rfl⟩), ?_, u, g, h5⟩
    obtain ⟨t, ht, hn, hr⟩ := mem_links.mp h1
    have := (List.getElem?_eq_some_iff.mp hr).1
    exact isNm_iff.mpr ⟨t, ht, hn.trans h2, by omega, by omega⟩
theorem cut_1n (xs : List V) : cutV xs (some 1) none = xs.drop 1 := by
  unfold cutV
  rw [show HT.sIx xs.length 0 (some (1 : Int)) = min 1 xs.length from HT.sIx_nat xs.length 0 1, HT.sIx_none]
  cases xs with
  | nil => rfl
  | cons a l =>
    rw [show min 1 (a :: l).length = 1 by simp]
    simp
theorem cut_n1 (xs : List V) : cutV xs none (some 1) = xs.take 1 := by
  unfold cutV
  rw [show HT.sIx xs.length xs.length (some (1 : Int)) = min 1 xs.length from HT.sIx_nat xs.length xs.length 1, HT.sIx_none, List.drop_zero, Nat.sub_zero]
  exact (List.take_eq_take_min).symm
theorem TksAt.app {H : Hp} : ∀ {vs us : List V} {xs ys : List (Str × Int)}, TksAt H vs xs → TksAt H us ys → TksAt H (vs ++ us) (xs ++ ys)
  | [], _, _, _, h, k => by cases h; exact k
  | v :: vs, _, _, _, h, k => by
    cases h with
    | cons h1 h2 => exact .cons h1 (TksAt.app h2 k)
theorem TksAt.drop {H : Hp} : ∀ (n : Nat) {vs : List V} {xs : List (Str × Int)}, TksAt H vs xs → TksAt H (vs.drop n) (xs.drop n)
  | 0, _, _, h => h
  | n + 1, _, _, h => by
    cases h with
    | nil => exact .nil
    | cons h1 h2 => exact TksAt.drop n h2
theorem TksAt.take {H : Hp} : ∀ (n : Nat) {vs : List V} {xs : List (Str × Int)}, TksAt H vs xs → TksAt H (vs.take n) (xs.take n)
  | 0, _, _, h => .nil
  | n + 1, _, _, h => by
    cases h with
    | nil => exact .nil
    | cons h1 h2 => exact .cons h1 (TksAt.take n h2)
section
variable {P : Program} {w : World} {K : PySem.W.Frag} {mg : Str → Option Value} {base : Heap}
end
end Fr

namespace Fr
open PySem PySem.Spec PyProof.Rows L2
/-- the sum of the vectors of rows -/
def vsum (d : Int) (w : List RowP) : List Int := (List.range d.toNat).map fun k => asum k w
section
variable {P : Program} {w : World} {K : PySem.W.Frag} {mg : Str → Option Value} {base : Heap}
end
end Fr

namespace Fr
open PySem PySem.Spec PyProof.Rows L2
theorem takes_no {X : Cx} : Takes X (fun _ _ _ _ => False) := fun u s' x => by
  obtain ⟨_, _, _, _, _, _, _, _, _, _, _, _, _, _, _, _, w⟩ := x
  exact w.elim
/-- a list of named reads that is a closed walk whose sum has an integer below 0 -/
def Bars (E : List RowP) (d : Int) (xs : List (Str × Int)) : Prop := ∃ w, CW E xs w ∧ ∃ k, k < d.toNat ∧ asum k w < 0
theorem cw_one {E : List RowP} (U : KeyU E) {xs : List (Str × Int)} {w u : List RowP} (h : w.map RowP.k = xs ∧ ∀ r ∈ w, r ∈ E) (k : u.map RowP.k = xs ∧ ∀ r ∈ u, r ∈ E) : w = u := by
  refine List.ext_getElem? fun i => ?_
  have zz : (w.map RowP.k)[i]? = (u.map RowP.k)[i]? := by rw [h.1, k.1]
  rw [List.getElem?_map, List.getElem?_map] at zz
  cases e1 : w[i]? with
  | none => rw [e1] at zz; cases e2 : u[i]? with
    | none => rfl
    | some b => rw [e2] at zz; cases zz
  | some a => rw [e1] at zz; cases e2 : u[i]? with
    | none => rw [e2] at zz; cases zz
    | some b =>
      rw [e2] at zz
      rw [U a (h.2 a (List.mem_of_getElem? e1)) b (k.2 b (List.mem_of_getElem? e2)) (Option.some.inj zz)]
theorem min_neg {d : Int} {w : List RowP} {n : Int} (h1 : n ∈ vsum d w) (h2 : ∀ y, y ∈ vsum d w → n ≤ y) : n < 0 ↔ ∃ k, k < d.toNat ∧ asum k w < 0 := by
  unfold vsum at h1 h2
  constructor
  · intro h
    obtain ⟨k, hk, e⟩ := List.mem_map.mp h1
    exact ⟨k, List.mem_range.mp hk, by omega⟩
  · rintro ⟨k, hk, h⟩
    have := h2 _ (List.mem_map.mpr ⟨k, List.mem_range.mpr hk, rfl⟩)
    omega
section
variable {P : Program} {w : World} {K : PySem.W.Frag} {mg : Str → Option Value} {base : Heap}
end
end Fr

namespace Fr
open PySem PySem.Spec PyProof.Rows L2
abbrev s_falling_walk : Stmt := topS 28
theorem sc_falling_walk : FnScope ["links", "axis", "name", "most", "least", "_", "later", "read", "reader", "table", "vector", "total"] ["links", "axis", "name", "most"] (defScope s_falling_walk) := ⟨rfl, rfl, rfl, by decide +kernel, rfl, by decide +kernel, by decide +kernel⟩
-- slots: 0 links, 1 axis, 2 name, 3 most, 4 least, 5 _, 6 later, 7 read, 8 reader, 9 table, 10 vector, 11 total
theorem sd_upd {H : Hp} {t : Addr} {u v : HO} (h : H t = some u) (n : dat u = false) : SD H (upd H t v) := fun b o e d => by
  have ne : b ≠ t := fun z => by
    rw [z, h] at e
    cases e
    rw [n] at d
    cases d
  rw [upd_ne ne]
  exact e
theorem tks_sd {H H' : Hp} (e : SD H H') : ∀ {vs : List V} {xs : List (Str × Int)}, TksAt H vs xs → TksAt H' vs xs
  | [], _, h => by cases h; exact .nil
  | v :: vs, _, h => by
    cases h with
    | cons h1 h2 =>
      obtain ⟨a, h3, h4⟩ := h1
      exact .cons ⟨a, h3, e _ _ h4 rfl⟩ (tks_sd e h2)
theorem base_add {B H : Hp} {q : Addr} {o : HO} (s : Same B H) (h : H q = some o) : Same B (upd B q o) ∧ Same (upd B q o) H := by
  refine ⟨fun b x e => ?_, fun b x e => ?_⟩
  · by_cases hb : b = q
    · rw [hb] at e ⊢
      rw [upd_same, ← h, s _ _ e]
    · rw [upd_ne hb]
      exact e
  · by_cases hb : b = q
    · rw [hb, upd_same] at e
      rw [hb, h, e]
    · rw [upd_ne hb] at e
      exact s _ _ e
/-- what a dict from tables to (sum, walk) holds -/
def EntF (H0 H : Hp) (ax : Nat) (kvs : List (Key × V)) (M : Str → Option (List RowP)) : Prop :=
  ∀ t, (M t = none → valV kvs (Sum.inr t) = none) ∧ ∀ w, M t = some w → ∃ a wl rs, valV kvs (Sum.inr t) = some (.ref a) ∧ H a = some (.tup [.int (asum ax w), .ref wl]) ∧ H wl = some (.lst rs) ∧ H0 wl = none ∧ TksAt H rs (w.map RowP.k)
theorem EntF.mono {H0 H H' : Hp} {ax : Nat} {kvs : List (Key × V)} {M : Str → Option (List RowP)} (h : EntF H0 H ax kvs M) (e : SD H H') : EntF H0 H' ax kvs M := fun t => ⟨(h t).1, fun w hw => by
  obtain ⟨a, wl, rs, h1, h2, h3, h4, h5⟩ := (h t).2 w hw
  exact ⟨a, wl, rs, h1, e _ _ h2 rfl, e _ _ h3 rfl, h4, tks_sd e h5⟩⟩
theorem EntF.put {H0 H : Hp} {ax : Nat} {kvs : List (Key × V)} {M : Str → Option (List RowP)} (h : EntF H0 H ax kvs M) {x : Str} {w : List RowP} {a wl : Addr} {rs : List V} (h2 : H a = some (.tup [.int (asum ax w), .ref wl])) (h3 : H wl = some (.lst rs)) (h4 : H0 wl = none) (h5 : TksAt H rs (w.map RowP.k)) :
    EntF H0 H ax (putK kvs (Sum.inr x) (.ref a)) (fun t => if t = x then some w else M t) := fun t => by
  rw [valV_put]
  dsimp only
  by_cases e : t = x
  · rw [if_pos e, if_pos (by rw [e])]
    exact ⟨(fun z => by cases z), fun w' hw => by cases hw; exact ⟨a, wl, rs, rfl, h2, h3, h4, h5⟩⟩
  · rw [if_neg e, if_neg (fun z => e (Sum.inr.inj z))]
    exact h t
/-- the least sums of walks of so many rows -/
structure Lst (E : List RowP) (ax : Nat) (name : Str) (k : Nat) (M : Str → Option (List RowP)) : Prop where
  sound : ∀ t w, M t = some w → Wk name w t ∧ (∀ r ∈ w, r ∈ E) ∧ w.length = k
  all : ∀ t w, Wk name w t → (∀ r ∈ w, r ∈ E) → w.length = k → ∃ u, M t = some u ∧ asum ax u ≤ asum ax w
structure Ltr (E : List RowP) (ax : Nat) (name : Str) (k j : Nat) (M : Str → Option (List RowP)) : Prop where
  sound : ∀ t w, M t = some w → Wk name w t ∧ (∀ r ∈ w, r ∈ E) ∧ w.length = k + 1
  all : ∀ w r, Wk name w r.w → (∀ r ∈ w, r ∈ E) → w.length = k → r ∈ E.take j → ∃ u, M r.o = some u ∧ asum ax u ≤ asum ax (w ++ [r])
theorem Ltr.done {E : List RowP} {ax : Nat} {name : Str} {k : Nat} {M : Str → Option (List RowP)} (h : Ltr E ax name k E.length M) : Lst E ax name (k + 1) M := by
  refine ⟨h.sound, fun t w hw hE hl => ?_⟩
  rcases List.eq_nil_or_concat w with rfl | ⟨w0, r, rfl⟩
  · cases hl
  · rw [List.concat_eq_append] at *
    obtain ⟨m, h1, h2⟩ := wk_app.mp hw
    have e1 : m = r.w := h2.1
    have e2 : r.o = t := h2.2
    have := h.all w0 r (by rw [← e1]; exact h1) (fun x hx => hE x (List.mem_append_left _ hx)) (by rw [List.length_append] at hl; exact Nat.succ.inj hl) (by rw [List.take_length]; exact hE r (by simp))
    rw [e2] at this
    exact this
theorem wk_snoc {name : Str} {w : List RowP} {r : RowP} (h : Wk name w r.w) : Wk name (w ++ [r]) r.o := wk_app.mpr ⟨r.w, h, rfl, rfl⟩
theorem mem_take1 {α : Type} {E : List α} {j : Nat} {r x : α} (h : E[j]? = some r) (m : x ∈ E.take (j + 1)) : x ∈ E.take j ∨ x = r := by
  rw [List.take_add_one, h] at m
  simpa using m
theorem asum_snoc (ax : Nat) (w : List RowP) (r : RowP) : asum ax (w ++ [r]) = asum ax w + r.v.getD ax 0 := by
  rw [asum_app]
  unfold asum
  simp
section
variable {P : Program} {w : World} {K : PySem.W.Frag} {mg : Str → Option Value} {base : Heap}
def spFall (K : PySem.W.Frag) : Sp := fun vs H Q _ => ∃ (p : Addr) (ax : Nat) (name : Str) (most : Int) (kvs : List (List Key × V)) (d : Int) (ts : List Tb), vs = [.ref p, .int (ax : Int), .str name, .int most] ∧ H p = some (.dT kvs) ∧ LkAt K H kvs (links ts) ∧ OkT d ts ∧ (ax : Int) < d ∧ 0 ≤ most ∧ most ≤ 60 ∧
  (∀ H', Same H H' → (∀ w, Wk name w name → w ≠ [] → (∀ r ∈ w, r ∈ rowsS ts) → (w.length : Int) ≤ most → 0 ≤ asum ax w) → Q .non H') ∧
  (∀ l H' rs w, Same H H' → H l = none → H' l = some (.lst rs) → TksAt H' rs (w.map RowP.k) → Wk name w name → w ≠ [] → (∀ r ∈ w, r ∈ rowsS ts) → (w.length : Int) ≤ most → asum ax w < 0 → Q (.ref l) H')
theorem ok_fall {f : Addr} {fd : FuncData} (F : Fun K "falling_walk" "falling_walk" s_falling_walk f fd) (T : Txt mg) : FnOk P w K mg base CX0 1 f fd ["links", "axis", "name", "most"] (spFall K) := by
  refine F.ok sc_falling_walk (fun vs H Q E h => ?_) (fun cdv A outer sh H vs Q E hr h => ?_)
  · obtain ⟨p, ax, name, most, kvs, d, ts, rfl, _⟩ := h
    rfl
  · obtain ⟨p, ax, name, most, kvs, d, ts, rfl, hp, hk, O, hax, hm0, hm60, qn, qs⟩ := h
    have hu := hu_of hr
    refine ⟨_, (pss_cons (ps_set (i := 4) sc_falling_walk.nd rfl (by first | exact Or.inl rfl | exact Or.inr rfl) (pe_disp (pps_cons (pv 2) (pe_tup (pa_cons pe_int (pa_cons (pe_lst pa_nil) pa_nil))) pps_nil) (by rfl) (by rfl) (fun z => by cases z) (by decide)))
  (pss_cons (ps_for PassesOwn.never rfl (pi_range1 (by rfl) T.b_range (pa_cons (pv 3) pa_nil)) (pg_name (i := 5) sc_falling_walk.nd rfl (by first | exact Or.inl rfl | exact Or.inr rfl))
    (pss_cons (ps_set (i := 6) sc_falling_walk.nd rfl (by first | exact Or.inl rfl | exact Or.inr rfl) pe_dnewK)
    (pss_cons (ps_lock (ps_for PassesOwn.never rfl (pi_itemsT (pv 0)) (pg_tup rfl (pgs_cons (pg_name (i := 7) sc_falling_walk.nd rfl (by first | exact Or.inl rfl | exact Or.inr rfl)) (pgs_cons (pg_tup rfl (pgs_cons (pg_name (i := 8) sc_falling_walk.nd rfl (by first | exact Or.inl rfl | exact Or.inr rfl)) (pgs_cons (pg_name (i := 9) sc_falling_walk.nd rfl (by first | exact Or.inl rfl | exact Or.inr rfl)) (pgs_cons (pg_name (i := 10) sc_falling_walk.nd rfl (by first | exact Or.inl rfl | exact Or.inr rfl)) pgs_nil)))) pgs_nil)))
      (pss_one (ps_if (pt_cmp (pc_din hu (pv 8) (pv 4)))
        (pss_cons (ps_set (i := 11) sc_falling_walk.nd rfl (by first | exact Or.inl rfl | exact Or.inr rfl) (pe_op op_add (pe_ix ix_tup (pe_dget hu (pv 4) (pv 8) (fun _ _ => rfl)) pe_int (fun _ _ => rfl)) (pe_ix ix_tup (pv 10) (pv 1) (fun _ _ => rfl))))
        (pss_one (ps_if (PW.pt (pw_or (pt_cmp (pc_dnotin hu (pv 9) (pv 6))) (pw_or1 (pt_cmpR op_lt (pv 11) (pe_ix ix_tup (pe_dget hu (pv 6) (pv 9) (fun _ _ => rfl)) pe_int (fun _ _ => rfl)) (nomark _)))))
          (pss_one (ps_dput hu (pv 6) (pv 9) (pe_tup (pa_cons (pv 11) (pa_cons (pe_op op_cat (pe_ix ix_tup (pe_dget hu (pv 4) (pv 8) (fun _ _ => rfl)) pe_int (fun _ _ => rfl)) (pe_lst (pa_cons (pv 7) pa_nil))) pa_nil))) rfl))
          pss_nil)))
        pss_nil))))
    (pss_cons (ps_set (i := 4) sc_falling_walk.nd rfl (by first | exact Or.inl rfl | exact Or.inr rfl) (pv 6))
    (pss_one (ps_if (PW.pt (pw_and (pt_cmp (pc_din hu (pv 2) (pv 4))) (pw_and1 (pt_cmpR op_lt (pe_ix ix_tup (pe_dget hu (pv 4) (pv 2) (fun _ _ => rfl)) pe_int (fun _ _ => rfl)) pe_int (nomark _)))))
      (pss_one (ps_ret (pe_ix ix_tup (pe_dget hu (pv 4) (pv 2) (fun _ _ => rfl)) pe_int (fun _ _ => rfl))))
      pss_nil))))))
  (pss_one (ps_ret pe_non)))), ?_⟩
    have El : (rowsS ts).length = kvs.length := by unfold rowsS; rw [List.length_map, hk.len]
    have few : kvs.length ≤ 12 := by
      have z := O.few
      rw [hk.len, ← List.length_map (f := fun l : Lk => (l.n, l.i)), links_named, named_len]
      exact z
    -- least
    intro La hLa
    refine ⟨_, rfl, (by show 0 ≤ sizeLine; decide), fun l0 hl0 => ⟨(by show 2 ≤ sizeLine; decide), fun tp htp => ?_⟩⟩
    have nLl : La ≠ l0 := ne_of_none upd_same hl0
    have d1 : (upd (upd H La (.dK [])) l0 (.lst [])) La = some (.dK []) := by rw [upd_ne nLl]; exact upd_same
    have nLt : La ≠ tp := ne_of_none d1 htp
    have n0 : H l0 = none := free_of (snew (o := .dK []) hLa) hl0
    have e1 : (upd (upd (upd H La (.dK [])) l0 (.lst [])) tp (.tup [.int 0, .ref l0])) tp = some (.tup [.int 0, .ref l0]) := upd_same
    have e2 : (upd (upd (upd H La (.dK [])) l0 (.lst [])) tp (.tup [.int 0, .ref l0])) l0 = some (.lst []) := by
      rw [upd_ne (ne_of_none (upd_same (H := upd H La (.dK [])) (o := HO.lst [])) htp)]
      exact upd_same
    have sm : Same H (upd (upd (upd H La (.dK [])) l0 (.lst [])) tp (.tup [.int 0, .ref l0])) := same_tr (snew hLa) (same_tr (snew hl0) (snew htp))
    refine ⟨by rw [upd_ne nLt]; exact d1, [(Sum.inr name, .ref tp)], rfl, by show 1 ≤ 15; decide, ?_⟩
    have d2 : (upd (upd (upd H La (.dK [])) l0 (.lst [])) tp (.tup [.int 0, .ref l0])) La = some (.dK []) := by rw [upd_ne nLt]; exact d1
    generalize upd (upd (upd H La (.dK [])) l0 (.lst [])) tp (.tup [.int 0, .ref l0]) = H1 at e1 e2 sm d2 ⊢
    have ent0 : EntF H (upd H1 La (.dK [(Sum.inr name, .ref tp)])) ax [(Sum.inr name, .ref tp)] (fun t => if t = name then some [] else none) := by
      have z : EntF H H1 ax [] (fun _ => none) := fun t => ⟨fun _ => rfl, (fun w hw => by cases hw)⟩
      exact (z.put (x := name) (w := []) e1 e2 n0 .nil).mono (sd_upd d2 rfl)
    have sm2 : Same H (upd H1 La (.dK [(Sum.inr name, .ref tp)])) := swrite sm hLa
    have la2 : (upd H1 La (.dK [(Sum.inr name, .ref tp)])) La = some (.dK [(Sum.inr name, .ref tp)]) := upd_same
    rw [show mergeK ([] : List (Key × V)) [(Sum.inr name, V.ref tp)] = [(Sum.inr name, V.ref tp)] from rfl]
    have l0' : Lst (rowsS ts) ax name 0 (fun t => if t = name then some [] else none) := by
      refine ⟨fun t w hw => ?_, fun t w hw _ hl => ?_⟩
      · by_cases e : t = name
        · rw [if_pos e] at hw
          cases hw
          exact ⟨e.symm, (fun r hr => (List.not_mem_nil hr).elim), rfl⟩
        · rw [if_neg e] at hw
          cases hw
      · cases w with
        | nil =>
          have e : name = t := hw
          rw [if_pos e.symm]
          exact ⟨[], rfl, Int.le_refl _⟩
        | cons a b => cases hl
    generalize upd H1 La (.dK [(Sum.inr name, .ref tp)]) = H2 at ent0 sm2 la2 ⊢
    clear d2 sm e1 e2 d1 nLl nLt hl0 htp hLa
    refine ⟨_, rfl, most, rfl, by omega, by omega, ?_⟩
    refine for_range (fun i σ H' => ∃ (Lb : Addr) (lkv : List (Key × V)) (M : Str → Option (List RowP)) (y5 y6 y7 y8 y9 y10 y11 : Option V), σ = [some (.ref p), some (.int (ax : Int)), some (.str name), some (.int most), some (.ref Lb), y5, y6, y7, y8, y9, y10, y11] ∧ Same H H' ∧ H' Lb = some (.dK lkv) ∧ EntF H H' ax lkv M ∧ Lst (rowsS ts) ax name i M ∧
      ∀ w, Wk name w name → w ≠ [] → (∀ r ∈ w, r ∈ rowsS ts) → w.length ≤ i → 0 ≤ asum ax w)
      ⟨La, _, _, none, none, none, none, none, none, none, rfl, sm2, la2, ent0, l0', fun w _ hn _ hl => absurd (List.length_eq_zero_iff.mp (Nat.le_zero.mp hl)) hn⟩ ?_ ?_
    · rintro i σ H3 hi ⟨Lb, lkv, M, y5, y6, y7, y8, y9, y10, y11, rfl, s3, b3, E3, L3, old⟩
      -- later
      intro Tt hTt
      have hp3 := s3 _ _ hp
      have ntT : p ≠ Tt := ne_of_none hp3 hTt
      refine ⟨p, .dT kvs, by rw [upd_ne ntT]; exact hp3, True.intro, fun od => ?_⟩
      have swap : upd (upd H3 Tt (.dK [])) p (.frz od (.dT kvs)) = upd (upd H3 p (.frz od (.dT kvs))) Tt (.dK []) := by
        funext b
        by_cases hb : b = p
        · rw [hb, upd_same, upd_ne ntT, upd_same]
        · by_cases hb2 : b = Tt
          · rw [hb2, upd_ne ntT.symm, upd_same, upd_same]
          · rw [upd_ne hb, upd_ne hb2, upd_ne hb2, upd_ne hb]
      rw [swap]
      have nbp : Lb ≠ p := fun z => by rw [z, hp3] at b3; cases b3
      have l1 : (upd H3 p (.frz od (.dT kvs))) Lb = some (.dK lkv) := by rw [upd_ne nbp]; exact b3
      have l2 : (upd H3 p (.frz od (.dT kvs))) p = some (.frz od (.dT kvs)) := upd_same
      have lT : (upd H3 p (.frz od (.dT kvs))) Tt = none := by rw [upd_ne ntT.symm]; exact hTt
      have lk : LkAt K (upd H3 p (.frz od (.dT kvs))) kvs (links ts) := (hk.mono (.of s3)).mono (sd_upd hp3 rfl)
      have lE : EntF H (upd H3 p (.frz od (.dT kvs))) ax lkv M := E3.mono (sd_upd hp3 rfl)
      have back : ∀ H', Same (upd H3 p (.frz od (.dT kvs))) H' → Same H3 (upd H' p (.dT kvs)) := fun H' e => unlock hp3 e
      have lnone : ∀ b, (upd H3 p (.frz od (.dT kvs))) b = none → H b = none := fun b hb => by
        cases e : H b with
        | none => rfl
        | some o =>
          have z := s3 _ _ e
          by_cases hbp : b = p
          · rw [hbp, l2] at hb
            cases hb
          · rw [upd_ne hbp, z] at hb
            cases hb
      generalize upd H3 p (.frz od (.dT kvs)) = HL at l1 l2 lT lk lE back lnone ⊢
      refine ⟨_, rfl, p, od, kvs, rfl, by rw [upd_ne ntT]; exact l2, ?_⟩
      refine for_it (walk_itemsT (o := od) (d := p) (kvs := kvs)) (fun j σ H' => ∃ (y7 y8 y9 y10 y11 : Option V), σ = [some (.ref p), some (.int (ax : Int)), some (.str name), some (.int most), some (.ref Lb), some (.int (0 + (i : Nat))), some (.ref Tt), y7, y8, y9, y10, y11] ∧ ∃ (B : Hp) (kvs' : List (Key × V)) (M' : Str → Option (List RowP)), Same HL B ∧ B Tt = none ∧ Same B H' ∧ H' Tt = some (.dK kvs') ∧ kvs'.length ≤ j ∧ EntF H B ax kvs' M' ∧ Ltr (rowsS ts) ax name i j M')
        ⟨_, _, _, _, _, rfl, HL, [], fun _ => none, same_refl, lT, snew lT, upd_same, Nat.le_refl _, fun t => ⟨fun _ => rfl, (fun w hw => by cases hw)⟩, ⟨(fun t w hw => by cases hw), fun w r _ _ _ hr => absurd hr (by simp)⟩⟩ (fun j σ H' _ ⟨_, _, _, _, _, _, B, _, _, c1, _, c3, _⟩ => c3 _ _ (c1 _ _ l2)) ?_ ?_
      · rintro j x σ Hj Hj' hj ⟨y7, y8, y9, y10, y11, rfl, B, kvs', M', c1, c2, c3, c4, c5, c6, c7⟩ ⟨T1, k1, v1, q1, hkv, rfl, hq1, hT1, rfl⟩
        obtain ⟨l, hlj, hk1, hd1⟩ := paired_get lk hkv
        have hk1 : k1 = l.k := hk1
        have hd1 : Dp K HL v1 l.d := hd1
        subst hk1
        obtain ⟨sB0, sB1⟩ := base_add c3 hq1
        have nqT : Tt ≠ q1 := fun z => by rw [← z, c4] at hq1; cases hq1
        have c1 := same_tr c1 sB0
        have c2 : (upd B q1 (.tup (l.k.map kV))) Tt = none := by rw [upd_ne nqT]; exact c2
        have c3 := sB1
        have c6 := c6.mono (.of sB0)
        have qB0 : (upd B q1 (.tup (l.k.map kV))) q1 = some (.tup (l.k.map kV)) := upd_same
        generalize upd B q1 (.tup (l.k.map kV)) = B at c1 c2 c3 c6 qB0
        clear sB0 sB1
        obtain ⟨ua, us, rfl, ut, ud⟩ := dtup hd1
        obtain ⟨w1, w2, w3, rfl, v1', v2', v3'⟩ := dps3 ud
        obtain rfl := dstr v1'
        obtain rfl := dstr v2'
        obtain ⟨vb, vs, rfl, vt, vd⟩ := dtup v3'
        obtain rfl := dps_ints vd
        have hEj : (rowsS ts)[j]? = some (lkR l) := by unfold rowsS; rw [List.getElem?_map, hlj]; rfl
        have hEm := List.mem_of_getElem? hEj
        obtain ⟨tb, htb, hnb, hrb⟩ := mem_links.mp (List.mem_of_getElem? hlj)
        have vlen := rd_len2 (O.reads tb htb l.r (List.mem_of_getElem? hrb))
        obtain ⟨nv, nv1, nv2⟩ := at_nat2 (v := l.r.v) (k := ax) (by omega)
        rw [show (0 : Int) + (ax : Int) = ax by omega] at nv2
        have env : (lkR l).v.getD ax 0 = nv := by
          show l.r.v.getD ax 0 = nv
          rw [List.getD_eq_getElem?_getD, nv1]
          rfl
        have s5 : Same Hj (upd Hj T1 (.tup [.ref q1, .ref ua])) := snew hT1
        have c3' := same_tr c3 s5
        have nTT : Tt ≠ T1 := ne_of_none c4 hT1
        have c4' : (upd Hj T1 (.tup [.ref q1, .ref ua])) Tt = some (.dK kvs') := by rw [upd_ne nTT]; exact c4
        have q5 := s5 _ _ hq1
        have t5 : (upd Hj T1 (.tup [.ref q1, .ref ua])) T1 = some (.tup [.ref q1, .ref ua]) := upd_same
        generalize upd Hj T1 (.tup [.ref q1, .ref ua]) = H5 at c3' c4' q5 t5 ⊢
        have c13 := same_tr c1 c3'
        refine ⟨T1, _, rfl, Or.inl (Or.inl t5), rfl, _, _, rfl, _, _, rfl, ua, _, rfl, sqt c13 ut, rfl, _, _, rfl, _, _, rfl, _, _, rfl, rfl, rfl, ?_⟩
        have bL := c13 _ _ l1
        -- if reader in least
        have gl : ∀ {H' : Hp}, Same HL H' → ∀ t : Str, DGet H' Lb (.str t) (valV lkv (Sum.inr t)) := fun sm t => DGet.k (k := Sum.inr t) (sm _ _ l1)
        refine ⟨_, rfl, _, rfl, Lb, _, rfl, gl c13 l.n, ?_⟩
        have gl' : ∀ {H' : Hp}, Same H5 H' → DGet H' Lb (.str l.n) (valV lkv (Sum.inr l.n)) := fun sm => gl (same_tr c13 sm) l.n
        have i60 : i < 60 := by omega
        cases hM : M l.n with
        | none =>
          rw [(lE l.n).1 hM]
          refine ⟨_, rfl, iteF ⟨_, _, _, _, _, rfl, B, kvs', M', c1, c2, c3', c4', by omega, c6, c7.sound, fun w r hw hE hl hr => ?_⟩⟩
          rcases mem_take1 hEj hr with z | rfl
          · exact c7.all w r hw hE hl z
          · obtain ⟨u, hu1, _⟩ := L3.all _ w hw hE hl
            rw [show M (lkR l).w = none from hM] at hu1
            cases hu1
        | some w0 =>
          obtain ⟨ea, wl, rs, hv, hea, hwl, h0, htk⟩ := (lE l.n).2 w0 hM
          obtain ⟨wk0, we0, wl0⟩ := L3.sound _ _ hM
          have rsl : rs.length = i := by rw [htk.len, List.length_map, wl0]
          rw [hv] at gl' ⊢
          refine ⟨_, rfl, iteT ?_⟩
          refine ⟨_, rfl, _, rfl, Lb, _, rfl, gl' same_refl, ea, _, 0, _, rfl, rfl, Or.inl (Or.inl (c13 _ _ hea)), rfl, ?_⟩
          refine ⟨_, rfl, _, rfl, vb, _, _, _, rfl, rfl, sqt c13 vt, nv2, _, _, rfl, rfl, ?_⟩
          have gT : DGet H5 Tt (.str l.r.t) (valV kvs' (Sum.inr l.r.t)) := DGet.k (k := Sum.inr l.r.t) c4'
          refine ⟨_, rfl, _, rfl, Tt, _, rfl, gT, ?_⟩
          cases hM' : M' l.r.t with
          | none =>
            rw [(c6 l.r.t).1 hM']
            refine ⟨_, rfl, iteT (iteT ?_)⟩
            refine ⟨_, rfl, _, rfl, _, rfl, Lb, _, rfl, gl' same_refl, ea, _, 1, _, rfl, rfl, Or.inl (Or.inl (c13 _ _ hea)), rfl, _, rfl, (by show 1 ≤ sizeLine; decide), fun x1 hx1 => ?_⟩
            have n1T : Tt ≠ x1 := ne_of_none c4' hx1
            have s6 : Same (upd B x1 (.lst [.ref q1])) (upd H5 x1 (.lst [.ref q1])) := sgrow c3'
            have b1 : B x1 = none := free_of c3' hx1
            refine ⟨wl, x1, _, _, rfl, rfl, snew hx1 _ _ (c13 _ _ hwl), upd_same, by rw [rsl, sizeLine_eq]; show _ + 1 ≤ _; omega, fun x2 hx2 => ?_⟩
            have c46 : (upd H5 x1 (.lst [.ref q1])) Tt = some (.dK kvs') := by rw [upd_ne n1T]; exact c4'
            have n2T : Tt ≠ x2 := ne_of_none c46 hx2
            have b2 : (upd B x1 (.lst [.ref q1])) x2 = none := free_of s6 hx2
            have s7 : Same (upd (upd B x1 (.lst [.ref q1])) x2 (.lst (rs ++ [.ref q1]))) (upd (upd H5 x1 (.lst [.ref q1])) x2 (.lst (rs ++ [.ref q1]))) := sgrow s6
            refine ⟨(by show 2 ≤ sizeLine; decide), fun x3 hx3 => ?_⟩
            have c47 : (upd (upd H5 x1 (.lst [.ref q1])) x2 (.lst (rs ++ [.ref q1]))) Tt = some (.dK kvs') := by rw [upd_ne n2T]; exact c46
            have n3T : Tt ≠ x3 := ne_of_none c47 hx3
            have b3' : (upd (upd B x1 (.lst [.ref q1])) x2 (.lst (rs ++ [.ref q1]))) x3 = none := free_of s7 hx3
            have s8 : Same (upd (upd (upd B x1 (.lst [.ref q1])) x2 (.lst (rs ++ [.ref q1]))) x3 (.tup [.int (asum ax w0 + nv), .ref x2])) (upd (upd (upd H5 x1 (.lst [.ref q1])) x2 (.lst (rs ++ [.ref q1]))) x3 (.tup [.int (asum ax w0 + nv), .ref x2])) := sgrow s7
            have sB : Same B (upd (upd (upd B x1 (.lst [.ref q1])) x2 (.lst (rs ++ [.ref q1]))) x3 (.tup [.int (asum ax w0 + nv), .ref x2])) := same_tr (snew b1) (same_tr (snew b2) (snew b3'))
            have c48 : (upd (upd (upd H5 x1 (.lst [.ref q1])) x2 (.lst (rs ++ [.ref q1]))) x3 (.tup [.int (asum ax w0 + nv), .ref x2])) Tt = some (.dK kvs') := by rw [upd_ne n3T]; exact c47
            have bT : (upd (upd (upd B x1 (.lst [.ref q1])) x2 (.lst (rs ++ [.ref q1]))) x3 (.tup [.int (asum ax w0 + nv), .ref x2])) Tt = none := by rw [upd_ne n3T, upd_ne n2T, upd_ne n1T]; exact c2
            have z2 : (upd (upd (upd B x1 (.lst [.ref q1])) x2 (.lst (rs ++ [.ref q1]))) x3 (.tup [.int (asum ax w0 + nv), .ref x2])) x2 = some (.lst (rs ++ [.ref q1])) := by
              rw [upd_ne (ne_of_none (upd_same (H := upd B x1 (.lst [.ref q1])) (o := HO.lst (rs ++ [.ref q1]))) b3')]
              exact upd_same
            have h02 : H x2 = none := lnone x2 (free_of (same_tr c1 (snew b1)) b2)
            have tk1 : TkAt (upd (upd (upd B x1 (.lst [.ref q1])) x2 (.lst (rs ++ [.ref q1]))) x3 (.tup [.int (asum ax w0 + nv), .ref x2])) (.ref q1) (lkR l).k := ⟨q1, rfl, sB _ _ qB0⟩
            have tks : TksAt (upd (upd (upd B x1 (.lst [.ref q1])) x2 (.lst (rs ++ [.ref q1]))) x3 (.tup [.int (asum ax w0 + nv), .ref x2])) (rs ++ [.ref q1]) ((w0 ++ [lkR l]).map RowP.k) := by
              rw [List.map_append]
              exact (htk.mono (same_tr c1 sB)).app (.cons tk1 .nil)
            have as1 : asum ax (w0 ++ [lkR l]) = asum ax w0 + nv := by rw [asum_snoc, env]
            have ent' := (c6.mono (.of sB)).put (x := l.r.t) (w := w0 ++ [lkR l]) (a := x3) (wl := x2) (by rw [as1]; exact upd_same) z2 h02 tks
            refine ⟨_, rfl, _, rfl, Tt, _, rfl, DPut.k (k := Sum.inr l.r.t) c48 (Nat.lt_of_le_of_lt c5 (by rw [sizeLine_eq]; omega)), ?_⟩
            refine ⟨_, _, _, _, _, rfl, _, _, _, same_tr c1 sB, bT, swrite s8 bT, upd_same, Nat.le_trans (length_putK _ _ _) (by omega), ent', ?_⟩
            refine ⟨fun t w hw => ?_, fun w r hw hE hl hr => ?_⟩
            · by_cases e : t = l.r.t
              · rw [if_pos e] at hw
                cases hw
                refine ⟨by rw [e]; exact wk_snoc (r := lkR l) wk0, fun r hr => ?_, by rw [List.length_append, wl0]; rfl⟩
                rcases List.mem_append.mp hr with z | z
                · exact we0 r z
                · rw [List.mem_singleton.mp z]
                  exact hEm
              · rw [if_neg e] at hw
                exact c7.sound t w hw
            · rcases mem_take1 hEj hr with z | rfl
              · obtain ⟨u, hu1, hu2⟩ := c7.all w r hw hE hl z
                by_cases e : r.o = l.r.t
                · rw [if_pos e]
                  refine ⟨_, rfl, ?_⟩
                  rw [e] at hu1
                  have := (fun u (hu : M' l.r.t = some u) => absurd hu (by rw [hM']; exact fun z => by cases z) : ∀ u, M' l.r.t = some u → asum ax (w0 ++ [lkR l]) ≤ asum ax u) u hu1
                  omega
                · rw [if_neg e]
                  exact ⟨u, hu1, hu2⟩
              · rw [if_pos (show (lkR l).o = l.r.t from rfl)]
                refine ⟨_, rfl, ?_⟩
                obtain ⟨u, hu1, hu2⟩ := L3.all _ w hw hE hl
                rw [show M (lkR l).w = some w0 from hM] at hu1
                cases hu1
                rw [asum_snoc, asum_snoc]
                omega
          | some w1 =>
            obtain ⟨ea', wl', rs', hv', hea', hwl', h0', htk'⟩ := (c6 l.r.t).2 w1 hM'
            rw [hv'] at gT ⊢
            refine ⟨_, rfl, iteF ?_⟩
            refine ⟨_, rfl, _, rfl, _, rfl, Tt, _, rfl, gT, ea', _, 0, _, rfl, rfl, Or.inl (Or.inl (c3' _ _ hea')), rfl, _, _, rfl, rfl, _, rfl, ?_⟩
            by_cases hlt : asum ax w0 + nv < asum ax w1
            · rw [decide_eq_true hlt]
              refine iteT ?_
              refine ⟨_, rfl, _, rfl, _, rfl, Lb, _, rfl, gl' same_refl, ea, _, 1, _, rfl, rfl, Or.inl (Or.inl (c13 _ _ hea)), rfl, _, rfl, (by show 1 ≤ sizeLine; decide), fun x1 hx1 => ?_⟩
              have n1T : Tt ≠ x1 := ne_of_none c4' hx1
              have s6 : Same (upd B x1 (.lst [.ref q1])) (upd H5 x1 (.lst [.ref q1])) := sgrow c3'
              have b1 : B x1 = none := free_of c3' hx1
              refine ⟨wl, x1, _, _, rfl, rfl, snew hx1 _ _ (c13 _ _ hwl), upd_same, by rw [rsl, sizeLine_eq]; show _ + 1 ≤ _; omega, fun x2 hx2 => ?_⟩
              have c46 : (upd H5 x1 (.lst [.ref q1])) Tt = some (.dK kvs') := by rw [upd_ne n1T]; exact c4'
              have n2T : Tt ≠ x2 := ne_of_none c46 hx2
              have b2 : (upd B x1 (.lst [.ref q1])) x2 = none := free_of s6 hx2
              have s7 : Same (upd (upd B x1 (.lst [.ref q1])) x2 (.lst (rs ++ [.ref q1]))) (upd (upd H5 x1 (.lst [.ref q1])) x2 (.lst (rs ++ [.ref q1]))) := sgrow s6
              refine ⟨(by show 2 ≤ sizeLine; decide), fun x3 hx3 => ?_⟩
              have c47 : (upd (upd H5 x1 (.lst [.ref q1])) x2 (.lst (rs ++ [.ref q1]))) Tt = some (.dK kvs') := by rw [upd_ne n2T]; exact c46
              have n3T : Tt ≠ x3 := ne_of_none c47 hx3
              have b3' : (upd (upd B x1 (.lst [.ref q1])) x2 (.lst (rs ++ [.ref q1]))) x3 = none := free_of s7 hx3
              have s8 : Same (upd (upd (upd B x1 (.lst [.ref q1])) x2 (.lst (rs ++ [.ref q1]))) x3 (.tup [.int (asum ax w0 + nv), .ref x2])) (upd (upd (upd H5 x1 (.lst [.ref q1])) x2 (.lst (rs ++ [.ref q1]))) x3 (.tup [.int (asum ax w0 + nv), .ref x2])) := sgrow s7
              have sB : Same B (upd (upd (upd B x1 (.lst [.ref q1])) x2 (.lst (rs ++ [.ref q1]))) x3 (.tup [.int (asum ax w0 + nv), .ref x2])) := same_tr (snew b1) (same_tr (snew b2) (snew b3'))
              have c48 : (upd (upd (upd H5 x1 (.lst [.ref q1])) x2 (.lst (rs ++ [.ref q1]))) x3 (.tup [.int (asum ax w0 + nv), .ref x2])) Tt = some (.dK kvs') := by rw [upd_ne n3T]; exact c47
              have bT : (upd (upd (upd B x1 (.lst [.ref q1])) x2 (.lst (rs ++ [.ref q1]))) x3 (.tup [.int (asum ax w0 + nv), .ref x2])) Tt = none := by rw [upd_ne n3T, upd_ne n2T, upd_ne n1T]; exact c2
              have z2 : (upd (upd (upd B x1 (.lst [.ref q1])) x2 (.lst (rs ++ [.ref q1]))) x3 (.tup [.int (asum ax w0 + nv), .ref x2])) x2 = some (.lst (rs ++ [.ref q1])) := by
                rw [upd_ne (ne_of_none (upd_same (H := upd B x1 (.lst [.ref q1])) (o := HO.lst (rs ++ [.ref q1]))) b3')]
                exact upd_same
              have h02 : H x2 = none := lnone x2 (free_of (same_tr c1 (snew b1)) b2)
              have tk1 : TkAt (upd (upd (upd B x1 (.lst [.ref q1])) x2 (.lst (rs ++ [.ref q1]))) x3 (.tup [.int (asum ax w0 + nv), .ref x2])) (.ref q1) (lkR l).k := ⟨q1, rfl, sB _ _ qB0⟩
              have tks : TksAt (upd (upd (upd B x1 (.lst [.ref q1])) x2 (.lst (rs ++ [.ref q1]))) x3 (.tup [.int (asum ax w0 + nv), .ref x2])) (rs ++ [.ref q1]) ((w0 ++ [lkR l]).map RowP.k) := by
                rw [List.map_append]
                exact (htk.mono (same_tr c1 sB)).app (.cons tk1 .nil)
              have as1 : asum ax (w0 ++ [lkR l]) = asum ax w0 + nv := by rw [asum_snoc, env]
              have ent' := (c6.mono (.of sB)).put (x := l.r.t) (w := w0 ++ [lkR l]) (a := x3) (wl := x2) (by rw [as1]; exact upd_same) z2 h02 tks
              refine ⟨_, rfl, _, rfl, Tt, _, rfl, DPut.k (k := Sum.inr l.r.t) c48 (Nat.lt_of_le_of_lt c5 (by rw [sizeLine_eq]; omega)), ?_⟩
              refine ⟨_, _, _, _, _, rfl, _, _, _, same_tr c1 sB, bT, swrite s8 bT, upd_same, Nat.le_trans (length_putK _ _ _) (by omega), ent', ?_⟩
              refine ⟨fun t w hw => ?_, fun w r hw hE hl hr => ?_⟩
              · by_cases e : t = l.r.t
                · rw [if_pos e] at hw
                  cases hw
                  refine ⟨by rw [e]; exact wk_snoc (r := lkR l) wk0, fun r hr => ?_, by rw [List.length_append, wl0]; rfl⟩
                  rcases List.mem_append.mp hr with z | z
                  · exact we0 r z
                  · rw [List.mem_singleton.mp z]
                    exact hEm
                · rw [if_neg e] at hw
                  exact c7.sound t w hw
              · rcases mem_take1 hEj hr with z | rfl
                · obtain ⟨u, hu1, hu2⟩ := c7.all w r hw hE hl z
                  by_cases e : r.o = l.r.t
                  · rw [if_pos e]
                    refine ⟨_, rfl, ?_⟩
                    rw [e] at hu1
                    have := (fun u (hu : M' l.r.t = some u) => by rw [hM'] at hu; cases hu; rw [asum_snoc, env]; omega : ∀ u, M' l.r.t = some u → asum ax (w0 ++ [lkR l]) ≤ asum ax u) u hu1
                    omega
                  · rw [if_neg e]
                    exact ⟨u, hu1, hu2⟩
                · rw [if_pos (show (lkR l).o = l.r.t from rfl)]
                  refine ⟨_, rfl, ?_⟩
                  obtain ⟨u, hu1, hu2⟩ := L3.all _ w hw hE hl
                  rw [show M (lkR l).w = some w0 from hM] at hu1
                  cases hu1
                  rw [asum_snoc, asum_snoc]
                  omega
            · rw [decide_eq_false hlt]
              refine iteF ⟨_, _, _, _, _, rfl, B, kvs', M', c1, c2, c3', c4', by omega, c6, c7.sound, fun w r hw hE hl hr => ?_⟩
              rcases mem_take1 hEj hr with z | rfl
              · exact c7.all w r hw hE hl z
              · obtain ⟨u, hu1, hu2⟩ := L3.all _ w hw hE hl
                rw [show M (lkR l).w = some w0 from hM] at hu1
                cases hu1
                refine ⟨w1, hM', ?_⟩
                rw [asum_snoc, env]
                omega
      · rintro σ H4 ⟨y7, y8, y9, y10, y11, rfl, B, kvs', M', c1, c2, c3, c4, c5, c6, c7⟩
        have sb := back H4 (same_tr c1 c3)
        have ntt : Tt ≠ p := ntT.symm
        have c4' : (upd H4 p (.dT kvs)) Tt = some (.dK kvs') := by rw [upd_ne ntt]; exact c4
        have fz : H4 p = some (.frz od (.dT kvs)) := c3 _ _ (c1 _ _ l2)
        have ent4 : EntF H (upd H4 p (.dT kvs)) ax kvs' M' := fun t => ⟨(c6 t).1, fun w hw => by
          obtain ⟨a, wl, rs, h1, h2, h3, h4, h5⟩ := (c6 t).2 w hw
          have keep : ∀ b o, B b = some o → (∀ od' u', o ≠ .frz od' u') → (upd H4 p (.dT kvs)) b = some o := fun b o e n => by
            rw [upd_ne fun z => by
              have z1 := c3 _ _ e
              rw [z, fz] at z1
              cases z1
              exact n _ _ rfl]
            exact c3 _ _ e
          refine ⟨a, wl, rs, h1, keep _ _ h2 (fun _ _ z => nomatch z), keep _ _ h3 (fun _ _ z => nomatch z), h4, ?_⟩
          exact Paired.mapP h5 fun v x hv => by
            obtain ⟨q, e1, e2⟩ := hv
            exact ⟨q, e1, keep _ _ e2 (fun _ _ z => nomatch z)⟩⟩
        refine ⟨fz, _, rfl, ?_⟩
        have s34 := same_tr s3 sb
        clear c4 c6 fz
        generalize upd H4 p (.dT kvs) = H5 at sb c4' ent4 s34 ⊢
        have L5 : Lst (rowsS ts) ax name (i + 1) M' := Ltr.done (by rw [El]; exact c7)
        have gT : DGet H5 Tt (.str name) (valV kvs' (Sum.inr name)) := DGet.k (k := Sum.inr name) c4'
        refine ⟨_, rfl, _, rfl, Tt, _, rfl, gT, ?_⟩
        have cont : (∀ w, Wk name w name → (∀ r ∈ w, r ∈ rowsS ts) → w.length = i + 1 → 0 ≤ asum ax w) → ∀ w, Wk name w name → w ≠ [] → (∀ r ∈ w, r ∈ rowsS ts) → w.length ≤ i + 1 → 0 ≤ asum ax w := fun h w h1 h2 h3 h4 => by
          by_cases e : w.length = i + 1
          · exact h w h1 h3 e
          · exact old w h1 h2 h3 (by omega)
        cases hM : M' name with
        | none =>
          rw [(ent4 name).1 hM]
          refine ⟨_, rfl, iteF (iteF ⟨Tt, kvs', M', _, _, _, _, _, _, _, rfl, s34, c4', ent4, L5, cont fun w h1 h2 h3 => ?_⟩)⟩
          obtain ⟨u, hu1, _⟩ := L5.all _ w h1 h2 h3
          rw [hM] at hu1
          cases hu1
        | some w0 =>
          obtain ⟨ea, wl, rs, hv, hea, hwl, h0, htk⟩ := (ent4 name).2 w0 hM
          obtain ⟨wk0, we0, wl0⟩ := L5.sound _ _ hM
          rw [hv] at gT ⊢
          refine ⟨_, rfl, iteT ?_⟩
          refine ⟨_, rfl, _, rfl, Tt, _, rfl, gT, ea, _, 0, _, rfl, rfl, Or.inl (Or.inl hea), rfl, _, _, rfl, rfl, _, rfl, ?_⟩
          by_cases hlt : asum ax w0 < 0
          · rw [decide_eq_true hlt]
            refine iteT ⟨_, rfl, _, rfl, Tt, _, rfl, gT, ea, _, 1, _, rfl, rfl, Or.inl (Or.inl hea), rfl, ?_⟩
            exact qs wl H5 rs w0 s34 h0 hwl htk wk0 (fun z => by rw [z] at wl0; cases wl0) we0 (by omega) hlt
          · rw [decide_eq_false hlt]
            refine iteF ⟨Tt, kvs', M', _, _, _, _, _, _, _, rfl, s34, c4', ent4, L5, cont fun w h1 h2 h3 => ?_⟩
            obtain ⟨u, hu1, hu2⟩ := L5.all _ w h1 h2 h3
            rw [hM] at hu1
            cases hu1
            omega
    · rintro σ H3 ⟨Lb, lkv, M, y5, y6, y7, y8, y9, y10, y11, rfl, s3, b3, E3, L3, old⟩
      refine qn H3 s3 fun w h1 h2 h3 h4 => old w h1 h2 h3 (by omega)
end
end Fr

namespace Fr
open PySem PySem.Spec PyProof.Rows L2
abbrev s_barring_walk : Stmt := topS 25
theorem sc_barring_walk : FnScope ["system", "links", "axis", "name", "walk"] ["system"] (defScope s_barring_walk) := ⟨rfl, rfl, rfl, by decide +kernel, rfl, by decide +kernel, by decide +kernel⟩
-- slots: 0 system, 1 links, 2 axis, 3 name, 4 walk
theorem wk_cl {w : List RowP} {s : Str} (h : Wk s w s) (n : w ≠ []) : Cl w := cl_wk n h
theorem row_names {ts : List Tb} {r : RowP} (h : r ∈ rowsS ts) : r.w ∈ ts.map (·.n) := by
  obtain ⟨l, hl, rfl⟩ := List.mem_map.mp h
  obtain ⟨t, ht, hn, _⟩ := mem_links.mp hl
  exact List.mem_map.mpr ⟨t, ht, hn⟩
/-- no closed walk with a sum that has an integer below 0 -/
def Free (E : List RowP) (d : Int) : Prop := ¬ ∃ w, Cl w ∧ (∀ r ∈ w, r ∈ E) ∧ ∃ k, k < d.toNat ∧ asum k w < 0
theorem free_of_short {ts : List Tb} {d : Int} (h : ∀ k, k < d.toNat → ∀ x ∈ ts.map (·.n), ∀ w, Wk x w x → w ≠ [] → (∀ r ∈ w, r ∈ rowsS ts) → w.length ≤ ts.length → 0 ≤ asum k w) : Free (rowsS ts) d := by
  rintro ⟨w, hc, hE, k, hk, hs⟩
  obtain ⟨u, h1, h2, h3, h4⟩ := simple_of (k := k) w.length w (Nat.le_refl _) hc hs
  obtain ⟨a, l, rfl, hw⟩ := id h2
  have hE2 : ∀ r ∈ a :: l, r ∈ rowsS ts := fun r hr => hE r (h1 r hr)
  have len := length_le_of_nodup_of_subset _ (ts.map (·.n)) h4 (fun x hx => by
    obtain ⟨r, hr, rfl⟩ := List.mem_map.mp hx
    exact row_names (hE2 r hr))
  rw [List.length_map, List.length_map] at len
  have := h k hk a.w (row_names (hE2 a (by simp))) (a :: l) hw (by simp) hE2 len
  omega
section
variable {P : Program} {w : World} {K : PySem.W.Frag} {mg : Str → Option Value} {base : Heap}
def spBarW (K : PySem.W.Frag) (C : Addr) : Sp := fun vs H Q _ => ∃ (s : Addr) (d m : Int) (ts : List Tb), vs = [.ref s] ∧ SysAt K C H s d m ts ∧ 1 ≤ d ∧ d ≤ 3 ∧ OkT d ts ∧ ts.length ≤ 60 ∧
  (∀ H', Same H H' → Free (rowsS ts) d → Q .non H') ∧
  (∀ l H' rs xs, Same H H' → H l = none → H' l = some (.lst rs) → TksAt H' rs xs → Bars (rowsS ts) d xs → xs.length ≤ 60 → Q (.ref l) H')
theorem ok_barW {f C : Addr} {fd : FuncData} (F : Fun K "barring_walk" "barring_walk" s_barring_walk f fd) (T : Txt mg) (c_links_of : C8.Cal P w K mg base 5 "links_of" (spLinks K C) []) (p_dimensions : Prp P w K mg base 1 C "dimensions" (spDims K C)) (p_names : Prp P w K mg base 1 C "names" (spNames K C)) (len_System : LenM P w K mg base 1 C (spLenS K C)) (c_falling_walk : C8.Cal P w K mg base 1 "falling_walk" (spFall K) []) : FnOk P w K mg base CX0 6 f fd ["system"] (spBarW K C) := by
  refine F.ok sc_barring_walk (fun vs H Q E h => ?_) (fun cdv A outer sh H vs Q E hr h => ?_)
  · obtain ⟨s, d, m, ts, rfl, _⟩ := h
    rfl
  · obtain ⟨s, d, m, ts, rfl, S, hd1, hd3, O, hl60, qn, qs⟩ := h
    refine ⟨_, (pss_cons (ps_set (i := 1) sc_barring_walk.nd rfl (by first | exact Or.inl rfl | exact Or.inr rfl) (C8.pe_c c_links_of hr (by decide) (by rfl) (pa_cons (pv 0) pa_nil)))
  (pss_cons (ps_for PassesOwn.never rfl (pi_range1 (by rfl) T.b_range (pa_cons (pe_pr (pv 0) p_dimensions hr (by decide) rfl) pa_nil)) (pg_name (i := 2) sc_barring_walk.nd rfl (by first | exact Or.inl rfl | exact Or.inr rfl))
    (pss_one (ps_for PassesOwn.never rfl (pi_list (pe_pr (pv 0) p_names hr (by decide) rfl)) (pg_name (i := 3) sc_barring_walk.nd rfl (by first | exact Or.inl rfl | exact Or.inr rfl))
      (pss_cons (ps_set (i := 4) sc_barring_walk.nd rfl (by first | exact Or.inl rfl | exact Or.inr rfl) (C8.pe_c c_falling_walk hr (by decide) (by rfl) (pa_cons (pv 1) (pa_cons (pv 2) (pa_cons (pv 3) (pa_cons (pe_callB (call_lenOwn len_System hr (by decide)) (by rfl) T.b_len PySem.boot_len (pa_cons (pv 0) pa_nil)) pa_nil))))))
      (pss_one (ps_if (pt_cmpR op_notN (pv 4) pe_non (nomark _))
        (pss_one (ps_ret (pv 4)))
        pss_nil))))))
  (pss_one (ps_ret pe_non)))), ?_⟩
    refine ⟨_, rfl, s, d, m, ts, rfl, S, O.nodup, Nat.le_trans O.few (by decide), fun p H1 kvs hp s1 hp1 hk1 => ?_⟩
    obtain ⟨dx, tt, tkv, o1, _⟩ := id S.ob
    refine ⟨_, rfl, s, dx, _, rfl, s1 _ _ o1, s, d, m, ts, rfl, S.mono s1, d, rfl, by omega, by omega, ?_⟩
    refine for_range (fun i σ H' => ∃ y2 y3 y4, σ = [some (.ref s), some (.ref p), y2, y3, y4] ∧ Same H1 H' ∧ ∀ k, k < i → ∀ x ∈ ts.map (·.n), ∀ w, Wk x w x → w ≠ [] → (∀ r ∈ w, r ∈ rowsS ts) → w.length ≤ ts.length → 0 ≤ asum k w)
      ⟨none, none, none, rfl, same_refl, fun k hk => by omega⟩ ?_ ?_
    · rintro i σ H2 hi ⟨y2, y3, y4, rfl, s2, old⟩
      have s12 := same_tr s1 s2
      refine ⟨_, rfl, s, dx, _, rfl, s12 _ _ o1, s, d, m, ts, rfl, S.mono s12, fun nl H3 hnl s3 hn3 => ?_⟩
      have hn3 : H3 nl = some (.lst ((ts.map (·.n)).map V.str)) := by rw [List.map_map]; exact hn3
      refine ⟨nl, rfl, ⟨_, Or.inl (Or.inl hn3)⟩, for_it (walk_list (K := K) (a := nl) (xs := (ts.map (·.n)).map V.str)) (fun j σ H' => ∃ y3 y4, σ = [some (.ref s), some (.ref p), some (.int (0 + (i : Nat))), y3, y4] ∧ Same H3 H' ∧ ∀ jj x, jj < j → (ts.map (·.n))[jj]? = some x → ∀ w, Wk x w x → w ≠ [] → (∀ r ∈ w, r ∈ rowsS ts) → w.length ≤ ts.length → 0 ≤ asum i w) ⟨_, _, rfl, same_refl, fun jj x hj => by omega⟩ (fun j σ H' _ ⟨_, _, _, b, _⟩ => Or.inl (Or.inl (b _ _ hn3))) ?_ ?_⟩
      · rintro j y σ _ H4 hj ⟨y3, y4, rfl, s4, oldj⟩ ⟨rfl, hy⟩
        rw [List.getElem?_map] at hy
        obtain ⟨x, hx, rfl⟩ := Option.map_eq_some_iff.mp hy
        have s34 := same_tr s3 s4
        have s14 := same_tr s2 s34
        have sH4 := same_tr s1 s14
        refine ⟨_, rfl, _, rfl, _, rfl, _, rfl, s, dx, _, rfl, sH4 _ _ o1, s, d, m, ts, rfl, S.mono sH4, ?_⟩
        refine ⟨ts.length, rfl, by omega, p, i, x, (ts.length : Nat), kvs, d, ts, by rw [Int.zero_add]; rfl, s14 _ _ hp1, hk1.mono (.of s14), O, by omega, by omega, by omega, fun H5 s5 hf => ?_, fun l H5 rs w s5 hl hl5 htk wk hne hE hlen hneg => ?_⟩
        · refine ⟨_, rfl, rfl, _, rfl, ?_⟩
          refine iteF ⟨_, _, rfl, same_tr s4 s5, fun jj x' hjj hx' => ?_⟩
          rcases Nat.lt_succ_iff_lt_or_eq.mp hjj with h | h
          · exact oldj jj x' h hx'
          · subst h
            rw [hx] at hx'
            cases hx'
            exact fun w h1 h2 h3 h4 => hf w h1 h2 h3 (by omega)
        · refine ⟨_, rfl, rfl, _, rfl, iteT ⟨_, rfl, ?_⟩⟩
          have s15 := same_tr sH4 s5
          refine qs l H5 rs _ s15 (free_of sH4 hl) hl5 htk ⟨w, ⟨rfl, hE, wk_cl wk hne⟩, i, by omega, hneg⟩ (by rw [List.length_map]; omega)
      · rintro σ H4 ⟨y3, y4, rfl, s4, oldj⟩
        refine ⟨_, _, _, rfl, same_tr s2 (same_tr s3 s4), fun k hk x hx => ?_⟩
        rcases Nat.lt_succ_iff_lt_or_eq.mp hk with h | h
        · exact old k h x hx
        · subst h
          obtain ⟨jj, hjj⟩ := List.mem_iff_getElem?.mp hx
          have z := (List.getElem?_eq_some_iff.mp hjj).1
          exact oldj jj x (by rw [List.length_map]; exact z) hjj
    · rintro σ H2 ⟨y2, y3, y4, rfl, s2, old⟩
      exact qn H2 (same_tr s1 s2) (free_of_short fun k hk => old k (by omega))
end
end Fr

namespace Fr
open PySem PySem.Spec PyProof.Rows L2
/-- a set that is just made -/
def newSet (w : World) : PySem.Obj := { cls := .type "set", dict := none, data := .set #[] 0 (.fresh 0 0 (!w.params.followText "set-order")) }
section
variable {P : Program} {w : World} {A : Around} {E : Value → Shared → Prop} {s : Shared}
/-- the items of an iterator are put into the set at z one by one; J i: what is true after i of them -/
theorem set_loop {it : Addr} {fp wr : List Addr} {G : Array GenState → Array GenState → Prop} {n : Nat} {Pv : Nat → Value → Prop} {St : Nat → Shared → Prop} {R : Result → Shared → Prop} (W : WalksS P w A.in1 it fp wr G n Pv St) (z : Addr) (hz : z ∉ fp)
    (base : Heap) (hbw : ∀ b ∈ wr, base.get? b = none) (hbz : base.get? z = none) (J : Nat → Heap → Prop)
    (keep : ∀ i h h', J i h → (∀ b o, base.get? b = some o → h'.get? b = some o) → (∀ o, h.get? z = some o → h'.get? z = some o) → J i h')
    (step : ∀ i v (t : Shared) (Q : Bool → Shared → Prop), Pv i v → J i t.heap → (∀ b o, base.get? b = some o → t.heap.get? b = some o) → (∀ b h' tk, Heap.SameBut z t.heap h' → t.toks ≤ tk → J (i + 1) h' → Q b { t with heap := h', toks := tk }) → wpAny (model P w) A.in1 (setAdd z v) Q (fun e s' => R (.error e) s') t) :
    ∀ (left i : Nat) (t : Shared), i + left = n → St i t → (∀ b o, base.get? b = some o → t.heap.get? b = some o) → J i t.heap →
      (∀ t', Moved (z :: wr) G t t' → J n t'.heap → (∀ b o, base.get? b = some o → t'.heap.get? b = some o) → R (.ok (.ret .none)) t') →
      codeAny (model P w) A (.builtin "set.update.loop" ⟨[.ref z, .ref it], []⟩) R t := by
  have zw : z ∉ wr := fun m => hz (W.sub _ m)
  have wider : ∀ b ∈ wr, b ∈ z :: wr := fun b m => List.mem_cons_of_mem _ m
  intro left
  induction left with
  | zero =>
    intro i t e st kb j fin
    obtain rfl : i = n := e
    refine codeAny_builtin PyProof.Rows.F.entry_set_update_loop ?_
    rw [Around.under_plainId PyProof.Rows.F.plain_set_update_loop _]
    show wpAny _ A.in1 (pyNext (.ref it) >>= _) _ _ t
    refine wpAny_bind (W.done t _ _ st fun t' mv => ?_)
    have kb' : ∀ b o, base.get? b = some o → t'.heap.get? b = some o := fun b o h => mv.heap b o (fun m => by rw [hbw b m] at h; cases h) (kb b o h)
    exact wpAny_pure (fin t' (mv.mono wider) (keep _ _ _ j kb' fun o h => mv.heap z o zw h) kb')
  | succ left ih =>
    intro i t e st kb j fin
    refine codeAny_builtin PyProof.Rows.F.entry_set_update_loop ?_
    rw [Around.under_plainId PyProof.Rows.F.plain_set_update_loop _]
    show wpAny _ A.in1 (pyNext (.ref it) >>= _) _ _ t
    refine wpAny_bind (W.item i t _ _ (by omega) st fun v t' pv st' mv => ?_)
    have kb' : ∀ b o, base.get? b = some o → t'.heap.get? b = some o := fun b o h => mv.heap b o (fun m => by rw [hbw b m] at h; cases h) (kb b o h)
    show wpAny _ A.in1 (holding [v] (setAdd z v) >>= _) _ _ t'
    refine wpAny_bind (wpAny_holding (step i v t' _ pv (keep _ _ _ j kb' fun o h => mv.heap z o zw h) kb' fun b h' tk sb le j' => ?_))
    have oth : ∀ c o, c ≠ z → t'.heap.get? c = some o → h'.get? c = some o := fun c o ne h => (sb.2 c ne).trans h
    have kb2 : ∀ b o, base.get? b = some o → h'.get? b = some o := fun b o h => oth b o (fun q => by rw [q, hbz] at h; cases h) (kb' b o h)
    refine wpAny_pure ⟨plainId_quiet PyProof.Rows.F.plain_set_update_loop _, ih (i + 1) _ (by omega) (W.frame _ t' _ _ st' le fun c m o h => oth c o (fun q => hz (by rw [← q]; exact m)) h) kb2 j' fun t2 mv2 j2 kb3 => ?_⟩
    exact fin t2 (Moved.trans W.gtrans ((mv.mono wider).then_heap le fun c o m h => oth c o (fun q => m (by rw [q]; exact List.mem_cons_self)) h) mv2) j2 kb3
set_option maxHeartbeats 8000000 in
/-- set(list) -/
theorem call_set_gen {l : Addr} {items : Array Value} {Q : Value → Shared → Prop} (hh : A.handled = none) (hl : s.heap.IsList l items) (J : Nat → Heap → Prop)
    (keep : ∀ i h h', J i h → (∀ b o, s.heap.get? b = some o → h'.get? b = some o) → (∀ o, h.get? s.heap.objs.size = some o → h'.get? s.heap.objs.size = some o) → J i h')
    (start : ∀ h, h.get? s.heap.objs.size = some (newSet w) → (∀ b o, s.heap.get? b = some o → h.get? b = some o) → J 0 h)
    (step : ∀ (A' : Around) (E' : Value → Shared → Prop) i v (t : Shared) (Q : Bool → Shared → Prop), A'.handled = none → A'.units ≤ A.units + 4 → items[i]? = some v → J i t.heap → (∀ b o, s.heap.get? b = some o → t.heap.get? b = some o) → (∀ b h' tk, Heap.SameBut s.heap.objs.size t.heap h' → t.toks ≤ tk → J (i + 1) h' → Q b { t with heap := h', toks := tk }) → wpAny (model P w) A' (setAdd s.heap.objs.size v) Q E' t)
    (fin : ∀ h' tk, J items.size h' → (∀ b o, s.heap.get? b = some o → h'.get? b = some o) → Q (.ref s.heap.objs.size) { s with heap := h', toks := tk }) :
    wpAny (model P w) A (call (.type "set") [.ref l]) Q E s := by
  obtain ⟨c, tl, hmro⟩ := F.called_set.mro
  have hmade := F.called_set.made
  have hsub := F.called_set.sub
  refine wpAny_call (codeAny_of_tree ?_)
  show wpAny _ _ (callAny (.type "set") _) _ _ _
  refine wpAny_pure ⟨Code.quiet_builtin _ (by decide +kernel), codeAny_builtin F.entry_type_call ?_⟩
  rw [Around.under_plain (weight_type_call_type "set" [.ref l] []) rfl]
  have h1 := F.called_set.notType
  have h2 := F.called_set.canCreate
  have hct := F.typeCall_set_1 (.ref l)
  repeat (any_goals (first | assumption | wp_step))
  refine codeAny_mono (code_set_led1 (.ref l) (E := E) (Q₁ := fun u t => u = .ref s.heap.objs.size ∧ t = { s with heap := s.heap.push (newSet w) }) ⟨rfl, rfl⟩) fun r s₁ hr => ?_
  cases r with
  | error e => exact hr
  | ok fl =>
    cases fl with
    | ret obj =>
      obtain ⟨rfl, rfl⟩ := hr
      have hS : (s.heap.push (newSet w)).get? s.heap.objs.size = some (newSet w) := Heap.get?_push_size _ rfl
      have hT : Shared.TypeIs { s with heap := s.heap.push (newSet w) } (.ref s.heap.objs.size) "set" := ⟨_, hS, rfl⟩
      have hli := F.called_set.init.lookup
      have hbi := F.called_set.init.bind (.ref s.heap.objs.size)
      repeat (any_goals (first | assumption | wp_step))
      refine codeAny_mono (codeAny_call_builtin (R := wants (fun r t => r = .none ∧ ∃ h' tk, t = { s with heap := h', toks := tk } ∧ J items.size h' ∧ (∀ b o, s.heap.get? b = some o → h'.get? b = some o)) E) F.called_set.init.plain F.entry_set_init (check_set_init_1 hT ?_)) fun r₂ s₂ hr₂ => ?_
      · obtain ⟨ol, hol, hcl, nl, hdl⟩ := hl
        obtain ⟨ocls, odict, odata, oslots⟩ := ol
        simp only at hcl hdl
        subst hcl
        subst hdl
        have hol' : (s.heap.push (newSet w)).get? l = some { cls := .type "list", dict := odict, data := .seq items nl, slots := oslots } := Heap.get?_push_of_some _ hol
        have hsls := F.sub_list_set
        have hslf := F.sub_list_frozenset
        have hne : (Value.type "list" == Value.type "dict") = false := by decide
        have hl1 : (s.heap.push (newSet w)).IsList l items := ⟨_, hol', rfl, nl, rfl⟩
        unfold Builtin.«set.__init__» noKeywords Builtin.Frozenset.updateFrom
        generalize hPI : pyIter = PI
        wp_walk
        subst hPI
        refine wpAny_pyIter_list hl1 ?_
        refine wpAny_bind (wpAny_runValue ?_)
        have lS : l < s.heap.objs.size := Heap.lt_size hol
        have nohan : A.in1.in1.in1.handled = none := by simp [hh]
        have sz : (s.heap.push (newSet w)).objs.size = s.heap.objs.size + 1 := Heap.size_push ..
        have apart : l ≠ (s.heap.push (newSet w)).objs.size := by rw [sz]; exact Nat.ne_of_lt (Nat.lt_succ_of_lt lS)
        have outz : s.heap.objs.size ∉ [(s.heap.push (newSet w)).objs.size, l] := by
          rw [sz]
          simp only [List.mem_cons, List.not_mem_nil, or_false, not_or]
          exact ⟨Nat.ne_of_lt (Nat.lt_succ_self _), Nat.ne_of_gt lS⟩
        have noold : ∀ b, s.heap.objs.size ≤ b → s.heap.get? b = none := fun b hb => by
          cases q : s.heap.get? b with
          | none => rfl
          | some o => exact absurd (Nat.lt_of_lt_of_le (Heap.lt_size q) hb) (Nat.lt_irrefl _)
        have grown : ∀ (o : PySem.Obj) b u, s.heap.get? b = some u → ((s.heap.push (newSet w)).push o).get? b = some u := fun o b u h => Heap.get?_push_of_some _ (Heap.get?_push_of_some _ h)
        refine set_loop ((Walks.list nohan _ l apart items).toS) s.heap.objs.size outz s.heap (fun b m => noold b (by rw [List.mem_singleton.mp m, sz]; exact Nat.le_succ _)) (noold _ (Nat.le_refl _)) J keep
          (fun i v t Q pv j kb q => step _ _ i v t Q (by simp [hh]) (by show A.units + 1 + 1 + 1 ≤ _; exact Nat.le_succ _) pv j kb q) items.size 0 _ (Nat.zero_add _) ⟨⟨_, Heap.get?_push_size _ rfl, rfl, rfl⟩, (hl1.push _)⟩ (grown _) (start _ (Heap.get?_push_of_some _ hS) (grown _)) fun t' mv j kb => ?_
        obtain ⟨h', g', d', tk', os'⟩ := t'
        have e1 : g' = s.gens := mv.gens
        have e2 : d' = s.drawn := mv.drawn
        have e3 : os' = s.os := mv.os
        subst e1 e2 e3
        show wpAny _ _ _ _ _ _
        refine wpAny_pure ?_
        show wpAny _ _ (ret Value.none) _ _ _
        exact wpAny_pure ⟨rfl, h', tk', rfl, j, kb⟩
      · cases r₂ with
        | error e => exact hr₂
        | ok fl₂ =>
          cases fl₂ with
          | ret r =>
            obtain ⟨rfl, h', tk, rfl, j, kb⟩ := hr₂
            repeat (any_goals (first | assumption | wp_step))
            exact fin h' tk j kb
          | _ => exact hr₂.elim
    | _ => exact hr.elim
end
end Fr

namespace Fr
open PySem PySem.Spec PyProof.Rows L2
def GdS (w : World) (e : Int × Value) : Prop := ∃ k tk, e.2 = Value.str k tk ∧ e.1 = hashStr w k
def keyS (e : Int × Value) : Str := strOf e.2
/-- the payload of a set of the texts L -/
structure SPay (w : World) (es : Array (Int × Value)) (t : SetTable) (L : List Str) : Prop where
  gd : ∀ e ∈ es.toList, GdS w e
  pm : (es.toList.map keyS).Perm L
  nd : L.Nodup
  fit : t.fits es.size = true
  ris : Ris t.place.toList
  led : w.params.followText "set-order" = true ∨ t.led = true
section
variable {P : Program} {w : World} {A : Around} {E : Value → Shared → Prop} {s : Shared} {es : Array (Int × Value)} {t : SetTable} {L : List Str}
theorem SPay.el (R : SPay w es t L) : ElemsOf (strKind P w) es.toList := fun e he => by
  obtain ⟨k, tk, h1, h2⟩ := R.gd e he
  exact ⟨⟨k, by rw [h1]; exact strKind_is P w k tk, h2⟩, by rw [h1] <;> rfl⟩
theorem SPay.size (R : SPay w es t L) : es.size = L.length := by
  rw [← R.pm.length_eq, List.length_map, Array.length_toList]
theorem SPay.is (R : SPay w es t L) {e : Int × Value} (he : e ∈ es.toList) (k : Str) : (strKind P w).is k e.2 = true ↔ keyS e = k := by
  obtain ⟨k0, tk, h1, _⟩ := R.gd e he
  unfold keyS
  rw [h1]
  show Value.isStrOf k (Value.str k0 tk) = true ↔ k0 = k
  simp [Value.isStrOf]
theorem SPay.found (R : SPay w es t L) {k : Str} : (∃ e ∈ es.toList, (strKind P w).is k e.2 = true) ↔ k ∈ L := by
  rw [← R.pm.mem_iff, List.mem_map]
  exact ⟨fun ⟨e, he, q⟩ => ⟨e, he, (R.is he k).mp q⟩, fun ⟨e, he, q⟩ => ⟨e, he, (R.is he k).mpr q⟩⟩
/-- the same texts in another table -/
theorem SPay.swap (R : SPay w es t L) {es' : Array (Int × Value)} {t' : SetTable} (p : es'.toList.Perm es.toList) (f : t'.fits es'.size = true) (r : Ris t'.place.toList) (l : t'.led = t.led) : SPay w es' t' L :=
  ⟨fun e he => R.gd e (p.mem_iff.mp he), (p.map keyS).trans R.pm, R.nd, f, r, R.led.imp id fun z => by rw [l]; exact z⟩
/-- one text more -/
theorem SPay.more (R : SPay w es t L) {k : Str} {tk : Tok} (hk : k ∉ L) {es' : Array (Int × Value)} {t' : SetTable} (p : es'.toList.Perm (es.push (hashStr w k, Value.str k tk)).toList) (f : t'.fits es'.size = true) (r : Ris t'.place.toList) (l : t'.led = t.led) : SPay w es' t' (k :: L) := by
  rw [Array.toList_push] at p
  have q : es'.toList.Perm ((hashStr w k, Value.str k tk) :: es.toList) := p.trans (List.perm_append_singleton _ _)
  refine ⟨fun e he => ?_, (q.map keyS).trans (R.pm.cons k), List.nodup_cons.mpr ⟨hk, R.nd⟩, f, r, R.led.imp id fun z => by rw [l]; exact z⟩
  rcases List.mem_cons.mp (q.mem_iff.mp he) with z | z
  · exact ⟨k, tk, by rw [z], by rw [z]⟩
  · exact R.gd e z
/-- a set of the texts L stands at a -/
def SetS (w : World) (h : Heap) (a : Addr) (L : List Str) : Prop := ∃ o es ep t, h.get? a = some o ∧ o.ExactSet ∧ o.data = .set es ep t ∧ SPay w es t L
theorem SetS.at {h h' : Heap} {a : Addr} (R : SetS w h a L) (k : ∀ o, h.get? a = some o → h'.get? a = some o) : SetS w h' a L := by
  obtain ⟨o, es, ep, t, ho, r⟩ := R
  exact ⟨o, es, ep, t, k o ho, r⟩
theorem setS_new {h : Heap} {a : Addr} (ho : h.get? a = some (newSet w)) : SetS w h a [] :=
  ⟨_, #[], 0, _, ho, ⟨rfl, rfl, rfl⟩, rfl, fun e he => (List.not_mem_nil he).elim, .nil, List.nodup_nil, by rfl, by exact List.Pairwise.nil, by
    show _ ∨ (SetTable.fresh 0 0 _).led = true
    cases w.params.followText "set-order" <;> simp [SetTable.fresh]⟩
/-- what is laid anew -/
theorem setS_lay {a : Addr} {o : PySem.Obj} {ep : Nat} {es0 : Array (Int × Value)} {t0 : SetTable} {g : Bool → Sem Unit} (hg : ∀ (b : Bool) (s₁ : Shared) (Q' : Unit → Shared → Prop), Q' () s₁ → wpAny (model P w) A (g b) Q' E s₁)
    (ho : s.heap.get? a = some o) (hex : o.ExactSet) (hd : o.data = .set es0 ep t0) (R : SPay w es t L) (hb : L.length < scanBound) {x : Bool} {Z : Option Bool → Shared → Prop} (fin : ∀ h', Heap.SameBut a s.heap h' → SetS w h' a L → Z (some true) { s with heap := h' }) :
    wpAny (model P w) A (do
        storeSet a es t
        if (!x && t.tooFull) = true then do
            g (relayAll t es (SetTable.grown es.size)).2.2
            storeSet a (relayAll t es (SetTable.grown es.size)).1 (relayAll t es (SetTable.grown es.size)).2.1
            pure (some true)
          else pure (some true)) Z E s := by
  have hb1 : es.size < scanBound := by rw [R.size]; exact hb
  refine wpAny_bind (wpAny_storeSet_of ho hd ?_ (fits_of_scanBound hb1))
  have ho1 := store_at (es' := es) (t' := t) ho hd
  have sb1 := Heap.SameBut.update s.heap a (Obj.putSet es t)
  by_cases c : (!x && t.tooFull) = true
  · rw [if_pos c]
    have R2 := R.swap (relayAll_perm t es (SetTable.grown es.size)) (relayAll_fits t es (SetTable.grown es.size)) (relayAll_ris t es (SetTable.grown es.size)) (relayAll_led t es (SetTable.grown es.size))
    generalize relayAll t es (SetTable.grown es.size) = Y at R2 ⊢
    obtain ⟨es2, t3, gave⟩ := Y
    refine wpAny_bind (hg _ _ _ (wpAny_bind (wpAny_storeSet_of ho1 rfl ?_ (fits_of_scanBound (by rw [R2.size]; exact hb)))))
    exact wpAny_pure (fin _ (sb1.trans (Heap.SameBut.update _ a _)) ⟨_, es2, _, t3, store_at ho1 rfl, hex, rfl, R2⟩)
  · rw [if_neg c]
    exact wpAny_pure (fin _ sb1 ⟨_, es, _, t, ho1, hex, rfl, R⟩)
theorem setS_addH {a : Addr} {k : Str} {tk : Tok} {Q : Bool → Shared → Prop} (R : SetS w s.heap a L) (room : L.length + 1 < scanBound)
    (hQ : ∀ b h' L', Heap.SameBut a s.heap h' → SetS w h' a L' → (∀ j, j ∈ L' ↔ j ∈ L ∨ j = k) → L'.length ≤ L.length + 1 → Q b { s with heap := h' }) :
    wpAny (model P w) A (setAddHashed a (.str k tk) (hashStr w k)) Q E s := by
  obtain ⟨o, es, ep, t, ho, hex, hd, pay⟩ := R
  have hel : ElemsOf (strKind P w) es.toList := pay.el
  have sc : (Value.str k tk).scannable = true := rfl
  have hb : es.size < scanBound := by rw [pay.size]; omega
  have rl : ∀ (b : Bool) (r : String) {s₁ : Shared} {Q' : Unit → Shared → Prop}, Q' () s₁ → wpAny (model P w) A (match b with | true => rule r | false => pure ()) Q' E s₁ :=
    fun b r s₁ Q' q => by cases b <;> first | exact wpAny_pure q | exact wpAny_rule q
  unfold setAddHashed setAddHashedIn
  refine wpAny_holding (wpAny_bind (wpAny_setState_of ho hd pay.fit ?_))
  dsimp only
  rw [byScan_of sc hb hel]
  simp only [↓reduceIte]
  unfold setAddByScan
  refine wpAny_bind (wpAny_bind (wpAny_rule (wpAny_bind (wpAny_setScan_of (strKind_is P w k tk) ho hd pay.fit hel ?_))))
  cases hfi : List.findIdx? (fun e => (strKind P w).is k e.2) es.toList with
  | some j =>
    dsimp only
    obtain ⟨hj, pj, _⟩ := List.findIdx?_eq_some_iff_getElem.mp hfi
    have hm : k ∈ L := pay.found.mp ⟨es.toList[j], List.getElem_mem hj, pj⟩
    exact wpAny_pure (wpAny_pure (hQ _ s.heap L (Heap.SameBut.refl a s.heap) ⟨o, es, ep, t, ho, hex, hd, pay⟩ (fun i => ⟨Or.inl, fun z => z.elim id fun e => e ▸ hm⟩) (Nat.le_succ _)))
  | none =>
    dsimp only
    have hm : k ∉ L := fun z => by
      obtain ⟨e, he, q⟩ := (pay.found (P := P)).mpr z
      have c := List.findIdx?_eq_none_iff.mp hfi e he
      rw [q] at c
      cases c
    have p1 := layNew_perm t es (hashStr w k) (.str k tk)
    have p2 := layNew_fits t es (hashStr w k) (.str k tk)
    have p3 := layNew_ris t es (hashStr w k) (.str k tk) pay.ris
    have p4 := layNew_led t es (hashStr w k) (.str k tk)
    generalize layNew t es (hashStr w k) (.str k tk) = Y at p1 p2 p3 p4 ⊢
    obtain ⟨es1, t1, wasDummy, gave⟩ := Y
    dsimp only at p1 p2 p3 p4 ⊢
    have pay1 : SPay w es1 t1 (k :: L) := pay.more hm p1 p2 p3 p4
    have fin : ∀ h', Heap.SameBut a s.heap h' → SetS w h' a (k :: L) → Q true { s with heap := h' } := fun h' sb r => hQ _ h' _ sb r (fun j => List.mem_cons.trans Or.comm) (Nat.le_refl _)
    refine wpAny_bind (rl _ _ ?_)
    by_cases pl : t1.plain = true
    · rw [if_pos pl]
      refine wpAny_bind ?_
      rw [hashByValue_scannable 8 sc]
      refine wpAny_pure (setS_lay ?_ ho hex hd (pay1.swap (t' := { t1 with plain := false }) (.refl _) (SetTable.fits_plain_off p2) p3 rfl) room ?_)
      · intro b s₁ Q' q
        cases b <;> first | exact wpAny_pure q | exact wpAny_rule q
      · intro h' sb r
        dsimp only
        exact wpAny_pure (fin h' sb r)
    · rw [if_neg pl]
      refine wpAny_bind (wpAny_pure ?_)
      simp only [↓reduceIte]
      refine setS_lay ?_ ho hex hd pay1 room ?_
      · intro b s₁ Q' q
        cases b <;> first | exact wpAny_pure q | exact wpAny_rule q
      · intro h' sb r
        dsimp only
        exact wpAny_pure (fin h' sb r)
theorem setS_add {a : Addr} {k : Str} {tk : Tok} {Q : Bool → Shared → Prop} (R : SetS w s.heap a L) (room : L.length + 1 < scanBound)
    (hQ : ∀ b h' L' tk', Heap.SameBut a s.heap h' → s.toks ≤ tk' → SetS w h' a L' → (∀ j, j ∈ L' ↔ j ∈ L ∨ j = k) → L'.length ≤ L.length + 1 → Q b { s with heap := h', toks := tk' }) :
    wpAny (model P w) A (setAdd a (.str k tk)) Q E s := by
  unfold setAdd
  refine wpAny_holding (wpAny_bind (wpAny_pyHash_str ?_))
  exact setS_addH (s := { s with toks := s.toks + 1 }) R room fun b h' L' sb r m l => hQ b h' L' _ sb (Nat.le_succ _) r m l
/-- sorted(set of texts) -/
theorem sorted_setS {a : Addr} {Q : Value → Shared → Prop} (R : SetS w s.heap a L) (hh : A.handled = none) (few : L.length < 64)
    (hQ : ∀ s' p (out : Array Value) (c : Nat) (ys : List Str), (∀ b o, s.heap.get? b = some o → s'.heap.get? b = some o) → s'.gens = s.gens → s'.os = s.os → s.heap.objs.size ≤ p →
      s'.heap.get? p = some (seqObj "list" out c) → StrsAre out.toList ys → ys.Perm L → sortedS ys = true → Q (.ref p) s') :
    wpAny (model P w) A (call (.builtin "sorted") [.ref a]) Q E s := by
  obtain ⟨o, es, ep, t, ho, hex, hd, pay⟩ := R
  have hb : es.size < scanBound := by
    rw [pay.size]
    have : (64 : Nat) ≤ scanBound := by decide
    omega
  refine Calls.call_function_entry kind_sorted plain_sorted entry_sorted (args_sorted1 _) ?_
  unfold Builtin.«sorted»
  refine wpAny_bind (m := checkCount "sorted" 1 1 _) (wpAny_pure (wpAny_bind (collect_set (A := A.in1) hh ⟨o, ho, hex.1, hd⟩ pay.fit hb pay.ris pay.led fun s1 vs k1 hz g1 o1 pm => ?_)))
  have len : vs.length = L.length := by rw [pm.length_eq, List.length_map, Array.length_toList, pay.size]
  have hS : StrsAre vs (vs.map strOf) := strsAre_map vs fun v hv => by
    obtain ⟨e, he, q⟩ := List.mem_map.mp (pm.mem_iff.mp hv)
    obtain ⟨k, tk, h1, _⟩ := pay.gd e he
    exact ⟨k, tk, q.symm.trans h1⟩
  have pk : (vs.map strOf).Perm L := by
    have q := pm.map strOf
    rw [List.map_map] at q
    exact q.trans pay.pm
  refine wpAny_bind (wpAny_newList ?_ (by rw [len, sizeLine_eq]; omega))
  have hoL : (s1.heap.push (seqObj "list" vs.toArray 0)).get? s1.heap.objs.size = some (seqObj "list" vs.toArray 0) := Heap.get?_push_size _ rfl
  refine wpAny_bind (wpAny_holding (wpAny_call_entry slot_list_sort ⟨_, hoL, rfl⟩ entry_list_sort (list_sort_treeK strKind_oneLt hoL hS.keysOf (fun v₁ v₂ rest e => keyKind_strs (by rw [← e]; exact hS)) (by rw [len]; exact few) fun st' a1 a2 => ⟨_, rfl, ?_⟩) (args_list_sort _)))
  obtain ⟨ys, b1, b2, b3⟩ := sorted_out_str hS a1 a2
  obtain ⟨c, hc⟩ := sortedHeap_at (vs := vs) (out := (arrOf st').map (·.2)) hoL
  refine wpAny_pure ⟨_, rfl, hQ _ s1.heap.objs.size _ c ys (fun b u e => ?_) g1 o1 hz hc b1 (b2.trans pk) b3⟩
  have q := k1 b u e
  have hlt := Heap.lt_size q
  exact (sortedHeap_old (Nat.ne_of_lt hlt) (by rw [size_push']; exact Nat.lt_succ_of_lt hlt)).trans (Heap.get?_push_of_some _ q)
end
def SetSO (w : World) (a : Addr) (L : List Str) : HO := .ext fun h => SetS w h a L
section
variable {X : Cx}
theorem setSO_new {P : Program} {w : World} {H : Hp} {h : Heap} {a : Addr} {L : List Str} (R : SetS w h a L) : ObjOk P w H h a (SetSO w a L) := by
  have ⟨o, _, _, _, ho, _⟩ := R
  exact ⟨R, ⟨o, ho⟩, fun _ _ p k => SetS.at p k⟩
/-- set(list of texts) -/
def rSetS (K : PySem.W.Frag) (w : World) : List V → Hp → VK → Prop := fun vs H Q => ∃ (l : Addr) (xs : List Str), vs = [.ref l] ∧ SqL K H l (xs.map V.str) ∧ xs.length < 4000 ∧
  ∀ (L : List Str) (p : Addr), L.Nodup → (∀ k, k ∈ L ↔ k ∈ xs) → H p = none → Q (.ref p) (upd H p (SetSO w p L))
theorem cr_setS (hc : X.calm = true) : CallR X (.type "set") (rSetS X.K X.w) := by
  intro pins s σ H vs us Q I r h
  obtain ⟨l, xs, rfl, hs, few, q⟩ := h
  obtain ⟨its, rv, hl, _⟩ := I.list hs
  rw [Vals.ref1 r]
  have st := rv.strs
  have len : its.length = xs.length := by rw [st.length]
  have big : (4001 : Nat) ≤ scanBound := by decide
  refine call_set_gen (I.ok.hd hc) hl.isList (fun i h => ∃ L, SetS X.w h s.heap.objs.size L ∧ (∀ k, k ∈ L ↔ k ∈ xs.take i) ∧ L.length ≤ i) (fun i h h' ⟨L, a1, a2⟩ _ k => ⟨L, a1.at k, a2⟩) (fun h ho _ => ⟨[], setS_new ho, fun k => by simp, Nat.le_refl _⟩) ?_ ?_
  · rintro A' E' i v t Q' - - hv ⟨L, a1, a2, a3⟩ - fin
    rw [List.getElem?_toArray] at hv
    obtain ⟨x, tk, hx, rfl⟩ : ∃ x tk, xs[i]? = some x ∧ v = .str x tk := by
      have hi : i < its.length := (List.getElem?_eq_some_iff.mp hv).1
      obtain ⟨u, e1, e2⟩ := Vals.get rv (i := i) (x := .str xs[i]) (by rw [List.getElem?_map, List.getElem?_eq_getElem (by omega), Option.map_some])
      rw [hv] at e1
      obtain rfl := Option.some.inj e1
      obtain ⟨tk, e⟩ := e2
      exact ⟨xs[i], tk, List.getElem?_eq_getElem (by omega), e⟩
    have hi : i < xs.length := (List.getElem?_eq_some_iff.mp hx).1
    refine setS_add a1 (by omega) fun b h' L' tk' sb le r m l => fin b h' tk' sb le ⟨L', r, fun j => ?_, by omega⟩
    rw [m j, a2 j, List.take_add_one, hx]
    simp
  · rintro h' tk ⟨L, a1, a2, a3⟩ kb
    have hn : H s.heap.objs.size = none := I.hok.fresh (Nat.le_refl _)
    rw [List.size_toArray, len, List.take_length] at a2
    have nd : L.Nodup := by
      obtain ⟨_, _, _, _, _, _, _, pay⟩ := a1
      exact pay.nd
    exact ⟨.ref _, upd H s.heap.objs.size (SetSO X.w s.heap.objs.size L), I.laid (t' := tk) kb (Nat.le_refl _) (setSO_new a1), rfl, q L _ nd a2 hn⟩
/-- sorted(set of texts) -/
def rSortSS (w : World) : List V → Hp → VK → Prop := fun vs H Q => ∃ (a : Addr) (L : List Str), vs = [.ref a] ∧ H a = some (SetSO w a L) ∧ L.length < 64 ∧
  ∀ (ys : List Str) (p : Addr), ys.Perm L → sortedS ys = true → H p = none → Q (.ref p) (upd H p (.lst (ys.map V.str)))
theorem cr_sortSS (hc : X.calm = true) : CallR X (.builtin "sorted") (rSortSS X.w) := by
  intro pins s σ H vs us Q I r h
  obtain ⟨a, L, rfl, ha, few, q⟩ := h
  have R : SetS X.w s.heap a L := (I.hok a _ ha).1
  rw [Vals.ref1 r]
  refine sorted_setS R (I.ok.hd hc) few fun s' p out c ys k g o hp hg hS pm srt => ?_
  have hn : H p = none := I.hok.fresh hp
  have hlen : (ys.map V.str).length ≤ sizeLine := by rw [List.length_map, pm.length_eq, sizeLine_eq]; omega
  have J : Inv X pins σ (upd H p (.lst (ys.map V.str))) { s with heap := s'.heap, gens := s'.gens, drawn := s'.drawn, toks := s'.toks } :=
    I.call (ch := []) (Un.laid k hp hn) (I.hok.laid k hp ⟨hlen, out.toList, c, vals_of_strs hS, hg⟩) (by rw [g]; exact I.bare) (fun _ z => nomatch z)
  have e : s' = { s with heap := s'.heap, gens := s'.gens, drawn := s'.drawn, toks := s'.toks } := by
    cases s'
    cases s
    cases o
    rfl
  rw [e]
  exact ⟨.ref p, _, J, rfl, q ys p pm srt hn⟩
end
end Fr

namespace Fr
open PySem PySem.Spec PyProof.Rows L2
abbrev s_Ltables : Stmt := topS 35
theorem sc_Ltables : FnScope ["_law_pool_here", "_law_axes", "_law_most", "_law_start", "_law_titles", "_law_sign", "_law_held", "_law_rows_here", "_law_title", "_law_turn", "_law_spot", "_law_place", "_law_row", "_law_some"] ["_law_pool_here", "_law_axes", "_law_most"] (defScope s_Ltables) := ⟨rfl, rfl, rfl, by decide +kernel, rfl, by decide +kernel, by decide +kernel⟩
-- slots: 0 _law_pool_here, 1 _law_axes, 2 _law_most, 3 _law_start, 4 _law_titles, 5 _law_sign, 6 _law_held, 7 _law_rows_here, 8 _law_title, 9 _law_turn, 10 _law_spot, 11 _law_place, 12 _law_row, 13 _law_some
def PN : List Str := ["b", "a", "ab", "m"]
def stN (k : Nat) : Str := cutS "readin" none (some (k : Int))
theorem PN_facts : ∀ k ∈ List.range 7, (∀ x ∈ PN, isName (stN k ++ x) = true ∧ PyData.strOk (stN k ++ x) = true ∧ (stN k).length + x.length ≤ 100) ∧ (PN.map fun x => stN k ++ x).Nodup := by decide +kernel
section
variable {P : Program} {w : World} {K : PySem.W.Frag} {mg : Str → Option Value} {base : Heap}
structure Held where
  l : Addr
  rs : List Rd1
structure HeldAt (K : PySem.W.Frag) (B H : Hp) (r : Addr) (hs : List Held) : Prop where
  at_ : ∀ (i : Nat) (y : Held), hs[i]? = some y → B y.l = none ∧ r ≠ y.l ∧ ∃ xs, H y.l = some (.lst xs) ∧ DpAll K B xs (y.rs.map Rd1.d)
  inj : ∀ (i j : Nat) (y z : Held), hs[i]? = some y → hs[j]? = some z → y.l = z.l → i = j
theorem HeldAt.step {B B' H H' : Hp} {r : Addr} {hs : List Held} (h : HeldAt K B H r hs) (e : Same B B') (f : ∀ (i : Nat) (y : Held), hs[i]? = some y → B' y.l = none ∧ H' y.l = H y.l) : HeldAt K B' H' r hs :=
  ⟨fun i y hy => by
    obtain ⟨a2, a3, xs, a4, a5⟩ := h.at_ i y hy
    obtain ⟨b1, b2⟩ := f i y hy
    exact ⟨b1, a3, xs, by rw [b2, a4], dpsm e _ _ a5⟩, h.inj⟩
theorem HeldAt.dr {B H H' : Hp} {r : Addr} {m : Nat} {hs : List Held} (h : HeldAt K B H r hs) (d : Dr r m H H') : HeldAt K B H' r hs := h.step same_refl fun j y hy => ⟨(h.at_ j y hy).1, d.ne _ (h.at_ j y hy).2.1.symm⟩
theorem HeldAt.new {B H : Hp} {r p : Addr} {o : HO} {hs : List Held} (h : HeldAt K B H r hs) (e : H p = none) : HeldAt K B (upd H p o) r hs := h.step same_refl fun j y hy => by
  obtain ⟨a2, a3, xs, a4, a5⟩ := h.at_ j y hy
  exact ⟨a2, upd_ne (ne_of_none a4 e)⟩
/-- a new thing that the base keeps -/
theorem HeldAt.keep {B H : Hp} {r p : Addr} {o : HO} {hs : List Held} (h : HeldAt K B H r hs) (k : B p = none) (n : ∀ (i : Nat) (y : Held), hs[i]? = some y → y.l ≠ p) : HeldAt K (upd B p o) H r hs := h.step (snew k) fun j y hy => ⟨by rw [upd_ne (n j y hy)]; exact (h.at_ j y hy).1, rfl⟩
theorem HeldAt.snoc {B H : Hp} {r l : Addr} {hs : List Held} (h : HeldAt K B H r hs) (b : B l = none) (c : r ≠ l) (d : H l = some (.lst [])) (n : ∀ (i : Nat) (z : Held), hs[i]? = some z → z.l ≠ l) : HeldAt K B H r (hs ++ [⟨l, []⟩]) :=
  ⟨fun i z hz => by
    rcases get_snoc hz with ⟨h1, _⟩ | ⟨_, rfl⟩
    · exact h.at_ i z h1
    · exact ⟨b, c, [], d, .nil⟩, fun i j y' z hy hz hl => by
    rcases get_snoc hy with ⟨h1, k1⟩ | ⟨k1, rfl⟩ <;> rcases get_snoc hz with ⟨h2, k2⟩ | ⟨k2, rfl⟩
    · exact h.inj i j _ _ h1 h2 hl
    · exact absurd hl (n _ _ h1)
    · exact absurd hl.symm (n _ _ h2)
    · omega⟩
theorem HeldAt.put {B H : Hp} {r : Addr} {hs : List Held} {y : Held} {j : Nat} {rd : Rd1} {v : V} {xs : List V} (h : HeldAt K B H r hs) (e : hs[j]? = some y) (hx : H y.l = some (.lst xs)) (hv : Dp K B v rd.d) :
    HeldAt K B (upd H y.l (.lst (xs ++ [v]))) r (hs.set j { y with rs := y.rs ++ [rd] }) :=
  ⟨fun i z hz => by
    rcases get_set hz with ⟨rfl, rfl⟩ | ⟨ne, hz⟩
    · obtain ⟨a2, a3, xs', a4, a5⟩ := h.at_ _ y e
      rw [hx] at a4
      cases a4
      refine ⟨a2, a3, xs ++ [v], upd_same, ?_⟩
      show DpAll K B (xs ++ [v]) ((y.rs ++ [rd]).map Rd1.d)
      rw [List.map_append]
      exact dps_snoc a5 hv
    · obtain ⟨a2, a3, xs', a4, a5⟩ := h.at_ _ z hz
      refine ⟨a2, a3, xs', ?_, a5⟩
      rw [upd_ne fun hl => ne (h.inj i j z y hz e hl)]
      exact a4, fun i i' z z' hz hz' hl => by
    rcases get_set hz with ⟨rfl, rfl⟩ | ⟨ne, hz1⟩ <;> rcases get_set hz' with ⟨rfl, rfl⟩ | ⟨ne', hz2⟩
    · rfl
    · exact h.inj _ _ y z' e hz2 hl
    · exact h.inj _ _ z y hz1 e hl
    · exact h.inj _ _ z z' hz1 hz2 hl⟩
structure TbI (ax : Int) (ts : List Str) (hs : List Held) (rows : List RowP) (i : Nat) : Prop where
  few : (hs.map fun y => y.rs.length).sum = i
  rlen : rows.length = i
  rok : ∀ y ∈ rows, (y.v.length : Int) = ax ∧ Five y.v ∧ PyData.strOk y.w = true ∧ PyData.strOk y.o = true
  ok : ∀ y ∈ hs, ∀ rd ∈ y.rs, isRead ax rd = true ∧ rd.t ∈ ts ∧ (-10 ≤ rd.f ∧ rd.f ≤ 10) ∧ ∀ x ∈ rd.v, -1000 ≤ x ∧ x ≤ 1000
def spTabs (K : PySem.W.Frag) : Sp := fun vs H Q _ => ∃ (r : Addr) (ax most : Int) (m : Nat) (B : Hp), vs = [.ref r, .int ax, .int most] ∧ RS r m B H ∧ 1 ≤ ax ∧ ax ≤ 3 ∧ 0 ≤ most ∧ most ≤ 12 ∧ m ≤ 2 ^ 58 ∧
  ∀ p B' H' (ts : List Tb), Same B B' → RS r (m + 1000) B' H' → LD K B' p (ts.map Tb.d) → 1 ≤ ts.length → ts.length ≤ 4 → OkT ax ts → (∀ t ∈ ts, PyData.strOk t.n = true) → (∀ t ∈ ts, SmT t) → (((ts.map fun t => t.rs.length).sum : Nat) : Int) ≤ most → Q (.ref p) H'
theorem ok_tabs {f : Addr} {fd : FuncData} (F : Fun K "_law_tables" "_law_tables" s_Ltables f fd) (T : Txt mg) (c_Ldraw : C8.Cal P w K mg base 1 "_law_draw" spDraw []) (c_Lvector : C8.Cal P w K mg base 2 "_law_vector" (spVec K) []) : FnOk P w K mg base CX0 3 f fd ["_law_pool_here", "_law_axes", "_law_most"] (spTabs K) := by
  refine F.ok sc_Ltables (fun vs H Q E h => ?_) (fun cdv A outer sh H vs Q E hr h => ?_)
  · obtain ⟨r, ax, most, m, B, rfl, _⟩ := h
    rfl
  · obtain ⟨r, ax, most, m, B, rfl, R, ha1, ha3, hm0, hm12, hm, q⟩ := h
    refine ⟨_, (pss_cons (ps_set (i := 3) sc_Ltables.nd rfl (by first | exact Or.inl rfl | exact Or.inr rfl) (pe_slice sl_str pe_str po_none (po_some (pe_op op_mulW (C8.pe_c c_Ldraw hr (by decide) (by rfl) (pa_cons (pv 0) (pa_cons pe_int pa_nil))) (pe_callTy call_int1 (by rfl) T.b_int (by decide +kernel) (pa_cons (pe_cmpR op_eq (C8.pe_c c_Ldraw hr (by decide) (by rfl) (pa_cons (pv 0) (pa_cons pe_int pa_nil))) pe_int (nomark _)) pa_nil))))))
  (pss_cons (ps_setLc (i := 4) (own := [("_law_sign", 5)]) (g := gName 5) (tt := tYes) (by rfl) sc_Ltables.nd rfl rfl (sw_true rfl rfl rfl (by decide +kernel)) (pi_list (pe_slice sl_list (pe_lst (pa_cons pe_str (pa_cons pe_str (pa_cons pe_str (pa_cons pe_str pa_nil))))) po_none (po_some (pe_op op_add pe_int (C8.pe_c c_Ldraw hr (by decide) (by rfl) (pa_cons (pv 0) (pa_cons pe_int pa_nil))))))) (blkOk_by (N := ["_law_pool_here", "_law_axes", "_law_most", "_law_start", "_law_titles", "_law_sign", "_law_held", "_law_rows_here", "_law_title", "_law_turn", "_law_spot", "_law_place", "_law_row", "_law_some"]) (sc := defScope s_Ltables) (by decide +kernel)) (fun _ _ _ _ _ => (pg_name (i := 5) sc_Ltables.nd rfl (by first | exact Or.inl rfl | exact Or.inr rfl))) (fun _ _ _ _ _ => pts_nil) (fun _ _ _ _ _ => (pe_op op_add_str (pv 3) (pv 5))))
  (pss_cons (ps_par (i := 6) (j := 7) (by rfl) sc_Ltables.nd rfl rfl (by decide) rfl rfl (pa_cons (pe_lc (own := [("_law_title", 8)]) (g := gName 8) (tt := tYes) (by rfl) sc_Ltables.nd (pi_list (pv 4)) (blkOk_by (N := ["_law_pool_here", "_law_axes", "_law_most", "_law_start", "_law_titles", "_law_sign", "_law_held", "_law_rows_here", "_law_title", "_law_turn", "_law_spot", "_law_place", "_law_row", "_law_some"]) (sc := defScope s_Ltables) (by decide +kernel)) (fun _ _ _ _ _ => (pg_name (i := 8) sc_Ltables.nd rfl (by first | exact Or.inl rfl | exact Or.inr rfl))) (fun _ _ _ _ _ => pts_nil) (fun _ _ _ _ _ => (pe_lst pa_nil))) (pa_cons (pe_lst pa_nil) pa_nil)) (by rfl))
  (pss_cons (ps_for PassesOwn.never rfl (pi_range1 (by rfl) T.b_range (pa_cons (C8.pe_c c_Ldraw hr (by decide) (by rfl) (pa_cons (pv 0) (pa_cons (pe_op op_add (pv 2) pe_int) pa_nil))) pa_nil)) (pg_name (i := 9) sc_Ltables.nd rfl (by first | exact Or.inl rfl | exact Or.inr rfl))
    (pss_cons (ps_set (i := 10) sc_Ltables.nd rfl (by first | exact Or.inl rfl | exact Or.inr rfl) (C8.pe_c c_Ldraw hr (by decide) (by rfl) (pa_cons (pv 0) (pa_cons (pe_callB call_len_seq (by rfl) T.b_len PySem.boot_len (pa_cons (pv 4) pa_nil)) pa_nil))))
    (pss_cons (ps_set (i := 11) sc_Ltables.nd rfl (by first | exact Or.inl rfl | exact Or.inr rfl) (pe_ix ix_list (pe_lst (pa_cons (pv 10) (pa_cons (C8.pe_c c_Ldraw hr (by decide) (by rfl) (pa_cons (pv 0) (pa_cons (pe_callB call_len_seq (by rfl) T.b_len PySem.boot_len (pa_cons (pv 4) pa_nil)) pa_nil))) pa_nil))) (C8.pe_c c_Ldraw hr (by decide) (by rfl) (pa_cons (pv 0) (pa_cons pe_int pa_nil))) (fun _ _ => rfl)))
    (pss_cons (ps_set (i := 12) sc_Ltables.nd rfl (by first | exact Or.inl rfl | exact Or.inr rfl) (pe_tup (pa_cons (pe_ix ix_list (pv 4) (pv 10) (fun _ _ => rfl)) (pa_cons (pe_callB call_len_seq (by rfl) T.b_len PySem.boot_len (pa_cons (pe_ix ix_list (pv 6) (pv 10) (fun _ _ => rfl)) pa_nil)) (pa_cons (pe_ix ix_list (pv 4) (pv 11) (fun _ _ => rfl)) (pa_cons (C8.pe_c c_Lvector hr (by decide) (by rfl) (pa_cons (pv 0) (pa_cons (pv 1) (pa_cons (pv 7) pa_nil)))) pa_nil))))))
    (pss_cons (ps_expr (pe_bm PySem.F.plainAttrs_list PySem.F.slot_list_append PySem.F.type_list_append mt_append (pe_ix ix_list (pv 6) (pv 10) (fun _ _ => rfl)) (pa_cons (pe_tup (pa_cons (pe_ix ix_tup (pv 12) pe_int (fun _ _ => rfl)) (pa_cons (pe_ix ix_tup (pv 12) pe_int (fun _ _ => rfl)) (pa_cons (pe_ix ix_list (pe_lst (pa_cons pe_int (pa_cons pe_int (pa_cons (pe_un un_neg pe_int) (pa_cons (pe_un un_neg pe_int) pa_nil))))) (C8.pe_c c_Ldraw hr (by decide) (by rfl) (pa_cons (pv 0) (pa_cons pe_int pa_nil))) (fun _ _ => rfl)) pa_nil)))) pa_nil)))
    (pss_one (ps_expr (pe_bm PySem.F.plainAttrs_list PySem.F.slot_list_append PySem.F.type_list_append mt_append (pv 7) (pa_cons (pv 12) pa_nil)))))))))
  (pss_one (ps_ret (pe_lc (own := [("_law_title", 8), ("_law_some", 13)]) (g := gTup K 2 (gCons (gName 8) (gCons (gName 13) gNil))) (tt := tYes) (by rfl) sc_Ltables.nd (pi_zip (by rfl) T.b_zip (pa_cons (pv 4) (pa_cons (pv 6) pa_nil))) (blkOk_by (N := ["_law_pool_here", "_law_axes", "_law_most", "_law_start", "_law_titles", "_law_sign", "_law_held", "_law_rows_here", "_law_title", "_law_turn", "_law_spot", "_law_place", "_law_row", "_law_some"]) (sc := defScope s_Ltables) (by decide +kernel)) (fun _ _ _ _ _ => (pg_tup rfl (pgs_cons (pg_name (i := 8) sc_Ltables.nd rfl (by first | exact Or.inl rfl | exact Or.inr rfl)) (pgs_cons (pg_name (i := 13) sc_Ltables.nd rfl (by first | exact Or.inl rfl | exact Or.inr rfl)) pgs_nil)))) (fun _ _ _ _ _ => pts_nil) (fun _ _ _ _ _ => (pe_tup (pa_cons (pv 8) (pa_cons (pe_op op_sub (C8.pe_c c_Ldraw hr (by decide) (by rfl) (pa_cons (pv 0) (pa_cons pe_int pa_nil))) pe_int) (pa_cons (pv 13) pa_nil)))))))))))), ?_⟩
    -- start
    refine ⟨_, rfl, r, 7, _, rfl, R.ok, by omega, by decide, by decide, fun d1 H1 d10 d11 D1 => ?_⟩
    have R1 := R.dr D1
    refine ⟨_, rfl, r, 3, _, rfl, R1.ok, by omega, by decide, by decide, fun d2 H2 d20 d21 D2 => ?_⟩
    have R2 := R1.dr D2
    have hk : ∃ k : Nat, k ≤ 6 ∧ d1 * (if decide (V.int d2 = V.int 0) = true then 1 else 0) = (k : Int) := by
      split
      · exact ⟨d1.toNat, by omega, by omega⟩
      · exact ⟨0, by omega, by omega⟩
    obtain ⟨k, hk6, ek⟩ := hk
    obtain ⟨pf, pn⟩ := PN_facts k (List.mem_range.mpr (by omega))
    refine ⟨rfl, Or.inr ⟨_, rfl, _, _, rfl, rfl, wide_mul (a := 100) (b := 100) (by omega) (by split <;> decide) (by decide) (by decide) (by decide), (k : Int), congrArg V.int ek, _, rfl, by decide +kernel, ?_⟩⟩
    -- titles
    refine ⟨(by show 4 ≤ sizeLine; decide), fun p hp => ?_⟩
    have R3 := R2.new (o := .lst (PN.map V.str)) hp
    have p3 : (upd H2 p (.lst (PN.map V.str))) p = some (.lst (PN.map V.str)) := upd_same
    have rp := R2.ne hp
    refine ⟨_, rfl, r, 4, _, rfl, R3.ok, by omega, by decide, by decide, fun d3 H4 d30 d31 D4 => ⟨1, d3, rfl, rfl, _, rfl, p, _, rfl, Or.inl (Or.inl (by rw [D4.ne _ rp.symm]; exact p3)), fun p2 hp2 => ?_⟩⟩
    have R4 := R3.dr D4
    have ec : cutV (PN.map V.str) none (some (1 + d3)) = (PN.take (1 + d3).toNat).map V.str := by
      have h := cut_take (PN.map V.str) (1 + d3).toNat
      rw [Int.toNat_of_nonneg (by omega)] at h
      rw [h, List.map_take]
    rw [ec]
    have R5 := R4.new (o := .lst ((PN.take (1 + d3).toNat).map V.str)) hp2
    have p5 : (upd H4 p2 (.lst ((PN.take (1 + d3).toNat).map V.str))) p2 = some (.lst ((PN.take (1 + d3).toNat).map V.str)) := upd_same
    generalize upd H4 p2 (.lst ((PN.take (1 + d3).toNat).map V.str)) = H5 at R5 p5
    have hl1 : 1 ≤ (PN.take (1 + d3).toNat).length ∧ (PN.take (1 + d3).toNat).length ≤ 4 := by
      rw [List.length_take]
      show 1 ≤ min _ 4 ∧ min _ 4 ≤ 4
      omega
    have hmem : ∀ x ∈ PN.take (1 + d3).toNat, x ∈ PN := fun x hx => List.mem_of_mem_take hx
    have hnd : ((PN.take (1 + d3).toNat).map fun x => stN k ++ x).Nodup := by
      rw [List.map_take]
      exact pn.sublist (List.take_sublist _ _)
    generalize PN.take (1 + d3).toNat = ss at hl1 hmem hnd p5
    refine ⟨p2, rfl, ⟨_, Or.inl (Or.inl p5)⟩, fun D hD => lc_flat (walk_list (K := K) (a := p2) (xs := ss.map V.str)) (fun i => .str (stN k ++ nth ss i)) (by rw [List.length_map]; omega) hD (fun H' sm => Or.inl (Or.inl (sm _ _ p5))) (fun i H x H' y => yat_same y) ?_ ?_⟩
    · rintro i x H6 H7 hi sm ⟨rfl, hx⟩ R hR
      rw [List.getElem?_map] at hx
      obtain ⟨z, hz, rfl⟩ := Option.map_eq_some_iff.mp hx
      have zz := pf z (hmem z (List.mem_of_getElem? hz))
      refine ⟨rfl, _, rfl, _, rfl, _, _, rfl, rfl, Nat.le_trans zz.2.2 (by rw [sizeLine_eq]; decide), ?_⟩
      have r := hR H7 same_refl
      rw [nth_of hz] at r
      exact r
    · intro H6 sm hD6
      rw [List.length_map, nthsf ss (fun x => stN k ++ x)] at hD6
      have R6 := R5.grow sm
      have bD : B D = none := free_of R5.s hD
      have rD := R5.ne hD
      have K6 := R6.keep hD6 bD rD
      have sB : Same B (upd B D (.lst ((ss.map fun x => stN k ++ x).map V.str))) := snew bD
      have D0 : (upd B D (.lst ((ss.map fun x => stN k ++ x).map V.str))) D = some (.lst ((ss.map fun x => stN k ++ x).map V.str)) := upd_same
      generalize upd B D (.lst ((ss.map fun x => stN k ++ x).map V.str)) = B6 at K6 sB D0
      clear R6 sm R5 R4 R3 R2 R1 R D1 D2 D4 p3 p5 hD hD6
      have ht : ∀ x ∈ ss.map fun x => stN k ++ x, isName x = true ∧ PyData.strOk x = true := fun x hx => by
        obtain ⟨y, hy, rfl⟩ := List.mem_map.mp hx
        exact ⟨(pf y (hmem y hy)).1, (pf y (hmem y hy)).2.1⟩
      have htl : 1 ≤ (ss.map fun x => stN k ++ x).length ∧ (ss.map fun x => stN k ++ x).length ≤ 4 := by rw [List.length_map]; exact hl1
      generalize (ss.map fun x => stN k ++ x) = ts at ht htl hnd D0
      have K6 := K6.mono (show m + 1 + 1 + 1 ≤ m + 3 by omega)
      -- held, rows
      refine ⟨_, rfl, D, rfl, ⟨_, Or.inl (Or.inl (K6.s _ _ D0))⟩, fun E hE => ?_⟩
      have bE := free_of K6.s hE
      have rE := K6.ne hE
      refine lc_it (walk_list (K := K) (a := D) (xs := ts.map V.str)) (fun i H' => ∃ hs : List Held, hs.length = i ∧ (∀ y ∈ hs, y.rs = []) ∧ H' E = some (.lst (hs.map fun y => V.ref y.l)) ∧ RS r (m + 3) B6 H' ∧ HeldAt K B6 H' r hs ∧ ∀ y ∈ hs, y.l ≠ E)
        ⟨[], rfl, (by intro y h; cases h), upd_same, K6.new hE, ⟨fun i y h => (by cases h), fun i j y z h => (by cases h)⟩, (by intro y h; cases h)⟩ (fun i H' _ ⟨_, _, _, _, c4, _⟩ => Or.inl (Or.inl (c4.s _ _ D0))) ?_ ?_
      · rintro i x _ H7 hi ⟨hs, c1, c2, c3, c4, c5, c6⟩ ⟨rfl, hx⟩
        rw [List.length_map] at hi
        refine ⟨rfl, yes_if ⟨Nat.zero_le _, fun l hl => ?_⟩⟩
        have lE : l ≠ E := fun z => by rw [z, c3] at hl; cases hl
        have c4' := c4.new (o := .lst []) hl
        have c5' := (c5.new (o := .lst []) hl).snoc (free_of c4.s hl) (c4.ne hl) upd_same (fun j z hz => by
          obtain ⟨_, _, xs, a4, _⟩ := c5.at_ j z hz
          exact ne_of_none a4 hl)
        have E7 : (upd H7 l (.lst [])) E = some (.lst (hs.map fun y => V.ref y.l)) := snew hl _ _ c3
        refine ⟨_, E7, small1000 (by rw [List.length_map]; omega), hs ++ [⟨l, []⟩], by rw [List.length_append, c1]; rfl, ?_, by rw [upd_same, List.map_append]; rfl, c4'.put bE rE, c5'.step same_refl (fun j y hy => ⟨(c5'.at_ j y hy).1, upd_ne ?_⟩), ?_⟩
        · intro y hy
          rcases List.mem_append.mp hy with h | h
          · exact c2 y h
          · rw [List.mem_singleton.mp h]
        · rcases List.mem_append.mp (List.mem_of_getElem? hy) with h | h
          · exact c6 y h
          · rw [List.mem_singleton.mp h]
            exact lE
        · intro y hy
          rcases List.mem_append.mp hy with h | h
          · exact c6 y h
          · rw [List.mem_singleton.mp h]
            exact lE
      · rintro H7 ⟨hs, c1, c2, c3, c4, c5, c6⟩
        rw [List.length_map] at c1
        have K7 := c4.keep c3 bE rE
        have c5 := c5.keep (o := .lst (hs.map fun y => V.ref y.l)) bE fun j y hy => c6 y (List.mem_of_getElem? hy)
        have sB7 : Same B (upd B6 E (.lst (hs.map fun y => V.ref y.l))) := same_tr sB (snew bE)
        have D7 : (upd B6 E (.lst (hs.map fun y => V.ref y.l))) D = some (.lst (ts.map V.str)) := snew bE _ _ D0
        have E7 : (upd B6 E (.lst (hs.map fun y => V.ref y.l))) E = some (.lst (hs.map fun y => V.ref y.l)) := upd_same
        generalize upd B6 E (.lst (hs.map fun y => V.ref y.l)) = B7 at K7 c5 sB7 D7 E7
        clear c3 c4 K6 D0 sB
        refine ⟨Nat.zero_le _, fun U hU => ⟨_, _, rfl, ?_⟩⟩
        have bU := free_of K7.s hU
        have rU := K7.ne hU
        have lsU : ∀ (j : Nat) (y : Held), hs[j]? = some y → y.l ≠ U := fun j y hy => by
          obtain ⟨_, _, xs, a4, _⟩ := c5.at_ j y hy
          exact ne_of_none a4 hU
        have K8 := K7.new (o := .lst []) hU
        have c5 := c5.new (o := .lst []) hU
        have U8 : (upd H7 U (.lst [])) U = some (.lst []) := upd_same
        generalize upd H7 U (.lst []) = H8 at K8 c5 U8
        clear K7 hU hE
        refine ⟨_, rfl, _, rfl, _, _, rfl, rfl, r, _, _, rfl, K8.ok, by omega, by omega, by omega, fun n H9 n0 n1 D9 => ⟨n, rfl, by omega, by omega, ?_⟩⟩
        have K9 := K8.dr D9
        have U9 : H9 U = some (.lst []) := by rw [D9.ne _ rU.symm]; exact U8
        have c9 := c5.dr D9
        clear K8 c5 U8 D9
        refine for_range (fun i σ H' => ∃ y9 y10 y11 y12, σ = [some (.ref r), some (.int ax), some (.int most), some (.str (stN k)), some (.ref D), none, some (.ref E), some (.ref U), none, y9, y10, y11, y12, none] ∧ ∃ (B' : Hp) (hs' : List Held) (rows : List RowP) (rx : List V), Same B7 B' ∧ RS r (m + 3 + 1 + 40 * i) B' H' ∧ HeldAt K B' H' r hs' ∧ hs'.map (·.l) = hs.map (·.l) ∧ B' U = none ∧ H' U = some (.lst rx) ∧ DpAll K B' rx (rows.map RowP.d) ∧ TbI ax ts hs' rows i)
          ⟨none, none, none, none, rfl, B7, hs, [], [], same_refl, K9, c9, rfl, bU, U9, .nil, ?_⟩ ?_ ?_
        · refine ⟨sum_zero (fun y hy => by rw [c2 y hy]; rfl), rfl, (by intro y hy; cases hy), fun y hy rd hrd => ?_⟩
          rw [c2 y hy] at hrd
          cases hrd
        · rintro i σ H10 hi ⟨y9, y10, y11, y12, rfl, B', hs', rows, rx, s1, K1, h1, e1, bU1, U1, dr1, T1⟩
          have hi12 : i < 13 := by omega
          have lsU' : ∀ (j : Nat) (y : Held), hs'[j]? = some y → y.l ≠ U := fun j y hy => by
            have z := congrArg (fun l : List Addr => l[j]?) e1
            simp only [List.getElem?_map, hy, Option.map_some] at z
            cases hz : hs[j]? with
            | none => rw [hz] at z; cases z
            | some y0 =>
              rw [hz] at z
              rw [Option.some.inj z]
              exact lsU j y0 hz
          have D1 := K1.s _ _ (s1 _ _ D7)
          have tll : ((ts.map V.str).length : Int) ≤ 4 := by rw [List.length_map]; omega
          have tlp : 0 < ((ts.map V.str).length : Int) := by rw [List.length_map]; omega
          -- spot
          refine ⟨_, rfl, _, rfl, D, _, rfl, Or.inl (Or.inl (Or.inl D1)), r, _, _, rfl, K1.ok, by omega, by omega, by omega, fun d4 H11 d40 d41 D11 => ?_⟩
          have K2 := K1.dr D11
          have h2 := h1.dr D11
          have U2 : H11 U = some (.lst rx) := by rw [D11.ne _ rU.symm]; exact U1
          -- place
          refine ⟨_, rfl, _, rfl, _, rfl, D, _, rfl, Or.inl (Or.inl (Or.inl (K2.s _ _ (s1 _ _ D7)))), r, _, _, rfl, K2.ok, by omega, by omega, by omega, fun d5 H12 d50 d51 D12 => ?_⟩
          have K3 := K2.dr D12
          have h3 := h2.dr D12
          have U3 : H12 U = some (.lst rx) := by rw [D12.ne _ rU.symm]; exact U2
          refine ⟨(by show 2 ≤ sizeLine; decide), fun p hp => ?_⟩
          have rp := K3.ne hp
          have K4 := K3.new (o := .lst [.int d4, .int d5]) hp
          have h4 := h3.new (o := .lst [.int d4, .int d5]) hp
          have U4 : (upd H12 p (.lst [.int d4, .int d5])) U = some (.lst rx) := snew hp _ _ U3
          have p4 : (upd H12 p (.lst [.int d4, .int d5])) p = some (.lst [.int d4, .int d5]) := upd_same
          refine ⟨_, rfl, r, 2, _, rfl, K4.ok, by omega, by decide, by decide, fun d6 H13 d60 d61 D13 => ?_⟩
          have K5 := K4.dr D13
          have h5 := h4.dr D13
          have U5 : H13 U = some (.lst rx) := by rw [D13.ne _ rU.symm]; exact U4
          have p5 : H13 p = some (.lst [.int d4, .int d5]) := by rw [D13.ne _ rp.symm]; exact p4
          obtain ⟨pv, a1, a2, _⟩ := atI_in (xs := [V.int d4, V.int d5]) d60 d61
          have hpl : ∃ d7, pv = .int d7 ∧ 0 ≤ d7 ∧ d7 < ((ts.map V.str).length : Int) := by
            simp only [List.mem_cons, List.not_mem_nil, or_false] at a2
            rcases a2 with rfl | rfl
            · exact ⟨_, rfl, d40, d41⟩
            · exact ⟨_, rfl, d50, d51⟩
          obtain ⟨d7, rfl, d70, d71⟩ := hpl
          refine ⟨p, _, d6, _, rfl, rfl, Or.inl (Or.inl p5), a1, ?_⟩
          clear K1 K2 K3 K4 h1 h2 h3 h4 U1 U2 U3 U4 p4 p5 D11 D12 D13 a2 hp
          have E5 := K5.s _ _ (s1 _ _ E7)
          have D5 := K5.s _ _ (s1 _ _ D7)
          obtain ⟨v4, f1, f2, f3⟩ := atI_in (xs := ts.map V.str) d40 d41
          rw [List.getElem?_map] at f3
          obtain ⟨x4, hx4, rfl⟩ := Option.map_eq_some_iff.mp f3
          obtain ⟨v7, g1, g2, g3⟩ := atI_in (xs := ts.map V.str) d70 d71
          rw [List.getElem?_map] at g3
          obtain ⟨x7, hx7, rfl⟩ := Option.map_eq_some_iff.mp g3
          have hel : (hs.map fun y => V.ref y.l).length = (ts.map V.str).length := by rw [List.length_map, List.length_map, c1]
          obtain ⟨vl, k1, k2, k3⟩ := atI_in (xs := hs.map fun y => V.ref y.l) d40 (by rw [hel]; exact d41)
          rw [List.getElem?_map] at k3
          obtain ⟨y0, hy0, rfl⟩ := Option.map_eq_some_iff.mp k3
          obtain ⟨y, hy, ey⟩ : ∃ y, hs'[d4.toNat]? = some y ∧ y.l = y0.l := by
            have z := congrArg (fun l : List Addr => l[d4.toNat]?) e1
            simp only [List.getElem?_map, hy0, Option.map_some] at z
            cases hz : hs'[d4.toNat]? with
            | none => rw [hz] at z; cases z
            | some y =>
              rw [hz] at z
              exact ⟨y, rfl, Option.some.inj z⟩
          obtain ⟨yb, yr, xs, yx, yd⟩ := h5.at_ _ y hy
          rw [← ey] at k1
          have hxl : xs.length = y.rs.length := by rw [dps_len yd, List.length_map]
          have hyl : y.rs.length ≤ i := by rw [← T1.few]; exact mem_le_sum (f := fun y : Held => y.rs.length) (List.mem_of_getElem? hy)
          have sc : Same B' (cutr H13 r) := fun b o e => by
            rw [cutr_ne (ne_of_none e K5.n)]
            exact K5.s b o e
          have mem4 := List.mem_of_getElem? hx4
          have mem7 := List.mem_of_getElem? hx7
          refine ⟨_, rfl, _, rfl, D, _, d4, _, rfl, rfl, Or.inl (Or.inl D5), f1, _, rfl, _, rfl, E, _, d4, _, rfl, rfl, Or.inl (Or.inl E5), k1, y.l, xs, rfl, Or.inl (Or.inl (Or.inl yx)), _, rfl, _, rfl, D, _, d7, _, rfl, rfl, Or.inl (Or.inl D5), g1, _, rfl, _, rfl, _, rfl, r, U, ax, _, cutr H13 r, rows, rfl, RS.cut K5.ok, ha1, ha3, ⟨rx, by rw [cutr_ne rU.symm]; exact U5, dpsm sc _ _ dr1⟩, T1.rok, by rw [T1.rlen]; omega, by omega, fun q1 H14 vv bq rq vl vb RV => ?_⟩
          obtain ⟨K6, bq', hq', keep⟩ := K5.vec RV bq rq
          have h6 : HeldAt K (upd B' q1 (.tup (vv.map V.int))) H14 r hs' := h5.step (snew bq') fun j z hz => by
            obtain ⟨z1, z2, zx, z3, _⟩ := h5.at_ j z hz
            have nq : z.l ≠ q1 := ne_of_none z3 hq'
            exact ⟨by rw [upd_ne nq]; exact z1, keep _ z2.symm (by rw [z3]; exact fun w => by cases w)⟩
          have U6 : H14 U = some (.lst rx) := by rw [keep U rU.symm (by rw [U5]; exact fun w => by cases w)]; exact U5
          have bU6 : (upd B' q1 (.tup (vv.map V.int))) U = none := by rw [upd_ne (ne_of_none U5 hq')]; exact bU1
          have q6 : (upd B' q1 (.tup (vv.map V.int))) q1 = some (.tup (vv.map V.int)) := upd_same
          have s6 : Same B' (upd B' q1 (.tup (vv.map V.int))) := snew bq'
          have dr6 := dpsm s6 _ _ dr1
          have s7 := same_tr s1 s6
          generalize upd B' q1 (.tup (vv.map V.int)) = B6' at K6 h6 bU6 q6 s6 dr6 s7
          clear RV bq keep hq' bq' K5 h5 U5 s6 sc dr1 s1 E5 D5 yb yr yx yd
          refine ⟨(by show 4 ≤ sizeLine; decide), fun u hu => ?_⟩
          have bu := free_of K6.s hu
          have K7 := (K6.new (o := .tup [.str x4, .int (xs.length : Int), .str x7, .ref q1]) hu).keep upd_same bu (K6.ne hu)
          have h7 := (h6.new (o := .tup [.str x4, .int (xs.length : Int), .str x7, .ref q1]) hu).keep (o := .tup [.str x4, .int (xs.length : Int), .str x7, .ref q1]) bu fun j z hz => by
            obtain ⟨_, _, zx, z3, _⟩ := h6.at_ j z hz
            exact ne_of_none z3 hu
          have U7 : (upd H14 u (.tup [.str x4, .int (xs.length : Int), .str x7, .ref q1])) U = some (.lst rx) := snew hu _ _ U6
          have bU7 : (upd B6' u (.tup [.str x4, .int (xs.length : Int), .str x7, .ref q1])) U = none := by rw [upd_ne (ne_of_none U6 hu)]; exact bU6
          have u7 : (upd B6' u (.tup [.str x4, .int (xs.length : Int), .str x7, .ref q1])) u = some (.tup [.str x4, .int (xs.length : Int), .str x7, .ref q1]) := upd_same
          have q7 := snew (o := .tup [.str x4, .int (xs.length : Int), .str x7, .ref q1]) bu _ _ q6
          have dr7 := dpsm (snew (o := .tup [.str x4, .int (xs.length : Int), .str x7, .ref q1]) bu) _ _ dr6
          have s8 := same_tr s7 (snew (o := .tup [.str x4, .int (xs.length : Int), .str x7, .ref q1]) bu)
          generalize upd B6' u (.tup [.str x4, .int (xs.length : Int), .str x7, .ref q1]) = B8 at K7 h7 bU7 u7 q7 dr7 s8
          generalize upd H14 u (.tup [.str x4, .int (xs.length : Int), .str x7, .ref q1]) = H15 at K7 h7 U7
          clear K6 h6 U6 bU6 q6 dr6 s7 hu bu
          -- held[spot].append(..)
          obtain ⟨yb, yr, ys, yx, yd⟩ := h7.at_ _ y hy
          have hyl2 : ys.length = y.rs.length := by rw [dps_len yd, List.length_map]
          have E7' := K7.s _ _ (s8 _ _ E7)
          have u8 := K7.s _ _ u7
          refine ⟨_, rfl, _, rfl, E, _, d4, _, rfl, rfl, Or.inl (Or.inl E7'), k1, Or.inl ⟨rfl, _, Or.inl (Or.inl yx)⟩, ?_⟩
          refine ⟨_, rfl, u, _, 2, _, rfl, rfl, Or.inl (Or.inl u8), rfl, _, rfl, u, _, 3, _, rfl, rfl, Or.inl (Or.inl u8), rfl, 1, rfl, 9, rfl, (by show 4 ≤ sizeLine; decide), fun p2 hp2 => ?_⟩
          have rp2 := K7.ne hp2
          have K8 := K7.new (o := .lst ([1, 2, -1, -9].map V.int)) hp2
          have h8 := h7.new (o := .lst ([1, 2, -1, -9].map V.int)) hp2
          have U8 : (upd H15 p2 (.lst ([1, 2, -1, -9].map V.int))) U = some (.lst rx) := snew hp2 _ _ U7
          have p8 : (upd H15 p2 (.lst ([1, 2, -1, -9].map V.int))) p2 = some (.lst ([1, 2, -1, -9].map V.int)) := upd_same
          refine ⟨_, rfl, r, 4, _, rfl, K8.ok, by omega, by decide, by decide, fun d8 H16 d80 d81 D16 => ?_⟩
          have K9 := K8.dr D16
          have h9 := h8.dr D16
          have U9 : H16 U = some (.lst rx) := by rw [D16.ne _ rU.symm]; exact U8
          have p9 : H16 p2 = some (.lst ([1, 2, -1, -9].map V.int)) := by rw [D16.ne _ rp2.symm]; exact p8
          obtain ⟨vf, a3, a4, _⟩ := atI_in (xs := [1, 2, -1, -9].map V.int) d80 d81
          obtain ⟨ff, hff, rfl⟩ := List.mem_map.mp a4
          have hfb : ff ≠ 0 ∧ -10 ≤ ff ∧ ff ≤ 10 := by
            simp only [List.mem_cons, List.not_mem_nil, or_false] at hff
            omega
          refine ⟨p2, _, d8, _, rfl, rfl, Or.inl (Or.inl p9), a3, (by show 3 ≤ sizeLine; decide), fun u2 hu2 => ?_⟩
          have bu2 := free_of K9.s hu2
          have K10 := (K9.new (o := .tup [.str x7, .ref q1, .int ff]) hu2).keep upd_same bu2 (K9.ne hu2)
          have h10 := (h9.new (o := .tup [.str x7, .ref q1, .int ff]) hu2).keep (o := .tup [.str x7, .ref q1, .int ff]) bu2 fun j z hz => by
            obtain ⟨_, _, zx, z3, _⟩ := h9.at_ j z hz
            exact ne_of_none z3 hu2
          have U10 : (upd H16 u2 (.tup [.str x7, .ref q1, .int ff])) U = some (.lst rx) := snew hu2 _ _ U9
          have sN := snew (o := .tup [.str x7, .ref q1, .int ff]) bu2
          have bU10 : (upd B8 u2 (.tup [.str x7, .ref q1, .int ff])) U = none := by rw [upd_ne (ne_of_none U9 hu2)]; exact bU7
          have u10 : (upd B8 u2 (.tup [.str x7, .ref q1, .int ff])) u2 = some (.tup [.str x7, .ref q1, .int ff]) := upd_same
          have u10' := sN _ _ u7
          have q10 := sN _ _ q7
          have dr10 := dpsm sN _ _ dr7
          have s10 := same_tr s8 sN
          generalize upd B8 u2 (.tup [.str x7, .ref q1, .int ff]) = B10 at K10 h10 bU10 u10 u10' q10 dr10 s10
          generalize upd H16 u2 (.tup [.str x7, .ref q1, .int ff]) = H17 at K10 h10 U10
          clear K7 h7 U7 bU7 u7 q7 dr7 s8 K8 h8 U8 p8 K9 h9 U9 p9 D16 a4 hp2 hu2 bu2 sN yb yr yx yd E7' u8
          obtain ⟨yb, yr, ys', yx, yd⟩ := h10.at_ _ y hy
          have hyl3 : ys'.length = y.rs.length := by rw [dps_len yd, List.length_map]
          refine ⟨y.l, ys', _, rfl, rfl, yx, small1000 (by omega), ?_⟩
          have hrd : Dp K B10 (.ref u2) (Rd1.d ⟨x7, vv, ff⟩) := .tup (Or.inl (Or.inl u10)) (.cons (.str _) (.cons (.tup (Or.inl (Or.inl q10)) (ints_dps _)) (.cons (.int _) .nil)))
          have h11 := h10.put (rd := ⟨x7, vv, ff⟩) hy yx hrd
          have K11 := K10.put (o := .lst (ys' ++ [.ref u2])) yb yr
          have nU := lsU' _ y hy
          have U11 : (upd H17 y.l (.lst (ys' ++ [.ref u2]))) U = some (.lst rx) := by rw [upd_ne nU.symm]; exact U10
          generalize upd H17 y.l (.lst (ys' ++ [.ref u2])) = H18 at h11 K11 U11
          clear K10 h10 U10 yb yr yx yd
          -- rows.append(row)
          have hrl : rx.length = rows.length := by rw [dps_len dr10, List.length_map]
          refine ⟨_, rfl, Or.inl ⟨rfl, _, Or.inl (Or.inl U11)⟩, _, rfl, U, rx, _, rfl, rfl, U11, small1000 (by rw [hrl, T1.rlen]; omega), ?_⟩
          refine ⟨_, _, _, _, rfl, B10, hs'.set d4.toNat { y with rs := y.rs ++ [⟨x7, vv, ff⟩] }, rows ++ [⟨x4, xs.length, x7, vv⟩], rx ++ [.ref u], s10, (K11.put bU10 rU).mono (by omega), h11.step same_refl (fun j z hz => ⟨(h11.at_ j z hz).1, upd_ne ?_⟩), ?_, bU10, upd_same, ?_, ?_⟩
          · rcases get_set hz with ⟨_, rfl⟩ | ⟨_, hz⟩
            · exact nU
            · exact lsU' j z hz
          · exact (map_set_same (f := fun x : Held => x.l) (x := { y with rs := y.rs ++ [⟨x7, vv, ff⟩] }) hy rfl).trans e1
          · rw [List.map_append]
            exact dps_snoc dr10 (.tup (Or.inl (Or.inl u10')) (.cons (.str _) (.cons (.int _) (.cons (.str _) (.cons (.tup (Or.inl (Or.inl q10)) (ints_dps _)) .nil)))))
          · refine ⟨?_, by rw [List.length_append, T1.rlen]; rfl, fun z hz => ?_, fun z hz rd hrd => ?_⟩
            · rw [sum_set (f := fun y : Held => y.rs.length) hy (by show (y.rs ++ [_]).length = _; rw [List.length_append]; rfl), T1.few]
            · rcases List.mem_append.mp hz with h | h
              · exact T1.rok z h
              · rw [List.mem_singleton.mp h]
                exact ⟨vl, vb, (ht _ mem4).2, (ht _ mem7).2⟩
            · rcases List.mem_or_eq_of_mem_set hz with h | h
              · exact T1.ok z h rd hrd
              · rw [h] at hrd
                rcases List.mem_append.mp hrd with h' | h'
                · exact T1.ok y (List.mem_of_getElem? hy) rd h'
                · rw [List.mem_singleton.mp h']
                  refine ⟨?_, mem7, hfb.2, fun x hx => ?_⟩
                  · unfold isRead
                    rw [Bool.and_eq_true, Bool.and_eq_true]
                    exact ⟨(ht _ mem7).1, decide_eq_true vl, by rw [decide_eq_false hfb.1]; rfl⟩
                  · have := vb x hx
                    omega
        · rintro σ H10 ⟨y9, y10, y11, y12, rfl, B', hs', rows, rx, s1, K1, h1, e1, bU1, U1, dr1, T1⟩
          have hsl : hs'.length = ts.length := by
            have z := congrArg List.length e1
            rw [List.length_map, List.length_map] at z
            rw [z, c1]
          have Kc := (RS.cut K1.ok).mono (show m + 3 + 1 + 40 * n.toNat ≤ m + 600 by omega)
          have sc : Same B' (cutr H10 r) := fun b o e => by
            rw [cutr_ne (ne_of_none e K1.n)]
            exact K1.s b o e
          have Dc := sc _ _ (s1 _ _ D7)
          have Ec := sc _ _ (s1 _ _ E7)
          have hdc : ∀ (j : Nat) (y : Held), hs'[j]? = some y → Dp K (cutr H10 r) (.ref y.l) (.list (y.rs.map Rd1.d)) := fun j y hy => by
            obtain ⟨_, z2, xs, z3, z4⟩ := h1.at_ j y hy
            exact .lst (Or.inl (Or.inl (by rw [cutr_ne z2.symm]; exact z3))) (dpsm sc _ _ z4)
          have sBc : Same B (cutr H10 r) := same_tr sB7 (same_tr s1 sc)
          generalize cutr H10 r = Bc at Kc Dc Ec hdc sBc
          clear K1 h1 bU1 U1 dr1 sc
          have eE : (hs.map fun y => V.ref y.l) = hs'.map fun y => V.ref y.l := by
            have z := congrArg (List.map V.ref) e1
            rw [List.map_map, List.map_map] at z
            exact z.symm
          rw [eE] at Ec
          have hmin : ts.length = min (ts.map V.str).length (hs'.map fun y => V.ref y.l).length := by rw [List.length_map, List.length_map, hsl, Nat.min_self]
          refine ⟨_, rfl, _, rfl, D, E, ts.map V.str, hs'.map fun y => V.ref y.l, rfl, Or.inl (Or.inl (Kc.s _ _ Dc)), Or.inl (Or.inl (Kc.s _ _ Ec)), fun G hG => ?_⟩
          have bG := free_of Kc.s hG
          have rG := Kc.ne hG
          refine lc_it (walk_zip (K := K) (a := D) (b := E) hmin) (fun i H' => ∃ (Bx : Hp) (cs : List Tb) (zs : List V), Same Bc Bx ∧ RS r (m + 600 + i) Bx H' ∧ Bx G = none ∧ H' G = some (.lst zs) ∧ DpAll K Bx zs (cs.map Tb.d) ∧ cs.length = i ∧ cs.map (·.n) = ts.take i ∧ cs.map (·.rs) = (hs'.map (·.rs)).take i ∧ ∀ t ∈ cs, -99 ≤ t.c ∧ t.c ≤ 99)
            ⟨Bc, [], [], same_refl, Kc.new hG, bG, upd_same, .nil, rfl, rfl, rfl, (by intro t h; cases h)⟩ (fun i H' _ ⟨Bx, _, _, b1, b2, _⟩ => ⟨Or.inl (Or.inl (b2.s _ _ (b1 _ _ Dc))), Or.inl (Or.inl (b2.s _ _ (b1 _ _ Ec)))⟩) ?_ ?_
          · rintro i x Hi _ hi ⟨Bx, cs, zs, b1, b2, b3, b4, b5, b6, b7, b8, b9⟩ ⟨Tp, k1, k2, rfl, hTp, rfl, f1, f2⟩
            have f1 : (ts.map V.str)[i]? = some k1 := f1
            have f2 : (hs'.map fun y => V.ref y.l)[i]? = some k2 := f2
            rw [List.getElem?_map] at f1 f2
            obtain ⟨x1, hx1, rfl⟩ := Option.map_eq_some_iff.mp f1
            obtain ⟨y1, hy1, rfl⟩ := Option.map_eq_some_iff.mp f2
            refine ⟨Tp, _, rfl, Or.inl (Or.inl upd_same), rfl, _, _, rfl, _, _, rfl, rfl, rfl, yes_if ?_⟩
            have q1 := b2.new (o := .tup [.str x1, .ref y1.l]) hTp
            have G1 : (upd Hi Tp (.tup [.str x1, .ref y1.l])) G = some (.lst zs) := snew hTp _ _ b4
            generalize upd Hi Tp (.tup [.str x1, .ref y1.l]) = Hj at q1 G1
            refine ⟨_, rfl, _, rfl, r, 9, _, rfl, q1.ok, by omega, by decide, by decide, fun d9 Hk d90 d91 D9 => ⟨_, _, rfl, rfl, _, rfl, (by show 3 ≤ sizeLine; decide), fun u hu => ?_⟩⟩
            have q2 := q1.dr D9
            have G2 : Hk G = some (.lst zs) := by rw [D9.ne _ rG.symm]; exact G1
            have bu := free_of q2.s hu
            have q3 := (q2.new (o := .tup [.str x1, .int (d9 - 4), .ref y1.l]) hu).keep upd_same bu (q2.ne hu)
            have G3 : (upd Hk u (.tup [.str x1, .int (d9 - 4), .ref y1.l])) G = some (.lst zs) := snew hu _ _ G2
            have bG3 : (upd Bx u (.tup [.str x1, .int (d9 - 4), .ref y1.l])) G = none := by rw [upd_ne (ne_of_none G2 hu)]; exact b3
            have sN := snew (o := .tup [.str x1, .int (d9 - 4), .ref y1.l]) bu
            have hzl : zs.length = i := by rw [dps_len b5, List.length_map, b6]
            refine ⟨zs, G3, small1000 (by omega), _, cs ++ [⟨x1, d9 - 4, y1.rs⟩], zs ++ [.ref u], same_tr b1 sN, (q3.put bG3 rG).mono (by omega), bG3, upd_same, ?_, by rw [List.length_append, b6]; rfl, ?_, ?_, ?_⟩
            · rw [List.map_append]
              exact dps_snoc (dpsm sN _ _ b5) (.tup (Or.inl (Or.inl upd_same)) (.cons (.str _) (.cons (.int _) (.cons (dpm (same_tr b1 sN) _ _ (hdc i y1 hy1)) .nil))))
            · rw [List.map_append, b7, List.take_add_one, hx1]
              rfl
            · rw [List.map_append, b8, List.take_add_one, List.getElem?_map, hy1]
              rfl
            · intro t h
              rcases List.mem_append.mp h with h | h
              · exact b9 t h
              · rw [List.mem_singleton.mp h]
                show -99 ≤ d9 - 4 ∧ d9 - 4 ≤ 99
                omega
          · rintro H11 ⟨Bx, cs, zs, b1, b2, b3, b4, b5, b6, b7, b8, b9⟩
            rw [List.take_length] at b7
            rw [List.take_of_length_le (by rw [List.length_map]; omega)] at b8
            have hrs : ∀ t ∈ cs, ∃ y ∈ hs', t.rs = y.rs := fun t h => by
              have z : t.rs ∈ hs'.map (·.rs) := by rw [← b8]; exact List.mem_map.mpr ⟨t, h, rfl⟩
              obtain ⟨y, hy, e⟩ := List.mem_map.mp z
              exact ⟨y, hy, e.symm⟩
            have hsum : (cs.map fun t => t.rs.length).sum = n.toNat := by
              have z := congrArg (fun l : List (List Rd1) => (l.map List.length).sum) b8
              simp only [List.map_map] at z
              rw [← T1.few]
              exact z
            have K2 := b2.keep b4 b3 rG
            refine q G _ H11 cs (same_tr sBc (same_tr b1 (snew b3))) (K2.mono (by omega)) ⟨zs, upd_same, dpsm (snew b3) _ _ b5⟩ (by omega) (by omega) ⟨fun t h => (ht _ (by rw [← b7]; exact List.mem_map.mpr ⟨t, h, rfl⟩)).1, by rw [b7]; exact hnd, by rw [hsum]; omega, fun t h rd hrd => ?_, fun t h rd hrd => ?_⟩ (fun t h => (ht _ (by rw [← b7]; exact List.mem_map.mpr ⟨t, h, rfl⟩)).2) (fun t h => ⟨b9 t h, fun rd hrd => ?_, fun rd hrd => ?_⟩) (by rw [hsum]; omega)
            · obtain ⟨y, hy, e⟩ := hrs t h
              exact (T1.ok y hy rd (by rw [← e]; exact hrd)).1
            · obtain ⟨y, hy, e⟩ := hrs t h
              rw [b7]
              exact (T1.ok y hy rd (by rw [← e]; exact hrd)).2.1
            · obtain ⟨y, hy, e⟩ := hrs t h
              exact (T1.ok y hy rd (by rw [← e]; exact hrd)).2.2.1
            · obtain ⟨y, hy, e⟩ := hrs t h
              exact (T1.ok y hy rd (by rw [← e]; exact hrd)).2.2.2
end
end Fr

namespace Fr
open PySem PySem.Spec PyProof.Rows L2
abbrev s_Lmade : Stmt := topS 37
theorem sc_Lmade : FnScope ["_law_axes", "_law_tables_here"] ["_law_axes", "_law_tables_here"] (defScope s_Lmade) := ⟨rfl, rfl, rfl, by decide +kernel, rfl, by decide +kernel, by decide +kernel⟩
-- slots: 0 _law_axes, 1 _law_tables_here
section
variable {P : Program} {w : World} {K : PySem.W.Frag} {mg : Str → Option Value} {base : Heap}
def spMade (K : PySem.W.Frag) (C : Addr) (TT : List (Addr × Str)) : Sp := fun vs H Q _ => ∃ (d : Int) (v : V) (ts : List Tb), vs = [.int d, v] ∧ LamX.Tabs TT H ∧ OkSys d 97 ts ∧ Dp K H v (.list (ts.map Tb.d)) ∧ ∀ s H', LamX.ExtN H H' → LamX.Tabs TT H' → SysAt K C H' s d 97 (srt ts) → Q (.ref s) H'
theorem ok_made22 {f C : Addr} {fd : FuncData} {TT : List (Addr × Str)} (F : Fun K "_law_made" "_law_made" s_Lmade f fd) (m_System3 : C8.Mak P w K mg base 5 "System" C (spInit K C TT) []) : FnOk P w K mg base CX0 7 f fd ["_law_axes", "_law_tables_here"] (spMade K C TT) := by
  refine F.ok sc_Lmade (fun vs H Q E h => ?_) (fun cdv A outer sh H vs Q E hr h => ?_)
  · obtain ⟨d, v, ts, rfl, _⟩ := h
    rfl
  · obtain ⟨d, v, ts, rfl, hT, O, hv, q⟩ := h
    refine ⟨_, (pss_one (ps_ret (C8.pe_mk m_System3 hr (by decide) (by rfl) (pa_cons (pv 0) (pa_cons (pv 1) (pa_cons pe_int pa_nil)))))), ?_⟩
    refine ⟨_, rfl, _, rfl, fun x dx nx ndx nex => ?_⟩
    have sx : Same H (upd (upd H dx (.own x)) x (.ins C dx [])) := same_tr (snew ndx) (snew (by rw [upd_ne nex.symm]; exact nx))
    exact ⟨x, dx, d, 97, v, ts, rfl, upd_same, hT.ext sx, O, dpm sx _ _ hv, fun H2 E2 hT2 S2 => ⟨rfl, q x H2 (fun b o e n => E2 b o (sx b o e) (ne_of_none e nx) n) hT2 S2⟩⟩
end
end Fr

namespace Srt3
open PySem PyProof.Rows Srt
section
variable {prog : Program} {w : World} {A : Around} {s : Shared} {E : Value → Shared → Prop}
def IsT3 (h : Heap) (v : Value) (x : Str) : Prop := ∃ a o t i u l n, v = .ref a ∧ h.get? a = some o ∧ o.cls = .type "tuple" ∧ o.data = .seq #[.str x t, .int i u, .ref l] n
theorem IsT3.keeps {h h' : Heap} {v : Value} {x : Str} (p : IsT3 h v x) (k : ∀ b o, h.get? b = some o → o.cls = .type "tuple" → h'.get? b = some o) : IsT3 h' v x := by
  obtain ⟨a, o, t, i, u, l, n, e, ho, hc, hd⟩ := p
  exact ⟨a, o, t, i, u, l, n, e, k _ _ ho hc, hc, hd⟩
theorem t3_tot {vs : List Value} (hp : ∀ v ∈ vs, ∃ x, IsT3 s.heap v x) (inj : ∀ v ∈ vs, ∀ u ∈ vs, ∀ x, IsT3 s.heap v x → IsT3 s.heap u x → v = u) : Tot prog w A s (tuples' true) (fun p => p.1 ∈ vs) := by
  intro p q hm hm'
  obtain ⟨x, hx⟩ := hp _ hm
  obtain ⟨x', hx'⟩ := hp _ hm'
  by_cases ex : x = x'
  · subst ex
    have e := inj _ hm _ hm' x hx hx'
    obtain ⟨a, o, t, i, u, l, n, e1, ho, hc, hd⟩ := hx
    rw [← e, e1]
    refine ⟨false, ?_⟩
    refine PySem.W.kat_lt ho hd ho hd ?_
    show PySem.W.KatLex prog w A true (decide (3 < 3)) _ [(.str x t, .str x t), (.int i u, .int i u), (.ref l, .ref l)] 0 s
    refine PySem.W.kat_cons (SeqAt.EqAt.same _ prog w _ _ ?_)
    refine PySem.W.kat_go (fun _ => ?_) (fun e1 => by cases e1)
    refine PySem.W.kat_yes (PySem.W.kat_cons (SeqAt.EqAt.same _ prog w _ _ ?_))
    refine PySem.W.kat_go (fun _ => ?_) (fun e1 => by cases e1)
    refine PySem.W.kat_yes (PySem.W.kat_cons (SeqAt.EqAt.same _ prog w _ _ ?_))
    refine PySem.W.kat_go (fun _ => ?_) (fun e1 => by cases e1)
    exact PySem.W.kat_yes (PySem.W.kat_nil ⟨rfl, rfl⟩)
  · obtain ⟨a, o, t, i, u, l, n, e1, ho, hc, hd⟩ := hx
    obtain ⟨a', o', t', i', u', l', n', e1', ho', hc', hd'⟩ := hx'
    rw [e1, e1']
    refine ⟨decide (x.cps.toList < x'.cps.toList), ?_⟩
    refine PySem.W.kat_lt ho hd ho' hd' ?_
    show PySem.W.KatLex prog w A true (decide (3 < 3)) _ [(.str x t, .str x' t'), (.int i u, .int i' u'), (.ref l, .ref l')] 0 s
    refine PySem.W.kat_cons (SeqAt.EqAt.str_str x t x' t' prog w _ _ ?_)
    refine PySem.W.kat_go (fun e2 => absurd (by simpa using e2) ex) (fun _ => ?_)
    exact PySem.W.kat_no (oneLt_str ⟨rfl, rfl⟩)
theorem firsts3 {h : Heap} : ∀ {vs : List Value}, (∀ v ∈ vs, ∃ x, IsT3 h v x) → ∃ fs : List Value, PySem.W.KatTups h vs fs ∧ fs.length = vs.length ∧ ∀ f ∈ fs, ∃ x t, f = Value.str x t
  | [], _ => ⟨[], PySem.W.KatTups.nil, rfl, fun _ hm => by simp at hm⟩
  | v :: vs, hp => by
    obtain ⟨fs, h1, h2, h3⟩ := firsts3 (vs := vs) fun v' hm => hp v' (List.mem_cons_of_mem _ hm)
    obtain ⟨x, a, o, t, i, u, l, n, e, ho, hc, hd⟩ := hp v (List.mem_cons_self ..)
    subst e
    refine ⟨.str x t :: fs, PySem.W.KatTups.cons ho hc hd rfl h1, by rw [List.length_cons, List.length_cons, h2], fun f hm => ?_⟩
    rcases List.mem_cons.mp hm with rfl | hm
    · exact ⟨x, t, rfl⟩
    · exact h3 f hm
theorem IsT3.fn {h : Heap} {v : Value} {x y : Str} (p : IsT3 h v x) (q : IsT3 h v y) : x = y := by
  obtain ⟨a, o, t, i, u, l, n, e, ho, hc, hd⟩ := p
  obtain ⟨a', o', t', i', u', l', n', e', ho', hc', hd'⟩ := q
  rw [e] at e'
  cases e'
  rw [ho] at ho'
  cases ho'
  rw [hd] at hd'
  injection hd' with h1 h2
  have h3 := congrArg Array.toList h1
  injection h3 with h4 _
  injection h4
theorem t3_sortable {a : Addr} {vs : List Value} (h0 : 0 < vs.length) (hp : ∀ v ∈ vs, ∃ x, IsT3 s.heap v x) (inj : ∀ v ∈ vs, ∀ u ∈ vs, ∀ x, IsT3 s.heap v x → IsT3 s.heap u x → v = u) (ha : ∀ o, s.heap.get? a = some o → o.cls ≠ .type "tuple") : Sortable prog w A s a vs := by
  intro h' keep
  have kp : ∀ {v : Value} {x : Str}, IsT3 s.heap v x → IsT3 h' v x := fun p => p.keeps fun b o e c => keep b o (fun z => by subst z; exact ha o e c) e
  have hp' : ∀ v ∈ vs, ∃ x, IsT3 h' v x := fun v hm => by
    obtain ⟨x, p⟩ := hp v hm
    exact ⟨x, kp p⟩
  have inj' : ∀ v ∈ vs, ∀ u ∈ vs, ∀ x, IsT3 h' v x → IsT3 h' u x → v = u := fun v hv u hu x p q => by
    obtain ⟨y, py⟩ := hp v hv
    obtain ⟨z, pz⟩ := hp u hu
    have e1 := (kp py).fn p
    have e2 := (kp pz).fn q
    subst e1
    subst e2
    exact inj v hv u hu _ py pz
  obtain ⟨fs, h1, h2, h3⟩ := firsts3 hp'
  refine ⟨tuples' true, fun Q E hq => ?_, t3_tot hp' inj'⟩
  refine PySem.W.kat_kind (T := .type "str") h1 (by omega) (fun f hm => ?_) (by rfl) ?_
  · obtain ⟨x, t, rfl⟩ := h3 f hm
    exact PySem.W.Looks.now
  · have e : (Value.type "str" != Value.type "tuple") = true := by first | decide +kernel | rfl | decide
    rw [e]
    exact hq
theorem sorted_t3 {l : Addr} {vs : List Value} {Q : Value → Shared → Prop} (hl : s.heap.IsList l vs.toArray) (hz : vs.length ≤ sizeLine) (hp : ∀ v ∈ vs, ∃ x, IsT3 s.heap v x) (inj : ∀ v ∈ vs, ∀ u ∈ vs, ∀ x, IsT3 s.heap v x → IsT3 s.heap u x → v = u)
    (h : ∀ (h' : Heap) (d : Addr) (out : List Value), out.Perm vs → (∀ b o, s.heap.get? b = some o → h'.get? b = some o) → s.heap.objs.size ≤ d → (∃ n, h'.get? d = some (seqObj "list" out.toArray n)) → Q (.ref d) { s with heap := h' }) :
    wpAny (model prog w) A (call (.builtin "sorted") [.ref l]) Q E s := by
  refine sorted_any hl hz (fun h2 h₁ a ha k => ?_) fun out ho => ?_
  · have kp : ∀ {v : Value} {x : Str}, IsT3 s.heap v x → IsT3 h₁ v x := fun p => p.keeps fun b o e _ => (k b o e).2
    refine t3_sortable (s := { s with heap := h₁ }) (by omega) (fun v hm => ?_) (fun v hv u hu x p q => ?_) fun o e => ?_
    · obtain ⟨x, p⟩ := hp v hm
      exact ⟨x, kp p⟩
    · obtain ⟨y, py⟩ := hp v hv
      obtain ⟨z, pz⟩ := hp u hu
      have e1 := (kp py).fn p
      have e2 := (kp pz).fn q
      subst e1
      subst e2
      exact inj v hv u hu _ py pz
    · have e' : some o = some (seqObj "list" vs.toArray 0) := e.symm.trans ha
      cases e'
      intro c
      exact absurd (Value.type.inj c) (by decide)
  · exact h _ _ out ho (fun b o e => sortedAll_old e) (Nat.le_succ _) (sortedAll_at s.heap vs out.toArray)
end
end Srt3
namespace Fr
open PySem PySem.Spec PyProof.Rows L2
/-- sorted(xs), tuples (text, int, list) whose texts differ: the same ones in some order -/
def rSorted3 (K : PySem.W.Frag) : List V → Hp → VK → Prop := fun vs H Q => ∃ (a : Addr) (xs : List V) (k : V → Str), vs = [V.ref a] ∧ SqL K H a xs ∧ (∀ x ∈ xs, ∃ t i l, x = V.ref t ∧ SqT K H t [.str (k x), .int i, .ref l]) ∧ (∀ x ∈ xs, ∀ y ∈ xs, k x = k y → x = y) ∧
  ∀ ys p, ys.Perm xs → H p = none → Q (.ref p) (upd H p (.lst ys))
theorem vals3 {x y z : V} {us : List Value} (h : Vals [x, y, z] us) : ∃ a b c, us = [a, b, c] ∧ RelV x a ∧ RelV y b ∧ RelV z c := by
  cases h with
  | cons h1 h2 =>
    obtain ⟨b, c, rfl, h3, h4⟩ := vals2 h2
    exact ⟨_, b, c, rfl, h1, h3, h4⟩
section
variable {X : Cx}
theorem cr_sorted3 : CallR X (.builtin "sorted") (rSorted3 X.K) := by
  intro pins s σ H vs us Q I r h
  obtain ⟨a, xs, k, rfl, hs, hx, hj, q⟩ := h
  obtain ⟨its, rv, hl, hz⟩ := I.list hs
  obtain ⟨u, rfl, ru⟩ := vals1 r
  obtain rfl : u = Value.ref a := ru
  obtain ⟨e1, e2⟩ := refs_back rv fun x m => by
    obtain ⟨t, _, _, e, _⟩ := hx x m
    exact ⟨t, e⟩
  have is3 : ∀ v ∈ its, ∃ t, v = Value.ref t ∧ V.ref t ∈ xs ∧ Srt3.IsT3 s.heap v (k (V.ref t)) := fun v hv => by
    obtain ⟨t, rfl⟩ := e2 v hv
    have hm : V.ref t ∈ xs := by rw [e1]; exact List.mem_map.mpr ⟨_, hv, rfl⟩
    obtain ⟨t', i, j, e, ht⟩ := hx _ hm
    cases e
    obtain ⟨its2, r2, ⟨o, ho, hc, n, hd⟩, _⟩ := I.tuple ht
    obtain ⟨u1, u2, u3, rfl, r1, ri, rl⟩ := Fr.vals3 r2
    obtain ⟨t1, rfl⟩ := r1
    obtain ⟨t2, rfl⟩ := ri
    obtain rfl : u3 = Value.ref j := rl
    exact ⟨t, rfl, hm, t, o, t1, _, t2, j, n, rfl, ho, hc, hd⟩
  refine Srt3.sorted_t3 hl.isList (by rw [← rv.length]; exact hz) (fun v hv => ?_) (fun v hv u hu x p q => ?_) fun h' d out hp kk hd hn => ?_
  · obtain ⟨t, _, _, h3⟩ := is3 v hv
    exact ⟨_, h3⟩
  · obtain ⟨t, rfl, m1, p1⟩ := is3 v hv
    obtain ⟨t', rfl, m2, p2⟩ := is3 u hu
    have e := hj _ m1 _ m2 ((p1.fn p).trans (p2.fn q).symm)
    cases e
    rfl
  · have h3 : ∀ u ∈ out, ∃ a, u = Value.ref a := fun u hu => e2 u (hp.mem_iff.mp hu)
    obtain ⟨n, hn⟩ := hn
    refine ⟨.ref d, upd H d (.lst (out.map backV)), I.laid (t' := s.toks) kk hd ⟨?_, out, n, vals_back h3, hn⟩, rfl, q _ d ?_ (I.hok.fresh hd)⟩
    · rw [List.length_map, hp.length_eq, ← rv.length]; exact hz
    · rw [e1]; exact hp.map backV
end
end Fr

namespace Fr
open PySem PySem.Spec PyProof.Rows L2
abbrev s_Lrows : Stmt := topS 36
theorem sc_Lrows : FnScope ["_law_tables_here", "_law_found", "_law_title", "_law_part", "_law_some", "_law_number", "_law_row"] ["_law_tables_here"] (defScope s_Lrows) := ⟨rfl, rfl, rfl, by decide +kernel, rfl, by decide +kernel, by decide +kernel⟩
-- slots: 0 _law_tables_here, 1 _law_found, 2 _law_title, 3 _law_part, 4 _law_some, 5 _law_number, 6 _law_row
def rowsT (t : Tb) (j : Nat) : List RowP := (t.rs.take j).mapIdx fun i r => ⟨t.n, i, r.t, r.v⟩
def rowsU (us : List Tb) : List RowP := us.flatMap fun t => rowsT t t.rs.length
theorem rowsU_len : ∀ us : List Tb, (rowsU us).length = (us.map fun t => t.rs.length).sum
  | [] => rfl
  | t :: us => by
    have e : rowsU (t :: us) = rowsT t t.rs.length ++ rowsU us := rfl
    rw [e, List.length_append, rowsU_len us, List.map_cons, List.sum_cons]
    unfold rowsT
    rw [List.length_mapIdx, List.take_length]
theorem dps_perm {K : PySem.W.Frag} {H : Hp} {ys xs : List V} (h : ys.Perm xs) : ∀ {ts : List Tb}, DpAll K H xs (ts.map Tb.d) → ∃ us : List Tb, us.Perm ts ∧ DpAll K H ys (us.map Tb.d) := by
  induction h with
  | nil => exact fun {ts} d => ⟨ts, .refl _, d⟩
  | cons x _ ih =>
    intro ts d
    cases ts with
    | nil => cases d
    | cons t ts =>
      cases d with
      | cons d1 d2 =>
        obtain ⟨us, p, e⟩ := ih d2
        exact ⟨t :: us, p.cons _, .cons d1 e⟩
  | swap x y l =>
    intro ts d
    cases ts with
    | nil => cases d
    | cons t ts =>
      cases d with
      | cons d1 d2 =>
        cases ts with
        | nil => cases d2
        | cons t' ts =>
          cases d2 with
          | cons d2 d3 => exact ⟨t' :: t :: ts, .swap _ _ _, .cons d2 (.cons d1 d3)⟩
  | trans _ _ ih1 ih2 =>
    intro ts d
    obtain ⟨us, p, e⟩ := ih2 d
    obtain ⟨vs, p2, e2⟩ := ih1 e
    exact ⟨vs, p2.trans p, e2⟩
theorem dps_getT {K : PySem.W.Frag} {H : Hp} : ∀ {xs : List V} {ts : List Tb} {i : Nat} {v : V}, DpAll K H xs (ts.map Tb.d) → xs[i]? = some v → ∃ t, ts[i]? = some t ∧ Dp K H v t.d
  | [], _, _, _, _, e => by cases e
  | x :: xs, [], _, _, h, _ => by cases h
  | x :: xs, t :: ts, 0, _, h, e => by
    cases h with
    | cons h1 h2 => cases e; exact ⟨t, rfl, h1⟩
  | x :: xs, t :: ts, i + 1, v, h, e => by
    cases h with
    | cons h1 h2 =>
      obtain ⟨u, a, b⟩ := dps_getT (i := i) h2 (by simpa using e)
      exact ⟨u, by simpa using a, b⟩
theorem key3 {K : PySem.W.Frag} {H : Hp} {xs : List V} {ts : List Tb} (d : DpAll K H xs (ts.map Tb.d)) (nd : (ts.map (·.n)).Nodup) : ∃ k : V → Str, (∀ x ∈ xs, ∃ t i l, x = V.ref t ∧ SqT K H t [.str (k x), .int i, .ref l]) ∧ (∀ x ∈ xs, ∀ y ∈ xs, k x = k y → x = y) := by
  have h : ∀ x : V, ∃ s : Str, x ∈ xs → ∃ (i : Nat) (t : Tb), xs[i]? = some x ∧ ts[i]? = some t ∧ t.n = s ∧ Dp K H x t.d := fun x => by
    by_cases hx : x ∈ xs
    · obtain ⟨i, hi, e⟩ := List.mem_iff_getElem.mp hx
      have e' : xs[i]? = some x := by rw [List.getElem?_eq_getElem hi, e]
      obtain ⟨t, a, b⟩ := dps_getT d e'
      exact ⟨t.n, fun _ => ⟨i, t, e', a, rfl, b⟩⟩
    · exact ⟨"", fun z => absurd z hx⟩
  obtain ⟨k, hk⟩ := Classical.axiomOfChoice h
  refine ⟨k, fun x hx => ?_, fun x hx y hy e => ?_⟩
  · obtain ⟨i, t, _, _, e, dp⟩ := hk x hx
    obtain ⟨a, ys, rfl, ht, hd⟩ := dtup dp
    obtain ⟨y1, y2, y3, rfl, g1, g2, g3⟩ := dps3 hd
    obtain rfl := dstr g1
    obtain rfl := dint g2
    obtain ⟨l, zs, rfl, _⟩ := dlst g3
    exact ⟨a, _, l, rfl, by rw [← e]; exact ht⟩
  · obtain ⟨i, t, a1, a2, a3, _⟩ := hk x hx
    obtain ⟨j, u, b1, b2, b3, _⟩ := hk y hy
    have f : (ts.map (·.n))[i]? = (ts.map (·.n))[j]? := by rw [List.getElem?_map, List.getElem?_map, a2, b2, Option.map_some, Option.map_some, a3, b3, e]
    have hi : i < (ts.map (·.n)).length := by
      rw [List.length_map]
      exact (List.getElem?_eq_some_iff.mp a2).1
    have ij : i = j := (List.getElem?_inj hi nd).mp f
    subst ij
    rw [a1] at b1
    exact Option.some.inj b1
section
variable {P : Program} {w : World} {K : PySem.W.Frag} {mg : Str → Option Value} {base : Heap}
def spRows (K : PySem.W.Frag) : Sp := fun vs H Q _ => ∃ (v : V) (ts : List Tb), vs = [v] ∧ Dp K H v (.list (ts.map Tb.d)) ∧ (ts.map (·.n)).Nodup ∧ (ts.map fun t => t.rs.length).sum ≤ 100 ∧ ∀ p H' us, us.Perm ts → Same H H' → LD K H' p ((rowsU us).map RowP.d) → Q (.ref p) H'
theorem ok_rows {f : Addr} {fd : FuncData} (F : Fun K "_law_rows" "_law_rows" s_Lrows f fd) (T : Txt mg) : FnOk P w K mg base CX0 1 f fd ["_law_tables_here"] (spRows K) := by
  refine F.ok sc_Lrows (fun vs H Q E h => ?_) (fun cdv A outer sh H vs Q E hr h => ?_)
  · obtain ⟨v, ts, rfl, _⟩ := h
    rfl
  · obtain ⟨v, ts, rfl, hv, nd, few, q⟩ := h
    refine ⟨_, (pss_cons (ps_set (i := 1) sc_Lrows.nd rfl (by first | exact Or.inl rfl | exact Or.inr rfl) (pe_lst pa_nil))
  (pss_cons (ps_for PassesOwn.never rfl (pi_list (pe_callB cr_sorted3 (by rfl) T.b_sorted (by decide +kernel) (pa_cons (pv 0) pa_nil))) (pg_tup rfl (pgs_cons (pg_name (i := 2) sc_Lrows.nd rfl (by first | exact Or.inl rfl | exact Or.inr rfl)) (pgs_cons (pg_name (i := 3) sc_Lrows.nd rfl (by first | exact Or.inl rfl | exact Or.inr rfl)) (pgs_cons (pg_name (i := 4) sc_Lrows.nd rfl (by first | exact Or.inl rfl | exact Or.inr rfl)) pgs_nil))))
    (pss_one (ps_for PassesOwn.never rfl (pi_enum (by rfl) T.b_enumerate (pa_cons (pv 4) pa_nil)) (pg_tup rfl (pgs_cons (pg_name (i := 5) sc_Lrows.nd rfl (by first | exact Or.inl rfl | exact Or.inr rfl)) (pgs_cons (pg_name (i := 6) sc_Lrows.nd rfl (by first | exact Or.inl rfl | exact Or.inr rfl)) pgs_nil)))
      (pss_one (ps_expr (pe_bm PySem.F.plainAttrs_list PySem.F.slot_list_append PySem.F.type_list_append mt_append (pv 1) (pa_cons (pe_tup (pa_cons (pv 2) (pa_cons (pv 5) (pa_cons (pe_ix ix_tup (pv 6) pe_int (fun _ _ => rfl)) (pa_cons (pe_ix ix_tup (pv 6) pe_int (fun _ _ => rfl)) pa_nil))))) pa_nil)))))))
  (pss_one (ps_ret (pv 1))))), ?_⟩
    obtain ⟨a, xs, rfl, ha, hd⟩ := dlst hv
    obtain ⟨k, k1, k2⟩ := key3 hd nd
    have z4 : 4 ≤ sizeLine := by decide
    refine ⟨Nat.zero_le _, fun p hp => ?_⟩
    have s0 : Same H (upd H p (.lst [])) := snew hp
    refine ⟨_, rfl, a, xs, k, rfl, sql s0 ha, fun x hx => ?_, k2, fun ys r hperm hr0 => ?_⟩
    · obtain ⟨t, i, l, e, g⟩ := k1 x hx
      exact ⟨t, i, l, e, sqt s0 g⟩
    have rp : r ≠ p := fun z => by
      rw [z, upd_same] at hr0
      cases hr0
    have hrH : H r = none := by rw [upd_ne rp] at hr0; exact hr0
    obtain ⟨us, hus, hud⟩ := dps_perm hperm hd
    have few' : (us.map fun t => t.rs.length).sum ≤ 100 := by rw [(hus.map _).sum_nat]; exact few
    have sB : Same H (upd H r (.lst ys)) := snew hrH
    have hrB : (upd H r (.lst ys)) r = some (.lst ys) := upd_same
    have hpB : (upd H r (.lst ys)) p = none := by rw [upd_ne rp.symm]; exact hp
    have sB1 : Same (upd H r (.lst ys)) (upd (upd H p (.lst [])) r (.lst ys)) := sgrow s0
    have hp1 : (upd (upd H p (.lst [])) r (.lst ys)) p = some (.lst []) := by rw [upd_ne rp.symm]; exact upd_same
    have hudB := dpsm sB _ _ hud
    generalize upd (upd H p (.lst [])) r (.lst ys) = H1 at sB1 hp1
    generalize upd H r (.lst ys) = B0 at sB hrB hpB sB1 hudB
    have ylen : ys.length = us.length := by rw [dps_len hudB, List.length_map]
    refine ⟨r, rfl, ⟨_, Or.inl (Or.inl (sB1 _ _ hrB))⟩, ?_⟩
    refine for_it (walk_list (K := K) (a := r) (xs := ys)) (fun i σ H' => ∃ y2 y3 y4 y5 y6, σ = [some (.ref a), some (.ref p), y2, y3, y4, y5, y6] ∧ ∃ (B : Hp) (zs : List V), Same B0 B ∧ B p = none ∧ Same B H' ∧ H' p = some (.lst zs) ∧ DpAll K B zs ((rowsU (us.take i)).map RowP.d)) ⟨none, none, none, none, none, rfl, B0, [], same_refl, hpB, sB1, hp1, .nil⟩ (fun i σ H' _ ⟨_, _, _, _, _, _, B, _, b1, _, b3, _⟩ => Or.inl (Or.inl (b3 _ _ (b1 _ _ hrB)))) ?_ ?_
    · rintro i y σ _ H2 hi ⟨y2, y3, y4, y5, y6, rfl, B, zs, b1, b2, b3, b4, b5⟩ ⟨rfl, hy⟩
      obtain ⟨t, ht, dt⟩ := dps_getT hudB hy
      obtain ⟨b, ws, rfl, tt, td⟩ := dtup (dpm b1 _ _ dt)
      obtain ⟨w1, w2, w3, rfl, v1, v2, v3⟩ := dps3 td
      obtain rfl := dstr v1
      obtain rfl := dint v2
      obtain ⟨l, es, rfl, hl, hes⟩ := dlst v3
      have hel : es.length = t.rs.length := by rw [dps_len hes, List.length_map]
      refine ⟨b, _, rfl, sqt b3 tt, rfl, _, _, rfl, _, _, rfl, _, _, rfl, rfl, ?_⟩
      refine ⟨_, rfl, l, es, rfl, sql b3 hl, for_it (walk_enum (K := K) (a := l) (xs := es)) (fun j σ H' => ∃ y5 y6, σ = [some (.ref a), some (.ref p), some (.str t.n), some (.int t.c), some (.ref l), y5, y6] ∧ ∃ (B' : Hp) (zs' : List V), Same B B' ∧ B' p = none ∧ Same B' H' ∧ H' p = some (.lst zs') ∧ DpAll K B' zs' ((rowsU (us.take i) ++ rowsT t j).map RowP.d)) ⟨y5, y6, rfl, B, zs, same_refl, b2, b3, b4, by rw [show rowsT t 0 = [] from rfl, List.append_nil]; exact b5⟩ (fun j σ H' _ ⟨_, _, _, B', _, c1, _, c3, _⟩ => sql (same_tr c1 c3) hl) ?_ ?_⟩
      · rintro j y σ H3 _ hj ⟨y5, y6, rfl, B', zs', c1, c2, c3, c4, c5⟩ ⟨Tp, z1, z2, rfl, hT, rfl, e1, e2⟩
        cases e1
        obtain ⟨rd, ra, rb, f3, rfl, f4, f5, f6⟩ := rd_at (dpsm c1 _ _ hes) e2
        have hTB : B' Tp = none := free_of c3 hT
        have nTp : Tp ≠ p := fun z => by
          rw [z, c4] at hT
          cases hT
        have c3' : Same (upd B' Tp (.tup [.int (j : Nat), .ref ra])) (upd H3 Tp (.tup [.int (j : Nat), .ref ra])) := sgrow c3
        have s3 : Same H3 (upd H3 Tp (.tup [.int (j : Nat), .ref ra])) := snew hT
        refine ⟨Tp, _, rfl, Or.inl (Or.inl upd_same), rfl, _, _, rfl, _, _, rfl, rfl, ?_⟩
        have s03 : Same B' (upd H3 Tp (.tup [.int (j : Nat), .ref ra])) := same_tr c3 s3
        refine ⟨_, rfl, Or.inl ⟨rfl, _, Or.inl (Or.inl (s3 _ _ c4))⟩, _, rfl, _, rfl, _, rfl, ra, _, 0, _, rfl, rfl, sqt s03 f5, rfl, _, rfl, ra, _, 1, _, rfl, rfl, sqt s03 f5, rfl, z4, fun u hu => ?_⟩
        have hul : u ≠ p := fun z => by
          rw [z, s3 _ _ c4] at hu
          cases hu
        have huB : B' u = none := free_of s03 hu
        have s4 : Same (upd B' u (.tup [.str t.n, .int (j : Nat), .str rd.t, .ref rb])) (upd (upd H3 Tp (.tup [.int (j : Nat), .ref ra])) u (.tup [.str t.n, .int (j : Nat), .str rd.t, .ref rb])) := sgrow s03
        have hp4 : (upd B' u (.tup [.str t.n, .int (j : Nat), .str rd.t, .ref rb])) p = none := by rw [upd_ne hul.symm]; exact c2
        have sb4 : Same B' (upd B' u (.tup [.str t.n, .int (j : Nat), .str rd.t, .ref rb])) := snew huB
        have zl : zs'.length ≤ 100000 := by
          have e1 := dps_len c5
          rw [List.length_map, List.length_append, rowsU_len] at e1
          have e2 : (rowsT t j).length ≤ j := by
            unfold rowsT
            rw [List.length_mapIdx, List.length_take]
            omega
          have e3 : t.rs.length ≤ 100 := Nat.le_trans (mem_le_sum (f := fun t : Tb => t.rs.length) (List.mem_of_getElem? ht)) few'
          have e4 := congrArg (fun l : List Tb => (l.map fun t => t.rs.length).sum) (List.take_append_drop i us)
          simp only [List.map_append, List.sum_append] at e4
          omega
        refine ⟨p, zs', _, rfl, rfl, by rw [upd_ne hul.symm]; exact s3 _ _ c4, by rw [sizeLine_eq]; omega, _, _, rfl, _, zs' ++ [.ref u], same_tr c1 sb4, hp4, swrite s4 hp4, upd_same, ?_⟩
        have e : rowsT t (j + 1) = rowsT t j ++ [⟨t.n, j, rd.t, rd.v⟩] := by
          unfold rowsT
          rw [List.take_add_one, f3]
          simp
          omega
        rw [e, ← List.append_assoc, List.map_append]
        refine dps_snoc (dpsm sb4 _ _ c5) (.tup (Or.inl (Or.inl upd_same)) (.cons (.str _) (.cons (.int _) (.cons (.str _) (.cons ?_ .nil)))))
        exact .tup (sqt sb4 f6) (ints_dps _)
      · rintro σ H3 ⟨y5, y6, rfl, B', zs', c1, c2, c3, c4, c5⟩
        rw [hel] at c5
        refine ⟨_, _, _, _, _, rfl, B', zs', same_tr b1 c1, c2, c3, c4, ?_⟩
        have e : rowsU (us.take (i + 1)) = rowsU (us.take i) ++ rowsT t t.rs.length := by
          rw [List.take_add_one, ht]
          unfold rowsU
          rw [List.flatMap_append]
          simp
        rw [e]
        exact c5
    · rintro σ H2 ⟨y2, y3, y4, y5, y6, rfl, B, zs, b1, b2, b3, b4, b5⟩
      rw [ylen, List.take_length] at b5
      refine ⟨_, rfl, ?_⟩
      exact q p H2 us hus (fun b o e => b3 _ _ (b1 _ _ (sB _ _ e))) ⟨zs, b4, dpsm b3 _ _ b5⟩
end
end Fr

namespace Fr
open PySem PySem.Spec PyProof.Rows L2
theorem dps_put {K : PySem.W.Frag} {H : Hp} : ∀ {xs : List V} {ds : List PyData} {x : V} {d : PyData}, DpAll K H xs ds → Dp K H x d → DpAll K H (xs ++ [x]) (ds ++ [d])
  | [], _, _, _, h, k => by cases h; exact .cons k .nil
  | _ :: xs, _, _, _, h, k => by
    cases h with
    | cons h1 h2 => exact .cons h1 (dps_put h2 k)
/-- a list made of a list's items that a test keeps, one new thing for each; PB: what is true of the bases -/
theorem lc_fd {α : Type} {K : PySem.W.Frag} {g : TG} {tt : TT} {te : TE} {vs : List Nat} {σ : L2.St} {a D : Addr} {xs : List V} {B0 H1 : Hp} {Qd : Hp → Prop} (PB : Hp → Prop) (E : List α) (dα : α → PyData) (ds : α → PyData) (q : α → Bool)
    (hx : SqL K H1 a xs) (s0 : Same B0 H1) (h0 : PB B0) (h : DpAll K B0 xs (E.map dα)) (hl : E.length ≤ 10000000) (hD : H1 D = none)
    (hs : ∀ x r B H, r ∈ E → Same B0 B → B D = none → PB B → Same B H → Same H1 H → (∃ o, H D = some o) → Dp K B x (dα r) → ∀ (R : V → Hp → Prop) (N : Hp → Prop),
      (q r = true → ∀ y H4 B', Same H H4 → Same B B' → B' D = none → PB B' → Same B' H4 → Dp K B' y (ds r) → R y H4) → (q r = false → ∀ H3, Same H H3 → N H3) →
      g x (wipe σ vs) H fun σ2 H2 => wipe σ2 vs = wipe σ vs ∧ tt σ2 H2 fun b H3 => if b = true then te σ2 H3 R else N H3)
    (hd : ∀ H B bs, Same B0 B → B D = none → PB B → Same B H → Same H1 H → H D = some (.lst bs) → DpAll K B bs ((E.filter q).map ds) → Qd H) :
    ∃ W : Nat → Nat → Hp → Prop, (∃ m, W 0 m (upd H1 D (.lst []))) ∧ ∀ i m H, W i m H →
      ((Itl K a).stop i H ∧ Qd H) ∨ ((Itl K a).go i H ∧ ∃ Nx : Hp → Prop, (∀ H', Nx H' → ∃ m', m' < m ∧ W (i + 1) m' H') ∧ ∀ x H', (Itl K a).yld i H x H' → g x (wipe σ vs) H' fun σ2 H2 => wipe σ2 vs = wipe σ vs ∧ tt σ2 H2 fun b H3 =>
        if b = true then te σ2 H3 fun y H4 => ∃ acc, H4 D = some (.lst acc) ∧ acc.length < sizeLine ∧ Nx (upd H4 D (.lst (acc ++ [y]))) else Nx H3) := by
  have len : xs.length = E.length := by rw [dps_len h, List.length_map]
  have big : 10000000 < sizeLine := by decide
  refine lc_it (walk_list (K := K) (a := a) (xs := xs)) (fun i H => ∃ B bs, Same B0 B ∧ B D = none ∧ PB B ∧ Same B H ∧ Same H1 H ∧ H D = some (.lst bs) ∧ DpAll K B bs (((E.take i).filter q).map ds)) ⟨B0, [], same_refl, free_of s0 hD, h0, same_tr s0 (snew hD), snew hD, upd_same, .nil⟩ (fun i H _ ⟨B, _, _, _, _, _, s, _⟩ => sql s hx) ?_ (fun H ⟨B, bs, s1, b, pb, s2, s, e, d⟩ => hd H B bs s1 b pb s2 s e (by rw [len, List.take_length] at d; exact d))
  rintro i x _ H hi ⟨B, bs, s1, b, pb, s2, s, e, d⟩ ⟨rfl, hy⟩
  obtain ⟨dd, hdd, dx⟩ := dps_get (dpsm s1 _ _ h) hy
  rw [List.getElem?_map] at hdd
  obtain ⟨r, hr, rfl⟩ := Option.map_eq_some_iff.mp hdd
  have key : ((E.take (i + 1)).filter q).map ds = ((E.take i).filter q).map ds ++ (if q r = true then [ds r] else []) := by
    rw [List.take_add_one, hr, Option.toList_some, List.filter_append, List.map_append]
    congr 1
    by_cases z : q r = true
    · rw [if_pos z, List.filter_cons_of_pos z]
      rfl
    · rw [if_neg z, List.filter_cons_of_neg z]
      rfl
  refine hs x r B H (List.mem_of_getElem? hr) s1 b pb s2 s ⟨_, e⟩ dx _ _ (fun hq y H4 B' t1 t2 t3 tp t4 t5 => ⟨bs, t1 _ _ e, ?_, B', bs ++ [y], same_tr s1 t2, t3, tp, swrite t4 t3, swrite (same_tr s t1) hD, upd_same, ?_⟩) (fun hq H3 t1 => ⟨B, bs, s1, b, pb, same_tr s2 t1, same_tr s t1, t1 _ _ e, ?_⟩)
  · have l1 := dps_len d
    rw [List.length_map] at l1
    have l2 := List.length_filter_le q (E.take i)
    rw [List.length_take] at l2
    omega
  · rw [key, if_pos hq]
    exact dps_put (dpsm t2 _ _ d) t5
  · rw [key, if_neg (by rw [hq]; decide), List.append_nil]
    exact d
theorem eqv_rn (a b : Str × Int) : PyData.eqv (rnD a) (rnD b) = decide (a = b) := by
  obtain ⟨x, i⟩ := a
  obtain ⟨y, j⟩ := b
  unfold rnD
  simp only [PyData.eqv, PyData.eqvAll, Bool.and_true]
  by_cases h1 : x = y
  · by_cases h2 : i = j
    · subst h1 h2
      simp
    · simp [h2]
  · simp [h1]
theorem rn_good (y : Str × Int) (h : PyData.strOk y.1 = true) : Good (rnD y) := by
  unfold rnD Good
  exact ⟨by simp [PyData.canLay0, PyData.canLayAll0, h], by simp [PyData.depth, PyData.depthAll]⟩
theorem rn_shaped {y : Str × Int} (h : PyData.strOk y.1 = true) : SeqAt.shaped (rnD y) = true := by
  obtain ⟨h1, h2⟩ := rn_good y h
  unfold SeqAt.shaped
  rw [Bool.and_eq_true]
  exact ⟨h1, decide_eq_true (by omega)⟩
/-- a row's texts are good -/
def OkRow (r : RowP) : Prop := PyData.strOk r.w = true ∧ PyData.strOk r.o = true
theorem rows_lay {E : List RowP} (h : ∀ r ∈ E, OkRow r) : PyData.canLayAll0 (E.map RowP.d) = true ∧ PyData.depthAll (E.map RowP.d) ≤ 20 := by
  have hi : ∀ ns : List Int, PyData.canLayAll0 (ns.map PyData.int) = true ∧ PyData.depthAll (ns.map PyData.int) = 0 := by
    intro ns
    induction ns with
    | nil => exact ⟨by simp [PyData.canLayAll0], by simp [PyData.depthAll]⟩
    | cons n ns ih => exact ⟨by simp [PyData.canLayAll0, PyData.canLay0, ih.1], by simp [PyData.depthAll, PyData.depth, ih.2]⟩
  induction E with
  | nil => exact ⟨by simp [PyData.canLayAll0], by simp [PyData.depthAll]⟩
  | cons r E ih =>
    obtain ⟨i1, i2⟩ := ih fun y hy => h y (List.mem_cons_of_mem _ hy)
    obtain ⟨h1, h2⟩ := h r List.mem_cons_self
    have d : PyData.canLay0 r.d = true ∧ PyData.depth r.d ≤ 20 := by
      unfold RowP.d
      exact ⟨by simp [PyData.canLay0, PyData.canLayAll0, h1, h2, hi], by simp [PyData.depth, PyData.depthAll, hi]⟩
    exact ⟨by rw [List.map_cons]; simp [PyData.canLayAll0, d.1, i1], by rw [List.map_cons]; simp [PyData.depthAll]; omega⟩
theorem rows_good {E : List RowP} (h : ∀ r ∈ E, OkRow r) : Good (.list (E.map RowP.d)) := by
  obtain ⟨h1, h2⟩ := rows_lay h
  unfold Good
  exact ⟨by simpa [PyData.canLay0] using h1, by simp [PyData.depth]; omega⟩
theorem filter_key : ∀ {E : List RowP}, (E.map RowP.k).Nodup → ∀ x : Str × Int, E.filter (fun y => decide (y.k = x)) = (rowOf E x).toList
  | [], _, _ => rfl
  | r :: E, nd, x => by
    rw [List.map_cons, List.nodup_cons] at nd
    unfold rowOf
    rw [List.find?_cons, List.filter_cons]
    by_cases z : r.k = x
    · rw [decide_eq_true z, if_pos rfl]
      have e : E.filter (fun y => decide (y.k = x)) = [] := by
        rw [List.filter_eq_nil_iff]
        intro y hy hk
        exact nd.1 (List.mem_map.mpr ⟨y, hy, by rw [of_decide_eq_true hk, z]⟩)
      rw [e]
      rfl
    · rw [decide_eq_false z, if_neg (by decide)]
      exact filter_key nd.2 x
theorem keyU_nd {E : List RowP} (nd : (E.map RowP.k).Nodup) : KeyU E := by
  intro y hy z hz e
  obtain ⟨i, hi, ei⟩ := List.mem_iff_getElem.mp hy
  obtain ⟨j, hj, ej⟩ := List.mem_iff_getElem.mp hz
  have e1 : (E.map RowP.k)[i]? = (E.map RowP.k)[j]? := by
    rw [List.getElem?_map, List.getElem?_map, List.getElem?_eq_getElem hi, List.getElem?_eq_getElem hj, ei, ej]
    exact congrArg some e
  have ij : i = j := (List.getElem?_inj (by rw [List.length_map]; exact hi) nd).mp e1
  subst ij
  rw [← ei, ← ej]
/-- every table is what the one before reads, the first what the last reads -/
theorem cl_step {w : List RowP} : Cl w ↔ w ≠ [] ∧ ∀ (i : Nat) (r : RowP), w[i]? = some r → ∀ p, atI w ((i : Int) - 1) = some p → r.w = p.o := by
  cases w with
  | nil =>
    constructor
    · rintro ⟨a, l, e, _⟩
      cases e
    · rintro ⟨h, _⟩
      exact absurd rfl h
  | cons a l =>
    have hlast : ∃ q, (a :: l)[l.length]? = some q ∧ atI (a :: l) (((0 : Nat) : Int) - 1) = some q := by
      obtain ⟨q, hq⟩ : ∃ q, (a :: l)[l.length]? = some q := ⟨(a :: l)[l.length], List.getElem?_eq_getElem (by simp)⟩
      refine ⟨q, hq, ?_⟩
      have e : (a :: l) = (a :: l).take l.length ++ [q] := by
        have z := List.take_add_one (l := a :: l) (i := l.length)
        rw [hq] at z
        rw [← List.take_length (l := a :: l), List.length_cons, z]
        simp
      rw [e]
      exact atI_last _ _
    have hn : ∀ i : Nat, atI (a :: l) (((i + 1 : Nat) : Int) - 1) = (a :: l)[i]? ∨ (a :: l)[i]? = none := fun i => by
      cases e : (a :: l)[i]? with
      | none => exact .inr rfl
      | some p =>
        refine .inl ?_
        rw [show (((i + 1 : Nat) : Int) - 1) = (i : Nat) by omega]
        exact atI_nat e
    obtain ⟨q, q1, q2⟩ := hlast
    have W := wk_iff l a a.w a.w
    constructor
    · intro h
      refine ⟨by simp, fun i r hr p hp => ?_⟩
      have m := (W.mp (cl_head h)).2
      cases i with
      | zero =>
        rw [q2] at hp
        cases hp
        cases hr
        have z := congrArg (fun x => x[l.length]?) m
        simp only [List.getElem?_map, q1, Option.map_some] at z
        rw [List.getElem?_append_right (by simp)] at z
        simp at z
        exact z.symm
      | succ i =>
        have hp' : (a :: l)[i]? = some p := by
          rcases hn i with z | z
          · rw [← z]; exact hp
          · have : i + 1 < (a :: l).length := (List.getElem?_eq_some_iff.mp hr).1
            rw [List.getElem?_eq_none_iff] at z
            omega
        have hr' : l[i]? = some r := hr
        have z := congrArg (fun x => x[i]?) m
        simp only [List.getElem?_map, hp', Option.map_some] at z
        have il : i < l.length := (List.getElem?_eq_some_iff.mp hr').1
        rw [List.getElem?_append_left (by rw [List.length_map]; exact il), List.getElem?_map, hr'] at z
        exact (Option.some.inj z).symm
    · rintro ⟨_, h⟩
      refine ⟨a, l, rfl, W.mpr ⟨rfl, List.ext_getElem? fun i => ?_⟩⟩
      rw [List.getElem?_map]
      by_cases hi : i < l.length
      · have hr : (a :: l)[i + 1]? = some l[i] := by rw [List.getElem?_cons_succ, List.getElem?_eq_getElem hi]
        obtain ⟨p, hp⟩ : ∃ p, (a :: l)[i]? = some p := ⟨(a :: l)[i]'(by simp; omega), List.getElem?_eq_getElem (by simp; omega)⟩
        have hp2 : atI (a :: l) (((i + 1 : Nat) : Int) - 1) = some p := by
          rcases hn i with z | z
          · rw [z, hp]
          · rw [hp] at z
            cases z
        rw [hp, List.getElem?_append_left (by rw [List.length_map]; exact hi), List.getElem?_map, List.getElem?_eq_getElem hi]
        exact congrArg some (h _ _ hr p hp2).symm
      · by_cases he : i = l.length
        · subst he
          rw [q1, List.getElem?_append_right (by simp)]
          simp
          exact (h 0 a rfl q q2).symm
        · rw [List.getElem?_eq_none (by simp; omega), List.getElem?_eq_none (by simp; omega)]
          rfl
end Fr

namespace Fr
open PySem PySem.Spec PyProof.Rows L2
abbrev s_Ltotal : Stmt := topS 38
theorem sc_Ltotal : FnScope ["_law_some", "_law_axes", "_law_row", "_law_axis"] ["_law_some", "_law_axes"] (defScope s_Ltotal) := ⟨rfl, rfl, rfl, by decide +kernel, rfl, by decide +kernel, by decide +kernel⟩
-- slots: 0 _law_some, 1 _law_axes, 2 _law_row, 3 _law_axis
theorem ixN_prev {n i : Nat} (h : i < n) : ∃ j, ixN n ((i : Int) - 1) = some j ∧ j < n := by
  cases e : ixN n ((i : Int) - 1) with
  | none =>
    unfold ixN at e
    split at e <;> split at e <;> first | omega | cases e
  | some j => exact ⟨j, rfl, (ixN_seq e).2.1⟩
theorem row_prev {K : PySem.W.Frag} {H : Hp} {xs : List V} {rows : List RowP} {i : Nat} (h : DpAll K H xs (rows.map RowP.d)) (hi : i < rows.length) : ∃ y a b, atI rows ((i : Int) - 1) = some y ∧ atI xs ((i : Int) - 1) = some (.ref a) ∧ SqT K H a [.str y.w, .int (y.n : Int), .str y.o, .ref b] := by
  have len : xs.length = rows.length := by rw [dps_len h, List.length_map]
  obtain ⟨j, h1, h2⟩ := ixN_prev hi
  have e := List.getElem?_eq_getElem (l := xs) (i := j) (by omega)
  obtain ⟨y, a, b, r1, r2, r3, _⟩ := row_at h e
  refine ⟨y, a, b, ?_, ?_, r3⟩
  · unfold atI
    rw [h1]
    exact r1
  · unfold atI
    rw [len, h1]
    exact e.trans (congrArg some r2)
section
variable {P : Program} {w : World} {K : PySem.W.Frag} {mg : Str → Option Value} {base : Heap}
def spTot (K : PySem.W.Frag) : Sp := fun vs H Q _ => ∃ (l : Addr) (d : Int) (ws : List RowP) (xs : List V), vs = [.ref l, .int d] ∧ SqL K H l xs ∧ DpAll K H xs (ws.map RowP.d) ∧ 1 ≤ d ∧ d ≤ 3 ∧ (∀ r ∈ ws, (r.v.length : Int) = d) ∧ ws.length ≤ 1000 ∧ ∀ p H', Same H H' → H' p = some (.tup ((vsum d ws).map V.int)) → Q (.ref p) H'
theorem ok_tot {f : Addr} {fd : FuncData} (F : Fun K "_law_total" "_law_total" s_Ltotal f fd) (T : Txt mg) (zs : mg "sum" = none) : FnOk P w K mg base CX0 1 f fd ["_law_some", "_law_axes"] (spTot K) := by
  refine F.ok sc_Ltotal (fun vs H Q E h => ?_) (fun cdv A outer sh H vs Q E hr h => ?_)
  · obtain ⟨l, d, ws, xs, rfl, _⟩ := h
    rfl
  · obtain ⟨l, d, ws, xs, rfl, hl, hd, hd1, hd3, hv, few, q⟩ := h
    refine ⟨_, (pss_one (ps_ret (pe_callTy call_tuple_of (by rfl) T.b_tuple (by decide +kernel) (pa_cons (pe_lc (own := [("_law_axis", 3)]) (g := gName 3) (tt := tYes) (by rfl) sc_Ltotal.nd (pi_range1 (by rfl) T.b_range (pa_cons (pv 1) pa_nil)) (blkOk_by (N := ["_law_some", "_law_axes", "_law_row", "_law_axis"]) (sc := defScope s_Ltotal) (by decide +kernel)) (fun _ _ _ _ _ => (pg_name (i := 3) sc_Ltotal.nd rfl (by first | exact Or.inl rfl | exact Or.inr rfl))) (fun _ _ _ _ _ => pts_nil) (fun _ _ _ _ _ => (pe_callB (r := rSum K) (cr_sum rfl) (by rfl) zs (by decide +kernel) (pa_cons (pe_lc (own := [("_law_row", 2)]) (g := gName 2) (tt := tYes) (by rfl) sc_Ltotal.nd (pi_listK (K' := K) (pv 0)) (blkOk_by (N := ["_law_some", "_law_axes", "_law_row", "_law_axis"]) (sc := { kind := .function, names := [(".0", .local), ("_law_axis", .cell), ("sum", .globalImplicit), ("_law_some", .cell)], isGenerator := false, isCoroutine := false }) (by decide +kernel)) (fun _ _ _ _ _ => (pg_name (i := 2) sc_Ltotal.nd rfl (by first | exact Or.inl rfl | exact Or.inr rfl))) (fun _ _ _ _ _ => pts_nil) (fun _ _ _ _ _ => (pe_ix (r := rIxT K) ix_tup (pe_ix (r := rIxT K) ix_tup (pv 2) pe_int (fun _ _ => rfl)) (pv 3) (fun _ _ => rfl)))) pa_nil)))) pa_nil)))), ?_⟩
    have xl : xs.length = ws.length := by rw [dps_len hd, List.length_map]
    refine ⟨_, rfl, d, rfl, by omega, by omega, fun D hD => ?_⟩
    refine lc_it walk_range (fun k H' => H' D = some (.lst (((List.range k).map fun k => asum k ws).map V.int)) ∧ Same H H') ⟨upd_same, snew hD⟩ (fun _ _ _ _ => True.intro) ?_ ?_
    · rintro k y _ H3 hk3 ⟨c2, c3⟩ ⟨rfl, rfl⟩
      refine ⟨rfl, yes_if ?_⟩
      have hl3 := sql c3 hl
      have hd3' := dpsm c3 _ _ hd
      refine ⟨_, rfl, l, rfl, ⟨_, hl3⟩, fun D2 hD2 => ?_⟩
      have nDD : D ≠ D2 := ne_of_none c2 hD2
      refine lc_it (walk_list (K := K) (a := l) (xs := xs)) (fun j H' => H' D2 = some (.lst (((ws.take j).map fun r => r.v.getD k 0).map V.int)) ∧ H' D = some (.lst (((List.range k).map fun k => asum k ws).map V.int)) ∧ Same H3 H') ⟨upd_same, by rw [upd_ne nDD]; exact c2, snew hD2⟩ (fun j H' _ ⟨_, _, b⟩ => sql b hl3) ?_ ?_
      · rintro j y _ H4 hj ⟨e2, e3, e4⟩ ⟨rfl, hy⟩
        obtain ⟨r, a, b, hr1, rfl, ta, tb⟩ := row_at (dpsm e4 _ _ hd3') hy
        refine ⟨rfl, yes_if ?_⟩
        have len := hv r (List.mem_of_getElem? hr1)
        obtain ⟨n, n1, n2⟩ := at_nat2 (v := r.v) (k := k) (by omega)
        refine ⟨_, rfl, a, _, 3, _, rfl, rfl, ta, rfl, _, rfl, b, _, _, _, rfl, rfl, tb, n2, _, e2, small1000 (by rw [List.length_map, List.length_map, List.length_take]; omega), ?_, by rw [upd_ne nDD]; exact e3, swrite e4 hD2⟩
        have en : r.v.getD k 0 = n := by rw [List.getD_eq_getElem?_getD, n1]; rfl
        rw [upd_same, List.take_add_one, hr1, List.map_append, List.map_append, ← en]
        rfl
      · rintro H4 ⟨e2, e3, e4⟩
        rw [xl, List.take_length] at e2
        refine ⟨D2, _, rfl, Or.inl (Or.inl e2), _, e3, small1000 (by rw [List.length_map, List.length_map, List.length_range]; omega), ?_, swrite (same_tr c3 e4) hD⟩
        rw [upd_same, List.range_succ, List.map_append, List.map_append]
        rfl
    · rintro H3 ⟨c2, c3⟩
      refine ⟨D, _, rfl, Or.inl ⟨Or.inl (Or.inl c2), fun l hl => ?_⟩⟩
      exact q l _ (same_tr c3 (snew hl)) upd_same
end
end Fr

namespace Fr
open PySem PySem.Spec PyProof.Rows L2
theorem wk_tip {s e : Str} {i : List RowP} {y : RowP} (h : Wk s (i ++ [y]) e) : e = y.o := by
  obtain ⟨m, _, h2⟩ := wk_app.mp h
  exact h2.2.symm
/-- a walk from the table t that the law goes on with -/
def Op (E : List RowP) (t : Str) (w : List RowP) : Prop := (∀ r ∈ w, r ∈ E) ∧ (w.map (·.w)).Nodup ∧ (∃ e, Wk t w e) ∧ ∃ a l, w = a :: l ∧ a.w = t ∧ ∀ r ∈ l, sLt t r.w
theorem op_one {E : List RowP} {r : RowP} (h : r ∈ E) : Op E r.w [r] :=
  ⟨fun y hy => by rw [List.mem_singleton.mp hy]; exact h, by simp, ⟨r.o, rfl, rfl⟩, r, [], rfl, rfl, fun y hy => by cases hy⟩
theorem Op.last {E : List RowP} {t : Str} {w : List RowP} (h : Op E t w) : ∃ i y, w = i ++ [y] := by
  obtain ⟨_, _, _, a, l, rfl, _⟩ := h
  exact ⟨(a :: l).dropLast, (a :: l).getLast (by simp), (List.dropLast_concat_getLast (by simp)).symm⟩
theorem op_close {E : List RowP} {t : Str} {i : List RowP} {y : RowP} (h : Op E t (i ++ [y])) (e : y.o = t) : Cyc E (i ++ [y]) := by
  obtain ⟨h1, h2, ⟨m, h3⟩, a, l, h4, h5, h6⟩ := h
  have em := wk_tip h3
  rw [em, e] at h3
  exact ⟨cl_wk (by simp) h3, h1, h2, a, l, h4, fun r hr => by rw [h5]; exact h6 r hr⟩
theorem op_more {E : List RowP} {t : Str} {i : List RowP} {y r : RowP} (h : Op E t (i ++ [y])) (hr : r ∈ E) (e : r.w = y.o) (lt : sLt t y.o) (new : y.o ∉ (i ++ [y]).map (·.w)) : Op E t (i ++ [y] ++ [r]) := by
  obtain ⟨h1, h2, ⟨m, h3⟩, a, l, h4, h5, h6⟩ := h
  have em := wk_tip h3
  refine ⟨fun x hx => ?_, ?_, ⟨r.o, wk_app.mpr ⟨m, h3, by rw [em, e], rfl⟩⟩, a, l ++ [r], by rw [h4]; rfl, h5, fun x hx => ?_⟩
  · rcases List.mem_append.mp hx with z | z
    · exact h1 x z
    · rw [List.mem_singleton.mp z]; exact hr
  · rw [List.map_append]
    refine List.nodup_append.mpr ⟨h2, by simp, fun x hx z hz => ?_⟩
    rw [List.map_singleton, List.mem_singleton] at hz
    rw [hz, e]
    intro q
    rw [q] at hx
    exact new hx
  · rcases List.mem_append.mp hx with z | z
    · exact h6 x z
    · rw [List.mem_singleton.mp z, e]; exact lt
/-- u goes on from w -/
def Pre (w u : List RowP) : Prop := ∃ v, u = w ++ v
theorem op_whole {E : List RowP} {t : Str} {i : List RowP} {y : RowP} {u : List RowP} (h : Op E t (i ++ [y])) (e : y.o = t) (hu : Cyc E u) (p : Pre (i ++ [y]) u) : u = i ++ [y] := by
  obtain ⟨v, rfl⟩ := p
  obtain ⟨h1, h2, ⟨m, h3⟩, a, l, h4, h5, h6⟩ := h
  cases v with
  | nil => rw [List.append_nil]
  | cons r v =>
    obtain ⟨⟨b, n, eb, wk⟩, _, nd, _⟩ := hu
    rw [h4] at eb
    have eab : a = b := by injection eb
    subst eab
    rw [h5] at wk
    obtain ⟨k, k1, k2⟩ := wk_app.mp wk
    have : k = y.o := wk_tip k1
    have e2 : r.w = t := by rw [← e, ← this]; exact k2.1.symm
    rw [h4, List.map_append, List.map_cons, List.map_cons] at nd
    have := (List.nodup_append.mp nd).2.2 a.w (by simp) r.w (by simp)
    exact absurd (h5.trans e2.symm) this
theorem op_next {E : List RowP} {t : Str} {i : List RowP} {y : RowP} {u : List RowP} (h : Op E t (i ++ [y])) (e : y.o ≠ t) (hu : Cyc E u) (p : Pre (i ++ [y]) u) :
    sLt t y.o ∧ y.o ∉ (i ++ [y]).map (·.w) ∧ ∃ r ∈ E, r.w = y.o ∧ Pre (i ++ [y] ++ [r]) u := by
  obtain ⟨v, rfl⟩ := p
  obtain ⟨h1, h2, ⟨m, h3⟩, a, l, h4, h5, h6⟩ := h
  obtain ⟨⟨b, n, eb, wk⟩, hE, nd, c, k, ec, hk⟩ := hu
  have eb' := eb
  rw [h4] at eb'
  have eab : a = b := by injection eb'
  subst eab
  rw [h5] at wk
  cases v with
  | nil =>
    rw [List.append_nil] at wk
    exact absurd (wk_tip wk).symm e
  | cons r v =>
    obtain ⟨z, k1, k2⟩ := wk_app.mp wk
    have ez : z = y.o := wk_tip k1
    have e2 : r.w = y.o := by rw [← ez]; exact k2.1.symm
    have eac : a = c ∧ l ++ r :: v = k := by
      rw [h4] at ec
      injection ec with g1 g2
      exact ⟨g1, g2⟩
    obtain ⟨rfl, rfl⟩ := eac
    refine ⟨?_, ?_, r, hE r (by simp), e2, v, by simp⟩
    · rw [← e2, ← h5]
      exact hk r (by simp)
    · rw [← e2]
      intro q
      rw [List.map_append] at nd
      exact (List.nodup_append.mp nd).2.2 _ q r.w (by simp) rfl
theorem cyc_start {E : List RowP} {u : List RowP} (hu : Cyc E u) : ∃ r l, u = r :: l ∧ r ∈ E ∧ Pre [r] u := by
  obtain ⟨⟨a, l, rfl, _⟩, hE, _⟩ := hu
  exact ⟨a, l, rfl, hE a (by simp), l, rfl⟩
theorem op_len {E : List RowP} {t : Str} {w : List RowP} {T : List Str} (h : Op E t w) (ht : ∀ r ∈ E, r.w ∈ T) : w.length ≤ T.length := by
  have := length_le_of_nodup_of_subset (w.map (·.w)) T h.2.1 fun x hx => by
    obtain ⟨r, hr, rfl⟩ := List.mem_map.mp hx
    exact ht r (h.1 r hr)
  rw [List.length_map] at this
  exact this
def wt (w : List RowP) : Nat := 13 ^ (6 - w.length)
def wts (ws : List (List RowP)) : Nat := (ws.map wt).sum
theorem wt_pos (w : List RowP) : 1 ≤ wt w := Nat.one_le_pow _ _ (by decide)
theorem wts_len : ∀ ws : List (List RowP), ws.length ≤ wts ws
  | [] => Nat.le_refl _
  | w :: ws => by
    have h := wts_len ws
    have p := wt_pos w
    unfold wts at h ⊢
    rw [List.map_cons, List.sum_cons, List.length_cons]
    omega
theorem wts_app (a b : List (List RowP)) : wts (a ++ b) = wts a + wts b := by
  unfold wts
  rw [List.map_append, List.sum_append]
theorem wts_more {w : List RowP} {l : List RowP} (hw : w.length + 1 ≤ 6) (hl : l.length ≤ 12) : wts (l.map fun r => w ++ [r]) + 1 ≤ wt w := by
  have e : ∀ l : List RowP, wts (l.map fun r => w ++ [r]) = l.length * 13 ^ (5 - w.length) := by
    intro l
    induction l with
    | nil => simp [wts]
    | cons r l ih =>
      unfold wts at ih ⊢
      rw [List.map_cons, List.map_cons, List.sum_cons, ih, List.length_cons, Nat.add_mul, Nat.one_mul, Nat.add_comm]
      unfold wt
      rw [List.length_append, List.length_singleton, show 6 - (w.length + 1) = 5 - w.length by omega]
  rw [e]
  unfold wt
  rw [show 6 - w.length = (5 - w.length) + 1 by omega, Nat.pow_succ]
  have p : 1 ≤ 13 ^ (5 - w.length) := Nat.one_le_pow _ _ (by decide)
  have q : l.length * 13 ^ (5 - w.length) ≤ 12 * 13 ^ (5 - w.length) := Nat.mul_le_mul_right _ hl
  omega
/-- the rows of tables -/
def cntR (E : List RowP) (ys : List Str) : Nat := (ys.map fun t => (E.filter fun r => decide (r.w = t)).length).sum
theorem cntR_le : ∀ (E : List RowP) (ys : List Str), ys.Nodup → cntR E ys ≤ E.length
  | [], ys, _ => by
    have : cntR [] ys = 0 := by
      unfold cntR
      induction ys with
      | nil => rfl
      | cons y ys ih => rw [List.map_cons, List.sum_cons, ih (by simp_all)]; rfl
    omega
  | r :: E, ys, nd => by
    have h := cntR_le E ys nd
    have step : ∀ ys : List Str, ys.Nodup → cntR (r :: E) ys ≤ cntR E ys + 1 ∧ (r.w ∉ ys → cntR (r :: E) ys = cntR E ys) := by
      intro ys nd
      induction ys with
      | nil => exact ⟨Nat.zero_le _, fun _ => rfl⟩
      | cons y ys ih =>
        rw [List.nodup_cons] at nd
        obtain ⟨i1, i2⟩ := ih nd.2
        have u : ∀ F : List RowP, cntR F (y :: ys) = (F.filter fun r => decide (r.w = y)).length + cntR F ys := fun F => by
          unfold cntR
          rw [List.map_cons, List.sum_cons]
        rw [u, u, List.filter_cons]
        by_cases z : r.w = y
        · rw [decide_eq_true z, if_pos rfl, List.length_cons, i2 (by rw [z]; exact nd.1)]
          exact ⟨by omega, fun n => absurd (by rw [z]; exact List.mem_cons_self) n⟩
        · rw [decide_eq_false z, if_neg (by decide)]
          refine ⟨by omega, fun n => ?_⟩
          rw [i2 fun m => n (List.mem_cons_of_mem _ m)]
    have := (step ys nd).1
    rw [List.length_cons]
    omega
theorem cntR_snoc (E : List RowP) (ys : List Str) (t : Str) : cntR E (ys ++ [t]) = cntR E ys + (E.filter fun r => decide (r.w = t)).length := by
  unfold cntR
  rw [List.map_append, List.sum_append]
  simp
theorem wts_ones (l : List RowP) : wts (l.map fun r => [r]) = l.length * 13 ^ 5 := by
  induction l with
  | nil => simp [wts]
  | cons r l ih =>
    unfold wts at ih ⊢
    rw [List.map_cons, List.map_cons, List.sum_cons, ih, List.length_cons, Nat.add_mul, Nat.one_mul, Nat.add_comm]
    rfl
/-- a list of rows as data -/
def wkD (w : List RowP) : PyData := .list (w.map RowP.d)
theorem row_last {K : PySem.W.Frag} {H : Hp} {xs : List V} {i : List RowP} {y : RowP} (h : DpAll K H xs ((i ++ [y]).map RowP.d)) : ∃ a b, atI xs (-1) = some (.ref a) ∧ SqT K H a [.str y.w, .int (y.n : Int), .str y.o, .ref b] := by
  have len : xs.length = i.length + 1 := by rw [dps_len h, List.length_map, List.length_append]; rfl
  have e := List.getElem?_eq_getElem (l := xs) (i := i.length) (by omega)
  obtain ⟨r, a, b, r1, r2, r3, _⟩ := row_at h e
  have er : r = y := by
    rw [List.getElem?_append_right (Nat.le_refl _)] at r1
    simp at r1
    exact r1.symm
  subst er
  refine ⟨a, b, ?_, r3⟩
  have ex : xs = xs.take i.length ++ [.ref a] := by
    have z := List.take_add_one (l := xs) (i := i.length)
    rw [e, r2, Option.toList_some, ← len, List.take_length] at z
    exact z
  rw [ex]
  exact atI_last _ _
end Fr

namespace Fr
open PySem PySem.Spec PyProof.Rows L2
abbrev s_Lcycles : Stmt := topS 39
theorem sc_Lcycles : FnScope ["_law_rows_here", "_law_found", "_law_title", "_law_row", "_law_waiting", "_law_some", "_law_here"] ["_law_rows_here"] (defScope s_Lcycles) := ⟨rfl, rfl, rfl, by decide +kernel, rfl, by decide +kernel, by decide +kernel⟩
-- slots: 0 _law_rows_here, 1 _law_found, 2 _law_title, 3 _law_row, 4 _law_waiting, 5 _law_some, 6 _law_here
theorem new_base {B H : Hp} {u : Addr} {o : HO} (s : Same B H) (hu : H u = none) : Same B (upd B u o) ∧ Same (upd B u o) (upd H u o) ∧ (upd B u o) u = some o ∧ ∀ p, (∃ x, H p = some x) → B p = none → (upd B u o) p = none :=
  ⟨snew (free_of s hu), sgrow s, upd_same, fun p ⟨x, hp⟩ hb => by
    rw [upd_ne fun z => by rw [z, hu] at hp; cases hp]
    exact hb⟩
theorem wks_shaped {E : List RowP} {ws : List (List RowP)} (okE : ∀ r ∈ E, OkRow r) (h : ∀ w ∈ ws, ∀ r ∈ w, r ∈ E) : SeqAt.shaped (.list (ws.map wkD)) = true := shaped_list fun d hd => by
  obtain ⟨w, hw, rfl⟩ := List.mem_map.mp hd
  exact rows_good fun r hr => okE r (h w hw r hr)
/-- list + list, read where they are -/
def rCatLS (K : PySem.W.Frag) : R2 := fun x y H Q => ∃ l b xs zs, x = .ref l ∧ y = .ref b ∧ SqL K H l xs ∧ SqL K H b zs ∧ xs.length + zs.length ≤ sizeLine ∧ ∀ p, H p = none → Q (.ref p) (upd H p (.lst (xs ++ zs)))
theorem op_catL {X : Cx} : OpR X (binaryOp .Add) (rCatLS X.K) := by
  intro pins s σ H x y v u Q I rx ry h
  obtain ⟨l, b, xs, zs, rfl, rfl, hl, hb, hz, q⟩ := h
  cases rx
  cases ry
  obtain ⟨its, r1, p1, _⟩ := I.list hl
  obtain ⟨jts, r2, p2, _⟩ := I.list hb
  obtain ⟨⟨cls, dd, data, sl⟩, ho, hc, n, hd⟩ := p1.isList
  obtain ⟨⟨cls2, dd2, data2, sl2⟩, ho2, hc2, n2, hd2⟩ := p2.isList
  simp only at hc hd hc2 hd2
  subst hc hd hc2 hd2
  have len : its.length + jts.length ≤ sizeLine := by rw [← r1.length, ← r2.length]; exact hz
  refine concat_meets ⟨_, ho, rfl⟩ ⟨_, ho2, rfl⟩ noFill_list_add seq_list_add PySem.F.slot_list_add PySem.F.entry_list_add (PySem.F.args_list_add_2 _ _) (list_addW l b its.toArray jts.toArray n n2 dd dd2 sl sl2 (by simpa using len)) ⟨ho, ho2, ?_⟩
  have e : its.toArray ++ jts.toArray = (its ++ jts).toArray := by simp
  rw [e]
  exact ⟨.ref _, _, I.lnew (t' := s.toks) (r1.append r2) (by rw [List.length_append]; omega), rfl, q _ I.fresh⟩
theorem dps_last {K : PySem.W.Frag} {H : Hp} {d : PyData} : ∀ {ds : List PyData} {xs : List V}, DpAll K H xs (ds ++ [d]) → ∃ ys y, xs = ys ++ [y] ∧ DpAll K H ys ds ∧ Dp K H y d
  | [], _, h => by
    cases h with
    | cons h1 h2 => cases h2; exact ⟨[], _, rfl, .nil, h1⟩
  | _ :: ds, _, h => by
    cases h with
    | cons h1 h2 =>
      obtain ⟨ys, y, rfl, a, b⟩ := dps_last (ds := ds) h2
      exact ⟨_ :: ys, y, rfl, .cons h1 a, b⟩
section
variable {P : Program} {w : World} {K : PySem.W.Frag} {mg : Str → Option Value} {base : Heap}
def spCyc (K : PySem.W.Frag) : Sp := fun vs H Q _ => ∃ (l : Addr) (E : List RowP) (T : List Str), vs = [.ref l] ∧ LD K H l (E.map RowP.d) ∧ (∀ r ∈ E, OkRow r ∧ r.w ∈ T) ∧ E.length ≤ 12 ∧ T.length ≤ 6 ∧ ∀ p H' (cs : List (List RowP)), Same H H' → LD K H' p (cs.map wkD) → (∀ u, u ∈ cs ↔ Cyc E u) → cs.length ≤ 12 * 13 ^ 5 → Q (.ref p) H'
theorem ok_cyc {f : Addr} {fd : FuncData} (F : Fun K "_law_cycles" "_law_cycles" s_Lcycles f fd) (T : Txt mg) (zset : mg "set" = none) : FnOk P w K mg base CX0 1 f fd ["_law_rows_here"] (spCyc K) := by
  refine F.ok sc_Lcycles (fun vs H Q E h => ?_) (fun cdv A outer sh H vs Q E hr h => ?_)
  · obtain ⟨l, E, T, rfl, _⟩ := h
    rfl
  · obtain ⟨l, E, TT, rfl, ⟨es, hl, he⟩, okE, fewE, fewT, q⟩ := h
    refine ⟨_, (pss_cons (ps_set (i := 1) sc_Lcycles.nd rfl (by first | exact Or.inl rfl | exact Or.inr rfl) (pe_lst pa_nil))
  (pss_cons (ps_for PassesOwn.never rfl (pi_list (pe_callB (cr_sortSS rfl) (by rfl) T.b_sorted (by decide +kernel) (pa_cons (pe_callTy (cr_setS rfl) (by rfl) zset (by decide +kernel) (pa_cons (pe_lc (own := [("_law_row", 3)]) (g := gName 3) (tt := tYes) (by rfl) sc_Lcycles.nd (pi_list (pv 0)) (blkOk_by (N := ["_law_rows_here", "_law_found", "_law_title", "_law_row", "_law_waiting", "_law_some", "_law_here"]) (sc := defScope s_Lcycles) (by decide +kernel)) (fun _ _ _ _ _ => (pg_name (i := 3) sc_Lcycles.nd rfl (by first | exact Or.inl rfl | exact Or.inr rfl))) (fun _ _ _ _ _ => pts_nil) (fun _ _ _ _ _ => (pe_ix (r := rIxT K) ix_tup (pv 3) pe_int (fun _ _ => rfl)))) pa_nil)) pa_nil))) (pg_name (i := 2) sc_Lcycles.nd rfl (by first | exact Or.inl rfl | exact Or.inr rfl))
    (pss_cons (ps_setLc (i := 4) (own := [("_law_row", 3)]) (g := gName 3) (by rfl) sc_Lcycles.nd rfl rfl (sw_true rfl rfl rfl (by decide +kernel)) (pi_list (pv 0)) (blkOk_by (N := ["_law_rows_here", "_law_found", "_law_title", "_law_row", "_law_waiting", "_law_some", "_law_here"]) (sc := defScope s_Lcycles) (by decide +kernel)) (fun _ _ _ _ _ => (pg_name (i := 3) sc_Lcycles.nd rfl (by first | exact Or.inl rfl | exact Or.inr rfl))) (fun _ _ _ _ _ => (pts_one (pt_cmpR op_eq (pe_ix (r := rIxT K) ix_tup (pv 3) pe_int (fun _ _ => rfl)) (pv 2) (nomark _)))) (fun _ _ _ _ _ => (pe_lst (pa_cons (pv 3) pa_nil))))
    (pss_one (ps_while PassesOwn.never (pt_cmpR (op_neD hr.units) (pv 4) (pe_lst pa_nil) (nomark _))
      (pss_cons (ps_set (i := 5) sc_Lcycles.nd rfl (by first | exact Or.inl rfl | exact Or.inr rfl) (pe_bm0 PySem.F.plainAttrs_list PySem.F.slot_list_pop PySem.F.type_list_pop mt_pop (pv 4)))
      (pss_cons (ps_set (i := 6) sc_Lcycles.nd rfl (by first | exact Or.inl rfl | exact Or.inr rfl) (pe_ix ix_tup (pe_ix ix_list (pv 5) (pe_un un_neg pe_int) (fun _ _ => rfl)) pe_int (fun _ _ => rfl)))
      (pss_one (ps_if (pt_cmpR op_eq (pv 6) (pv 2) (nomark _))
        (pss_one (ps_expr (pe_bm PySem.F.plainAttrs_list PySem.F.slot_list_append PySem.F.type_list_append mt_append (pv 1) (pa_cons (pv 5) pa_nil))))
        (pss_one (ps_if (PW.pt (pw_and (pt_cmpR op_gt_str (pv 6) (pv 2) (nomark _)) (pw_and1 (pt_cmpR op_notIn_seq (pv 6) (pe_lc (own := [("_law_row", 3)]) (g := gName 3) (tt := tYes) (by rfl) sc_Lcycles.nd (pi_list (pv 5)) (blkOk_by (N := ["_law_rows_here", "_law_found", "_law_title", "_law_row", "_law_waiting", "_law_some", "_law_here"]) (sc := defScope s_Lcycles) (by decide +kernel)) (fun _ _ _ _ _ => (pg_name (i := 3) sc_Lcycles.nd rfl (by first | exact Or.inl rfl | exact Or.inr rfl))) (fun _ _ _ _ _ => pts_nil) (fun _ _ _ _ _ => (pe_ix (r := rIxT K) ix_tup (pv 3) pe_int (fun _ _ => rfl)))) (by rfl)))))
          (pss_one (ps_expr (pe_bm PySem.F.plainAttrs_list PySem.F.slot_list_extend PySem.F.type_list_extend mt_extend (pv 4) (pa_cons (pe_lc (own := [("_law_row", 3)]) (g := gName 3) (by rfl) sc_Lcycles.nd (pi_list (pv 0)) (blkOk_by (N := ["_law_rows_here", "_law_found", "_law_title", "_law_row", "_law_waiting", "_law_some", "_law_here"]) (sc := defScope s_Lcycles) (by decide +kernel)) (fun _ _ _ _ _ => (pg_name (i := 3) sc_Lcycles.nd rfl (by first | exact Or.inl rfl | exact Or.inr rfl))) (fun _ _ _ _ _ => (pts_one (pt_cmpR op_eq (pe_ix (r := rIxT K) ix_tup (pv 3) pe_int (fun _ _ => rfl)) (pv 6) (nomark _)))) (fun _ _ _ _ _ => (pe_op (r := rCatLS K) op_catL (pv 5) (pe_lst (pa_cons (pv 3) pa_nil))))) pa_nil))))
          pss_nil))))))))))
  (pss_one (ps_ret (pv 1))))), ?_⟩
    have z1 : 1 ≤ sizeLine := by decide
    have zb : 12 * 13 ^ 5 + 12 ≤ sizeLine := by decide
    have el : es.length = E.length := by rw [dps_len he, List.length_map]
    refine ⟨Nat.zero_le _, fun p0 hp0 => ?_⟩
    have s0 : Same H (upd H p0 (.lst [])) := snew hp0
    have h00 : (upd H p0 (.lst [])) p0 = some (.lst []) := upd_same
    generalize upd H p0 (.lst []) = H0 at s0 h00
    have hl0 := s0 _ _ hl
    have he0 := dpsm s0 _ _ he
    refine ⟨_, rfl, l, rfl, ⟨_, Or.inl (Or.inl hl0)⟩, fun D hD => ?_⟩
    refine lc_it (walk_list (K := K) (a := l) (xs := es)) (fun i H' => H' D = some (.lst (((E.take i).map (·.w)).map V.str)) ∧ Same H0 H') ⟨upd_same, snew hD⟩ (fun i H' _ ⟨_, s⟩ => Or.inl (Or.inl (s _ _ hl0))) ?_ ?_
    · rintro i x _ H1 hi ⟨e1, s1⟩ ⟨rfl, hy⟩
      obtain ⟨r, a, b, hr1, rfl, ta, tb⟩ := row_at (dpsm s1 _ _ he0) hy
      refine ⟨rfl, yes_if ⟨_, rfl, a, _, 0, _, rfl, rfl, ta, rfl, _, e1, small1000 (by rw [List.length_map, List.length_map, List.length_take]; omega), ?_, swrite s1 hD⟩⟩
      rw [upd_same, List.take_add_one, hr1, List.map_append, List.map_append]
      rfl
    · rintro H1 ⟨e1, s1⟩
      rw [el, List.take_length] at e1
      refine ⟨D, E.map (·.w), rfl, Or.inl (Or.inl e1), by rw [List.length_map]; omega, fun L ps nd hm hps => ?_⟩
      have sS : Same H1 (upd H1 ps (SetSO w ps L)) := snew hps
      have Llen : L.length ≤ 12 := by
        have := length_le_of_nodup_of_subset L (E.map (·.w)) nd fun a ha => (hm a).mp ha
        rw [List.length_map] at this
        omega
      refine ⟨ps, L, rfl, upd_same, by omega, fun ys p1 pm srt hp1 => ?_⟩
      have ynd : ys.Nodup := pm.nodup_iff.mpr nd
      have ymem : ∀ k, k ∈ ys ↔ k ∈ E.map (·.w) := fun k => pm.mem_iff.trans (hm k)
      have s2 : Same H0 (upd (upd H1 ps (SetSO w ps L)) p1 (.lst (ys.map V.str))) := same_tr s1 (same_tr sS (snew hp1))
      have hy1 : (upd (upd H1 ps (SetSO w ps L)) p1 (.lst (ys.map V.str))) p1 = some (.lst (ys.map V.str)) := upd_same
      have sH2 := same_tr s0 s2
      obtain ⟨u1, u2⟩ := base_add sH2 hy1
      have h02 := s2 _ _ h00
      have np : p0 ≠ p1 := ne_of_none (same_tr s1 sS _ _ h00) hp1
      have B0p : (upd H p1 (.lst (ys.map V.str))) p0 = none := by rw [upd_ne np]; exact hp0
      have B0y : (upd H p1 (.lst (ys.map V.str))) p1 = some (.lst (ys.map V.str)) := upd_same
      generalize upd H p1 (.lst (ys.map V.str)) = B0 at u1 u2 B0p B0y
      have hlB := u1 _ _ hl
      have heB := dpsm u1 _ _ he
      refine ⟨p1, rfl, ⟨_, Or.inl (Or.inl hy1)⟩, ?_⟩
      refine for_it (walk_list (K := K) (a := p1) (xs := ys.map V.str)) (fun i σ H' => ∃ y2 y3 y4 y5 y6, σ = [some (.ref l), some (.ref p0), y2, y3, y4, y5, y6] ∧ ∃ (B : Hp) (zs : List V) (fs : List (List RowP)), Same B0 B ∧ B p0 = none ∧ Same B H' ∧ H' p0 = some (.lst zs) ∧ DpAll K B zs (fs.map wkD) ∧ (∀ u ∈ fs, Cyc E u) ∧ (∀ u r v, Cyc E u → u = r :: v → r.w ∈ ys.take i → u ∈ fs) ∧ fs.length ≤ cntR E (ys.take i) * 13 ^ 5) ⟨none, none, none, none, none, rfl, B0, [], [], same_refl, B0p, u2, h02, .nil, (fun u hu => by cases hu), (fun u r v _ _ h => by simp at h), Nat.zero_le _⟩ (fun i σ H' _ ⟨_, _, _, _, _, _, B, _, _, b1, _, b3, _⟩ => Or.inl (Or.inl (b3 _ _ (b1 _ _ B0y)))) ?_ ?_
      · rintro i y σ _ H3 hi ⟨y2, y3, y4, y5, y6, rfl, B, zs, fs, b1, b2, b3, b4, b5, f1, f2, f3⟩ ⟨rfl, hy⟩
        rw [List.getElem?_map] at hy
        obtain ⟨t, ht, rfl⟩ := Option.map_eq_some_iff.mp hy
        have hl3 := b3 _ _ (b1 _ _ hlB)
        refine ⟨_, rfl, l, rfl, ⟨_, Or.inl (Or.inl hl3)⟩, fun qq hq => lc_fd (K := K) (fun B => B p0 = none) E RowP.d (fun r => wkD [r]) (fun r => decide (r.w = t)) (Or.inl (Or.inl hl3)) b3 b2 (dpsm b1 _ _ heB) (by omega) hq (fun x r B' H4 hr1 t1 t2 t3 t4 t5 ⟨_, eD⟩ dx R N hR hN => ⟨rfl, ?_⟩) ?_⟩
        · obtain ⟨y0, a, b, hr3, rfl, ta, tb⟩ : ∃ y a b, ([r] : List RowP)[0]? = some y ∧ x = .ref a ∧ SqT K H4 a [.str y.w, .int (y.n : Int), .str y.o, .ref b] ∧ SqT K H4 b (y.v.map V.int) := row_at (xs := [x]) (rows := [r]) (i := 0) (.cons (dpm t4 _ _ dx) .nil) rfl
          cases hr3
          refine ⟨_, rfl, a, _, 0, _, rfl, rfl, ta, rfl, _, rfl, rfl, _, rfl, ?_⟩
          have dec : decide (V.str r.w = V.str t) = decide (r.w = t) := decide_eq_decide.mpr ⟨fun z => V.str.inj z, fun z => by rw [z]⟩
          rw [dec]
          by_cases z : r.w = t
          · rw [decide_eq_true z]
            refine iteT ⟨_, rfl, z1, fun u hu => ?_⟩
            obtain ⟨n1, n2, n3, n4⟩ := new_base (o := .lst [.ref a]) t4 hu
            exact hR (decide_eq_true z) _ _ _ (snew hu) n1 (n4 _ ⟨_, eD⟩ t2) (n4 _ ⟨_, t5 _ _ b4⟩ t3) n2 (.lst (Or.inl (Or.inl n3)) (.cons (dpm n1 _ _ dx) .nil))
          · rw [decide_eq_false z]
            exact iteF (hN (decide_eq_false z) _ same_refl)
        · intro H4 B1 wv c1 c2 c3 c4 c5 c6 c7
          have tnew : t ∉ ys.take i := fun m => by
            obtain ⟨j, hj, e⟩ := List.mem_take_iff_getElem.mp m
            have e2 : ys[j]? = ys[i]? := by rw [ht, List.getElem?_eq_getElem (by omega), e]
            have := (List.getElem?_inj (by omega) ynd).mp e2
            omega
          have tk : ys.take (i + 1) = ys.take i ++ [t] := by rw [List.take_add_one, ht]; rfl
          have cN : cntR E (ys.take (i + 1)) = cntR E (ys.take i) + (E.filter fun r => decide (r.w = t)).length := by rw [tk, cntR_snoc]
          have s04 := same_tr b1 c1
          have hlB1 := s04 _ _ hlB
          have heB1 := dpsm s04 _ _ heB
          have hyB1 := s04 _ _ B0y
          refine ⟨fun m σ H' => ∃ y3 y5 y6, σ = [some (.ref l), some (.ref p0), some (.str t), y3, some (.ref qq), y5, y6] ∧ ∃ (B : Hp) (zs wv : List V) (fs ws : List (List RowP)), Same B1 B ∧ B p0 = none ∧ B qq = none ∧ Same B H' ∧ H' p0 = some (.lst zs) ∧ H' qq = some (.lst wv) ∧ DpAll K B zs (fs.map wkD) ∧ DpAll K B wv (ws.map wkD) ∧ (∀ u ∈ fs, Cyc E u) ∧ (∀ u r v, Cyc E u → u = r :: v → r.w ∈ ys.take i → u ∈ fs) ∧ (∀ u r v, Cyc E u → u = r :: v → r.w = t → u ∈ fs ∨ ∃ w ∈ ws, Pre w u) ∧ (∀ w ∈ ws, Op E t w) ∧ m = wts ws ∧ fs.length + wts ws ≤ cntR E (ys.take (i + 1)) * 13 ^ 5, ⟨_, y3, y5, y6, rfl, B1, zs, wv, fs, (E.filter fun r => decide (r.w = t)).map fun r => [r], same_refl, c3, c2, c4, c5 _ _ b4, c6, dpsm c1 _ _ b5, by rw [List.map_map]; exact c7, f1, f2, fun u r v hu e hr => ?_, fun w hw => ?_, rfl, ?_⟩, ?_⟩
          · obtain ⟨r', l', e', hr', pr⟩ := cyc_start hu
            rw [e] at e'
            injection e' with g1 g2
            subst g1
            exact .inr ⟨[r], List.mem_map.mpr ⟨r, List.mem_filter.mpr ⟨hr', decide_eq_true hr⟩, rfl⟩, pr⟩
          · obtain ⟨r, hr, rfl⟩ := List.mem_map.mp hw
            obtain ⟨h1, h2⟩ := List.mem_filter.mp hr
            have := op_one h1
            rw [of_decide_eq_true h2] at this
            exact this
          · rw [wts_ones, cN, Nat.add_mul]
            omega
          · rintro m σ H5 ⟨y3, y5, y6, rfl, B, zs, wv, fs, ws, d1, d2, d3, d4, d5, d6, d7, d8, g1, g2, g3, g4, rfl, g5⟩
            refine ⟨_, rfl, Nat.zero_le _, fun p2 hp2 => ?_⟩
            have n2 := snew (o := .lst []) hp2
            have shn : SeqAt.shaped (.list []) = true := shaped_list fun d hd => by cases hd
            refine ⟨_, _, .lst (Or.inl (Or.inl (n2 _ _ d6))) (dpsm (same_tr d4 n2) _ _ d8), .lst (Or.inl (Or.inl upd_same)) .nil, wks_shaped (fun r hr => (okE r hr).1) (fun w hw => (g4 w hw).1), shn, _, rfl, ?_⟩
            rw [eqv_nil]
            have s5 := same_tr d4 n2
            have d5' := n2 _ _ d5
            have d6' := n2 _ _ d6
            generalize upd H5 p2 (.lst []) = H6 at s5 d5' d6' ⊢
            rcases List.eq_nil_or_concat ws with rfl | ⟨ws', w, rfl⟩
            · refine iteF ⟨_, _, _, _, _, rfl, B, zs, fs, same_tr s04 d1, d2, s5, d5', d7, g1, fun u r v hu e hr => ?_, by unfold wts at g5; simpa using g5⟩
              rw [tk] at hr
              rcases List.mem_append.mp hr with z | z
              · exact g2 u r v hu e z
              · rcases g3 u r v hu e (List.mem_singleton.mp z) with z | ⟨w, hw, _⟩
                · exact z
                · cases hw
            · rw [List.concat_eq_append] at *
              have emp : ((ws' ++ [w]).map wkD).isEmpty = false := by simp
              rw [emp]
              have opw := g4 w (by simp)
              obtain ⟨ii, x, hx⟩ := opw.last
              rw [List.map_append, List.map_singleton] at d8
              obtain ⟨vs, y, rfl, d81, d82⟩ := dps_last d8
              obtain ⟨b, ws2, rfl, hb, hw2⟩ := dlst d82
              have wlen : w.length ≤ 6 := Nat.le_trans (op_len opw fun r hr => (okE r hr).2) fewT
              have wsum : wts (ws' ++ [w]) = wts ws' + wt w := by
                rw [wts_app]
                simp [wts]
              refine iteT ⟨_, fun σ' H' h => h, ?_⟩
              refine ⟨_, rfl, Or.inl ⟨rfl, _, Or.inl (Or.inl d6')⟩, qq, _, .ref b, rfl, rfl, d6', by rw [List.length_append]; simp, ?_⟩
              rw [List.dropLast_concat]
              have s7 : Same B (upd H6 qq (.lst vs)) := swrite s5 d3
              have npq : p0 ≠ qq := ne_of_none b4 hq
              have h7p : (upd H6 qq (.lst vs)) p0 = some (.lst zs) := by rw [upd_ne npq]; exact d5'
              have h7q : (upd H6 qq (.lst vs)) qq = some (.lst vs) := upd_same
              generalize upd H6 qq (.lst vs) = H7 at s7 h7p h7q
              have hw2' := hw2
              rw [hx] at hw2'
              obtain ⟨a, b', x1, x2⟩ := row_last hw2'
              refine ⟨_, rfl, 1, rfl, b, ws2, _, _, rfl, rfl, sql s7 hb, x1, a, _, 2, _, rfl, rfl, sqt s7 x2, rfl, ?_⟩
              refine ⟨_, rfl, _, rfl, rfl, _, rfl, ?_⟩
              have dec : decide (V.str x.o = V.str t) = decide (x.o = t) := decide_eq_decide.mpr ⟨fun z => V.str.inj z, fun z => by rw [z]⟩
              rw [dec]
              have wtp := wt_pos w
              by_cases z : x.o = t
              · rw [decide_eq_true z]
                have cw : Cyc E w := by
                  rw [hx] at opw ⊢
                  exact op_close opw z
                have flen : fs.length + 1 ≤ 12 * 13 ^ 5 := by
                  have k1 := cntR_le E (ys.take (i + 1)) (ynd.sublist (List.take_sublist _ _))
                  have k2 : cntR E (ys.take (i + 1)) * 13 ^ 5 ≤ 12 * 13 ^ 5 := Nat.mul_le_mul_right _ (Nat.le_trans k1 fewE)
                  omega
                have zl : zs.length = fs.length := by rw [dps_len d7, List.length_map]
                refine iteT ⟨_, rfl, Or.inl ⟨rfl, _, Or.inl (Or.inl h7p)⟩, _, rfl, p0, zs, _, rfl, rfl, h7p, by omega, ?_⟩
                refine ⟨wts ws', by omega, y3, _, _, rfl, B, zs ++ [.ref b], vs, fs ++ [w], ws', d1, d2, d3, swrite s7 d2, upd_same, by rw [upd_ne npq.symm]; exact h7q, by rw [List.map_append]; exact dps_put d7 d82, d81, fun u hu => ?_, fun u r v hu e hr => List.mem_append_left _ (g2 u r v hu e hr), fun u r v hu e hr => ?_, fun w' hw' => g4 w' (List.mem_append_left _ hw'), rfl, by rw [List.length_append, List.length_singleton]; omega⟩
                · rcases List.mem_append.mp hu with k | k
                  · exact g1 u k
                  · rw [List.mem_singleton.mp k]
                    exact cw
                · rcases g3 u r v hu e hr with k | ⟨w', hw', pw⟩
                  · exact .inl (List.mem_append_left _ k)
                  · rcases List.mem_append.mp hw' with k | k
                    · exact .inr ⟨w', k, pw⟩
                    · rw [List.mem_singleton.mp k] at pw
                      refine .inl (List.mem_append_right _ (List.mem_singleton.mpr ?_))
                      rw [hx] at opw pw ⊢
                      exact op_whole opw z hu pw
              · rw [decide_eq_false z]
                refine iteF ?_
                -- what happens when nothing is put in
                have stay : (sLt t x.o → x.o ∈ w.map (·.w)) → ∀ H' y3' y5' y6', Same B H' → H' p0 = some (.lst zs) → H' qq = some (.lst vs) → ∃ m', m' < wts (ws' ++ [w]) ∧ ∃ y3 y5 y6, ([some (V.ref l), some (V.ref p0), some (V.str t), y3', some (V.ref qq), y5', y6'] : List (Option V)) = [some (V.ref l), some (V.ref p0), some (V.str t), y3, some (V.ref qq), y5, y6] ∧ ∃ (B : Hp) (zs wv : List V) (fs ws : List (List RowP)), Same B1 B ∧ B p0 = none ∧ B qq = none ∧ Same B H' ∧ H' p0 = some (.lst zs) ∧ H' qq = some (.lst wv) ∧ DpAll K B zs (fs.map wkD) ∧ DpAll K B wv (ws.map wkD) ∧ (∀ u ∈ fs, Cyc E u) ∧ (∀ u r v, Cyc E u → u = r :: v → r.w ∈ ys.take i → u ∈ fs) ∧ (∀ u r v, Cyc E u → u = r :: v → r.w = t → u ∈ fs ∨ ∃ w ∈ ws, Pre w u) ∧ (∀ w ∈ ws, Op E t w) ∧ m' = wts ws ∧ fs.length + wts ws ≤ cntR E (ys.take (i + 1)) * 13 ^ 5 := fun no H' y3' y5' y6' k1 k2 k3 => by
                  refine ⟨wts ws', by omega, y3', y5', y6', rfl, B, zs, vs, fs, ws', d1, d2, d3, k1, k2, k3, d7, d81, g1, g2, fun u r v hu e hr => ?_, fun w' hw' => g4 w' (List.mem_append_left _ hw'), rfl, by omega⟩
                  rcases g3 u r v hu e hr with k | ⟨w', hw', pw⟩
                  · exact .inl k
                  · rcases List.mem_append.mp hw' with k | k
                    · exact .inr ⟨w', k, pw⟩
                    · rw [List.mem_singleton.mp k] at pw
                      rw [hx] at opw pw no
                      obtain ⟨q1, q2, _⟩ := op_next opw z hu pw
                      exact absurd (no q1) q2
                refine ⟨_, rfl, _, rfl, x.o, t, rfl, rfl, _, rfl, ?_⟩
                by_cases lt : t.cps.toList < x.o.cps.toList
                · rw [decide_eq_true lt]
                  refine iteT ?_
                  have wl2 : ws2.length = w.length := by rw [dps_len hw2, List.length_map]
                  refine ⟨_, rfl, _, rfl, b, rfl, ⟨_, sql s7 hb⟩, fun D9 hD9 => lc_it (walk_list (K := K) (a := b) (xs := ws2)) (fun j H' => H' D9 = some (.lst (((w.take j).map (·.w)).map V.str)) ∧ Same H7 H') ⟨upd_same, snew hD9⟩ (fun j H' _ ⟨_, s⟩ => sql (same_tr s7 s) hb) ?_ ?_⟩
                  · rintro j y _ H8 hj ⟨e1, s1⟩ ⟨rfl, hy⟩
                    obtain ⟨r, ra, rb, hr1, rfl, ta, tb⟩ := row_at (dpsm (same_tr s7 s1) _ _ hw2) hy
                    refine ⟨rfl, yes_if ⟨_, rfl, ra, _, 0, _, rfl, rfl, ta, rfl, _, e1, small1000 (by rw [List.length_map, List.length_map, List.length_take]; omega), ?_, swrite s1 hD9⟩⟩
                    rw [upd_same, List.take_add_one, hr1, List.map_append, List.map_append]
                    rfl
                  · rintro H8 ⟨e1, s1⟩
                    rw [wl2, List.take_length] at e1
                    have s8 := same_tr s7 s1
                    have h8p := s1 _ _ h7p
                    have h8q := s1 _ _ h7q
                    by_cases m : x.o ∈ w.map (·.w)
                    · refine ⟨D9, _, rfl, Or.inl (Or.inl (Or.inl e1)), rfl, flat_strs _, false, congrArg V.bl (by rw [if_pos rfl, inV_str m]; rfl), ?_⟩
                      exact iteF (stay (fun _ => m) _ _ _ _ s8 h8p h8q)
                    · refine ⟨D9, _, rfl, Or.inl (Or.inl (Or.inl e1)), rfl, flat_strs _, true, congrArg V.bl (by rw [if_pos rfl, inV_no m]; rfl), ?_⟩
                      refine iteT ?_
                      have s1B := same_tr d1 s8
                      have hl8 := s1B _ _ hlB1
                      have ext1 : wts ((E.filter fun r => decide (r.w = x.o)).map fun r => w ++ [r]) + 1 ≤ wt w := by
                        cases ef : E.filter (fun r => decide (r.w = x.o)) with
                        | nil => simpa [wts] using wtp
                        | cons r rest =>
                          have hr : r ∈ E.filter fun r => decide (r.w = x.o) := by rw [ef]; simp
                          obtain ⟨hr1, hr2⟩ := List.mem_filter.mp hr
                          have om : Op E t (w ++ [r]) := by
                            have opw2 := opw
                            have m2 := m
                            rw [hx] at opw2 m2 ⊢
                            exact op_more opw2 hr1 (of_decide_eq_true hr2) lt m2
                          have l6 := Nat.le_trans (op_len om fun r hr => (okE r hr).2) fewT
                          rw [List.length_append, List.length_singleton] at l6
                          rw [← ef]
                          exact wts_more l6 (Nat.le_trans (List.length_filter_le _ _) fewE)
                      refine ⟨_, rfl, Or.inl ⟨rfl, _, Or.inl (Or.inl h8q)⟩, _, rfl, l, rfl, ⟨_, Or.inl (Or.inl hl8)⟩, fun D2 hD2 => lc_fd (K := K) (fun B => B p0 = none ∧ B qq = none) E RowP.d (fun r => wkD (w ++ [r])) (fun r => decide (r.w = x.o)) (Or.inl (Or.inl hl8)) s8 ⟨d2, d3⟩ (dpsm d1 _ _ heB1) (by omega) hD2 (fun x' r B' H9 hr1 t1 t2 t3 t4 t5 ⟨_, eD⟩ dx R N hR hN => ⟨rfl, ?_⟩) ?_⟩
                      · obtain ⟨y0, a, b2, hr3, rfl, ta, tb⟩ : ∃ y a b, ([r] : List RowP)[0]? = some y ∧ x' = .ref a ∧ SqT K H9 a [.str y.w, .int (y.n : Int), .str y.o, .ref b] ∧ SqT K H9 b (y.v.map V.int) := row_at (xs := [x']) (rows := [r]) (i := 0) (.cons (dpm t4 _ _ dx) .nil) rfl
                        cases hr3
                        refine ⟨_, rfl, a, _, 0, _, rfl, rfl, ta, rfl, _, rfl, rfl, _, rfl, ?_⟩
                        have dec2 : decide (V.str r.w = V.str x.o) = decide (r.w = x.o) := decide_eq_decide.mpr ⟨fun z => V.str.inj z, fun z => by rw [z]⟩
                        rw [dec2]
                        by_cases z2 : r.w = x.o
                        · rw [decide_eq_true z2]
                          refine iteT ⟨_, rfl, _, rfl, z1, fun u hu => ?_⟩
                          have sbu := sql (same_tr (same_tr t1 t4) (snew (o := .lst [.ref a]) hu)) hb
                          refine ⟨b, u, ws2, _, rfl, rfl, sbu, Or.inl (Or.inl upd_same), by
                            rw [wl2]
                            show w.length + 1 ≤ sizeLine
                            omega, fun o ho => ?_⟩
                          obtain ⟨n1, n2, n3, n4⟩ := new_base (o := .lst (ws2 ++ [.ref a])) (same_tr t4 (snew (o := .lst [.ref a]) hu)) ho
                          have ex : ∀ p, (∃ x, H9 p = some x) → ∃ x, (upd H9 u (.lst [.ref a])) p = some x := fun p ⟨x, hp⟩ => ⟨x, snew hu _ _ hp⟩
                          refine hR (decide_eq_true z2) _ _ _ (same_tr (snew hu) (snew ho)) n1 (n4 _ (ex _ ⟨_, eD⟩) t2) ⟨n4 _ (ex _ ⟨_, t5 _ _ h8p⟩) t3.1, n4 _ (ex _ ⟨_, t5 _ _ h8q⟩) t3.2⟩ n2 (.lst (Or.inl (Or.inl n3)) ?_)
                          rw [List.map_append]
                          exact dps_put (dpsm (same_tr t1 n1) _ _ hw2) (dpm n1 _ _ dx)
                        · rw [decide_eq_false z2]
                          exact iteF (hN (decide_eq_false z2) _ same_refl)
                      · intro H9 B' bs t1 t2 t3 t4 t5 t6 t7
                        have h9p := t5 _ _ h8p
                        have h9q := t5 _ _ h8q
                        have bl : bs.length ≤ 12 := by
                          rw [dps_len t7, List.length_map]
                          exact Nat.le_trans (List.length_filter_le _ _) fewE
                        have vl : vs.length ≤ wts ws' := by
                          rw [dps_len d81, List.length_map]
                          exact wts_len ws'
                        have k1 := cntR_le E (ys.take (i + 1)) (ynd.sublist (List.take_sublist _ _))
                        have k2 : cntR E (ys.take (i + 1)) * 13 ^ 5 ≤ 12 * 13 ^ 5 := Nat.mul_le_mul_right _ (Nat.le_trans k1 fewE)
                        refine ⟨qq, D2, vs, bs, rfl, rfl, h9q, t6, by omega, ?_⟩
                        have wa := wts_app ws' ((E.filter fun r => decide (r.w = x.o)).map fun r => w ++ [r])
                        refine ⟨wts (ws' ++ (E.filter fun r => decide (r.w = x.o)).map fun r => w ++ [r]), by omega, y3, _, _, rfl, B', zs, vs ++ bs, fs, ws' ++ (E.filter fun r => decide (r.w = x.o)).map fun r => w ++ [r], same_tr d1 t1, t3.1, t3.2, swrite t4 t3.2, by rw [upd_ne npq]; exact h9p, upd_same, dpsm t1 _ _ d7, by rw [List.map_append, List.map_map]; exact dps_app (dpsm t1 _ _ d81) t7, g1, g2, fun u r v hu e hr => ?_, fun w' hw' => ?_, rfl, by omega⟩
                        · rcases g3 u r v hu e hr with k | ⟨w', hw', pw⟩
                          · exact .inl k
                          · rcases List.mem_append.mp hw' with k | k
                            · exact .inr ⟨w', List.mem_append_left _ k, pw⟩
                            · rw [List.mem_singleton.mp k] at pw
                              have opw2 := opw
                              rw [hx] at opw2 pw
                              obtain ⟨_, _, r2, hr2, er2, pr2⟩ := op_next opw2 z hu pw
                              rw [← hx] at pr2
                              exact .inr ⟨w ++ [r2], List.mem_append_right _ (List.mem_map.mpr ⟨r2, List.mem_filter.mpr ⟨hr2, decide_eq_true er2⟩, rfl⟩), pr2⟩
                        · rcases List.mem_append.mp hw' with k | k
                          · exact g4 w' (List.mem_append_left _ k)
                          · obtain ⟨r2, hr2, rfl⟩ := List.mem_map.mp k
                            obtain ⟨h1, h2⟩ := List.mem_filter.mp hr2
                            have opw2 := opw
                            have m2 := m
                            rw [hx] at opw2 m2 ⊢
                            exact op_more opw2 h1 (of_decide_eq_true h2) lt m2
                · rw [decide_eq_false lt]
                  refine iteF (iteF ?_)
                  exact stay (fun h => absurd h lt) _ _ _ _ s7 h7p h7q
      · rintro σ H3 ⟨y2, y3, y4, y5, y6, rfl, B, zs, fs, b1, b2, b3, b4, b5, f1, f2, f3⟩
        rw [List.length_map, List.take_length] at f2 f3
        refine ⟨_, rfl, q p0 H3 fs (same_tr u1 (same_tr b1 b3)) ⟨zs, b4, dpsm b3 _ _ b5⟩ (fun u => ⟨f1 u, fun hu => ?_⟩) ?_⟩
        · obtain ⟨r, v, e, hr, _⟩ := cyc_start hu
          exact f2 u r v hu e ((ymem _).mpr (List.mem_map.mpr ⟨r, hr, rfl⟩))
        · have := cntR_le E ys ynd
          exact Nat.le_trans f3 (Nat.mul_le_mul_right _ (Nat.le_trans this fewE))
end
end Fr

namespace Fr
open PySem PySem.Spec PyProof.Rows L2
abbrev s_Lwide : Stmt := topS 42
theorem sc_Lwide : FnScope ["_law_pool_here", "_law_axes", "_law_most", "_law_left", "_law_titles", "_law_start", "_law_sign", "_law_held", "_law_rows_here", "_law_title", "_law_many", "_law_turn", "_law_spot", "_law_place", "_law_row", "_law_some"] ["_law_pool_here", "_law_axes", "_law_most"] (defScope s_Lwide) := ⟨rfl, rfl, rfl, by decide +kernel, rfl, by decide +kernel, by decide +kernel⟩
-- slots: 0 _law_pool_here, 1 _law_axes, 2 _law_most, 3 _law_left, 4 _law_titles, 5 _law_start, 6 _law_sign, 7 _law_held, 8 _law_rows_here, 9 _law_title, 10 _law_many, 11 _law_turn, 12 _law_spot, 13 _law_place, 14 _law_row, 15 _law_some
def WN : List Str := ["a", "b", "c", "d", "e", "f"]
theorem WN_facts : ∀ k ∈ List.range 7, ∀ x ∈ WN, isName (stN k ++ x) = true ∧ PyData.strOk (stN k ++ x) = true ∧ (stN k).length + x.length ≤ 100 := by decide +kernel
theorem str_inj {s x y : Str} (h : s ++ x = s ++ y) : x = y := by
  refine str_ext ?_
  have e : (s ++ x).cps.toList = (s ++ y).cps.toList := congrArg (fun z : Str => z.cps.toList) h
  have c : ∀ a b : Str, (a ++ b).cps.toList = a.cps.toList ++ b.cps.toList := fun a b => by
    show (a.cps ++ b.cps).toList = _
    rw [Array.toList_append]
  rw [c, c] at e
  exact List.append_cancel_left e
theorem nodup_pre {s : Str} {l : List Str} (h : l.Nodup) : (l.map fun x => s ++ x).Nodup := List.pairwise_map.mpr (h.imp fun n e => n (str_inj e))
theorem erase_map {α β : Type} (f : α → β) : ∀ (l : List α) (k : Nat), (l.map f).eraseIdx k = (l.eraseIdx k).map f
  | [], k => by simp
  | x :: l, 0 => rfl
  | x :: l, k + 1 => by
    rw [List.map_cons, List.eraseIdx_cons_succ, List.eraseIdx_cons_succ, List.map_cons, erase_map f l k]
section
variable {P : Program} {w : World} {K : PySem.W.Frag} {mg : Str → Option Value} {base : Heap}
theorem strs_shaped {l : List Str} (h : ∀ x ∈ l, PyData.strOk x = true) : SeqAt.shaped (.list (l.map PyData.str)) = true := shaped_list fun d hd => by
  obtain ⟨x, hx, rfl⟩ := List.mem_map.mp hd
  exact ⟨by simp [PyData.canLay0, h x hx], by simp [PyData.depth]⟩
def spWide (K : PySem.W.Frag) : Sp := fun vs H Q _ => ∃ (r : Addr) (ax : Int) (m : Nat) (B : Hp), vs = [.ref r, .int ax, .int 12] ∧ RS r m B H ∧ 1 ≤ ax ∧ ax ≤ 3 ∧ m ≤ 2 ^ 58 ∧
  ∀ p B' H' (ts : List Tb), Same B B' → RS r (m + 1000) B' H' → LD K B' p (ts.map Tb.d) → 5 ≤ ts.length → ts.length ≤ 6 → OkT ax ts → (∀ t ∈ ts, PyData.strOk t.n = true) → (∀ t ∈ ts, SmT t) → (ts.map fun t => t.rs.length).sum ≤ 12 → Q (.ref p) H'
theorem ok_wide {f : Addr} {fd : FuncData} (F : Fun K "_law_wide" "_law_wide" s_Lwide f fd) (T : Txt mg) (c_Ldraw : C8.Cal P w K mg base 1 "_law_draw" spDraw []) (c_Lvector : C8.Cal P w K mg base 2 "_law_vector" (spVec K) []) : FnOk P w K mg base CX0 3 f fd ["_law_pool_here", "_law_axes", "_law_most"] (spWide K) := by
  refine F.ok sc_Lwide (fun vs H Q E h => ?_) (fun cdv A outer sh H vs Q E hr h => ?_)
  · obtain ⟨r, ax, m, B, rfl, _⟩ := h
    rfl
  · obtain ⟨r, ax, m, B, rfl, R, ha1, ha3, hm, q⟩ := h
    refine ⟨_, (pss_cons (ps_par (i := 3) (j := 4) (by rfl) sc_Lwide.nd rfl rfl (by decide) rfl rfl (pa_cons (pe_lst (pa_cons pe_str (pa_cons pe_str (pa_cons pe_str (pa_cons pe_str (pa_cons pe_str (pa_cons pe_str pa_nil))))))) (pa_cons (pe_lst pa_nil) pa_nil)) (by rfl))
  (pss_cons (ps_while PassesOwn.never (PW.pt (pw_and (pt_cmpR op_lt (pe_callB call_len_seq (by rfl) T.b_len PySem.boot_len (pa_cons (pv 4) pa_nil)) (pe_op op_add pe_int (C8.pe_c c_Ldraw hr (by decide) (by rfl) (pa_cons (pv 0) (pa_cons pe_int pa_nil)))) (nomark _)) (pw_and1 (pt_cmpR (op_neD hr.units) (pv 3) (pe_lst pa_nil) (nomark _)))))
    (pss_one (ps_expr (pe_bm PySem.F.plainAttrs_list PySem.F.slot_list_append PySem.F.type_list_append mt_append (pv 4) (pa_cons (pe_bm PySem.F.plainAttrs_list PySem.F.slot_list_pop PySem.F.type_list_pop mt_popAt (pv 3) (pa_cons (C8.pe_c c_Ldraw hr (by decide) (by rfl) (pa_cons (pv 0) (pa_cons (pe_callB call_len_seq (by rfl) T.b_len PySem.boot_len (pa_cons (pv 3) pa_nil)) pa_nil))) pa_nil)) pa_nil)))))
  (pss_cons (ps_set (i := 5) sc_Lwide.nd rfl (by first | exact Or.inl rfl | exact Or.inr rfl) (pe_slice sl_str pe_str po_none (po_some (pe_op op_mulW (C8.pe_c c_Ldraw hr (by decide) (by rfl) (pa_cons (pv 0) (pa_cons pe_int pa_nil))) (pe_callTy call_int1 (by rfl) T.b_int (by decide +kernel) (pa_cons (pe_cmpR op_eq (C8.pe_c c_Ldraw hr (by decide) (by rfl) (pa_cons (pv 0) (pa_cons pe_int pa_nil))) pe_int (nomark _)) pa_nil))))))
  (pss_cons (ps_setLc (i := 4) (own := [("_law_sign", 6)]) (g := gName 6) (tt := tYes) (by rfl) sc_Lwide.nd rfl rfl (sw_true rfl rfl rfl (by decide +kernel)) (pi_list (pv 4)) (blkOk_by (N := ["_law_pool_here", "_law_axes", "_law_most", "_law_left", "_law_titles", "_law_start", "_law_sign", "_law_held", "_law_rows_here", "_law_title", "_law_many", "_law_turn", "_law_spot", "_law_place", "_law_row", "_law_some"]) (sc := defScope s_Lwide) (by decide +kernel)) (fun _ _ _ _ _ => (pg_name (i := 6) sc_Lwide.nd rfl (by first | exact Or.inl rfl | exact Or.inr rfl))) (fun _ _ _ _ _ => pts_nil) (fun _ _ _ _ _ => (pe_op op_add_str (pv 5) (pv 6))))
  (pss_cons (ps_par (i := 7) (j := 8) (by rfl) sc_Lwide.nd rfl rfl (by decide) rfl rfl (pa_cons (pe_lc (own := [("_law_title", 9)]) (g := gName 9) (tt := tYes) (by rfl) sc_Lwide.nd (pi_list (pv 4)) (blkOk_by (N := ["_law_pool_here", "_law_axes", "_law_most", "_law_left", "_law_titles", "_law_start", "_law_sign", "_law_held", "_law_rows_here", "_law_title", "_law_many", "_law_turn", "_law_spot", "_law_place", "_law_row", "_law_some"]) (sc := defScope s_Lwide) (by decide +kernel)) (fun _ _ _ _ _ => (pg_name (i := 9) sc_Lwide.nd rfl (by first | exact Or.inl rfl | exact Or.inr rfl))) (fun _ _ _ _ _ => pts_nil) (fun _ _ _ _ _ => (pe_lst pa_nil))) (pa_cons (pe_lst pa_nil) pa_nil)) (by rfl))
  (pss_cons (ps_set (i := 10) sc_Lwide.nd rfl (by first | exact Or.inl rfl | exact Or.inr rfl) (pe_op op_add (pe_op op_sub (pe_callB call_len_seq (by rfl) T.b_len PySem.boot_len (pa_cons (pv 4) pa_nil)) pe_int) (C8.pe_c c_Ldraw hr (by decide) (by rfl) (pa_cons (pv 0) (pa_cons pe_int pa_nil)))))
  (pss_cons (ps_for PassesOwn.never rfl (pi_range1 (by rfl) T.b_range (pa_cons (pe_op op_add (pv 10) (C8.pe_c c_Ldraw hr (by decide) (by rfl) (pa_cons (pv 0) (pa_cons (pe_op op_add (pe_op op_sub (pv 2) (pv 10)) pe_int) pa_nil)))) pa_nil)) (pg_name (i := 11) sc_Lwide.nd rfl (by first | exact Or.inl rfl | exact Or.inr rfl))
    (pss_cons (ps_par (i := 12) (j := 13) (by rfl) sc_Lwide.nd rfl rfl (by decide) rfl rfl (pa_cons (pv 11) (pa_cons (pe_op op_mod (pe_op op_add (pv 11) pe_int) (pe_callB call_len_seq (by rfl) T.b_len PySem.boot_len (pa_cons (pv 4) pa_nil))) pa_nil)) (by rfl))
    (pss_cons (ps_if (pt_cmpR op_ge (pv 11) (pv 10) (nomark _))
      (pss_one (ps_par (i := 12) (j := 13) (by rfl) sc_Lwide.nd rfl rfl (by decide) rfl rfl (pa_cons (C8.pe_c c_Ldraw hr (by decide) (by rfl) (pa_cons (pv 0) (pa_cons (pe_callB call_len_seq (by rfl) T.b_len PySem.boot_len (pa_cons (pv 4) pa_nil)) pa_nil))) (pa_cons (C8.pe_c c_Ldraw hr (by decide) (by rfl) (pa_cons (pv 0) (pa_cons (pe_callB call_len_seq (by rfl) T.b_len PySem.boot_len (pa_cons (pv 4) pa_nil)) pa_nil))) pa_nil)) (by rfl)))
      pss_nil)
    (pss_cons (ps_set (i := 14) sc_Lwide.nd rfl (by first | exact Or.inl rfl | exact Or.inr rfl) (pe_tup (pa_cons (pe_ix ix_list (pv 4) (pv 12) (fun _ _ => rfl)) (pa_cons (pe_callB call_len_seq (by rfl) T.b_len PySem.boot_len (pa_cons (pe_ix ix_list (pv 7) (pv 12) (fun _ _ => rfl)) pa_nil)) (pa_cons (pe_ix ix_list (pv 4) (pv 13) (fun _ _ => rfl)) (pa_cons (C8.pe_c c_Lvector hr (by decide) (by rfl) (pa_cons (pv 0) (pa_cons (pv 1) (pa_cons (pv 8) pa_nil)))) pa_nil))))))
    (pss_cons (ps_expr (pe_bm PySem.F.plainAttrs_list PySem.F.slot_list_append PySem.F.type_list_append mt_append (pe_ix ix_list (pv 7) (pv 12) (fun _ _ => rfl)) (pa_cons (pe_tup (pa_cons (pe_ix ix_tup (pv 14) pe_int (fun _ _ => rfl)) (pa_cons (pe_ix ix_tup (pv 14) pe_int (fun _ _ => rfl)) (pa_cons pe_int pa_nil)))) pa_nil)))
    (pss_one (ps_expr (pe_bm PySem.F.plainAttrs_list PySem.F.slot_list_append PySem.F.type_list_append mt_append (pv 8) (pa_cons (pv 14) pa_nil)))))))))
  (pss_one (ps_ret (pe_lc (own := [("_law_title", 9), ("_law_some", 15)]) (g := gTup K 2 (gCons (gName 9) (gCons (gName 15) gNil))) (tt := tYes) (by rfl) sc_Lwide.nd (pi_zip (by rfl) T.b_zip (pa_cons (pv 4) (pa_cons (pv 7) pa_nil))) (blkOk_by (N := ["_law_pool_here", "_law_axes", "_law_most", "_law_left", "_law_titles", "_law_start", "_law_sign", "_law_held", "_law_rows_here", "_law_title", "_law_many", "_law_turn", "_law_spot", "_law_place", "_law_row", "_law_some"]) (sc := defScope s_Lwide) (by decide +kernel)) (fun _ _ _ _ _ => (pg_tup rfl (pgs_cons (pg_name (i := 9) sc_Lwide.nd rfl (by first | exact Or.inl rfl | exact Or.inr rfl)) (pgs_cons (pg_name (i := 15) sc_Lwide.nd rfl (by first | exact Or.inl rfl | exact Or.inr rfl)) pgs_nil)))) (fun _ _ _ _ _ => pts_nil) (fun _ _ _ _ _ => (pe_tup (pa_cons (pv 9) (pa_cons pe_int (pa_cons (pv 15) pa_nil))))))))))))))), ?_⟩
    have wok : ∀ x ∈ WN, PyData.strOk x = true := by decide +kernel
    refine ⟨(by show 6 ≤ sizeLine; decide), fun lf hlf => ⟨Nat.zero_le _, fun tl htl => ⟨_, _, rfl, ?_⟩⟩⟩
    have bl := free_of R.s hlf
    have rl := R.ne hlf
    have R0 := R.new (o := .lst (WN.map V.str)) hlf
    have bt := free_of R0.s htl
    have rt := R0.ne htl
    have nlt : lf ≠ tl := ne_of_none upd_same htl
    have R1 := R0.new (o := .lst []) htl
    have l1 : (upd (upd H lf (.lst (WN.map V.str))) tl (.lst [])) lf = some (.lst (WN.map V.str)) := snew htl _ _ upd_same
    have t1 : (upd (upd H lf (.lst (WN.map V.str))) tl (.lst [])) tl = some (.lst []) := upd_same
    refine ⟨fun n σ H' => ∃ T L : List Str, σ = [some (.ref r), some (.int ax), some (.int 12), some (.ref lf), some (.ref tl), none, none, none, none, none, none, none, none, none, none, none] ∧ (T ++ L).Perm WN ∧ n = L.length ∧ RS r (m + 2 * T.length) B H' ∧ H' lf = some (.lst (L.map V.str)) ∧ H' tl = some (.lst (T.map V.str)), ⟨_, [], WN, rfl, .refl _, rfl, R1, l1, t1⟩, ?_⟩
    rintro n σ H1 ⟨T, L, rfl, pm, rfl, R2, l2, t2⟩
    have tlen : T.length + L.length = 6 := by rw [← List.length_append, pm.length_eq]; rfl
    refine ⟨_, rfl, tl, _, rfl, Or.inl (Or.inl (Or.inl t2)), _, rfl, r, 2, _, rfl, R2.ok, by omega, by decide, by decide, fun d1 H2 d10 d11 D1 => ⟨5, d1, rfl, rfl, _, _, rfl, rfl, _, rfl, ?_⟩⟩
    have R3 := R2.dr D1
    have l3 : H2 lf = some (.lst (L.map V.str)) := by rw [D1.ne _ rl.symm]; exact l2
    have t3 : H2 tl = some (.lst (T.map V.str)) := by rw [D1.ne _ rt.symm]; exact t2
    clear R2 l2 t2 D1
    -- what comes behind the loop
    have pmem : ∀ x ∈ T ++ L, x ∈ WN := fun x hx => pm.mem_iff.mp hx
    have pnd : (T ++ L).Nodup := pm.nodup_iff.mpr (by decide)
    refine (fun (rest : ∀ H' : Hp, RS r (m + 13) B H' → H' tl = some (.lst (T.map V.str)) → 5 ≤ T.length → (?G : Hp → Prop) H') => ?use) ?prf
    case use =>
      by_cases lt : ¬ ((T.map V.str).length : Int) < 5 + d1
      · rw [decide_eq_false lt]
        refine iteF (iteF ?_)
        exact rest H2 (R3.mono (by omega)) t3 (by rw [List.length_map] at lt; omega)
      · have lt := Decidable.not_not.mp lt
        rw [decide_eq_true lt]
        refine iteT ⟨_, rfl, Nat.zero_le _, fun p hp => ?_⟩
        have n1 := snew (o := .lst []) hp
        have l4 := n1 _ _ l3
        have t4 := n1 _ _ t3
        have R4 := R3.new (o := .lst []) hp
        refine ⟨_, _, .lst (Or.inl (Or.inl l4)) (strs_dps L), .lst (Or.inl (Or.inl upd_same)) .nil, strs_shaped fun x hx => wok x (pmem x (List.mem_append_right _ hx)), shaped_list (fun d hd => by cases hd), _, rfl, ?_⟩
        rw [eqv_nil]
        generalize upd H2 p (.lst []) = H4 at l4 t4 R4
        by_cases hLe : L = []
        · have emp : (L.map PyData.str).isEmpty = true := by rw [hLe]; rfl
          rw [hLe, List.length_nil] at tlen
          rw [emp]
          exact iteF (rest H4 (R4.mono (by omega)) t4 (by omega))
        · have emp : (L.map PyData.str).isEmpty = false := by
            cases L with
            | nil => exact absurd rfl hLe
            | cons => rfl
          have lp : 0 < L.length := List.length_pos_iff.mpr hLe
          rw [emp]
          refine iteT ⟨_, fun σ' H' h => h, ?_⟩
          refine ⟨_, rfl, Or.inl ⟨rfl, _, Or.inl (Or.inl t4)⟩, _, rfl, Or.inl ⟨rfl, _, Or.inl (Or.inl l4)⟩, _, rfl, _, rfl, lf, _, rfl, Or.inl (Or.inl (Or.inl l4)), r, _, _, rfl, R4.ok, by omega, by rw [List.length_map]; omega, by rw [List.length_map]; omega, fun d2 H5 d20 d21 D2 => ?_⟩
          rw [List.length_map] at d21
          have R5 := R4.dr D2
          have l5 : H5 lf = some (.lst (L.map V.str)) := by rw [D2.ne _ rl.symm]; exact l4
          have t5 : H5 tl = some (.lst (T.map V.str)) := by rw [D2.ne _ rt.symm]; exact t4
          have hk : seqIndex? d2 (L.map V.str).length = some d2.toNat := seqIndex_of d20 (by rw [List.length_map]; exact d21)
          have hd : d2.toNat < L.length := by omega
          refine ⟨lf, _, d2, _, .str L[d2.toNat], rfl, rfl, l5, by omega, by omega, hk, by rw [List.getElem?_map, List.getElem?_eq_getElem hd]; rfl, ?_⟩
          refine ⟨tl, _, _, rfl, rfl, by rw [upd_ne nlt.symm]; exact t5, small1000 (by rw [List.length_map]; omega), ?_⟩
          refine ⟨(L.eraseIdx d2.toNat).length, by rw [List.length_eraseIdx_of_lt hd]; omega, T ++ [L[d2.toNat]], L.eraseIdx d2.toNat, rfl, ?_, rfl, ?_, ?_, ?_⟩
          · have pe := perm_erase (List.getElem?_eq_getElem hd)
            rw [List.append_assoc]
            exact (List.Perm.append_left T pe.symm).trans pm
          · rw [List.length_append, List.length_singleton]
            exact ((R5.put bl rl).put bt rt).mono (by omega)
          · rw [upd_ne nlt, upd_same, erase_map]
          · rw [upd_same, List.map_append]
            rfl
    case prf =>
      intro H3 R4 t4 h5
      have h6 : T.length ≤ 6 := by omega
      have Tnd : T.Nodup := (List.nodup_append.mp pnd).1
      have Tmem : ∀ x ∈ T, x ∈ WN := fun x hx => pmem x (List.mem_append_left _ hx)
      clear R3 l3 t3 l1 t1 R1 R0 pm pmem pnd d10 d11
      refine ⟨_, rfl, r, 7, _, rfl, R4.ok, by omega, by decide, by decide, fun d1 H4 d10 d11 D1 => ?_⟩
      have R5 := R4.dr D1
      have t5 : H4 tl = some (.lst (T.map V.str)) := by rw [D1.ne _ rt.symm]; exact t4
      refine ⟨_, rfl, r, 3, _, rfl, R5.ok, by omega, by decide, by decide, fun d2 H5 d20 d21 D2 => ?_⟩
      have R6 := R5.dr D2
      have t6 : H5 tl = some (.lst (T.map V.str)) := by rw [D2.ne _ rt.symm]; exact t5
      have hk : ∃ k : Nat, k ≤ 6 ∧ d1 * (if decide (V.int d2 = V.int 0) = true then 1 else 0) = (k : Int) := by
        split
        · exact ⟨d1.toNat, by omega, by omega⟩
        · exact ⟨0, by omega, by omega⟩
      obtain ⟨k, hk6, ek⟩ := hk
      have pf := WN_facts k (List.mem_range.mpr (by omega))
      refine ⟨rfl, Or.inr ⟨_, rfl, _, _, rfl, rfl, wide_mul (a := 100) (b := 100) (by omega) (by split <;> decide) (by decide) (by decide) (by decide), (k : Int), congrArg V.int ek, _, rfl, by decide +kernel, ?_⟩⟩
      have hnd : (T.map fun x => stN k ++ x).Nodup := nodup_pre Tnd
      refine ⟨_, rfl, tl, rfl, ⟨_, Or.inl (Or.inl t6)⟩, fun D hD => lc_flat (walk_list (K := K) (a := tl) (xs := T.map V.str)) (fun i => .str (stN k ++ nth T i)) (by rw [List.length_map]; omega) hD (fun H' sm => Or.inl (Or.inl (sm _ _ t6))) (fun i H x H' y => yat_same y) ?_ ?_⟩
      · rintro i x H6 H7 hi sm ⟨rfl, hx⟩ R hR
        rw [List.getElem?_map] at hx
        obtain ⟨z, hz, rfl⟩ := Option.map_eq_some_iff.mp hx
        have zz := pf z (Tmem z (List.mem_of_getElem? hz))
        refine ⟨rfl, _, rfl, _, rfl, _, _, rfl, rfl, Nat.le_trans zz.2.2 (by rw [sizeLine_eq]; decide), ?_⟩
        have r := hR H7 same_refl
        rw [nth_of hz] at r
        exact r
      · intro H6 sm hD6
        rw [List.length_map, nthsf T (fun x => stN k ++ x)] at hD6
        have R7 := R6.grow sm
        have bD : B D = none := free_of R6.s hD
        have rD := R6.ne hD
        have K6 := R7.keep hD6 bD rD
        have sB : Same B (upd B D (.lst ((T.map fun x => stN k ++ x).map V.str))) := snew bD
        have D0 : (upd B D (.lst ((T.map fun x => stN k ++ x).map V.str))) D = some (.lst ((T.map fun x => stN k ++ x).map V.str)) := upd_same
        generalize upd B D (.lst ((T.map fun x => stN k ++ x).map V.str)) = B6 at K6 sB D0
        clear R7 sm R6 R5 R4 D1 D2 hD hD6 t6 t5 t4
        have ht : ∀ x ∈ T.map fun x => stN k ++ x, isName x = true ∧ PyData.strOk x = true := fun x hx => by
          obtain ⟨y, hy, rfl⟩ := List.mem_map.mp hx
          exact ⟨(pf y (Tmem y hy)).1, (pf y (Tmem y hy)).2.1⟩
        have htl : 5 ≤ (T.map fun x => stN k ++ x).length ∧ (T.map fun x => stN k ++ x).length ≤ 6 := by rw [List.length_map]; exact ⟨h5, h6⟩
        generalize (T.map fun x => stN k ++ x) = ts at ht htl hnd D0
        have K6 := K6.mono (show m + 13 + 1 + 1 ≤ m + 15 by omega)
        -- held, rows
        refine ⟨_, rfl, D, rfl, ⟨_, Or.inl (Or.inl (K6.s _ _ D0))⟩, fun E hE => ?_⟩
        have bE := free_of K6.s hE
        have rE := K6.ne hE
        refine lc_it (walk_list (K := K) (a := D) (xs := ts.map V.str)) (fun i H' => ∃ hs : List Held, hs.length = i ∧ (∀ y ∈ hs, y.rs = []) ∧ H' E = some (.lst (hs.map fun y => V.ref y.l)) ∧ RS r (m + 15) B6 H' ∧ HeldAt K B6 H' r hs ∧ ∀ y ∈ hs, y.l ≠ E)
          ⟨[], rfl, (by intro y h; cases h), upd_same, K6.new hE, ⟨fun i y h => (by cases h), fun i j y z h => (by cases h)⟩, (by intro y h; cases h)⟩ (fun i H' _ ⟨_, _, _, _, c4, _⟩ => Or.inl (Or.inl (c4.s _ _ D0))) ?_ ?_
        · rintro i x _ H7 hi ⟨hs, c1, c2, c3, c4, c5, c6⟩ ⟨rfl, hx⟩
          rw [List.length_map] at hi
          refine ⟨rfl, yes_if ⟨Nat.zero_le _, fun l hl => ?_⟩⟩
          have lE : l ≠ E := fun z => by rw [z, c3] at hl; cases hl
          have c4' := c4.new (o := .lst []) hl
          have c5' := (c5.new (o := .lst []) hl).snoc (free_of c4.s hl) (c4.ne hl) upd_same (fun j z hz => by
            obtain ⟨_, _, xs, a4, _⟩ := c5.at_ j z hz
            exact ne_of_none a4 hl)
          have E7 : (upd H7 l (.lst [])) E = some (.lst (hs.map fun y => V.ref y.l)) := snew hl _ _ c3
          refine ⟨_, E7, small1000 (by rw [List.length_map]; omega), hs ++ [⟨l, []⟩], by rw [List.length_append, c1]; rfl, ?_, by rw [upd_same, List.map_append]; rfl, c4'.put bE rE, c5'.step same_refl (fun j y hy => ⟨(c5'.at_ j y hy).1, upd_ne ?_⟩), ?_⟩
          · intro y hy
            rcases List.mem_append.mp hy with h | h
            · exact c2 y h
            · rw [List.mem_singleton.mp h]
          · rcases List.mem_append.mp (List.mem_of_getElem? hy) with h | h
            · exact c6 y h
            · rw [List.mem_singleton.mp h]
              exact lE
          · intro y hy
            rcases List.mem_append.mp hy with h | h
            · exact c6 y h
            · rw [List.mem_singleton.mp h]
              exact lE
        · rintro H7 ⟨hs, c1, c2, c3, c4, c5, c6⟩
          rw [List.length_map] at c1
          have K7 := c4.keep c3 bE rE
          have c5 := c5.keep (o := .lst (hs.map fun y => V.ref y.l)) bE fun j y hy => c6 y (List.mem_of_getElem? hy)
          have sB7 : Same B (upd B6 E (.lst (hs.map fun y => V.ref y.l))) := same_tr sB (snew bE)
          have D7 : (upd B6 E (.lst (hs.map fun y => V.ref y.l))) D = some (.lst (ts.map V.str)) := snew bE _ _ D0
          have E7 : (upd B6 E (.lst (hs.map fun y => V.ref y.l))) E = some (.lst (hs.map fun y => V.ref y.l)) := upd_same
          generalize upd B6 E (.lst (hs.map fun y => V.ref y.l)) = B7 at K7 c5 sB7 D7 E7
          clear c3 c4 K6 D0 sB
          refine ⟨Nat.zero_le _, fun U hU => ⟨_, _, rfl, ?_⟩⟩
          have bU := free_of K7.s hU
          have rU := K7.ne hU
          have lsU : ∀ (j : Nat) (y : Held), hs[j]? = some y → y.l ≠ U := fun j y hy => by
            obtain ⟨_, _, xs, a4, _⟩ := c5.at_ j y hy
            exact ne_of_none a4 hU
          have K8 := K7.new (o := .lst []) hU
          have c5 := c5.new (o := .lst []) hU
          have U8 : (upd H7 U (.lst [])) U = some (.lst []) := upd_same
          generalize upd H7 U (.lst []) = H8 at K8 c5 U8
          clear K7 hU hE
          have tl6 : (ts.map V.str).length = ts.length := List.length_map ..
          refine ⟨_, rfl, D, _, rfl, Or.inl (Or.inl (Or.inl (K8.s _ _ D7))), _, _, rfl, rfl, _, rfl, r, 2, _, rfl, K8.ok, by omega, by decide, by decide, fun dm H9 dm0 dm1 D9 => ⟨_, _, rfl, rfl, ?_⟩⟩
          have K9 := K8.dr D9
          have U9 : H9 U = some (.lst []) := by rw [D9.ne _ rU.symm]; exact U8
          have c9 := c5.dr D9
          clear K8 c5 U8 D9
          obtain ⟨mn, hmn⟩ : ∃ mn : Int, mn = ((ts.map V.str).length : Int) - 1 + dm := ⟨_, rfl⟩
          dsimp only
          rw [← hmn]
          have mn0 : 4 ≤ mn ∧ mn ≤ ts.length := by omega
          refine ⟨_, rfl, _, rfl, _, rfl, _, rfl, _, _, rfl, rfl, _, _, rfl, rfl, r, _, _, rfl, K9.ok, by omega, by omega, by omega, fun n H10 n0 n1 D10 => ⟨_, _, rfl, rfl, _, rfl, by omega, by omega, ?_⟩⟩
          have K10 := K9.dr D10
          have U10 : H10 U = some (.lst []) := by rw [D10.ne _ rU.symm]; exact U9
          have c10 := c9.dr D10
          clear K9 c9 U9 D10
          have nn : mn + n ≤ 12 ∧ 0 ≤ mn + n := by omega
          generalize mn + n = nN at nn
          refine for_range (fun i σ H' => ∃ y11 y12 y13 y14, σ = [some (.ref r), some (.int ax), some (.int 12), some (.ref lf), some (.ref D), some (.str (stN k)), none, some (.ref E), some (.ref U), none, some (.int mn), y11, y12, y13, y14, none] ∧ ∃ (B' : Hp) (hs' : List Held) (rows : List RowP) (rx : List V), Same B7 B' ∧ RS r (m + 15 + 2 + 40 * i) B' H' ∧ HeldAt K B' H' r hs' ∧ hs'.map (·.l) = hs.map (·.l) ∧ B' U = none ∧ H' U = some (.lst rx) ∧ DpAll K B' rx (rows.map RowP.d) ∧ TbI ax ts hs' rows i)
            ⟨none, none, none, none, rfl, B7, hs, [], [], same_refl, K10, c10, rfl, bU, U10, .nil, ?_⟩ ?_ ?_
          · refine ⟨sum_zero (fun y hy => by rw [c2 y hy]; rfl), rfl, (by intro y hy; cases hy), fun y hy rd hrd => ?_⟩
            rw [c2 y hy] at hrd
            cases hrd
          · rintro i σ H11 hi ⟨y11, y12, y13, y14, rfl, B', hs', rows, rx, s1, K1, h1, e1, bU1, U1, dr1, T1⟩
            have hi12 : i < 13 := by omega
            have lsU' : ∀ (j : Nat) (y : Held), hs'[j]? = some y → y.l ≠ U := fun j y hy => by
              have z := congrArg (fun l : List Addr => l[j]?) e1
              simp only [List.getElem?_map, hy, Option.map_some] at z
              cases hz : hs[j]? with
              | none => rw [hz] at z; cases z
              | some y0 =>
                rw [hz] at z
                rw [Option.some.inj z]
                exact lsU j y0 hz
            have D1 := K1.s _ _ (s1 _ _ D7)
            refine ⟨_, rfl, _, rfl, _, _, rfl, rfl, _, rfl, D, _, rfl, Or.inl (Or.inl (Or.inl D1)), _, _, rfl, rfl, by rw [tl6]; omega, ?_⟩
            refine ⟨_, _, rfl, _, rfl, _, rfl, _, _, rfl, rfl, _, rfl, ?_⟩
            refine (fun (rest : ∀ (d4 d7 : Int) (H13 : Hp), 0 ≤ d4 → d4 < ((ts.map V.str).length : Int) → 0 ≤ d7 → d7 < ((ts.map V.str).length : Int) → RS r (m + 15 + 2 + 40 * i + 2) B' H13 → HeldAt K B' H13 r hs' → H13 U = some (.lst rx) → (?G2 : Int → Int → Hp → Prop) d4 d7 H13) => ?use2) ?prf2
            case use2 =>
              by_cases ge : mn ≤ 0 + (i : Int)
              · rw [decide_eq_true ge]
                refine iteT ⟨_, rfl, _, rfl, D, _, rfl, Or.inl (Or.inl (Or.inl D1)), r, _, _, rfl, K1.ok, by omega, by omega, by omega, fun d4 H12 d40 d41 D12 => ?_⟩
                have K2 := K1.dr D12
                have h2 := h1.dr D12
                have U2 : H12 U = some (.lst rx) := by rw [D12.ne _ rU.symm]; exact U1
                refine ⟨_, rfl, _, rfl, D, _, rfl, Or.inl (Or.inl (Or.inl (K2.s _ _ (s1 _ _ D7)))), r, _, _, rfl, K2.ok, by omega, by omega, by omega, fun d7 H13 d70 d71 D13 => ?_⟩
                have K3 := K2.dr D13
                have h3 := h2.dr D13
                have U3 : H13 U = some (.lst rx) := by rw [D13.ne _ rU.symm]; exact U2
                refine ⟨_, _, rfl, ?_⟩
                exact rest d4 d7 H13 d40 d41 d70 d71 K3 h3 U3
              · rw [decide_eq_false ge]
                refine iteF ?_
                exact rest (0 + (i : Int)) ((0 + (i : Int) + 1) % ((ts.map V.str).length : Int)) H11 (by omega) (by rw [tl6]; omega) (Int.emod_nonneg _ (by omega)) (Int.emod_lt_of_pos _ (by omega)) (K1.mono (by omega)) h1 U1
            case prf2 =>
              intro d4 d7 H13 d40 d41 d70 d71 K5 h5 U5
              clear K1 h1 U1
              have E5 := K5.s _ _ (s1 _ _ E7)
              have D5 := K5.s _ _ (s1 _ _ D7)
              obtain ⟨v4, f1, f2, f3⟩ := atI_in (xs := ts.map V.str) d40 d41
              rw [List.getElem?_map] at f3
              obtain ⟨x4, hx4, rfl⟩ := Option.map_eq_some_iff.mp f3
              obtain ⟨v7, g1, g2, g3⟩ := atI_in (xs := ts.map V.str) d70 d71
              rw [List.getElem?_map] at g3
              obtain ⟨x7, hx7, rfl⟩ := Option.map_eq_some_iff.mp g3
              have hel : (hs.map fun y => V.ref y.l).length = (ts.map V.str).length := by rw [List.length_map, List.length_map, c1]
              obtain ⟨vl, k1, k2, k3⟩ := atI_in (xs := hs.map fun y => V.ref y.l) d40 (by rw [hel]; exact d41)
              rw [List.getElem?_map] at k3
              obtain ⟨y0, hy0, rfl⟩ := Option.map_eq_some_iff.mp k3
              obtain ⟨y, hy, ey⟩ : ∃ y, hs'[d4.toNat]? = some y ∧ y.l = y0.l := by
                have z := congrArg (fun l : List Addr => l[d4.toNat]?) e1
                simp only [List.getElem?_map, hy0, Option.map_some] at z
                cases hz : hs'[d4.toNat]? with
                | none => rw [hz] at z; cases z
                | some y =>
                  rw [hz] at z
                  exact ⟨y, rfl, Option.some.inj z⟩
              obtain ⟨yb, yr, xs, yx, yd⟩ := h5.at_ _ y hy
              rw [← ey] at k1
              have hxl : xs.length = y.rs.length := by rw [dps_len yd, List.length_map]
              have hyl : y.rs.length ≤ i := by rw [← T1.few]; exact mem_le_sum (f := fun y : Held => y.rs.length) (List.mem_of_getElem? hy)
              have sc : Same B' (cutr H13 r) := fun b o e => by
                rw [cutr_ne (ne_of_none e K5.n)]
                exact K5.s b o e
              have mem4 := List.mem_of_getElem? hx4
              have mem7 := List.mem_of_getElem? hx7
              refine ⟨_, rfl, _, rfl, D, _, d4, _, rfl, rfl, Or.inl (Or.inl D5), f1, _, rfl, _, rfl, E, _, d4, _, rfl, rfl, Or.inl (Or.inl E5), k1, y.l, xs, rfl, Or.inl (Or.inl (Or.inl yx)), _, rfl, _, rfl, D, _, d7, _, rfl, rfl, Or.inl (Or.inl D5), g1, _, rfl, _, rfl, _, rfl, r, U, ax, _, cutr H13 r, rows, rfl, RS.cut K5.ok, ha1, ha3, ⟨rx, by rw [cutr_ne rU.symm]; exact U5, dpsm sc _ _ dr1⟩, T1.rok, by rw [T1.rlen]; omega, by omega, fun q1 H14 vv bq rq vl vb RV => ?_⟩
              obtain ⟨K6, bq', hq', keep⟩ := K5.vec RV bq rq
              have h6 : HeldAt K (upd B' q1 (.tup (vv.map V.int))) H14 r hs' := h5.step (snew bq') fun j z hz => by
                obtain ⟨z1, z2, zx, z3, _⟩ := h5.at_ j z hz
                have nq : z.l ≠ q1 := ne_of_none z3 hq'
                exact ⟨by rw [upd_ne nq]; exact z1, keep _ z2.symm (by rw [z3]; exact fun w => by cases w)⟩
              have U6 : H14 U = some (.lst rx) := by rw [keep U rU.symm (by rw [U5]; exact fun w => by cases w)]; exact U5
              have bU6 : (upd B' q1 (.tup (vv.map V.int))) U = none := by rw [upd_ne (ne_of_none U5 hq')]; exact bU1
              have q6 : (upd B' q1 (.tup (vv.map V.int))) q1 = some (.tup (vv.map V.int)) := upd_same
              have s6 : Same B' (upd B' q1 (.tup (vv.map V.int))) := snew bq'
              have dr6 := dpsm s6 _ _ dr1
              have s7 := same_tr s1 s6
              generalize upd B' q1 (.tup (vv.map V.int)) = B6' at K6 h6 bU6 q6 s6 dr6 s7
              clear RV bq keep hq' bq' K5 h5 U5 s6 sc dr1 s1 E5 D5 yb yr yx yd
              refine ⟨(by show 4 ≤ sizeLine; decide), fun u hu => ?_⟩
              have bu := free_of K6.s hu
              have K7 := (K6.new (o := .tup [.str x4, .int (xs.length : Int), .str x7, .ref q1]) hu).keep upd_same bu (K6.ne hu)
              have h7 := (h6.new (o := .tup [.str x4, .int (xs.length : Int), .str x7, .ref q1]) hu).keep (o := .tup [.str x4, .int (xs.length : Int), .str x7, .ref q1]) bu fun j z hz => by
                obtain ⟨_, _, zx, z3, _⟩ := h6.at_ j z hz
                exact ne_of_none z3 hu
              have U7 : (upd H14 u (.tup [.str x4, .int (xs.length : Int), .str x7, .ref q1])) U = some (.lst rx) := snew hu _ _ U6
              have bU7 : (upd B6' u (.tup [.str x4, .int (xs.length : Int), .str x7, .ref q1])) U = none := by rw [upd_ne (ne_of_none U6 hu)]; exact bU6
              have u7 : (upd B6' u (.tup [.str x4, .int (xs.length : Int), .str x7, .ref q1])) u = some (.tup [.str x4, .int (xs.length : Int), .str x7, .ref q1]) := upd_same
              have q7 := snew (o := .tup [.str x4, .int (xs.length : Int), .str x7, .ref q1]) bu _ _ q6
              have dr7 := dpsm (snew (o := .tup [.str x4, .int (xs.length : Int), .str x7, .ref q1]) bu) _ _ dr6
              have s8 := same_tr s7 (snew (o := .tup [.str x4, .int (xs.length : Int), .str x7, .ref q1]) bu)
              generalize upd B6' u (.tup [.str x4, .int (xs.length : Int), .str x7, .ref q1]) = B8 at K7 h7 bU7 u7 q7 dr7 s8
              generalize upd H14 u (.tup [.str x4, .int (xs.length : Int), .str x7, .ref q1]) = H15 at K7 h7 U7
              clear K6 h6 U6 bU6 q6 dr6 s7 hu bu
              -- held[spot].append(..)
              obtain ⟨yb, yr, ys, yx, yd⟩ := h7.at_ _ y hy
              have hyl2 : ys.length = y.rs.length := by rw [dps_len yd, List.length_map]
              have E7' := K7.s _ _ (s8 _ _ E7)
              have u8 := K7.s _ _ u7
              refine ⟨_, rfl, _, rfl, E, _, d4, _, rfl, rfl, Or.inl (Or.inl E7'), k1, Or.inl ⟨rfl, _, Or.inl (Or.inl yx)⟩, ?_⟩
              have u8' := u8
              refine ⟨_, rfl, u, _, 2, _, rfl, rfl, Or.inl (Or.inl u8), rfl, _, rfl, u, _, 3, _, rfl, rfl, Or.inl (Or.inl u8), rfl, (by show 3 ≤ sizeLine; decide), fun u2 hu2 => ?_⟩
              have bu2 := free_of K7.s hu2
              have K10 := (K7.new (o := .tup [.str x7, .ref q1, .int 1]) hu2).keep upd_same bu2 (K7.ne hu2)
              have h10 := (h7.new (o := .tup [.str x7, .ref q1, .int 1]) hu2).keep (o := .tup [.str x7, .ref q1, .int 1]) bu2 fun j z hz => by
                obtain ⟨_, _, zx, z3, _⟩ := h7.at_ j z hz
                exact ne_of_none z3 hu2
              have U10 : (upd H15 u2 (.tup [.str x7, .ref q1, .int 1])) U = some (.lst rx) := snew hu2 _ _ U7
              have sN := snew (o := .tup [.str x7, .ref q1, .int 1]) bu2
              have bU10 : (upd B8 u2 (.tup [.str x7, .ref q1, .int 1])) U = none := by rw [upd_ne (ne_of_none U7 hu2)]; exact bU7
              have u10 : (upd B8 u2 (.tup [.str x7, .ref q1, .int 1])) u2 = some (.tup [.str x7, .ref q1, .int 1]) := upd_same
              have u10' := sN _ _ u7
              have q10 := sN _ _ q7
              have dr10 := dpsm sN _ _ dr7
              have s10 := same_tr s8 sN
              generalize upd B8 u2 (.tup [.str x7, .ref q1, .int 1]) = B10 at K10 h10 bU10 u10 u10' q10 dr10 s10
              generalize upd H15 u2 (.tup [.str x7, .ref q1, .int 1]) = H17 at K10 h10 U10
              clear K7 h7 U7 bU7 u7 q7 dr7 s8 hu2 bu2 sN yb yr yx yd E7' u8
              obtain ⟨yb, yr, ys', yx, yd⟩ := h10.at_ _ y hy
              have hyl3 : ys'.length = y.rs.length := by rw [dps_len yd, List.length_map]
              refine ⟨y.l, ys', _, rfl, rfl, yx, small1000 (by omega), ?_⟩
              have hrd : Dp K B10 (.ref u2) (Rd1.d ⟨x7, vv, 1⟩) := .tup (Or.inl (Or.inl u10)) (.cons (.str _) (.cons (.tup (Or.inl (Or.inl q10)) (ints_dps _)) (.cons (.int _) .nil)))
              have h11 := h10.put (rd := ⟨x7, vv, 1⟩) hy yx hrd
              have K11 := K10.put (o := .lst (ys' ++ [.ref u2])) yb yr
              have nU := lsU' _ y hy
              have U11 : (upd H17 y.l (.lst (ys' ++ [.ref u2]))) U = some (.lst rx) := by rw [upd_ne nU.symm]; exact U10
              generalize upd H17 y.l (.lst (ys' ++ [.ref u2])) = H18 at h11 K11 U11
              clear K10 h10 U10 yb yr yx yd
              -- rows.append(row)
              have hrl : rx.length = rows.length := by rw [dps_len dr10, List.length_map]
              refine ⟨_, rfl, Or.inl ⟨rfl, _, Or.inl (Or.inl U11)⟩, _, rfl, U, rx, _, rfl, rfl, U11, small1000 (by rw [hrl, T1.rlen]; omega), ?_⟩
              refine ⟨_, _, _, _, rfl, B10, hs'.set d4.toNat { y with rs := y.rs ++ [⟨x7, vv, 1⟩] }, rows ++ [⟨x4, xs.length, x7, vv⟩], rx ++ [.ref u], s10, (K11.put bU10 rU).mono (by omega), h11.step same_refl (fun j z hz => ⟨(h11.at_ j z hz).1, upd_ne ?_⟩), ?_, bU10, upd_same, ?_, ?_⟩
              · rcases get_set hz with ⟨_, rfl⟩ | ⟨_, hz⟩
                · exact nU
                · exact lsU' j z hz
              · exact (map_set_same (f := fun x : Held => x.l) (x := { y with rs := y.rs ++ [⟨x7, vv, 1⟩] }) hy rfl).trans e1
              · rw [List.map_append]
                exact dps_snoc dr10 (.tup (Or.inl (Or.inl u10')) (.cons (.str _) (.cons (.int _) (.cons (.str _) (.cons (.tup (Or.inl (Or.inl q10)) (ints_dps _)) .nil)))))
              · refine ⟨?_, by rw [List.length_append, T1.rlen]; rfl, fun z hz => ?_, fun z hz rd hrd => ?_⟩
                · rw [sum_set (f := fun y : Held => y.rs.length) hy (by show (y.rs ++ [_]).length = _; rw [List.length_append]; rfl), T1.few]
                · rcases List.mem_append.mp hz with h | h
                  · exact T1.rok z h
                  · rw [List.mem_singleton.mp h]
                    exact ⟨vl, vb, (ht _ mem4).2, (ht _ mem7).2⟩
                · rcases List.mem_or_eq_of_mem_set hz with h | h
                  · exact T1.ok z h rd hrd
                  · rw [h] at hrd
                    rcases List.mem_append.mp hrd with h' | h'
                    · exact T1.ok y (List.mem_of_getElem? hy) rd h'
                    · rw [List.mem_singleton.mp h']
                      refine ⟨?_, mem7, ⟨(show (-10 : Int) ≤ 1 by decide), (show (1 : Int) ≤ 10 by decide)⟩, fun x hx => ?_⟩
                      · unfold isRead
                        rw [Bool.and_eq_true, Bool.and_eq_true]
                        exact ⟨(ht _ mem7).1, decide_eq_true vl, by rfl⟩
                      · have := vb x hx
                        omega
          · rintro σ H10 ⟨y11, y12, y13, y14, rfl, B', hs', rows, rx, s1, K1, h1, e1, bU1, U1, dr1, T1⟩
            have hsl : hs'.length = ts.length := by
              have z := congrArg List.length e1
              rw [List.length_map, List.length_map] at z
              rw [z, c1]
            have Kc := (RS.cut K1.ok).mono (show m + 15 + 2 + 40 * nN.toNat ≤ m + 600 by omega)
            have sc : Same B' (cutr H10 r) := fun b o e => by
              rw [cutr_ne (ne_of_none e K1.n)]
              exact K1.s b o e
            have Dc := sc _ _ (s1 _ _ D7)
            have Ec := sc _ _ (s1 _ _ E7)
            have hdc : ∀ (j : Nat) (y : Held), hs'[j]? = some y → Dp K (cutr H10 r) (.ref y.l) (.list (y.rs.map Rd1.d)) := fun j y hy => by
              obtain ⟨_, z2, xs, z3, z4⟩ := h1.at_ j y hy
              exact .lst (Or.inl (Or.inl (by rw [cutr_ne z2.symm]; exact z3))) (dpsm sc _ _ z4)
            have sBc : Same B (cutr H10 r) := same_tr sB7 (same_tr s1 sc)
            generalize cutr H10 r = Bc at Kc Dc Ec hdc sBc
            clear K1 h1 bU1 U1 dr1 sc
            have eE : (hs.map fun y => V.ref y.l) = hs'.map fun y => V.ref y.l := by
              have z := congrArg (List.map V.ref) e1
              rw [List.map_map, List.map_map] at z
              exact z.symm
            rw [eE] at Ec
            have hmin : ts.length = min (ts.map V.str).length (hs'.map fun y => V.ref y.l).length := by rw [List.length_map, List.length_map, hsl, Nat.min_self]
            refine ⟨_, rfl, _, rfl, D, E, ts.map V.str, hs'.map fun y => V.ref y.l, rfl, Or.inl (Or.inl (Kc.s _ _ Dc)), Or.inl (Or.inl (Kc.s _ _ Ec)), fun G hG => ?_⟩
            have bG := free_of Kc.s hG
            have rG := Kc.ne hG
            refine lc_it (walk_zip (K := K) (a := D) (b := E) hmin) (fun i H' => ∃ (Bx : Hp) (cs : List Tb) (zs : List V), Same Bc Bx ∧ RS r (m + 600 + i) Bx H' ∧ Bx G = none ∧ H' G = some (.lst zs) ∧ DpAll K Bx zs (cs.map Tb.d) ∧ cs.length = i ∧ cs.map (·.n) = ts.take i ∧ cs.map (·.rs) = (hs'.map (·.rs)).take i ∧ ∀ t ∈ cs, -99 ≤ t.c ∧ t.c ≤ 99)
              ⟨Bc, [], [], same_refl, Kc.new hG, bG, upd_same, .nil, rfl, rfl, rfl, (by intro t h; cases h)⟩ (fun i H' _ ⟨Bx, _, _, b1, b2, _⟩ => ⟨Or.inl (Or.inl (b2.s _ _ (b1 _ _ Dc))), Or.inl (Or.inl (b2.s _ _ (b1 _ _ Ec)))⟩) ?_ ?_
            · rintro i x Hi _ hi ⟨Bx, cs, zs, b1, b2, b3, b4, b5, b6, b7, b8, b9⟩ ⟨Tp, k1, k2, rfl, hTp, rfl, f1, f2⟩
              have f1 : (ts.map V.str)[i]? = some k1 := f1
              have f2 : (hs'.map fun y => V.ref y.l)[i]? = some k2 := f2
              rw [List.getElem?_map] at f1 f2
              obtain ⟨x1, hx1, rfl⟩ := Option.map_eq_some_iff.mp f1
              obtain ⟨y1, hy1, rfl⟩ := Option.map_eq_some_iff.mp f2
              refine ⟨Tp, _, rfl, Or.inl (Or.inl upd_same), rfl, _, _, rfl, _, _, rfl, rfl, rfl, yes_if ?_⟩
              have q1 := b2.new (o := .tup [.str x1, .ref y1.l]) hTp
              have G1 : (upd Hi Tp (.tup [.str x1, .ref y1.l])) G = some (.lst zs) := snew hTp _ _ b4
              generalize upd Hi Tp (.tup [.str x1, .ref y1.l]) = Hj at q1 G1
              refine ⟨_, rfl, _, rfl, (by show 3 ≤ sizeLine; decide), fun u hu => ?_⟩
              have bu := free_of q1.s hu
              have q3 := (q1.new (o := .tup [.str x1, .int 1, .ref y1.l]) hu).keep upd_same bu (q1.ne hu)
              have G3 : (upd Hj u (.tup [.str x1, .int 1, .ref y1.l])) G = some (.lst zs) := snew hu _ _ G1
              have bG3 : (upd Bx u (.tup [.str x1, .int 1, .ref y1.l])) G = none := by rw [upd_ne (ne_of_none G1 hu)]; exact b3
              have sN := snew (o := .tup [.str x1, .int 1, .ref y1.l]) bu
              have hzl : zs.length = i := by rw [dps_len b5, List.length_map, b6]
              refine ⟨zs, G3, small1000 (by omega), _, cs ++ [⟨x1, 1, y1.rs⟩], zs ++ [.ref u], same_tr b1 sN, (q3.put bG3 rG).mono (by omega), bG3, upd_same, ?_, by rw [List.length_append, b6]; rfl, ?_, ?_, ?_⟩
              · rw [List.map_append]
                exact dps_snoc (dpsm sN _ _ b5) (.tup (Or.inl (Or.inl upd_same)) (.cons (.str _) (.cons (.int _) (.cons (dpm (same_tr b1 sN) _ _ (hdc i y1 hy1)) .nil))))
              · rw [List.map_append, b7, List.take_add_one, hx1]
                rfl
              · rw [List.map_append, b8, List.take_add_one, List.getElem?_map, hy1]
                rfl
              · intro t h
                rcases List.mem_append.mp h with h | h
                · exact b9 t h
                · rw [List.mem_singleton.mp h]
                  show (-99 : Int) ≤ 1 ∧ (1 : Int) ≤ 99
                  omega
            · rintro H11 ⟨Bx, cs, zs, b1, b2, b3, b4, b5, b6, b7, b8, b9⟩
              rw [List.take_length] at b7
              rw [List.take_of_length_le (by rw [List.length_map]; omega)] at b8
              have hrs : ∀ t ∈ cs, ∃ y ∈ hs', t.rs = y.rs := fun t h => by
                have z : t.rs ∈ hs'.map (·.rs) := by rw [← b8]; exact List.mem_map.mpr ⟨t, h, rfl⟩
                obtain ⟨y, hy, e⟩ := List.mem_map.mp z
                exact ⟨y, hy, e.symm⟩
              have hsum : (cs.map fun t => t.rs.length).sum = nN.toNat := by
                have z := congrArg (fun l : List (List Rd1) => (l.map List.length).sum) b8
                simp only [List.map_map] at z
                rw [← T1.few]
                exact z
              have K2 := b2.keep b4 b3 rG
              refine q G _ H11 cs (same_tr sBc (same_tr b1 (snew b3))) (K2.mono (by omega)) ⟨zs, upd_same, dpsm (snew b3) _ _ b5⟩ (by omega) (by omega) ⟨fun t h => (ht _ (by rw [← b7]; exact List.mem_map.mpr ⟨t, h, rfl⟩)).1, by rw [b7]; exact hnd, by rw [hsum]; omega, fun t h rd hrd => ?_, fun t h rd hrd => ?_⟩ (fun t h => (ht _ (by rw [← b7]; exact List.mem_map.mpr ⟨t, h, rfl⟩)).2) (fun t h => ⟨b9 t h, fun rd hrd => ?_, fun rd hrd => ?_⟩) (by rw [hsum]; omega)
              · obtain ⟨y, hy, e⟩ := hrs t h
                exact (T1.ok y hy rd (by rw [← e]; exact hrd)).1
              · obtain ⟨y, hy, e⟩ := hrs t h
                rw [b7]
                exact (T1.ok y hy rd (by rw [← e]; exact hrd)).2.1
              · obtain ⟨y, hy, e⟩ := hrs t h
                exact (T1.ok y hy rd (by rw [← e]; exact hrd)).2.2.1
              · obtain ⟨y, hy, e⟩ := hrs t h
                exact (T1.ok y hy rd (by rw [← e]; exact hrd)).2.2.2
end
end Fr

namespace Fr
open PySem PySem.Spec PyProof.Rows L2
theorem mem_rowsU {us : List Tb} {y : RowP} : y ∈ rowsU us ↔ ∃ t ∈ us, t.n = y.w ∧ ∃ rd, t.rs[y.n]? = some rd ∧ y.o = rd.t ∧ y.v = rd.v := by
  unfold rowsU
  rw [List.mem_flatMap]
  constructor
  · rintro ⟨t, ht, hy⟩
    unfold rowsT at hy
    rw [List.take_length] at hy
    obtain ⟨i, hi, rfl⟩ := List.mem_mapIdx.mp hy
    exact ⟨t, ht, rfl, t.rs[i], List.getElem?_eq_getElem hi, rfl, rfl⟩
  · rintro ⟨t, ht, e, rd, h1, h2, h3⟩
    refine ⟨t, ht, ?_⟩
    unfold rowsT
    rw [List.take_length]
    obtain ⟨hi, e2⟩ := List.getElem?_eq_some_iff.mp h1
    refine List.mem_mapIdx.mpr ⟨y.n, hi, ?_⟩
    rw [e2, ← h2, ← h3, e]
theorem mem_rowsS {ts : List Tb} {y : RowP} : y ∈ rowsS ts ↔ ∃ t ∈ ts, t.n = y.w ∧ ∃ rd, t.rs[y.n]? = some rd ∧ y.o = rd.t ∧ y.v = rd.v := by
  unfold rowsS
  rw [List.mem_map]
  constructor
  · rintro ⟨l, hl, rfl⟩
    obtain ⟨t, ht, h1, h2⟩ := mem_links.mp hl
    exact ⟨t, ht, h1, l.r, h2, rfl, rfl⟩
  · rintro ⟨t, ht, h1, rd, h2, h3, h4⟩
    refine ⟨⟨y.w, y.n, rd⟩, mem_links.mpr ⟨t, ht, h1, h2⟩, ?_⟩
    show RowP.mk y.w y.n rd.t rd.v = y
    rw [← h3, ← h4]
theorem rows_same {us ts vs : List Tb} (p : us.Perm ts) (q : vs.Perm ts) (y : RowP) : y ∈ rowsU us ↔ y ∈ rowsS vs := by
  rw [mem_rowsU, mem_rowsS]
  constructor
  · rintro ⟨t, ht, z⟩
    exact ⟨t, q.mem_iff.mpr (p.mem_iff.mp ht), z⟩
  · rintro ⟨t, ht, z⟩
    exact ⟨t, p.mem_iff.mpr (q.mem_iff.mp ht), z⟩
theorem cw_same {E F : List RowP} (h : ∀ y, y ∈ E ↔ y ∈ F) (xs : List (Str × Int)) (w : List RowP) : CW E xs w ↔ CW F xs w :=
  ⟨fun ⟨a, b, c⟩ => ⟨a, fun r hr => (h r).mp (b r hr), c⟩, fun ⟨a, b, c⟩ => ⟨a, fun r hr => (h r).mpr (b r hr), c⟩⟩
theorem bars_same {E F : List RowP} (h : ∀ y, y ∈ E ↔ y ∈ F) (d : Int) (xs : List (Str × Int)) : Bars E d xs ↔ Bars F d xs :=
  ⟨fun ⟨w, a, b⟩ => ⟨w, (cw_same h xs w).mp a, b⟩, fun ⟨w, a, b⟩ => ⟨w, (cw_same h xs w).mpr a, b⟩⟩
theorem keys_nd : ∀ {us : List Tb}, (us.map (·.n)).Nodup → ((rowsU us).map RowP.k).Nodup
  | [], _ => List.nodup_nil
  | t :: us, nd => by
    rw [List.map_cons, List.nodup_cons] at nd
    have e : rowsU (t :: us) = rowsT t t.rs.length ++ rowsU us := rfl
    rw [e, List.map_append]
    refine List.nodup_append.mpr ⟨?_, keys_nd nd.2, fun x hx z hz => ?_⟩
    · have e2 : (rowsT t t.rs.length).map RowP.k = (List.range t.rs.length).map fun i : Nat => (t.n, (i : Int)) := by
        unfold rowsT
        rw [List.take_length]
        refine List.ext_getElem? fun i => ?_
        rw [List.getElem?_map, List.getElem?_map, List.getElem?_mapIdx]
        by_cases hi : i < t.rs.length
        · rw [List.getElem?_eq_getElem hi, get_range hi]
          rfl
        · rw [List.getElem?_eq_none (by omega), List.getElem?_eq_none (by rw [List.length_range]; omega)]
          rfl
      rw [e2]
      refine List.pairwise_map.mpr (List.nodup_range.imp fun n e3 => n ?_)
      have := congrArg Prod.snd e3
      dsimp only at this
      omega
    · rintro rfl
      obtain ⟨y, hy, rfl⟩ := List.mem_map.mp hx
      obtain ⟨u, hu, ek⟩ := List.mem_map.mp hz
      obtain ⟨t2, ht2, h2, _⟩ := mem_rowsU.mp hu
      have h1 : y.w = t.n := by
        unfold rowsT at hy
        rw [List.take_length] at hy
        obtain ⟨i, hi, rfl⟩ := List.mem_mapIdx.mp hy
        rfl
      refine nd.1 (List.mem_map.mpr ⟨t2, ht2, ?_⟩)
      rw [h2, ← h1]
      exact congrArg Prod.fst ek
theorem row_ok {d : Int} {ts us : List Tb} (p : us.Perm ts) (O : OkT d ts) (s : ∀ t ∈ ts, PyData.strOk t.n = true) {y : RowP} (hy : y ∈ rowsU us) : OkRow y ∧ (y.v.length : Int) = d ∧ y.w ∈ ts.map (·.n) := by
  obtain ⟨t, ht, h1, rd, h2, h3, h4⟩ := mem_rowsU.mp hy
  have ht := p.mem_iff.mp ht
  have hr := List.mem_of_getElem? h2
  have hn := O.here t ht rd hr
  obtain ⟨u, hu, eu⟩ := List.mem_map.mp hn
  refine ⟨⟨by rw [← h1]; exact s t ht, by rw [h3, ← eu]; exact s u hu⟩, by rw [h4]; exact rd_len2 (O.reads t ht rd hr), List.mem_map.mpr ⟨t, ht, h1⟩⟩
theorem paired_put {α : Type} {R : V → α → Prop} {v : V} {a : α} (h : R v a) : ∀ {vs : List V} {as : List α}, Paired R vs as → Paired R (vs ++ [v]) (as ++ [a])
  | [], _, k => by cases k; exact .cons h .nil
  | u :: vs, _, k => by
    cases k with
    | cons k1 k2 => exact .cons k1 (paired_put h k2)
theorem paired_app {α : Type} {R : V → α → Prop} : ∀ {vs us : List V} {as bs : List α}, Paired R vs as → Paired R us bs → Paired R (vs ++ us) (as ++ bs)
  | [], _, _, _, h, k => by cases h; exact k
  | _ :: vs, _, _, _, h, k => by
    cases h with
    | cons h1 h2 => exact .cons h1 (paired_app h2 k)
theorem paired_imp {α : Type} {R S : V → α → Prop} (f : ∀ v a, R v a → S v a) : ∀ {vs : List V} {as : List α}, Paired R vs as → Paired S vs as
  | [], _, h => by cases h; exact .nil
  | _ :: vs, _, h => by
    cases h with
    | cons h1 h2 => exact .cons (f _ _ h1) (paired_imp f h2)
theorem paired_at {α : Type} {R : V → α → Prop} : ∀ {vs : List V} {as : List α} {i : Nat} {v : V}, Paired R vs as → vs[i]? = some v → ∃ a, as[i]? = some a ∧ R v a
  | [], _, _, _, _, e => by cases e
  | _ :: vs, _, 0, _, h, e => by
    cases h with
    | cons h1 h2 => cases e; exact ⟨_, rfl, h1⟩
  | _ :: vs, _, i + 1, _, h, e => by
    cases h with
    | cons h1 h2 =>
      obtain ⟨a, k1, k2⟩ := paired_at (i := i) h2 (by simpa using e)
      exact ⟨a, by simpa using k1, k2⟩
/-- a new thing for each item of a list; Rl: what is true of the things, PB: of the bases -/
theorem lc_fr {α β : Type} {K : PySem.W.Frag} {g : TG} {te : TE} {vs : List Nat} {σ : L2.St} {a D : Addr} {xs : List V} {B0 H1 : Hp} {Qd : Hp → Prop} (PB : Hp → Prop) (E : List α) (dα : α → PyData) (fα : α → β) (Rl : Hp → V → β → Prop) (mono : ∀ B B' v b, Same B B' → Rl B v b → Rl B' v b)
    (hx : SqL K H1 a xs) (s0 : Same B0 H1) (h0 : PB B0) (h : DpAll K H1 xs (E.map dα)) (hl : E.length ≤ 1000000) (hD : H1 D = none)
    (hs : ∀ x r B H, r ∈ E → Same B0 B → B D = none → PB B → Same B H → Same H1 H → (∃ o, H D = some o) → Dp K H x (dα r) → ∀ (R : V → Hp → Prop) (N : Hp → Prop),
      (∀ y H4 B', Same H H4 → Same B B' → B' D = none → PB B' → Same B' H4 → Rl B' y (fα r) → R y H4) → g x (wipe σ vs) H fun σ2 H2 => wipe σ2 vs = wipe σ vs ∧ tYes σ2 H2 fun b H3 => if b = true then te σ2 H3 R else N H3)
    (hd : ∀ H B bs, Same B0 B → B D = none → PB B → Same B H → Same H1 H → H D = some (.lst bs) → Paired (Rl B) bs (E.map fα) → Qd H) :
    ∃ W : Nat → Nat → Hp → Prop, (∃ m, W 0 m (upd H1 D (.lst []))) ∧ ∀ i m H, W i m H →
      ((Itl K a).stop i H ∧ Qd H) ∨ ((Itl K a).go i H ∧ ∃ Nx : Hp → Prop, (∀ H', Nx H' → ∃ m', m' < m ∧ W (i + 1) m' H') ∧ ∀ x H', (Itl K a).yld i H x H' → g x (wipe σ vs) H' fun σ2 H2 => wipe σ2 vs = wipe σ vs ∧ tYes σ2 H2 fun b H3 =>
        if b = true then te σ2 H3 fun y H4 => ∃ acc, H4 D = some (.lst acc) ∧ acc.length < sizeLine ∧ Nx (upd H4 D (.lst (acc ++ [y]))) else Nx H3) := by
  have len : xs.length = E.length := by rw [dps_len h, List.length_map]
  have big : 1000000 < sizeLine := by decide
  refine lc_it (walk_list (K := K) (a := a) (xs := xs)) (fun i H => ∃ B bs, Same B0 B ∧ B D = none ∧ PB B ∧ Same B H ∧ Same H1 H ∧ H D = some (.lst bs) ∧ Paired (Rl B) bs ((E.take i).map fα)) ⟨B0, [], same_refl, free_of s0 hD, h0, same_tr s0 (snew hD), snew hD, upd_same, .nil⟩ (fun i H _ ⟨B, _, _, _, _, _, s, _⟩ => sql s hx) ?_ (fun H ⟨B, bs, s1, b, pb, s2, s, e, d⟩ => hd H B bs s1 b pb s2 s e (by rw [len, List.take_length] at d; exact d))
  rintro i x _ H hi ⟨B, bs, s1, b, pb, s2, s, e, d⟩ ⟨rfl, hy⟩
  obtain ⟨dd, hdd, dx⟩ := dps_get (dpsm s _ _ h) hy
  rw [List.getElem?_map] at hdd
  obtain ⟨r, hr, rfl⟩ := Option.map_eq_some_iff.mp hdd
  refine hs x r B H (List.mem_of_getElem? hr) s1 b pb s2 s ⟨_, e⟩ dx _ _ (fun y H4 B' t1 t2 t3 tp t4 t5 => ⟨bs, t1 _ _ e, ?_, B', bs ++ [y], same_tr s1 t2, t3, tp, swrite t4 t3, swrite (same_tr s t1) hD, upd_same, ?_⟩)
  · have l1 := Paired.length d
    rw [List.length_map, List.length_take] at l1
    omega
  · rw [List.take_add_one, hr, Option.toList_some, List.map_append]
    exact paired_put t5 (paired_imp (fun v a => mono _ _ v a t2) d)
/-- a list of named reads that stands -/
def PapAt (B : Hp) (v : V) (xs : List (Str × Int)) : Prop := ∃ a rs, v = .ref a ∧ B a = some (.lst rs) ∧ TksAt B rs xs
theorem PapAt.mono {B B' : Hp} {v : V} {xs : List (Str × Int)} (s : Same B B') (h : PapAt B v xs) : PapAt B' v xs := by
  obtain ⟨a, rs, h1, h2, h3⟩ := h
  exact ⟨a, rs, h1, s _ _ h2, h3.mono s⟩
theorem TkAt.mono' {B B' : Hp} {v : V} {x : Str × Int} (s : Same B B') (h : TkAt B v x) : TkAt B' v x := by
  obtain ⟨a, h1, h2⟩ := h
  exact ⟨a, h1, s _ _ h2⟩
theorem paps_dps {K : PySem.W.Frag} {B : Hp} : ∀ {vs : List V} {xss : List (List (Str × Int))}, Paired (PapAt B) vs xss → DpAll K B vs (xss.map fun xs => .list (xs.map rnD))
  | [], _, h => by cases h; exact .nil
  | _ :: vs, _, h => by
    cases h with
    | cons h1 h2 =>
      obtain ⟨a, rs, rfl, h3, h4⟩ := h1
      exact .cons (.lst (Or.inl (Or.inl h3)) h4.dps) (paps_dps h2)
theorem RS.add {r p : Addr} {m : Nat} {B H : Hp} {o : HO} (R : RS r m B H) (hp : H p = none) : RS r m (upd B p o) (upd H p o) ∧ Same B (upd B p o) ∧ Same H (upd H p o) := ⟨(R.new hp).keep upd_same (free_of R.s hp) (R.ne hp), snew (free_of R.s hp), snew hp⟩
theorem TksAt.rev {H : Hp} : ∀ {vs : List V} {xs : List (Str × Int)}, TksAt H vs xs → TksAt H vs.reverse xs.reverse
  | [], _, h => by cases h; exact .nil
  | v :: vs, _, h => by
    cases h with
    | cons h1 h2 =>
      rw [List.reverse_cons, List.reverse_cons]
      exact TksAt.app (TksAt.rev h2) (.cons h1 .nil)
theorem cut_from (xs : List V) (i : Nat) : cutV xs (some (i : Int)) none = xs.drop i := by
  unfold cutV
  rw [show HT.sIx xs.length 0 (some (i : Int)) = min i xs.length from HT.sIx_nat xs.length 0 i, HT.sIx_none]
  by_cases h : i ≤ xs.length
  · rw [Nat.min_eq_left h, List.take_of_length_le (by rw [List.length_drop]; omega)]
  · rw [Nat.min_eq_right (by omega), List.drop_of_length_le (Nat.le_refl _), List.drop_of_length_le (by omega), List.take_nil]
end Fr

namespace Fr
open PySem PySem.Spec PyProof.Rows L2
open PySem.Sem (wp)
abbrev Tri (h : Heap) (T : Addr) (a b c : Value) : Prop := h.get? T = some { cls := .type "tuple", data := .seq #[a, b, c] }
/-- a zip of three tuples, its parts at n .. n + 5, that gave k items -/
structure Zi3 (h : Heap) (n p1 p2 p3 : Addr) (k : Nat) (f0 : Value) : Prop where
  zz : IsZip h (n + 5) (n + 3) (n + 4) f0
  ti : Tri h (n + 3) (.ref n) (.ref (n + 1)) (.ref (n + 2))
  to : ∃ a b c, Tri h (n + 4) a b c
  j1 : h.IsTupleIter n p1 k
  j2 : h.IsTupleIter (n + 1) p2 k
  j3 : h.IsTupleIter (n + 2) p3 k
theorem nd3 (n i j : Nat) (h : i ≠ j) : ((n + i : Nat) : Addr) ≠ ((n + j : Nat) : Addr) := fun e => h (Nat.add_left_cancel e)
section
variable {prog : Program} {w : World} {A : Around} {E : Value → Shared → Prop} {s : Shared}
theorem upd_tri {T : Addr} {a b c x : Value} {k : Nat} {Q : Unit → Shared → Prop} (ht : Tri s.heap T a b c)
    (q : ∀ g, g.get? T = some { cls := .type "tuple", data := .seq ((#[a, b, c] : Array Value).setIfInBounds k x) } → Heap.SameBut T s.heap g → Q () { s with heap := g }) :
    wpAny (model prog w) A (updateSeq T (·.setIfInBounds k x)) Q E s := by
  refine wpAny_updateSeq ht rfl (q _ ?_ (Heap.SameBut.update ..))
  rw [Heap.get?_update_self _ ht rfl]
  simp [Obj.mapSeq]
theorem zi3_item {n p1 p2 p3 : Addr} {k : Nat} {xs ys zs : Array Value} {x y z : Value} {Q : Value → Shared → Prop} (q1 : p1 < n) (q2 : p2 < n) (q3 : p3 < n) (Z : Zi3 s.heap n p1 p2 p3 k .none) (t1 : s.heap.IsTuple p1 xs) (t2 : s.heap.IsTuple p2 ys) (t3 : s.heap.IsTuple p3 zs)
    (e1 : xs[k]? = some x) (e2 : ys[k]? = some y) (e3 : zs[k]? = some z)
    (hQ : ∀ g, IsZip g (n + 5) (n + 3) (n + 4) (rawInt s.heap.objs.size) → Tri g (n + 4) x y z → g.IsTupleIter n p1 (k + 1) → g.IsTupleIter (n + 1) p2 (k + 1) → g.IsTupleIter (n + 2) p3 (k + 1) → Tri g s.heap.objs.size x y z → g.objs.size = s.heap.objs.size + 1 →
      (∀ c o, c ≠ n → c ≠ n + 1 → c ≠ n + 2 → c ≠ n + 4 → c ≠ n + 5 → s.heap.get? c = some o → g.get? c = some o) → Q (.ref s.heap.objs.size) { s with heap := g }) :
    wpAny (model prog w) A (Builtin.«zip.__next__» ⟨[.ref (n + 5)], []⟩) (fun fin s' => ∃ v, fin = .done (.ret v) ∧ Q v s') E s := by
  obtain ⟨gz, gi, ⟨a, b, c, go⟩, r1, r2, r3⟩ := Z
  have d0 : n ≠ n + 5 := nd3 n 0 5 (by decide)
  have d1 : n + 1 ≠ n + 5 := nd3 n 1 5 (by decide)
  have d2 : n + 2 ≠ n + 5 := nd3 n 2 5 (by decide)
  have d4 : n + 4 ≠ n + 5 := nd3 n 4 5 (by decide)
  have d40 : n + 4 ≠ n := nd3 n 4 0 (by decide)
  have d41 : n + 4 ≠ n + 1 := nd3 n 4 1 (by decide)
  have d42 : n + 4 ≠ n + 2 := nd3 n 4 2 (by decide)
  have d01 : n ≠ n + 1 := nd3 n 0 1 (by decide)
  have d02 : n ≠ n + 2 := nd3 n 0 2 (by decide)
  have d12 : n + 1 ≠ n + 2 := nd3 n 1 2 (by decide)
  have lp : ∀ {p : Addr} {m : Nat}, p < n → p ≠ n + m := fun hp => Nat.ne_of_lt (Nat.lt_of_lt_of_le hp (Nat.le_add_right _ _))
  show wpAny _ _ (field (.ref (n + 5)) 2 >>= _) _ _ _
  refine wpAny_bind (wpAny_field gz rfl (x := .bool false) rfl ?_)
  show wpAny _ _ (field (.ref (n + 5)) 3 >>= _) _ _ _
  refine wpAny_bind (wpAny_field gz rfl (x := .ref (n + 3)) rfl ?_)
  refine wpAny_bind (wpAny_seqItems gi rfl ?_)
  show wpAny _ _ (Builtin.SmallTypes.ownedTupleIsFree (.ref (n + 5)) >>= _) _ _ _
  refine wpAny_bind ?_
  unfold Builtin.SmallTypes.ownedTupleIsFree
  refine wpAny_bind (wpAny_field gz rfl (x := .none) rfl (wpAny_pure ?_))
  simp only [if_true]
  refine wpAny_bind (wpAny_rule ?_)
  refine wpAny_bind (wpAny_field gz rfl (x := .ref (n + 4)) rfl ?_)
  refine wpAny_bind (wpAny_setField_rec gz (by simp) fun g1 gz1 u1 => ?_)
  replace gz1 : IsZip g1 (n + 5) (n + 3) (n + 4) .ellipsis := gz1
  refine wpAny_bind ?_
  simp only [List.zipIdx_cons, List.zipIdx_nil, List.forIn_cons, List.forIn_nil]
  -- the first
  refine wpAny_bind (wpAny_bind (wpAny_onRaise ?_))
  show wpAny _ _ (Builtin.SmallTypes.nextOf (.ref n) >>= _) _ _ _
  refine wpAny_bind (RZ.nextOf_tuple_item (r1.extBut u1.extBut d0) (t1.extBut u1.extBut (lp q1)) e1 fun g2 r1' u2 => wpAny_pure ?_)
  have go2 : Tri g2 (n + 4) a b c := u2.extBut _ _ d40 (u1.extBut _ _ d4 go)
  refine wpAny_bind (wpAny_seqItems go2 rfl ?_)
  refine wpAny_bind (upd_tri go2 fun g3 go3 u3 => ?_)
  replace go3 : Tri g3 (n + 4) x b c := go3
  refine wpAny_bind (wpAny_letGo (wpAny_pure ?_))
  -- the second
  refine wpAny_bind (wpAny_bind (wpAny_onRaise ?_))
  show wpAny _ _ (Builtin.SmallTypes.nextOf (.ref (n + 1)) >>= _) _ _ _
  have lp0 : ∀ {p : Addr}, p < n → p ≠ n := fun hp => Nat.ne_of_lt hp
  refine wpAny_bind (RZ.nextOf_tuple_item (((r2.extBut u1.extBut d1).extBut u2.extBut d01.symm).extBut u3.extBut d41.symm) (((t2.extBut u1.extBut (lp q2)).extBut u2.extBut (lp0 q2)).extBut u3.extBut (lp q2)) e2 fun g4 r2' u4 => wpAny_pure ?_)
  have go4 : Tri g4 (n + 4) x b c := u4.extBut _ _ d41 go3
  refine wpAny_bind (wpAny_seqItems go4 rfl ?_)
  refine wpAny_bind (upd_tri go4 fun g5 go5 u5 => ?_)
  replace go5 : Tri g5 (n + 4) x y c := go5
  refine wpAny_bind (wpAny_letGo (wpAny_pure ?_))
  -- the third
  refine wpAny_bind (wpAny_bind (wpAny_onRaise ?_))
  show wpAny _ _ (Builtin.SmallTypes.nextOf (.ref (n + 2)) >>= _) _ _ _
  refine wpAny_bind (RZ.nextOf_tuple_item (((((r3.extBut u1.extBut d2).extBut u2.extBut d02.symm).extBut u3.extBut d42.symm).extBut u4.extBut d12.symm).extBut u5.extBut d42.symm) (((((t3.extBut u1.extBut (lp q3)).extBut u2.extBut (lp0 q3)).extBut u3.extBut (lp q3)).extBut u4.extBut (lp q3)).extBut u5.extBut (lp q3)) e3 fun g6 r3' u6 => wpAny_pure ?_)
  have go6 : Tri g6 (n + 4) x y c := u6.extBut _ _ d42 go5
  refine wpAny_bind (wpAny_seqItems go6 rfl ?_)
  refine wpAny_bind (upd_tri go6 fun g7 go7 u7 => ?_)
  replace go7 : Tri g7 (n + 4) x y z := go7
  refine wpAny_bind (wpAny_letGo (wpAny_pure (wpAny_pure ?_)))
  refine wpAny_bind (wpAny_seqItems go7 rfl ?_)
  refine wpAny_bind (wpAny_newTuple ?_)
  have gsz : g7.objs.size = s.heap.objs.size := by rw [u7.1, u6.1, u5.1, u4.1, u3.1, u2.1, u1.1]
  have all7 : ∀ c o, c ≠ n → c ≠ n + 1 → c ≠ n + 2 → c ≠ n + 4 → g1.get? c = some o → g7.get? c = some o := fun c o c0 c1 c2 c4 e =>
    u7.extBut _ _ c4 (u6.extBut _ _ c2 (u5.extBut _ _ c4 (u4.extBut _ _ c1 (u3.extBut _ _ c4 (u2.extBut _ _ c0 e)))))
  have gz7 : IsZip g7 (n + 5) (n + 3) (n + 4) .ellipsis := all7 _ _ d0.symm d1.symm d2.symm d4.symm gz1
  have k1 : g7.IsTupleIter n p1 (k + 1) := ((((r1'.extBut u3.extBut d40.symm).extBut u4.extBut d01).extBut u5.extBut d40.symm).extBut u6.extBut d02).extBut u7.extBut d40.symm
  have k2 : g7.IsTupleIter (n + 1) p2 (k + 1) := ((r2'.extBut u5.extBut d41.symm).extBut u6.extBut d12).extBut u7.extBut d41.symm
  have k3 : g7.IsTupleIter (n + 2) p3 (k + 1) := r3'.extBut u7.extBut d42.symm
  have zlt : n + 5 < g7.objs.size := Heap.lt_size gz7
  show wpAny _ _ (Builtin.SmallTypes.ownedTupleHandOut (.ref (n + 5)) (.ref g7.objs.size) >>= _) _ _ _
  refine wpAny_bind ?_
  unfold Builtin.SmallTypes.ownedTupleHandOut
  have gz8 : IsZip (g7.push { cls := .type "tuple", data := .seq #[x, y, z] }) (n + 5) (n + 3) (n + 4) .ellipsis := Heap.get?_push_of_some _ gz7
  refine wpAny_bind (wpAny_setField_rec gz8 (by simp) fun g9 gz9 u9 => ?_)
  replace gz9 : IsZip g9 (n + 5) (n + 3) (n + 4) (rawInt g7.objs.size) := gz9
  refine wpAny_setField_rec gz9 (by simp) fun g10 gz10 u10 => ?_
  replace gz10 : IsZip g10 (n + 5) (n + 3) (n + 4) (rawInt g7.objs.size) := gz10
  have up : ∀ c o, c ≠ n + 5 → g7.get? c = some o → g10.get? c = some o := fun c o cz e => u10.extBut _ _ cz (u9.extBut _ _ cz (Heap.get?_push_of_some _ e))
  have tN : Tri g10 g7.objs.size x y z := u10.extBut _ _ (Nat.ne_of_gt zlt) (u9.extBut _ _ (Nat.ne_of_gt zlt) (Heap.get?_push_size _ rfl))
  have sz10 : g10.objs.size = g7.objs.size + 1 := by rw [u10.1, u9.1, Heap.size_push]
  rw [gsz] at gz10 tN sz10
  refine wpAny_pure ⟨_, rfl, ?_⟩
  show Q (.ref g7.objs.size) _
  rw [gsz]
  exact hQ g10 gz10 (up _ _ d4 go7) (k1.at fun o e => up _ o d0 e) (k2.at fun o e => up _ o d1 e) (k3.at fun o e => up _ o d2 e) tN sz10 fun c o c0 c1 c2 c4 c5 e => up c o c5 (all7 c o c0 c1 c2 c4 (u1.extBut _ _ c5 e))
theorem zi3_end {n p1 p2 p3 : Addr} {k : Nat} {xs : Array Value} {Q : Fin → Shared → Prop} (hh : A.handled = none) (q1 : p1 < n) (Z : Zi3 s.heap n p1 p2 p3 k .none) (t1 : s.heap.IsTuple p1 xs) (e1 : xs[k]? = none)
    (hE : ∀ g e, (∀ c o, c ≠ n → c ≠ n + 5 → s.heap.get? c = some o → g.get? c = some o) → (∃ o, g.get? e = some o ∧ o.cls = .type "StopIteration") → E (.ref e) { s with heap := g }) :
    wpAny (model prog w) A (Builtin.«zip.__next__» ⟨[.ref (n + 5)], []⟩) Q E s := by
  obtain ⟨gz, gi, ⟨a, b, c, go⟩, r1, r2, r3⟩ := Z
  have d0 : n ≠ n + 5 := nd3 n 0 5 (by decide)
  have lp : ∀ {p : Addr} {m : Nat}, p < n → p ≠ n + m := fun hp => Nat.ne_of_lt (Nat.lt_of_lt_of_le hp (Nat.le_add_right _ _))
  show wpAny _ _ (field (.ref (n + 5)) 2 >>= _) _ _ _
  refine wpAny_bind (wpAny_field gz rfl (x := .bool false) rfl ?_)
  show wpAny _ _ (field (.ref (n + 5)) 3 >>= _) _ _ _
  refine wpAny_bind (wpAny_field gz rfl (x := .ref (n + 3)) rfl ?_)
  refine wpAny_bind (wpAny_seqItems gi rfl ?_)
  show wpAny _ _ (Builtin.SmallTypes.ownedTupleIsFree (.ref (n + 5)) >>= _) _ _ _
  refine wpAny_bind ?_
  unfold Builtin.SmallTypes.ownedTupleIsFree
  refine wpAny_bind (wpAny_field gz rfl (x := .none) rfl (wpAny_pure ?_))
  simp only [if_true]
  refine wpAny_bind (wpAny_rule ?_)
  refine wpAny_bind (wpAny_field gz rfl (x := .ref (n + 4)) rfl ?_)
  refine wpAny_bind (wpAny_setField_rec gz (by simp) fun g1 gz1 u1 => ?_)
  replace gz1 : IsZip g1 (n + 5) (n + 3) (n + 4) .ellipsis := gz1
  refine wpAny_bind ?_
  simp only [List.zipIdx_cons, List.zipIdx_nil, List.forIn_cons, List.forIn_nil]
  refine wpAny_bind (wpAny_bind (wpAny_onRaise ?_))
  show wpAny _ _ (Builtin.SmallTypes.nextOf (.ref n) >>= _) _ _ _
  refine wpAny_bind (RZ.nextOf_tuple_end hh (r1.extBut u1.extBut d0) (t1.extBut u1.extBut (lp q1)) e1 fun g2 e u2 he => ?_)
  obtain ⟨oe, hoe, hce⟩ := he
  have gz2 : IsZip g2 (n + 5) (n + 3) (n + 4) .ellipsis := u2 _ _ d0.symm gz1
  have ez : e ≠ n + 5 := fun x => by subst x; rw [gz2] at hoe; cases hoe; simp at hce
  refine wpAny_setField_rec gz2 (by simp) fun g3 _ u3 => hE g3 e (fun c o c0 c5 x => u3.extBut _ _ c5 (u2 _ _ c0 (u1.extBut _ _ c5 x))) ⟨oe, u3.extBut _ _ ez hoe, hce⟩
theorem next3_item {n p1 p2 p3 : Addr} {k : Nat} {xs ys zs : Array Value} {x y z : Value} {Q : Option Value → Shared → Prop} (q1 : p1 < n) (q2 : p2 < n) (q3 : p3 < n) (Z : Zi3 s.heap n p1 p2 p3 k .none) (t1 : s.heap.IsTuple p1 xs) (t2 : s.heap.IsTuple p2 ys) (t3 : s.heap.IsTuple p3 zs)
    (e1 : xs[k]? = some x) (e2 : ys[k]? = some y) (e3 : zs[k]? = some z)
    (hQ : ∀ g, IsZip g (n + 5) (n + 3) (n + 4) (rawInt s.heap.objs.size) → Tri g (n + 4) x y z → g.IsTupleIter n p1 (k + 1) → g.IsTupleIter (n + 1) p2 (k + 1) → g.IsTupleIter (n + 2) p3 (k + 1) → Tri g s.heap.objs.size x y z → g.objs.size = s.heap.objs.size + 1 →
      (∀ c o, c ≠ n → c ≠ n + 1 → c ≠ n + 2 → c ≠ n + 4 → c ≠ n + 5 → s.heap.get? c = some o → g.get? c = some o) → Q (some (.ref s.heap.objs.size)) { s with heap := g }) : wpAny (model prog w) A (pyNext (.ref (n + 5))) Q E s := by
  have ty : s.TypeIs (.ref (n + 5)) "zip" := ⟨_, Z.zz, rfl⟩
  unfold pyNext
  exact wpAny_bind (wpAny_attempt (wpAny_callSpecial?_slot (name := Str.ofString "__next__") ty F.slot_zip_next (wpAny_call_entry F.slot_zip_next ty F.entry_zip_next
    (zi3_item q1 q2 q3 Z t1 t2 t3 e1 e2 e3 fun g a1 a2 a3 a4 a5 a6 a7 a8 => wpAny_pure (hQ g a1 a2 a3 a4 a5 a6 a7 a8)) (F.args_zip_next_1 _))))
theorem next3_end {n p1 p2 p3 : Addr} {k : Nat} {xs : Array Value} {Q : Option Value → Shared → Prop} (hh : A.handled = none) (q1 : p1 < n) (Z : Zi3 s.heap n p1 p2 p3 k .none) (t1 : s.heap.IsTuple p1 xs) (e1 : xs[k]? = none)
    (hQ : ∀ g, (∀ c o, c ≠ n → c ≠ n + 5 → s.heap.get? c = some o → g.get? c = some o) → Q none { s with heap := g }) : wpAny (model prog w) A (pyNext (.ref (n + 5))) Q E s := by
  have ty : s.TypeIs (.ref (n + 5)) "zip" := ⟨_, Z.zz, rfl⟩
  unfold pyNext
  refine wpAny_bind (wpAny_attempt (wpAny_callSpecial?_slot (name := Str.ofString "__next__") ty F.slot_zip_next (wpAny_call_entry F.slot_zip_next ty F.entry_zip_next (zi3_end hh q1 Z t1 e1 fun g e kk he => ?_) (F.args_zip_next_1 _))))
  obtain ⟨o, ho, hc⟩ := he
  refine wpAny_bind (wpAny_isInstance (T := "StopIteration") (b := true) ⟨o, ho, hc⟩ isSubtype_stop ?_)
  exact wpAny_pure (hQ _ kk)
end
theorem tc_zip3 (a b c : Value) : checkTypeCall "zip" ⟨[a, b, c], []⟩ = pure () := by kernel_rfl
theorem nc_zip3 (a b c : Value) : checkBuiltinCall "zip.__new__" ⟨[.type "zip", a, b, c], []⟩ = pure () := by kernel_rfl
theorem ai_obj4 (a b c d : Value) : argsOk "object.__init__" ⟨[a, b, c, d], []⟩ := by
  unfold argsOk
  rw [signature?_of (o := ['t', 'c', 'e', 'j', 'b', 'o']) (n := ['_', '_', 't', 'i', 'n', 'i', '_', '_']) (id := "object.__init__") (by kernel_rfl) PySem.F.owner_object]
  kernel_rfl
abbrev itObj (p : Addr) : Obj := { cls := .type "tuple_iterator", data := .fields #[.ref p, .int 0 0] }
abbrev zg1 (h : Heap) (p1 : Addr) : Heap := h.push (itObj p1)
abbrev zg2 (h : Heap) (p1 p2 : Addr) : Heap := (zg1 h p1).push (itObj p2)
abbrev zg3 (h : Heap) (p1 p2 p3 : Addr) : Heap := (zg2 h p1 p2).push (itObj p3)
abbrev zg4 (h : Heap) (p1 p2 p3 : Addr) : Heap := (zg3 h p1 p2 p3).push { cls := .type "tuple", data := .seq #[.ref h.objs.size, .ref (zg1 h p1).objs.size, .ref (zg2 h p1 p2).objs.size] }
abbrev zg5 (h : Heap) (p1 p2 p3 : Addr) : Heap := (zg4 h p1 p2 p3).push { cls := .type "tuple", data := .seq #[.none, .none, .none] }
abbrev zg6 (h : Heap) (p1 p2 p3 : Addr) : Heap := (zg5 h p1 p2 p3).push { cls := .type "zip", data := .fields #[.none, .bool false, .bool false, .ref (zg3 h p1 p2 p3).objs.size, .ref (zg4 h p1 p2 p3).objs.size] }
theorem meets_zip3 (p1 p2 p3 : Addr) (xs ys zs : Array Value) :
    Meets (Builtin.«zip.__new__» ⟨[.type "zip", .ref p1, .ref p2, .ref p3], []⟩) (fun _ R s => s.heap.IsTuple p1 xs ∧ s.heap.IsTuple p2 ys ∧ s.heap.IsTuple p3 zs ∧ R (.ok (.ret (.ref (zg5 s.heap p1 p2 p3).objs.size))) { s with heap := zg6 s.heap p1 p2 p3 }) :=
  .of_wp fun prog w A R s h => by
    obtain ⟨hp, g, d, tk, os⟩ := s
    obtain ⟨t1, t2, t3, h⟩ := h
    have hsub := PySem.sub_zip
    have L1 : Heap.IsTuple (Shared.heap ⟨hp, g, d, tk, os⟩) p1 xs := t1
    have L2 : Heap.IsTuple (Shared.heap ⟨hp.push (itObj p1), g, d, tk, os⟩) p2 ys := Heap.IsTuple.push t2 _
    have L3 : Heap.IsTuple (Shared.heap ⟨(hp.push (itObj p1)).push (itObj p2), g, d, tk, os⟩) p3 zs := Heap.IsTuple.push (Heap.IsTuple.push t3 _) _
    wp_walk using wpAny_pyIter_tuple L1, wpAny_pyIter_tuple L2, wpAny_pyIter_tuple L3
    exact ⟨_, rfl, h⟩
section
variable {prog : Program} {w : World} {A : Around} {E : Value → Shared → Prop} {s : Shared}
theorem call_zip3 {p1 p2 p3 : Addr} {xs ys zs : Array Value} {Q : Value → Shared → Prop} (t1 : s.heap.IsTuple p1 xs) (t2 : s.heap.IsTuple p2 ys) (t3 : s.heap.IsTuple p3 zs)
    (h : ∀ g, Zi3 g s.heap.objs.size p1 p2 p3 0 .none → g.objs.size = s.heap.objs.size + 6 → (∀ c o, s.heap.get? c = some o → g.get? c = some o) → Q (.ref (s.heap.objs.size + 5)) { s with heap := g }) :
    wpAny (model prog w) A (call (.type "zip") [.ref p1, .ref p2, .ref p3]) Q E s := by
  refine callType_new PySem.F.called_zip (by decide) (tc_zip3 _ _ _) (nc_zip3 _ _ _) (fun obj => ai_obj4 obj _ _ _) PySem.F.entry_zip_new (meets_zip3 p1 p2 p3 xs ys zs) ⟨t1, t2, t3, ?_⟩
  have y1 : (zg1 s.heap p1).objs.size = s.heap.objs.size + 1 := Heap.size_push ..
  have y2 : (zg2 s.heap p1 p2).objs.size = s.heap.objs.size + 2 := by rw [Heap.size_push, y1]
  have y3 : (zg3 s.heap p1 p2 p3).objs.size = s.heap.objs.size + 3 := by rw [Heap.size_push, y2]
  have y4 : (zg4 s.heap p1 p2 p3).objs.size = s.heap.objs.size + 4 := by rw [Heap.size_push, y3]
  have y5 : (zg5 s.heap p1 p2 p3).objs.size = s.heap.objs.size + 5 := by rw [Heap.size_push, y4]
  have y6 : (zg6 s.heap p1 p2 p3).objs.size = s.heap.objs.size + 6 := by rw [Heap.size_push, y5]
  have up : ∀ {h : Heap} {o o' : Obj} {c : Addr}, h.get? c = some o → (h.push o').get? c = some o := fun e => Heap.get?_push_of_some _ e
  have w6 : (zg6 s.heap p1 p2 p3).get? (zg5 s.heap p1 p2 p3).objs.size = some _ := Heap.get?_push_size _ rfl
  have w5 : (zg6 s.heap p1 p2 p3).get? (zg4 s.heap p1 p2 p3).objs.size = some _ := up (Heap.get?_push_size _ rfl)
  have w4 : (zg6 s.heap p1 p2 p3).get? (zg3 s.heap p1 p2 p3).objs.size = some _ := up (up (Heap.get?_push_size _ rfl))
  have w3 : (zg6 s.heap p1 p2 p3).get? (zg2 s.heap p1 p2).objs.size = some _ := up (up (up (Heap.get?_push_size _ rfl)))
  have w2 : (zg6 s.heap p1 p2 p3).get? (zg1 s.heap p1).objs.size = some _ := up (up (up (up (Heap.get?_push_size _ rfl))))
  have w1 : (zg6 s.heap p1 p2 p3).get? s.heap.objs.size = some _ := up (up (up (up (up (Heap.get?_push_size _ rfl)))))
  show _ ∧ _
  rw [y3, y4, y5] at w6
  rw [y4] at w5
  rw [y1, y2, y3] at w4
  rw [y2] at w3
  rw [y1] at w2
  rw [y5]
  exact ⟨⟨_, w6, rfl⟩, h _ ⟨w6, w4, ⟨_, _, _, w5⟩, ⟨_, w1, rfl, rfl⟩, ⟨_, w2, rfl, rfl⟩, ⟨_, w3, rfl, rfl⟩⟩ y6 fun c o x => up (up (up (up (up (up x)))))⟩
end
end Fr

namespace Fr
open PySem PySem.Spec PyProof.Rows L2
def ItTri (K : PySem.W.Frag) (a b c : Addr) : It :=
  ⟨fun i H => ∃ (xs ys zs : List V) (x y z : V), (SqT K H a xs ∧ SqT K H b ys ∧ SqT K H c zs) ∧ xs[i]? = some x ∧ ys[i]? = some y ∧ zs[i]? = some z,
    fun i H v H' => ∃ T x y z, v = .ref T ∧ H T = none ∧ H' = upd H T (.tup [x, y, z]) ∧ (∀ l, SqT K H a l → l[i]? = some x) ∧ (∀ l, SqT K H b l → l[i]? = some y) ∧ ∀ l, SqT K H c l → l[i]? = some z,
    fun i H => ∃ xs ys zs : List V, (SqT K H a xs ∧ SqT K H b ys ∧ SqT K H c zs) ∧ xs.length ≤ i⟩
abbrev fp3 (n : Addr) : List Addr := [n, n + 1, n + 2, n + 3, n + 4, n + 5]
theorem fp3_cases {n c : Addr} (h : c ∈ fp3 n) : c = n ∨ c = n + 1 ∨ c = n + 2 ∨ c = n + 3 ∨ c = n + 4 ∨ c = n + 5 := by simpa [fp3] using h
theorem fp3_out {n c : Addr} (h : c ∉ fp3 n) : c ≠ n ∧ c ≠ n + 1 ∧ c ≠ n + 2 ∧ c ≠ n + 3 ∧ c ≠ n + 4 ∧ c ≠ n + 5 := by simpa [fp3] using h
theorem turn_tri {P : Program} {w : World} {K : PySem.W.Frag} {elts : List Expr} {kk : Nat} {tpos : Pos} {a b c n : Addr} (ha : a < n) (hb : b < n) (hc : c < n) :
    Turn P w K (.Tuple elts kk tpos) (ItTri K a b c) (fp3 n) (n + 5) (fun i h => Zi3 h n a b c i .none) where
  mem := by simp [fp3]
  obj := fun i h st d hd => by
    obtain ⟨g5, g3, ⟨_, _, _, g4⟩, ⟨o0, e0, _, d0⟩, ⟨o1, e1, _, d1⟩, ⟨o2, e2, _, d2⟩⟩ := st
    rcases fp3_cases hd with q | q | q | q | q | q <;> rw [q]
    · exact ⟨o0, e0, fun v z => by rw [d0] at z; cases z⟩
    · exact ⟨o1, e1, fun v z => by rw [d1] at z; cases z⟩
    · exact ⟨o2, e2, fun v z => by rw [d2] at z; cases z⟩
    · exact ⟨_, g3, fun v z => nomatch z⟩
    · exact ⟨_, g4, fun v z => nomatch z⟩
    · exact ⟨_, g5, fun v z => nomatch z⟩
  keep := fun i h h' st k => by
    obtain ⟨g5, g3, ⟨x, y, z, g4⟩, r0, r1, r2⟩ := st
    exact ⟨k _ (by simp [fp3]) _ g5, k _ (by simp [fp3]) _ g3, ⟨x, y, z, k _ (by simp [fp3]) _ g4⟩, r0.at fun o q => k _ (by simp [fp3]) o q, r1.at fun o q => k _ (by simp [fp3]) o q, r2.at fun o q => k _ (by simp [fp3]) o q⟩
  item := by
    intro X e1 e2 e3 hcalm i pins s σ H E I hf st hg
    subst e1 e2 e3
    obtain ⟨xs, ys, zs, x, y, z, ⟨sx, sy, sz⟩, hx, hy, hz⟩ := hg
    obtain ⟨its, rv, p1, _⟩ := I.tuple sx
    obtain ⟨its2, rv2, p2, _⟩ := I.tuple sy
    obtain ⟨its3, rv3, p3, _⟩ := I.tuple sz
    obtain ⟨u, hu, ru⟩ := rv.get hx
    obtain ⟨u2, hu2, ru2⟩ := rv2.get hy
    obtain ⟨u3, hu3, ru3⟩ := rv3.get hz
    have zl : n + 5 < s.heap.objs.size := Heap.lt_size st.zz
    refine next3_item ha hb hc st p1 p2 p3 (x := u) (y := u2) (z := u3) (by simpa using hu) (by simpa using hu2) (by simpa using hu3) fun g gz go r0 r1 r2 hT hsz hk => ?_
    refine ⟨_, rfl, wpAny_letOwnedTupleGo_zip (s := { s with heap := g }) gz fun g2 gz2 sb => ?_⟩
    have hT2 : g2.get? s.heap.objs.size = some { cls := .type "tuple", data := .seq #[u, u2, u3] } := (sb.2 _ (Nat.ne_of_gt zl)).trans hT
    have new : ObjOk X.prog X.w (upd H s.heap.objs.size (.tup [x, y, z])) g2 s.heap.objs.size (.tup [x, y, z]) := ⟨(by show 3 ≤ sizeLine; decide), [u, u2, u3], .cons ru (.cons ru2 (.cons ru3 .nil)), ⟨_, hT2, rfl, _, rfl⟩⟩
    have kk2 : ∀ d o, d ∉ fp3 n → s.heap.get? d = some o → g2.get? d = some o := fun d o hd q => by
      obtain ⟨n0, n1, n2, n3, n4, n5⟩ := fp3_out hd
      exact (sb.2 d n5).trans (hk d o n0 n1 n2 n4 n5 q)
    have I1 : Inv X pins σ (upd H s.heap.objs.size (.tup [x, y, z])) { s with heap := g2 } := I.turnedNew (t' := s.toks) (ch := fp3 n) kk2 hf (Nat.le_refl _) new
    have d35 : (n + 3 : Addr) ≠ n + 5 := nd3 n 3 5 (by decide)
    have g3 : Tri g2 (n + 3) (.ref n) (.ref (n + 1)) (.ref (n + 2)) := (sb.2 _ d35).trans (hk _ _ (nd3 n 3 0 (by decide)) (nd3 n 3 1 (by decide)) (nd3 n 3 2 (by decide)) (nd3 n 3 4 (by decide)) d35 st.ti)
    refine ⟨.ref s.heap.objs.size, _, I1, rfl, ⟨_, x, y, z, rfl, I.hok.fresh (Nat.le_refl _), rfl, fun l hl => by rw [I.tuple_inj hl sx]; exact hx, fun l hl => by rw [I.tuple_inj hl sy]; exact hy, fun l hl => by rw [I.tuple_inj hl sz]; exact hz⟩,
      ⟨gz2, g3, ⟨u, u2, u3, (sb.2 _ (nd3 n 4 5 (by decide))).trans go⟩, r0.at fun o q => (sb.2 _ (nd3 n 0 5 (by decide))).trans q, r1.at fun o q => (sb.2 _ (nd3 n 1 5 (by decide))).trans q, r2.at fun o q => (sb.2 _ (nd3 n 2 5 (by decide))).trans q⟩, fun d hd => ?_⟩
    have hlt : d < s.heap.objs.size := by
      refine Nat.lt_of_le_of_lt ?_ zl
      rcases fp3_cases hd with q | q | q | q | q | q <;> rw [q]
      · exact Nat.le_add_right n 5
      all_goals exact Nat.add_le_add_left (by decide) n
    rw [upd_ne (Nat.ne_of_lt hlt)]
    exact (hf d hd).1
  done := by
    intro X e1 e2 e3 hcalm i pins s σ H E I hf st hg
    subst e1 e2 e3
    obtain ⟨xs, ys, zs, ⟨sx, _, _⟩, hend⟩ := hg
    obtain ⟨its, rv, p1, _⟩ := I.tuple sx
    have l1 := rv.length
    exact next3_end (I.ok.hd hcalm) ha st p1 (by simp; omega) fun g hk => ⟨rfl, I.turnedL (t' := s.toks) (ch := fp3 n) (fun d o hd q => by
      obtain ⟨n0, n1, n2, n3, n4, n5⟩ := fp3_out hd
      exact hk d o n0 n5 q) hf⟩
  self := fun A i s Q E st h => wpAny_pyIter_zip st.zz h
def iTri (K : PySem.W.Frag) (ta : TA) : TI := fun σ H R => ta σ H fun vs H1 => ∃ a b c xs ys zs, vs = [.ref a, .ref b, .ref c] ∧ SqT K H1 a xs ∧ SqT K H1 b ys ∧ SqT K H1 c zs ∧ R (ItTri K a b c) H1
theorem vals3q {x y z : V} {us : List Value} (h : Vals [x, y, z] us) : ∃ u v w, us = [u, v, w] ∧ RelV x u ∧ RelV y v ∧ RelV z w := by
  cases h with
  | cons h1 h =>
    cases h with
    | cons h2 h =>
      cases h with
      | cons h3 h =>
        cases h
        exact ⟨_, _, _, rfl, h1, h2, h3⟩
theorem pi_tri {X : Cx} {e e2 e3 : Expr} {ta : TA} {p pos tpos : Pos} {elts : List Expr} {kk : Nat} (hg : Gl X "zip") (hm : X.mg "zip" = none) (ha : PA X [e, e2, e3] ta)
    (hs : starEach [e, e2, e3] X.env = (false, eval e X.env) :: starEach [e2, e3] X.env := by rfl) (hpl : (backTo pos (starEach [e2, e3] X.env)).any (·.1) = false := by rfl) :
    PI X (.Tuple elts kk tpos) (.Call (.Name "zip" p) [e, e2, e3] [] pos) (iTri X.K ta) := by
  refine ⟨fun pins s σ H R I h => ?_⟩
  refine Call_ (ld_blt I hg hm PyProof.Rows.boot_zip (PyProof.Rows.callWith_type1 (thn (ha.run pos pins s σ H _ I h) fun us s1 ⟨vs, H1, I1, r1, a, b, c, xs, ys, zs, ex, sx, sy, sz, q⟩ => ?_) hs hpl))
  subst ex
  obtain ⟨_, _, _, rfl, r, r', r''⟩ := vals3q r1
  cases r
  cases r'
  cases r''
  obtain ⟨its, rv, p1, _⟩ := I1.tuple sx
  obtain ⟨its2, rv2, p2, _⟩ := I1.tuple sy
  obtain ⟨its3, rv3, p3, _⟩ := I1.tuple sz
  obtain ⟨o1, ho1, _⟩ := id p1
  obtain ⟨o2, ho2, _⟩ := id p2
  obtain ⟨o3, ho3, _⟩ := id p3
  have fresh : ∀ d, d ∈ fp3 s1.heap.objs.size → FpOk X pins H1 d := fun d hd => by
    have hle : s1.heap.objs.size ≤ d := by
      rcases fp3_cases hd with z | z | z | z | z | z <;> rw [z]
      · exact Nat.le_refl _
      all_goals exact Nat.le_add_right _ _
    exact I1.fpOk hle (I1.hok.fresh hle)
  refine call_zip3 (show s1.heap.IsTuple a its.toArray from p1) (show s1.heap.IsTuple b its2.toArray from p2) (show s1.heap.IsTuple c its3.toArray from p3) fun g Z hsz hk => wpAny_pyIter_zip Z.zz ?_
  have I2 : Inv X pins σ H1 { s1 with heap := g } := I1.kept (t' := s1.toks) hk
  exact ⟨_, fp3 s1.heap.objs.size, _, _, H1, rfl, I2, turn_tri (Heap.lt_size ho1) (Heap.lt_size ho2) (Heap.lt_size ho3), Z, fresh, q⟩
def YTri (xs ys zs : Nat → Option V) : Nat → Hp → V → Hp → Prop := fun i H v H' => ∃ T x y z, v = .ref T ∧ H T = none ∧ H' = upd H T (.tup [x, y, z]) ∧ xs i = some x ∧ ys i = some y ∧ zs i = some z
theorem ytri_same {xs ys zs : Nat → Option V} {i : Nat} {H : Hp} {x : V} {H' : Hp} (y : YTri xs ys zs i H x H') : Same H H' := by
  obtain ⟨T, _, _, _, _, n, rfl, _⟩ := y
  exact snew n
theorem walk_tri {K : PySem.W.Frag} {a b c : Addr} {xs ys zs : List V} (h1 : xs.length = ys.length) (h2 : xs.length = zs.length) : Walk (ItTri K a b c) xs.length (fun H => SqT K H a xs ∧ SqT K H b ys ∧ SqT K H c zs) (YTri (fun i => xs[i]?) (fun i => ys[i]?) (fun i => zs[i]?)) := by
  refine ⟨fun i _ hi q => ?_, fun _ q => ⟨xs, ys, zs, q, Nat.le_refl _⟩, fun i H v H' _ q y => ?_⟩
  · have g2 : i < ys.length := by omega
    have g3 : i < zs.length := by omega
    exact ⟨xs, ys, zs, xs[i], ys[i], zs[i], q, by simp [hi], by simp [g2], by simp [g3]⟩
  · obtain ⟨T, x, y, z, e1, e2, e3, f1, f2, f3⟩ := y
    exact ⟨T, x, y, z, e1, e2, e3, f1 xs q.1, f2 ys q.2.1, f3 zs q.2.2⟩
end Fr

namespace Fr
open PySem PySem.Spec PyProof.Rows L2
section
variable {prog : Program} {w : World} {A : Around} {E : Value → Shared → Prop} {s : Shared}
theorem wp_put {d : Addr} {kvs : List (Key × Value)} {k : Key} {x v : Value} {Q : Unit → Shared → Prop} (hx : (mixKind prog w).is k x = true) (hm : s.heap.DictOf (mixKind prog w) d kvs)
    (hQ : ∀ h', h'.DictOf (mixKind prog w) d (stored kvs k v) → Heap.SameBut d s.heap h' → Q () { s with heap := h' }) (hsz : kvs.length ≤ sizeLine) :
    wpAny (model prog w) A (dictPut d ((mixKind prog w).hash k) x v) Q E s := by
  by_cases hin : k ∈ kvs.map (·.1)
  · obtain ⟨o, es, ep, ho, hc, hd, hk, hp, hn⟩ := hm
    unfold dictPut
    refine wpAny_bind (wpAny_dictFind_of hx ho hd hk ?_)
    have hidx : (es.findIdx? fun e => (mixKind prog w).is k e.key) = kvs.findIdx? fun kv => decide (kv.1 = k) := by
      rw [← hp.findIdx k]
      obtain ⟨l⟩ := es
      simp
    cases hi : es.findIdx? fun e => (mixKind prog w).is k e.key with
    | none =>
      rw [hidx] at hi
      exact absurd hin (not_mem_of_findIdx_none hi)
    | some i =>
      have hany := any_of_findIdx_some (hidx ▸ hi)
      refine wpAny_updateDict ho hd ?_
      refine hQ _ ⟨_, _, ep, Heap.get?_update_self _ ho (Obj.isFreed_of_dict (Obj.data_mapDict hd _)), hc.mapDict _, Obj.data_mapDict hd _, hk.modify _ _, ?_, ?_⟩ (Heap.SameBut.update ..)
      · unfold stored
        rw [if_pos hany]
        have hl : (es.toList.findIdx? fun e => (mixKind prog w).is k e.key) = some i := by
          rw [← hi]
          obtain ⟨l⟩ := es
          simp
        have z := hp.modify hn hl v
        obtain ⟨l⟩ := es
        simpa using z
      · unfold stored
        rw [if_pos hany, keys_map_store]
        exact hn
  · refine wp_putNew hx hm hin (fun h' hd' hs' => hQ h' ?_ hs') hsz
    have e : stored kvs k v = kvs ++ [(k, v)] := by
      unfold stored
      rw [if_neg]
      intro z
      obtain ⟨kv, h1, h2⟩ := List.any_eq_true.mp z
      exact hin (List.mem_map.mpr ⟨kv, h1, of_decide_eq_true h2⟩)
    rw [e]
    exact hd'
theorem merged_len (kvs : List (Key × Value)) : ∀ more : List (Key × Value), (merged kvs more).length ≤ kvs.length + more.length := fun more => by
  induction more generalizing kvs with
  | nil => exact Nat.le_refl _
  | cons p t ih =>
    have h1 := ih (stored kvs p.1 p.2)
    have h2 := stored_length_le kvs p.1 p.2
    show (merged (stored kvs p.1 p.2) t).length ≤ _
    rw [List.length_cons]
    omega
theorem wp_mergeAny {d o : Addr} {kvs more : List (Key × Value)} {Q : Unit → Shared → Prop} (hdo : d ≠ o) (hoS : (o == sysModules) = false) (hd : s.heap.DictOf (mixKind prog w) d kvs) (ho : s.heap.DictOf (mixKind prog w) o more)
    (hsz : kvs.length + more.length ≤ sizeLine) (hQ : ∀ h', h'.DictOf (mixKind prog w) d (merged kvs more) → Heap.SameBut d s.heap h' → Q () { s with heap := h' }) :
    wpAny (model prog w) A (mergeMapping d (.ref o) false) Q E s := by
  obtain ⟨od, esd, epd, hod, hcd, hdd, hkd, hpd, hnd'⟩ := id hd
  obtain ⟨oo, eso, epo, hoo, hco, hdo', hko, hpo, hno⟩ := id ho
  have hlen : more.length = eso.size := by
    rw [← hpo.length]
    simp
  unfold mergeMapping
  refine wpAny_bind (wpAny_isInstance (T := "dict") ho.typeIs PySem.F.sub_dict_dict ?_)
  rw [if_pos rfl]
  refine wpAny_bind (wpAny_specialOf ho.typeIs iter_dict ?_)
  refine wpAny_bind (wpAny_pure ?_)
  have hb : ((some (Value.builtin "dict.__iter__") : Option Value) == some (Value.builtin "dict.__iter__")) = true := by rfl
  rw [hb]
  dsimp only
  rw [if_neg (by rw [hoS]; exact Bool.false_ne_true)]
  have tail : ∀ {T : Sem Unit}, T = (do
      let l ← dictEntries o
      let epoch ← dictEpoch o
      forIn (List.range l.size) PUnit.unit fun i (_ : PUnit) => (do
        let l' ← dictEntries o
        match l'[i]? with
          | some e => do
            holding [e.key, e.val] (dictPut d e.hash e.key e.val)
            let ep' ← dictEpoch o
            if (ep' != epoch) = true then do
                (unsupported "dict.changed-during-merge" : Sem PUnit)
                pure (ForInStep.yield PUnit.unit)
              else pure (ForInStep.yield PUnit.unit)
          | _ => do
            (unsupported "dict.changed-during-merge" : Sem PUnit)
            pure (ForInStep.yield PUnit.unit) : Sem (ForInStep PUnit))
      pure ()) → wpAny (model prog w) A T Q E s := by
    intro T hT
    rw [hT]
    refine wpAny_bind (wpAny_dictEntries hoo hdo' ?_)
    refine wpAny_bind (wpAny_dictEpoch hoo hdo' ?_)
    refine wpAny_bind ?_
    refine wpAny_forIn_list _ (fun rest _ s' => ∃ h' i, s' = { s with heap := h' } ∧ rest = (List.range eso.size).drop i ∧ i ≤ eso.size ∧ h'.DictOf (mixKind prog w) d (merged kvs (more.take i)) ∧ h'.get? o = some oo ∧ Heap.SameBut d s.heap h') _ ?_ ?_ _ _
      ⟨s.heap, 0, rfl, rfl, Nat.zero_le _, by rw [List.take_zero]; exact hd, hoo, Heap.SameBut.refl _ _⟩
    · rintro x rest b s' ⟨h', i, rfl, hr, hi, hd', hoo', hs'⟩
      have hlt : i < eso.size := by
        rcases Nat.lt_or_ge i eso.size with h | h
        · exact h
        · rw [List.drop_of_length_le (by simpa using h)] at hr
          cases hr
      rw [List.drop_eq_getElem_cons (by simpa using hlt)] at hr
      injection hr with h1 h2
      rw [List.getElem_range] at h1
      subst h1
      refine wpAny_bind (wpAny_dictEntries hoo' hdo' ?_)
      rw [Array.getElem?_eq_getElem hlt]
      obtain ⟨⟨k, v⟩, hkv⟩ : ∃ kv, more[x]? = some kv := ⟨more[x]'(by omega), List.getElem?_eq_getElem _⟩
      obtain ⟨hkey, hval⟩ := hpo.get? (e := eso[x]) (by simp [hlt]) hkv
      obtain ⟨k', hkey', hhash⟩ := hko eso[x] (Array.getElem_mem hlt)
      obtain rfl : k' = k := (mixKind prog w).inj _ _ _ hkey' hkey
      have hlm : x < more.length := by omega
      show wpAny _ _ (holding [eso[x].key, eso[x].val] (dictPut d eso[x].hash eso[x].key eso[x].val) >>= _) _ _ _
      rw [hhash, hval]
      refine wpAny_bind (wpAny_holding (wp_put hkey hd' (fun h'' hd'' hs'' => ?_) (by have := merged_len kvs (more.take x); rw [List.length_take] at this; omega)))
      have hoo'' : h''.get? o = some oo := (hs''.2 o (Ne.symm hdo)).trans hoo'
      refine wpAny_bind (wpAny_dictEpoch hoo'' hdo' ?_)
      rw [if_neg (by simp)]
      exact wpAny_pure ⟨h'', x + 1, rfl, h2, hlt, by rw [merged_take_succ kvs more x (k', v) hkv]; exact hd'', hoo'', hs'.trans hs''⟩
    · rintro b s' ⟨h', i, rfl, hr, hi, hd', hoo', hs'⟩
      have hin : i = eso.size := by
        rcases Nat.lt_or_ge i eso.size with h | h
        · rw [List.drop_eq_getElem_cons (by simpa using h)] at hr
          cases hr
        · exact Nat.le_antisymm hi h
      refine wpAny_pure (hQ h' ?_ hs')
      rw [hin, ← hlen, List.take_length] at hd'
      exact hd'
  refine wpAny_bind (wpAny_dictEntries hod hdd ?_)
  split
  · refine wpAny_bind (wpAny_dictEntries hoo hdo' ?_)
    refine wpAny_bind ?_
    rw [← Array.forIn_toList]
    refine wpAny_forIn_list _ (fun rest _ s' => s' = s ∧ ∀ e ∈ rest, e ∈ eso.toList) _ ?_ ?_ _ _ ⟨rfl, fun e he => he⟩
    · rintro x rest b s' ⟨rfl, hm⟩
      obtain ⟨k, hk, _⟩ := hko x (by simpa using hm x List.mem_cons_self)
      have hk : keyIs k x.key = true := hk
      rcases keyIs_shape hk with ⟨i, t, _, e⟩ | ⟨z, t, _, e⟩
      · rw [e]
        exact wpAny_pure ⟨rfl, fun y hy => hm y (List.mem_cons_of_mem _ hy)⟩
      · rw [e]
        exact wpAny_pure ⟨rfl, fun y hy => hm y (List.mem_cons_of_mem _ hy)⟩
    · rintro b s' ⟨rfl, _⟩
      exact tail rfl
  · exact tail rfl
end
theorem kv_stored {ks : List (Key × V)} {vs : List (Key × Value)} {k : Key} {z : V} {u : Value} (r : KV ks vs) (e : RelV z u) : KV (putK ks k z) (stored vs k u) := KV.merge (more := [(k, z)]) (rs := [(k, u)]) (.cons ⟨rfl, e⟩ .nil) r
def tMrg1 (t1 tk tv : TE) : TE := fun σ H Q => ∀ p, H p = none → t1 σ (upd H p (.dK [])) fun x H1 => ∃ (a : Addr) (ks : List (Key × V)), x = .ref a ∧ H1 a = some (.dK ks) ∧ a ≠ p ∧ H1 p = some (.dK []) ∧ (ks.map (·.1)).Nodup ∧ ks.length ≤ 1000 ∧
  ∀ q, q ≠ p → H1 q = none → tk σ (upd (upd H1 p (.dK ks)) q (.dK [])) fun y H2 => tv σ H2 fun z H3 => ∃ key : Key, y = kV key ∧ H3 p = some (.dK ks) ∧ H3 q = some (.dK []) ∧ Q (.ref p) (upd (upd H3 q (.dK [(key, z)])) p (.dK (putK ks key z)))
theorem pe_mrg1 {X : Cx} {e1 k v : Expr} {t1 tk tv : TE} {pos : Pos} (he1 : PE X e1 t1) (hk : PE X k tk) (hv : PE X v tv) : PE X (.Dict [none, some k] [e1, v] pos) (tMrg1 t1 tk tv) := by
  refine ⟨fun pins s σ H Q I q => ?_⟩
  rw [arm_eval_Dict]
  refine wpAny_bind (wpAny_standAt ?_)
  show wpAny _ _ (dictDisplay [(none, do let x ← eval e1 X.env; standAt pos; pure x), (some (eval k X.env), do let x ← eval v X.env; standAt pos; pure x)]) _ _ s
  unfold dictDisplay
  dsimp only
  simp only [List.forIn_cons, List.forIn_nil]
  have hn := I.hok.fresh (Nat.le_refl s.heap.objs.size)
  have I1 := I.laid (a := s.heap.objs.size) (o := .dK []) (h' := s.heap.push { cls := .type "dict", data := .dict #[] }) (t' := s.toks) (fun _ _ q => Heap.get?_push_of_some _ q) (Nat.le_refl _) (dk_empty s.heap I.big)
  refine wpAny_bind (wpAny_bind (wpAny_bind ?_))
  show wpAny _ _ (pure none) _ _ _
  refine wpAny_pure ?_
  dsimp only
  refine wpAny_bind (wpAny_alloc ?_)
  refine wpAny_bind (wpAny_holding (wpAny_bind (thn (he1.run pins _ σ _ _ I1 (q s.heap.objs.size hn)) fun u s1 ⟨x, H1, I2, rx, a, ks, ex, ha, nap, hp, nd, hlen, q2⟩ => wpAny_bind (wpAny_standAt (wpAny_pure ?_)))))
  subst ex
  obtain rfl : u = Value.ref a := rx
  obtain ⟨zp, hdp, vs0, r0, ddp⟩ := dk_of I2.hok hp
  cases r0
  obtain ⟨za, hda, va, ra, dda⟩ := dk_of I2.hok ha
  have nva : (va.map (·.1)).Nodup := by
    have e : va.map (·.1) = ks.map (·.1) := kv_keys ra
    rw [e]
    exact nd
  refine wpAny_bind (wpAny_onRaise (wpAny_tryCatch (wpAny_onRaise (wpAny_holding (wp_mergeMap (Ne.symm nap) hda ddp dda (by simpa using nva) (by simpa using (by rw [← ra.length]; exact za)) fun h2 dd2 sb2 => ?_)))))
  have I3 : Inv X pins σ (upd H1 s.heap.objs.size (.dK ks)) { s1 with heap := h2, toks := s1.toks } := d_write I2 (by rw [hp]; exact True.intro) sb2 (let ⟨q, _, _, hq, _⟩ := dd2; ⟨q, hq⟩) (dk_new za hdp ra (by simpa using dd2))
  refine wpAny_pure ?_
  dsimp only
  refine wpAny_bind ?_
  rw [if_neg (by simp)]
  refine wpAny_pure (wpAny_pure ?_)
  refine wpAny_bind ?_
  dsimp only
  rw [if_neg (by simp)]
  have hn3 := I3.hok.fresh (Nat.le_refl h2.objs.size)
  have np : h2.objs.size ≠ s.heap.objs.size := fun e => by
    rw [e] at hn3
    rw [upd_same] at hn3
    cases hn3
  have I4 := I3.laid (a := h2.objs.size) (o := .dK []) (h' := h2.push { cls := .type "dict", data := .dict #[] }) (t' := s1.toks) (fun _ _ q => Heap.get?_push_of_some _ q) (Nat.le_refl _) (dk_empty h2 I3.big)
  rw [upd_ne np] at hn3
  have q3 := q2 _ np hn3
  refine wpAny_bind (wpAny_holding (wpAny_subDict (knd := mixKind X.prog X.w) (s := { s1 with heap := h2, toks := s1.toks }) (by simp) (evalPairs_cons (thn (hk.run pins _ σ _ _ I4 q3) fun u2 s2 ⟨y, H2, I5, ry, q4⟩ => wpAny_bind (thn (hv.run pins _ σ _ _ I5 q4) fun u3 s3 ⟨z, H3, I6, rz, key, ey, hp3, hq3, q5⟩ => wpAny_bind (wpAny_standAt (wpAny_pure (evalPairs_nil ?_))))))))
  subst ey
  obtain ⟨rs, c, rk⟩ := carries_of (P := X.prog) (w := X.w) (kvs := [(key, z)]) (ws := [(u2, u3)]) (.cons ⟨ry, rz⟩ .nil)
  obtain ⟨zq, hdq, vs1, r1, ddq⟩ := dk_of I6.hok hq3
  cases r1
  refine ⟨rs, c, ddq, fun h4 dd4 sb4 => wpAny_bind ?_⟩
  have em : mergeK ([] : List (Key × V)) [(key, z)] = [(key, z)] := putK_new z valV_nil
  have hone : ([(key, z)] : List (Key × V)).length ≤ sizeLine := by show 1 ≤ sizeLine; decide
  have rk1 : KV [(key, z)] (merged [] rs) := by
    have w := KV.merge (more := [(key, z)]) (rs := rs) (kvs := []) (vs := []) rk .nil
    rw [em] at w
    exact w
  have I7 : Inv X pins σ (upd H3 h2.objs.size (.dK [(key, z)])) { s3 with heap := h4, toks := s3.toks + 1 } := d_write I6 (by rw [hq3]; exact True.intro) sb4 (let ⟨q, _, _, hq, _⟩ := dd4; ⟨q, hq⟩) (dk_new hone hdq rk1 dd4)
  have hp7 : (upd H3 h2.objs.size (.dK [(key, z)])) s.heap.objs.size = some (.dK ks) := by rw [upd_ne np.symm]; exact hp3
  obtain ⟨zp7, hdp7, vs7, r7, ddp7⟩ := dk_of I7.hok hp7
  have hlq : ks.length + 1 ≤ sizeLine := Nat.le_trans (Nat.add_le_add_right hlen 1) (by rw [sizeLine_eq]; decide)
  have rl : rs.length = 1 := rk.length.symm
  have ml : (merged [] rs).length = 1 := rk1.length.symm
  refine wpAny_onRaise (wpAny_holding (wp_mergeAny np.symm hdq ddp7 dd4 (by rw [← r7.length, ml]; exact hlq) fun h5 dd5 sb5 => ?_))
  have rk5 : KV (putK ks key z) (merged vs7 (merged [] rs)) := KV.merge (more := [(key, z)]) (rs := merged [] rs) rk1 r7
  have l5 : (putK ks key z).length ≤ sizeLine := by
    have w := length_mergeK [(key, z)] ks
    exact Nat.le_trans w hlq
  have I8 : Inv X pins σ (upd (upd H3 h2.objs.size (.dK [(key, z)])) s.heap.objs.size (.dK (putK ks key z))) { ({ s3 with heap := h4, toks := s3.toks + 1 } : Shared) with heap := h5 } := d_write (s := { s3 with heap := h4, toks := s3.toks + 1 }) I7 (by rw [hp7]; exact True.intro) sb5 (let ⟨q, _, _, hq, _⟩ := dd5; ⟨q, hq⟩) (dk_new l5 hdp7 rk5 dd5)
  refine wpAny_pure ?_
  exact wpAny_pure ⟨.ref _, _, I8, rfl, q5⟩
/-- dict(d) -/
def rDictC : List V → Hp → VK → Prop := fun xs H Q => ∃ (a : Addr) (kvs : List (Key × V)), xs = [.ref a] ∧ H a = some (.dK kvs) ∧ ∀ p, H p = none → Q (.ref p) (upd H p (.dK kvs))
theorem call_dictC {X : Cx} : CallR X (.type "dict") rDictC := by
  intro pins s σ H xs us Q I r h
  obtain ⟨a, kvs, rfl, ha, q⟩ := h
  rw [Vals.ref1 r]
  obtain ⟨z, hd, vs, rk, dd⟩ := dk_of I.hok ha
  have hm : (s.heap.objs.size == sysModules) = false := beq_eq_false_iff_ne.mpr (Nat.ne_of_gt I.big)
  refine kt_call_dict hd dd (by rw [← rk.length]; exact z) fun g dd' sb => ?_
  exact ⟨.ref s.heap.objs.size, upd H s.heap.objs.size (.dK kvs), I.laid (t' := s.toks) (fun b o e => (sb.2 b (Nat.ne_of_lt (Heap.lt_size e))).trans (Heap.get?_push_of_some _ e)) (Nat.le_refl _) (show ObjOk X.prog X.w _ _ _ (.dK kvs) from ⟨z, hm, vs, rk, dd'⟩), rfl, q _ (I.hok.fresh (Nat.le_refl _))⟩
end Fr

namespace Fr
open PySem PySem.Spec PyProof.Rows L2
section
variable {X : Cx} {pins : List (Addr × Obj)} {σ : L2.St} {H : Hp} {s : Shared}
theorem kvHitsE (I : Inv X pins σ H s) {A : Around} (hu : A.units + 64 < cLine) {ls : List (Key × V)} {vb : List (Key × Value)} (rb : KV ls vb) {ks : List (Key × V)} {r : Bool} (h : KvEq X.K H ls ks r) :
    ∀ {va : List (Key × Value)}, KV ks va → PySem.W.KeqHits A s vb va r := by
  induction h with
  | nil =>
    intro va ra
    cases ra
    exact .nil
  | @miss k v t hv =>
    intro va ra
    cases ra with
    | @cons _ q _ qs h1 h2 =>
      obtain ⟨key, u⟩ := q
      obtain ⟨h1, h3⟩ := h1
      have h1' : k = key := h1
      subst h1'
      exact .miss (RelO.none_of (by rw [← hv]; exact rb.val k))
  | @hit k v u t d e b hv hd he sd se _ ih =>
    intro va ra
    cases ra with
    | @cons _ q _ qs h1 h2 =>
      obtain ⟨key, w⟩ := q
      obtain ⟨h1, h3⟩ := h1
      have h1' : k = key := h1
      subst h1'
      have rr : RelO (some u) (valueAt vb k) := by rw [← hv]; exact rb.val k
      obtain ⟨y, hy, ry⟩ := rr.some_of
      obtain ⟨as, q1⟩ := Dp.reads I d _ _ hd h3
      obtain ⟨bs, q2⟩ := Dp.reads I e _ _ he ry
      exact .hit hy (SeqAt.eqAt_reads d e A s _ _ as bs q1 q2 (SeqAt.canLay_of_shaped sd) (SeqAt.canLay_of_shaped se) (SeqAt.room_of_shaped sd hu)) (ih h2)
end
def rNeKv (K : PySem.W.Frag) : R2 := fun x y H Q => ∃ (a b : Addr) (ks ls : List (Key × V)) (r : Bool), x = .ref a ∧ y = .ref b ∧ H a = some (.dK ks) ∧ H b = some (.dK ls) ∧ (ks.length = ls.length → KvEq K H ls ks r) ∧ Q (.bl (!(ks.length == ls.length && r))) H
theorem op_neKv {X : Cx} (hu : X.A.units + 65 < cLine) : OpR X (compareOp .NotEq) (rNeKv X.K) := by
  intro pins s σ H x y v u Q I rx ry h
  obtain ⟨a, b, ks, ls, r, rfl, rfl, ha, hb, hr, q⟩ := h
  cases (show v = Value.ref a from rx)
  cases (show u = Value.ref b from ry)
  obtain ⟨_, ya, va, ra, da⟩ := (show ObjOk X.prog X.w H s.heap a (.dK ks) from I.hok a _ ha)
  obtain ⟨_, yb, vb, rb, db⟩ := (show ObjOk X.prog X.w H s.heap b (.dK ls) from I.hok b _ hb)
  have e1 : va.length = ks.length := ra.length.symm
  have e2 : vb.length = ls.length := rb.length.symm
  refine PySem.W.keq_ne (knd := mixKind X.prog X.w) (r := r) ya yb da db (by omega) (fun e => kvHitsE I (by show X.A.units + 1 + 64 < cLine; omega) rb (hr (by omega)) ra) ?_
  rw [e1, e2]
  exact ⟨.bl _, H, I, rfl, q⟩
structure NeM (P : Program) (w : World) (K : PySem.W.Frag) (mg : Str → Option Value) (base : Heap) (k : Nat) (C : Addr) (sp : Sp) : Prop where
  eq : EqM P w K mg base k C sp
  ne : PySem.W.findIn K (.ref C) "__ne__" = some (some (.builtin "object.__ne__"))
  top : PySem.W.mroIn K C (.type "object") = some true
def rNeOwn (C : Addr) (sp : Sp) : R2 := fun x y H Q => ∃ (a b dx dy : Addr) (fs gs : List (Str × V)), x = .ref a ∧ y = .ref b ∧ H a = some (.ins C dx fs) ∧ H b = some (.ins C dy gs) ∧ sp [.ref a, .ref b] H (fun v H' => ∃ r, v = .bl r ∧ Q (.bl (!r)) H') C8.E0
section
open PySem.W
variable {prog : Program} {w : World} {A : Around} {E : Value → Shared → Prop} {s : Shared} {K : Frag} {x C f : Addr} {ox : PySem.Obj} {od : Option PySem.Obj} {y tb : Value}
theorem ne_body (Z : K.In s.heap) (I : InstAt s.heap x ox C od) (hu : A.units < cLine) (hs : findIn K (.ref C) "__eq__" = some (some (.ref f))) (hf : isFn K (.ref f) = true) {R : Fin → Shared → Prop}
    (h : wpAny (model prog w) A (call (.ref f) [.ref x, y]) (fun v s' => ∃ r : Bool, v = .bool r ∧ R (.done (.ret (.bool (!r)))) s') E s) : wpAny (model prog w) A (Builtin.«object.__ne__» ⟨[.ref x, y], []⟩) R E s := by
  obtain ⟨hp, g, d, t, os⟩ := s
  unfold Builtin.«object.__ne__»
  repeat (first
    | with_reducible refine wpAny_cRoomFor hu ?_
    | (refine wpAny_bind (m := callSpecialIfBound? (.ref x) (Str.ofString "__eq__") [y])
        (ifBound_K Z I hs hf (wpAny_mono h (fun r s' hr => by
          obtain ⟨b, rfl, hq⟩ := hr
          repeat (first | exact hq | exact wpAny_pure hq | exact wpAny_truthy_bool hq | (refine wpAny_bind (m := truthy (.bool _)) (wpAny_truthy_bool ?_)) | wp_step)) fun _ _ e => e)))
    | wp_step)
theorem ifBound_S {M : Model} {name : Str} {id : String} {args : List Value} {Q : Option Value → Shared → Prop} (Z : K.In s.heap) (I : InstAt s.heap x ox C od) (hn : findIn K (.ref C) name = some (some (.builtin id))) (hb : ∀ self, bindSpecial (.builtin id) self = pure (.builtin id, [self]))
    (h : wpAny M A (call (.builtin id) (.ref x :: args)) (fun v => Q (some v)) E s) : wpAny M A (callSpecialIfBound? (.ref x) name args) Q E s := by
  simp only [callSpecialIfBound?, bindSpecialIfBound?]
  refine wpAny_holding (wpAny_bind (wpAny_bind (wpAny_bind (I.type.here ((looks_findIn Z hn).here ?_)))))
  simp only [hb]
  refine wpAny_bind (wpAny_askSetting (wpAny_ite ?_))
  have fin : wpAny M A (call (.builtin id) ([.ref x] ++ args) >>= fun v => pure (some v)) Q E s := wpAny_bind (wpAny_mono h (fun v s' h' => wpAny_pure h') fun _ _ h' => h')
  split
  · exact wpAny_bind (wpAny_pure (wpAny_pure (by exact fin)))
  · exact wpAny_tryCatch (wpAny_bind (wpAny_pure (wpAny_pure (by exact fin))))
theorem ne_call (Z : K.In s.heap) (I : InstAt s.heap x ox C od) (hu : A.units + 1 < cLine) (hs : findIn K (.ref C) "__eq__" = some (some (.ref f))) (hf : isFn K (.ref f) = true) (hn : findIn K (.ref C) "__ne__" = some (some (.builtin "object.__ne__"))) (ht : mroIn K C (.type "object") = some true) {Q : Value → Shared → Prop}
    (h : wpAny (model prog w) A.in1 (call (.ref f) [.ref x, y]) (fun v s' => ∃ r : Bool, v = .bool r ∧ Q (.bool (!r)) s') E s) : wpAny (model prog w) A (tryCompare (.ref x) "__ne__" y) (fun r s' => ∃ v, r = some v ∧ Q v s') E s := by
  unfold tryCompare
  refine wpAny_bind (ifBound_S Z I hn F.cmp_object.ne.bind (wpAny_call (codeAny_call_builtin F.cmp_object.ne.plain PySem.F.cmpEntry_ne (check_slot PySem.F.cmpKind_ne PySem.F.cmpSplit_ne (I.type.andThen (looks_mroIn Z ht)) (PySem.F.cmpArgs_ne _ _) (ne_body (A := A.in1) Z I hu hs hf (wpAny_mono h (fun v s' hv => ?_) fun _ _ e => e))))))
  obtain ⟨b, rfl, hq⟩ := hv
  exact ⟨b, rfl, wpAny_pure ⟨_, rfl, hq⟩⟩
theorem ne_K {L : Addr} {h₀ : Heap} {m : Str → Option Value} (hu : A.units + 1 < cLine) (F : Fr h₀ L s.heap m) (X₀ : K.In h₀) (I : InstAt s.heap x ox C od) (hb : Looks (model prog w) s.heap (typeOf y) tb) (hn1 : notFirst K C tb = true)
    (hs : findIn K (.ref C) "__eq__" = some (some (.ref f))) (hf : isFn K (.ref f) = true) (hn : findIn K (.ref C) "__ne__" = some (some (.builtin "object.__ne__"))) (ht : mroIn K C (.type "object") = some true) {Q : Value → Shared → Prop}
    (h : wpAny (model prog w) A.in1 (call (.ref f) [.ref x, y]) (fun v s' => ∃ r : Bool, v = .bool r ∧ Q (.bool (!r)) s') E s) : wpAny (model prog w) A (richCompare .NotEq (.ref x) y) Q E s := by
  have Z := X₀.keeps F.keep
  have one := ne_call Z I hu hs hf hn ht h
  unfold richCompare
  simp only [oneThing_ref]
  refine wpAny_holding (wpAny_bind (wpAny_cRoomFor (Nat.lt_of_succ_lt hu) ?_))
  refine wpAny_bind (I.type.here (wpAny_bind (hb.here ?_)))
  split
  · rename_i q
    have e : subIn K tb (.ref C) = some false := by
      rcases Bool.or_eq_true_iff.mp hn1 with e | e
      · rw [beq_iff_eq.mp e] at q; simp at q
      · exact beq_iff_eq.mp e
    refine wpAny_bind ((looks_subIn Z e).here ?_)
    simp only [Bool.false_eq_true, if_false]
    refine wpAny_bind (wpAny_mono one (fun r s' z => ?_) fun _ _ e => e)
    obtain ⟨v, rfl, hq⟩ := z
    exact wpAny_pure hq
  · refine wpAny_bind (wpAny_pure ?_)
    simp only [Bool.false_eq_true, if_false]
    refine wpAny_bind (wpAny_mono one (fun r s' z => ?_) fun _ _ e => e)
    obtain ⟨v, rfl, hq⟩ := z
    exact wpAny_pure hq
end
theorem op_neOwn {X : Cx} {k j : Nat} {C : Addr} {sp : Sp} (c : NeM X.prog X.w X.K X.mg X.base k C sp) (hr : Room j X.A) (hk : k + 1 ≤ j) : OpR X (compareOp .NotEq) (rNeOwn C sp) := by
  intro pins s σ H x y v u Q I rx ry h
  obtain ⟨a, b, dx, dy, fs, gs, rfl, rfl, ha, hb, h⟩ := h
  cases (show v = Value.ref a from rx)
  cases (show u = Value.ref b from ry)
  obtain ⟨f, fd, ps, hc, hs, hf, F, hbd⟩ := c.eq.ex
  obtain ⟨mA, J, _⟩ := ins_get I.hok ha
  obtain ⟨mB, J', _⟩ := ins_get I.hok hb
  obtain ⟨od, J, _⟩ := J.look
  obtain ⟨od', J', _⟩ := J'.look
  obtain ⟨m, hF⟩ := I.fr
  have hrk : Room (k + 1) X.A := hr.mono hk
  have hu : X.A.units + 1 < cLine := hrk.in1.units0
  refine ne_K (tb := .ref C) hu hF I.ok.mod.kin J J'.type (by simp [PySem.W.notFirst]) hs hf c.ne c.top ?_
  have r2 : Vals [V.ref a, V.ref b] [Value.ref a, Value.ref b] := .cons rfl (.cons rfl .nil)
  have hl := F.len _ _ _ _ h
  have bt := hbd s [.ref a, .ref b] I.kIn (by simpa using hl)
  refine wpAny_call (codeAny_mono (F.run X.A.in1 X.stack s H ⟨[.ref a, .ref b], []⟩ [.ref a, .ref b] [.ref a, .ref b] _ C8.E0 hrk.in1 I.env0.in1 (by simpa using bt) r2 h) fun rs s2 z => ?_)
  match rs, z with
  | .error er, z => exact pass0 (X := X) pins σ H s er s2 I z
  | .ok (.ret v), z =>
    obtain ⟨y, H', I', ry, t, rfl, q⟩ := I.after z
    obtain rfl : v = Value.bool t := ry
    exact ⟨t, rfl, .bl _, H', I', rfl, q⟩
  | .ok .next, z => exact z.elim
  | .ok .brk, z => exact z.elim
  | .ok .cont, z => exact z.elim
end Fr

namespace Fr
open PySem PySem.Spec PyProof.Rows L2
abbrev s_System_with_table : Stmt := inClass (topS 30) 13
theorem sc_System_with_table : FnScope ["self", "name", "constant", "reads"] ["self", "name", "constant", "reads"] (defScope s_System_with_table) := ⟨rfl, rfl, rfl, by decide +kernel, rfl, by decide +kernel, by decide +kernel⟩
-- slots: 0 self, 1 name, 2 constant, 3 reads
abbrev s_moved : Stmt := topS 26
theorem sc_moved : FnScope ["vector", "own", "other", "step", "less", "more"] ["vector", "own", "other"] (defScope s_moved) := ⟨rfl, rfl, rfl, by decide +kernel, rfl, by decide +kernel, by decide +kernel⟩
-- slots: 0 vector, 1 own, 2 other, 3 step, 4 less, 5 more
def setT (x : Str) (c : Int) (rs : List Rd1) (t : Tb) : Tb := if t.n = x then ⟨t.n, c, rs⟩ else t
theorem setT_n (x : Str) (c : Int) (rs : List Rd1) (t : Tb) : (setT x c rs t).n = t.n := by
  unfold setT
  split <;> rfl
theorem setT_names (x : Str) (c : Int) (rs : List Rd1) (ts : List Tb) : (ts.map (setT x c rs)).map (·.n) = ts.map (·.n) := by
  rw [List.map_map]
  exact List.map_congr_left fun t _ => setT_n x c rs t
theorem kv_has {K : PySem.W.Frag} {H : Hp} {x : Str} : ∀ {kvs : List (Key × V)} {ts : List Tb}, KvAt K H kvs ts → x ∈ ts.map (·.n) → (kvs.any fun kv => decide (kv.1 = (Sum.inr x : Key))) = true
  | [], _, h, e => by cases h; cases e
  | kv :: kvs, _, h, e => by
    cases h with
    | @cons _ t _ ts h1 h2 =>
      rw [List.any_cons, Bool.or_eq_true]
      rw [List.map_cons, List.mem_cons] at e
      rcases e with e | e
      · exact .inl (decide_eq_true (by rw [h1.1, e]))
      · exact .inr (kv_has h2 e)
theorem kv_map {K : PySem.W.Frag} {H : Hp} {x : Str} {c : Int} {rs : List Rd1} {v : V} (hv : Dp K H v (.tuple [.int c, .tuple (rs.map Rd1.d)])) : ∀ {kvs : List (Key × V)} {ts : List Tb}, KvAt K H kvs ts →
    KvAt K H (kvs.map fun kv => if kv.1 = (Sum.inr x : Key) then (kv.1, v) else kv) (ts.map (setT x c rs))
  | [], _, h => by cases h; exact .nil
  | kv :: kvs, _, h => by
    cases h with
    | @cons _ t _ ts h1 h2 =>
      rw [List.map_cons, List.map_cons]
      refine .cons ?_ (kv_map hv h2)
      obtain ⟨k, u⟩ := kv
      have h1' : k = Sum.inr t.n := h1.1
      subst h1'
      unfold setT
      by_cases e : t.n = x
      · rw [if_pos (by rw [e]), if_pos e]
        exact ⟨rfl, hv⟩
      · rw [if_neg (fun z => e (Sum.inr.inj z)), if_neg e]
        exact h1
theorem kv_put {K : PySem.W.Frag} {H : Hp} {x : Str} {c : Int} {rs : List Rd1} {v : V} {kvs : List (Key × V)} {ts : List Tb} (h : KvAt K H kvs ts) (hx : x ∈ ts.map (·.n)) (hv : Dp K H v (.tuple [.int c, .tuple (rs.map Rd1.d)])) : KvAt K H (putK kvs (Sum.inr x) v) (ts.map (setT x c rs)) := by
  unfold putK
  rw [if_pos (kv_has h hx)]
  exact kv_map hv h
def mvV (v o f : List Int) : List Int := List.zipWith (fun a b => a + b) (List.zipWith (fun a b => a - b) v o) f
theorem mvV_len {v o f : List Int} (h1 : v.length = o.length) (h2 : v.length = f.length) : (mvV v o f).length = v.length := by
  unfold mvV
  rw [List.length_zipWith, List.length_zipWith]
  omega
theorem mvV_at {v o f : List Int} {i : Nat} {a b c : Int} (h1 : v[i]? = some a) (h2 : o[i]? = some b) (h3 : f[i]? = some c) : (mvV v o f)[i]? = some (a - b + c) := by
  unfold mvV
  rw [List.getElem?_zipWith, List.getElem?_zipWith, h1, h2, h3]
section
variable {P : Program} {w : World} {K : PySem.W.Frag} {mg : Str → Option Value} {base : Heap}
def spMoved (K : PySem.W.Frag) : Sp := fun vs H Q _ => ∃ (a b c : Addr) (v o f : List Int), vs = [.ref a, .ref b, .ref c] ∧ SqT K H a (v.map V.int) ∧ SqT K H b (o.map V.int) ∧ SqT K H c (f.map V.int) ∧ v.length = o.length ∧ v.length = f.length ∧ v.length ≤ 100000 ∧
  ∀ p H', H p = none → Same H H' → H' p = some (.tup ((mvV v o f).map V.int)) → Q (.ref p) H'
theorem ok_moved {f : Addr} {fd : FuncData} (F : Fun K "moved" "moved" s_moved f fd) (T : Txt mg) : FnOk P w K mg base CX0 1 f fd ["vector", "own", "other"] (spMoved K) := by
  refine F.ok sc_moved (fun vs H Q E h => ?_) (fun cdv A outer sh H vs Q E hr h => ?_)
  · obtain ⟨a, b, c, v, o, f, rfl, _⟩ := h
    rfl
  · obtain ⟨a, b, c, v, o, f, rfl, ha, hb, hc, l1, l2, l3, q⟩ := h
    refine ⟨_, (pss_one (ps_ret (pe_callTy call_tuple_of (by rfl) T.b_tuple (by decide +kernel) (pa_cons (pe_lc (own := [("step", 3), ("less", 4), ("more", 5)]) (g := gTup K 3 (gCons (gName 3) (gCons (gName 4) (gCons (gName 5) gNil)))) (tt := tYes) (by rfl) sc_moved.nd (pi_tri (by rfl) T.b_zip (pa_cons (pv 0) (pa_cons (pv 1) (pa_cons (pv 2) pa_nil)))) (blkOk_by (N := ["vector", "own", "other", "step", "less", "more"]) (sc := defScope s_moved) (by decide +kernel)) (fun _ _ _ _ _ => (pg_tup rfl (pgs_cons (pg_name (i := 3) sc_moved.nd rfl (by first | exact Or.inl rfl | exact Or.inr rfl)) (pgs_cons (pg_name (i := 4) sc_moved.nd rfl (by first | exact Or.inl rfl | exact Or.inr rfl)) (pgs_cons (pg_name (i := 5) sc_moved.nd rfl (by first | exact Or.inl rfl | exact Or.inr rfl)) pgs_nil))))) (fun _ _ _ _ _ => pts_nil) (fun _ _ _ _ _ => (pe_op op_add (pe_op op_sub (pv 3) (pv 4)) (pv 5)))) pa_nil)))), ?_⟩
    refine ⟨_, rfl, _, rfl, _, rfl, a, b, c, _, _, _, rfl, ha, hb, hc, fun D hD => ?_⟩
    refine lc_flat (walk_tri (K := K) (a := a) (b := b) (c := c) (xs := v.map V.int) (ys := o.map V.int) (zs := f.map V.int) (by rw [List.length_map, List.length_map]; exact l1) (by rw [List.length_map, List.length_map]; exact l2)) (fun i => .int ((mvV v o f).getD i 0)) (by rw [List.length_map]; omega) hD (fun H' sm => ⟨sqt sm ha, sqt sm hb, sqt sm hc⟩) (fun i H x H' y => ytri_same y) ?_ ?_
    · rintro i x H1 H2 hi sm ⟨Tp, x1, x2, x3, rfl, hTp, rfl, e1, e2, e3⟩ R hR
      have e1 : (v.map V.int)[i]? = some x1 := e1
      have e2 : (o.map V.int)[i]? = some x2 := e2
      have e3 : (f.map V.int)[i]? = some x3 := e3
      rw [List.getElem?_map] at e1 e2 e3
      obtain ⟨n1, h1, rfl⟩ := Option.map_eq_some_iff.mp e1
      obtain ⟨n2, h2, rfl⟩ := Option.map_eq_some_iff.mp e2
      obtain ⟨n3, h3, rfl⟩ := Option.map_eq_some_iff.mp e3
      refine ⟨Tp, _, rfl, Or.inl (Or.inl upd_same), rfl, _, _, rfl, _, _, rfl, _, _, rfl, rfl, rfl, ?_⟩
      refine ⟨_, rfl, _, rfl, _, _, rfl, rfl, _, rfl, _, _, rfl, rfl, ?_⟩
      have r := hR _ same_refl
      rw [List.getD_eq_getElem?_getD, mvV_at h1 h2 h3] at r
      exact r
    · intro H1 sm hD1
      have e : (List.range (v.map V.int).length).map (fun i => V.int ((mvV v o f).getD i 0)) = (mvV v o f).map V.int := by
        have z := range_map_get ((mvV v o f).map V.int) (fun i => V.int ((mvV v o f).getD i 0)) (fun i b hb => by
          rw [List.getElem?_map] at hb
          obtain ⟨c, h1, h2⟩ := Option.map_eq_some_iff.mp hb
          rw [List.getD_eq_getElem?_getD, h1]
          exact h2)
        rw [List.length_map, mvV_len l1 l2] at z
        rw [List.length_map]
        exact z
      rw [e] at hD1
      exact ⟨D, _, rfl, Or.inl ⟨Or.inl (Or.inl hD1), fun l hl => q l _ (free_of sm hl) (same_tr sm (snew hl)) upd_same⟩⟩
def spWT (K : PySem.W.Frag) (C : Addr) (TT : List (Addr × Str)) : Sp := fun vs H Q _ => ∃ (s l : Addr) (x : Str) (c d m : Int) (us : List Tb) (xs : List V) (rs : List Rd1), vs = [.ref s, .str x, .int c, .ref l] ∧ SysAt K C H s d m us ∧ 1 ≤ d ∧ d ≤ 3 ∧ 2 ≤ m ∧ (us.map (·.n)).Nodup ∧ us.length ≤ 60 ∧ x ∈ us.map (·.n) ∧
  SqL K H l xs ∧ DpAll K H xs (rs.map Rd1.d) ∧ LamX.Tabs TT H ∧ ∀ y H', H y = none → LamX.ExtN H H' → LamX.Tabs TT H' → SysAt K C H' y d m (srt (us.map (setT x c rs))) → Q (.ref y) H'
theorem ok_wt {f C : Addr} {fd : FuncData} {TT : List (Addr × Str)} (F : Fun K "with_table" "System.with_table" s_System_with_table f fd) (T : Txt mg) (TC : TxtC K mg C) (t__with_tables : C8.Met P w K mg base 7 C "_with_tables" (spWith K C TT) []) : FnOk P w K mg base CX0 8 f fd ["self", "name", "constant", "reads"] (spWT K C TT) := by
  refine F.ok sc_System_with_table (fun vs H Q E h => ?_) (fun cdv A outer sh H vs Q E hr h => ?_)
  · obtain ⟨s, l, x, c, d, m, us, xs, rs, rfl, _⟩ := h
    rfl
  · obtain ⟨s, l, x, c, d, m, us, xs, rs, rfl, S, hd1, hd3, hm2, hnd, hl6, hx, hl, hrs, hT, q⟩ := h
    have hu := hu_of hr
    refine ⟨_, (pss_one (ps_ret (C8.pe_mt t__with_tables hr (by decide) (pv 0) (pa_cons (pe_mrg1 (pe_fld (pv 0) rfl) (pv 1) (pe_tup (pa_cons (pv 2) (pa_cons (pe_callTy call_tuple_of (by rfl) T.b_tuple (by decide +kernel) (pa_cons (pv 3) pa_nil)) pa_nil)))) pa_nil)))), ?_⟩
    obtain ⟨dx, tt, kvs, h1, h2, h3⟩ := S.ob
    have inj : ∀ l : List Str, l.Nodup → (l.map (Sum.inr : Str → Key)).Nodup := fun l h => by
      rw [List.Nodup, List.pairwise_map]
      exact h.imp fun h e => h (Sum.inr.inj e)
    refine ⟨_, rfl, s, dx, _, rfl, h1, flds_no _ _ _ (by decide +kernel) (by decide +kernel) (by decide +kernel), fun p hp => ?_⟩
    have sp := snew (o := .dK []) hp
    refine ⟨_, rfl, s, C, dx, _, _, rfl, sp _ _ h1, TC.cl, TC.nT, flds_t _ _ _, tt, kvs, rfl, sp _ _ h2, ne_of_none h2 hp, upd_same, by rw [keys_kv h3]; exact inj _ hnd, by rw [h3.len]; omega, fun q0 nq hq0 => ?_⟩
    rw [upd_ne nq] at hq0
    have eH : upd (upd (upd H p (.dK [])) p (.dK kvs)) q0 (.dK []) = upd (upd H p (.dK kvs)) q0 (.dK []) := by rw [upd_upd]
    rw [eH]
    have s1 : Same H (upd (upd H p (.dK kvs)) q0 (.dK [])) := same_tr (snew hp) (snew (by rw [upd_ne nq]; exact hq0))
    have p1 : (upd (upd H p (.dK kvs)) q0 (.dK [])) p = some (.dK kvs) := by rw [upd_ne nq.symm]; exact upd_same
    have q1 : (upd (upd H p (.dK kvs)) q0 (.dK [])) q0 = some (.dK []) := upd_same
    generalize upd (upd H p (.dK kvs)) q0 (.dK []) = H1 at s1 p1 q1
    refine ⟨_, rfl, _, rfl, _, rfl, l, xs, rfl, Or.inl ⟨sql s1 hl, fun t1 ht1 => ⟨(by show 2 ≤ sizeLine; decide), fun t2 ht2 => ?_⟩⟩⟩
    have s2 : Same H1 (upd (upd H1 t1 (.tup xs)) t2 (.tup [.int c, .ref t1])) := same_tr (snew ht1) (snew ht2)
    have v2 : Dp K (upd (upd H1 t1 (.tup xs)) t2 (.tup [.int c, .ref t1])) (.ref t2) (.tuple [.int c, .tuple (rs.map Rd1.d)]) := .tup (Or.inl (Or.inl upd_same)) (.cons (.int _) (.cons (.tup (Or.inl (Or.inl (snew ht2 _ _ upd_same))) (dpsm (same_tr s1 s2) _ _ hrs)) .nil))
    have p2 := s2 _ _ p1
    have q2 := s2 _ _ q1
    have s3 := same_tr s1 s2
    generalize upd (upd H1 t1 (.tup xs)) t2 (.tup [.int c, .ref t1]) = H2 at s2 v2 p2 q2 s3
    refine ⟨Sum.inr x, rfl, p2, q2, ?_⟩
    have sd : Same H (upd (upd H2 q0 (.dK [(Sum.inr x, .ref t2)])) p (.dK (putK kvs (Sum.inr x) (.ref t2)))) := fun b o e => by
      rw [upd_ne (ne_of_none e hp), upd_ne (ne_of_none e hq0)]
      exact s3 _ _ e
    have st : ST H2 (upd (upd H2 q0 (.dK [(Sum.inr x, .ref t2)])) p (.dK (putK kvs (Sum.inr x) (.ref t2)))) := (st_upd q2 rfl).tr (st_upd (u := .dK kvs) (by rw [upd_ne nq.symm]; exact p2) rfl)
    refine ⟨s, p, d, m, us, us.map (setT x c rs), putK kvs (Sum.inr x) (.ref t2), rfl, S.mono sd, hd1, hd3, hm2, upd_same, kv_put (h3.mono sd) hx (dpt st _ _ ?_ v2), by rw [setT_names]; exact hnd, by rw [List.length_map]; exact hl6, hT.ext sd, fun y H3 hy e2 hT2 S2 => q y H3 (free_of sd hy) (fun b o e n => e2 _ _ (sd _ _ e) n) hT2 S2⟩
    exact noL_k ⟨x, c, rs⟩
end
end Fr

namespace Fr
open PySem PySem.Spec PyProof.Rows L2
abbrev s_check_shifts : Stmt := topS 19
theorem sc_check_shifts : FnScope ["system", "shifts", "name"] ["system", "shifts"] (defScope s_check_shifts) := ⟨rfl, rfl, rfl, by decide +kernel, rfl, by decide +kernel, by decide +kernel⟩
-- slots: 0 system, 1 shifts, 2 name
abbrev s_shifted : Stmt := topS 23
theorem sc_shifted : FnScope ["system", "shifts", "made", "name", "reads", "table", "vector", "factor"] ["system", "shifts"] (defScope s_shifted) := ⟨rfl, rfl, rfl, by decide +kernel, rfl, by decide +kernel, by decide +kernel⟩
-- slots: 0 system, 1 shifts, 2 made, 3 name, 4 reads, 5 table, 6 vector, 7 factor
/-- a dict of shifts -/
def ShAt (K : PySem.W.Frag) (H : Hp) (kvs : List (Key × V)) (gs : List (Str × List Int)) : Prop := Paired (fun (kv : Key × V) (g : Str × List Int) => kv.1 = Sum.inr g.1 ∧ Dp K H kv.2 (.tuple (g.2.map .int))) kvs gs
theorem ShAt.mono {K : PySem.W.Frag} {H H' : Hp} (e : SD H H') : ∀ {kvs : List (Key × V)} {gs : List (Str × List Int)}, ShAt K H kvs gs → ShAt K H' kvs gs
  | [], _, h => by cases h; exact .nil
  | kv :: kvs, _, h => by
    cases h with
    | cons h1 h2 => exact .cons ⟨h1.1, dpd e _ _ h1.2⟩ (ShAt.mono e h2)
theorem ShAt.st {K : PySem.W.Frag} {H H' : Hp} (e : ST H H') : ∀ {kvs : List (Key × V)} {gs : List (Str × List Int)}, ShAt K H kvs gs → ShAt K H' kvs gs
  | [], _, h => by cases h; exact .nil
  | kv :: kvs, _, h => by
    cases h with
    | cons h1 h2 => exact .cons ⟨h1.1, dpt e _ _ (noL_ints _) h1.2⟩ (ShAt.st e h2)
theorem ShAt.len {K : PySem.W.Frag} {H : Hp} {kvs : List (Key × V)} {gs : List (Str × List Int)} (h : ShAt K H kvs gs) : kvs.length = gs.length := Paired.length h
theorem ShAt.keys {K : PySem.W.Frag} {H : Hp} : ∀ {kvs : List (Key × V)} {gs : List (Str × List Int)}, ShAt K H kvs gs → kvs.map (·.1) = (gs.map (·.1)).map Sum.inr
  | [], _, h => by cases h; rfl
  | kv :: kvs, _, h => by
    cases h with
    | cons h1 h2 => rw [List.map_cons, List.map_cons, List.map_cons, ShAt.keys h2, h1.1]
theorem ShAt.get {K : PySem.W.Frag} {H : Hp} {x : Str} : ∀ {kvs : List (Key × V)} {gs : List (Str × List Int)}, ShAt K H kvs gs → ∀ {v : List Int}, gs.lookup x = some v → ∃ u, valV kvs (Sum.inr x) = some u ∧ Dp K H u (.tuple (v.map .int))
  | [], _, h, v, e => by cases h; cases e
  | (k, u) :: kvs, _, h, v, e => by
    cases h with
    | @cons _ g _ gs h1 h2 =>
      obtain ⟨y, w⟩ := g
      have h1' : k = Sum.inr y := h1.1
      subst h1'
      by_cases hx : x = y
      · subst hx
        rw [List.lookup_cons_self] at e
        cases e
        exact ⟨u, valV_pos rfl, h1.2⟩
      · rw [List.lookup_cons, beq_eq_false_iff_ne.mpr hx] at e
        obtain ⟨u', e1, e2⟩ := ShAt.get h2 e
        exact ⟨u', by rw [valV_neg (fun z => hx (Sum.inr.inj z).symm)]; exact e1, e2⟩
theorem look_some {gs : List (Str × List Int)} {x : Str} (h : x ∈ gs.map (·.1)) : ∃ v, gs.lookup x = some v ∧ (x, v) ∈ gs := by
  induction gs with
  | nil => cases h
  | cons g gs ih =>
    obtain ⟨y, w⟩ := g
    by_cases hx : x = y
    · subst hx
      exact ⟨w, List.lookup_cons_self, List.mem_cons_self⟩
    · rw [List.map_cons, List.mem_cons] at h
      obtain ⟨v, e1, e2⟩ := ih (h.resolve_left hx)
      exact ⟨v, by rw [List.lookup_cons, beq_eq_false_iff_ne.mpr hx]; exact e1, List.mem_cons_of_mem _ e2⟩
def shOf (gs : List (Str × List Int)) (x : Str) : List Int := (gs.lookup x).getD []
def shR (g : Str → List Int) (x : Str) (r : Rd1) : Rd1 := ⟨r.t, mvV r.v (g x) (g r.t), r.f⟩
def shT (g : Str → List Int) (t : Tb) : Tb := ⟨t.n, t.c, t.rs.map (shR g t.n)⟩
/-- what shifts must be for a system -/
structure ShOk (d : Int) (names : List Str) (gs : List (Str × List Int)) : Prop where
  all : ∀ x ∈ names, x ∈ gs.map (·.1)
  own : ∀ x ∈ gs.map (·.1), x ∈ names
  len : ∀ p ∈ gs, (p.2.length : Int) = d
  few : gs.length ≤ 60
theorem ShOk.at {d : Int} {names : List Str} {gs : List (Str × List Int)} (h : ShOk d names gs) {x : Str} (hx : x ∈ names) : gs.lookup x = some (shOf gs x) ∧ ((shOf gs x).length : Int) = d := by
  obtain ⟨v, e1, e2⟩ := look_some (h.all x hx)
  unfold shOf
  rw [e1]
  exact ⟨rfl, h.len _ e2⟩
def shP (g : Str → List Int) (done : List Str) (t : Tb) : Tb := if t.n ∈ done then shT g t else t
theorem shP_n (g : Str → List Int) (done : List Str) (t : Tb) : (shP g done t).n = t.n := by
  unfold shP
  split <;> rfl
theorem shP_names (g : Str → List Int) (done : List Str) (ts : List Tb) : (ts.map (shP g done)).map (·.n) = ts.map (·.n) := by
  rw [List.map_map]
  exact List.map_congr_left fun t _ => shP_n g done t
theorem srt_set {x : Str} {c : Int} {rs : List Rd1} {ws : List Tb} (n : (ws.map (·.n)).Nodup) : srt ((srt ws).map (setT x c rs)) = srt (ws.map (setT x c rs)) :=
  (srt_same ((srt_perm ws).symm.map (setT x c rs)) (by rw [setT_names]; exact n)).symm
theorem shP_step {g : Str → List Int} {done : List Str} {us : List Tb} {tb : Tb} (n : (us.map (·.n)).Nodup) (h : tb ∈ us) : (us.map (shP g done)).map (setT tb.n tb.c (tb.rs.map (shR g tb.n))) = us.map (shP g (done ++ [tb.n])) := by
  rw [List.map_map]
  refine List.map_congr_left fun t ht => ?_
  show setT tb.n tb.c (tb.rs.map (shR g tb.n)) (shP g done t) = _
  by_cases e : t.n = tb.n
  · have et : t = tb := by
      have f1 := find_nodup (x := tb.n) n ht e
      have f2 := find_nodup (x := tb.n) n h rfl
      rw [f1] at f2
      exact Option.some.inj f2
    subst et
    unfold setT
    rw [if_pos (shP_n g done t), shP_n]
    unfold shP
    rw [if_pos (List.mem_append.mpr (.inr (List.mem_singleton.mpr rfl)))]
    rfl
  · unfold setT
    rw [if_neg (by rw [shP_n]; exact e)]
    unfold shP
    by_cases k : t.n ∈ done
    · rw [if_pos k, if_pos (List.mem_append.mpr (.inl k))]
    · rw [if_neg k, if_neg]
      intro z
      rcases List.mem_append.mp z with z | z
      · exact k z
      · exact e (List.mem_singleton.mp z)
section
variable {P : Program} {w : World} {K : PySem.W.Frag} {mg : Str → Option Value} {base : Heap}
def spCheckSh (K : PySem.W.Frag) (C : Addr) : Sp := fun vs H Q _ => ∃ (s dd : Addr) (d m : Int) (ts : List Tb) (kvs : List (Key × V)) (gs : List (Str × List Int)), vs = [.ref s, .ref dd] ∧ SysAt K C H s d m ts ∧ H dd = some (.dK kvs) ∧ ShAt K H kvs gs ∧ ShOk d (ts.map (·.n)) gs ∧ ∀ H', Same H H' → Q .non H'
theorem ok_check_sh {f C : Addr} {fd : FuncData} (F : Fun K "check_shifts" "check_shifts" s_check_shifts f fd) (T : Txt mg) (p_names : Prp P w K mg base 1 C "names" (spNames K C)) (p_dimensions : Prp P w K mg base 1 C "dimensions" (spDims K C)) : FnOk P w K mg base CX0 3 f fd ["system", "shifts"] (spCheckSh K C) := by
  refine F.ok sc_check_shifts (fun vs H Q E h => ?_) (fun cdv A outer sh H vs Q E hr h => ?_)
  · obtain ⟨s, dd, d, m, ts, kvs, gs, rfl, _⟩ := h
    rfl
  · obtain ⟨s, dd, d, m, ts, kvs, gs, rfl, S, hd, hk, O, q⟩ := h
    have hu := hu_of hr
    refine ⟨_, (pss_cons (ps_for PassesOwn.never rfl (pi_list (pe_pr (pv 0) p_names hr (by decide) rfl)) (pg_name (i := 2) sc_check_shifts.nd rfl (by first | exact Or.inl rfl | exact Or.inr rfl))
    (pss_one (ps_if (PW.pt (pw_or (pt_cmp (pc_dnotin hu (pv 2) (pv 1))) (pw_or1 (pt_cmpR op_ne (pe_callB call_len_seq (by rfl) T.b_len PySem.boot_len (pa_cons (pe_dget hu (pv 1) (pv 2) (fun _ _ => rfl)) pa_nil)) (pe_pr (pv 0) p_dimensions hr (by decide) rfl) (nomark _)))))
      (pss_one ps_never)
      pss_nil)))
  (pss_one (ps_for PassesOwn.never rfl (pi_list (pe_callB (call_sortedD rfl) (by rfl) T.b_sorted (by decide +kernel) (pa_cons (pv 1) pa_nil))) (pg_name (i := 2) sc_check_shifts.nd rfl (by first | exact Or.inl rfl | exact Or.inr rfl))
    (pss_one (ps_if (pt_cmpR op_notIn_seq (pv 2) (pe_pr (pv 0) p_names hr (by decide) rfl) (by rfl))
      (pss_one ps_never)
      pss_nil))))), ?_⟩
    obtain ⟨dx, t, tkv, h1, h2, h3⟩ := id S.ob
    have en : (ts.map fun t => V.str t.n) = (ts.map (·.n)).map V.str := by
      rw [List.map_map]
      rfl
    refine ⟨_, rfl, s, dx, _, rfl, h1, s, d, m, ts, rfl, S, fun p H0 hp s0 hp0 => ⟨p, rfl, ⟨_, Or.inl (Or.inl hp0)⟩, ?_⟩⟩
    rw [en] at hp0
    refine for_it (walk_list (K := K) (a := p) (xs := (ts.map (·.n)).map V.str)) (fun i σ H' => ∃ y2, σ = [some (.ref s), some (.ref dd), y2] ∧ Same H0 H') ⟨none, rfl, same_refl⟩ (fun i σ H' _ ⟨_, _, b⟩ => Or.inl (Or.inl (b _ _ hp0))) ?_ ?_
    · rintro i y σ _ H1 hi ⟨y2, rfl, b⟩ ⟨rfl, hy⟩
      rw [List.getElem?_map] at hy
      obtain ⟨x, hx, rfl⟩ := Option.map_eq_some_iff.mp hy
      obtain ⟨e1, e2⟩ := O.at (List.mem_of_getElem? hx)
      obtain ⟨u, f1, f2⟩ := hk.get e1
      have s1 := same_tr s0 b
      have hd1 := s1 _ _ hd
      obtain ⟨ua, us, rfl, ut, ud⟩ := dtup f2
      obtain rfl := dps_ints ud
      refine ⟨_, rfl, _, rfl, dd, valV kvs (Sum.inr x), rfl, .inl ⟨kvs, Sum.inr x, .inl hd1, rfl, rfl⟩, _, rfl, ?_⟩
      rw [f1]
      refine iteF ?_
      have g := DGet.k (k := Sum.inr x) hd1
      rw [f1] at g
      refine ⟨_, rfl, _, rfl, dd, _, rfl, g, ua, _, rfl, Or.inr (sqt s1 ut), _, rfl, s, dx, _, rfl, s1 _ _ h1, s, d, m, ts, rfl, S.mono s1, rfl, _, rfl, ?_⟩
      have e : decide (V.int (((shOf gs x).map V.int).length : Int) = V.int d) = true := by
        rw [List.length_map]
        exact decide_eq_true (by rw [e2])
      rw [e]
      exact iteF ⟨_, rfl, b⟩
    · rintro σ H1 ⟨y2, rfl, b⟩
      have s1 := same_tr s0 b
      have hd1 := s1 _ _ hd
      have hgl := O.few
      refine ⟨_, rfl, dd, kvs, gs.map (·.1), rfl, Or.inl hd1, hk.keys, by rw [List.length_map]; omega, fun ys p2 perm so hp2 => ?_⟩
      refine ⟨p2, rfl, ⟨_, Or.inl (Or.inl upd_same)⟩, ?_⟩
      have s2 := snew (o := .lst (ys.map V.str)) hp2
      have a2 : (upd H1 p2 (.lst (ys.map V.str))) p2 = some (.lst (ys.map V.str)) := upd_same
      generalize upd H1 p2 (.lst (ys.map V.str)) = H2 at s2 a2
      refine for_it (walk_list (K := K) (a := p2) (xs := ys.map V.str)) (fun i σ H' => ∃ y2, σ = [some (.ref s), some (.ref dd), y2] ∧ Same H2 H') ⟨_, rfl, same_refl⟩ (fun i σ H' _ ⟨_, _, b⟩ => Or.inl (Or.inl (b _ _ a2))) ?_ ?_
      · rintro i y σ _ H3 hi ⟨y2, rfl, b3⟩ ⟨rfl, hy⟩
        rw [List.getElem?_map] at hy
        obtain ⟨x, hx, rfl⟩ := Option.map_eq_some_iff.mp hy
        have hm : x ∈ ts.map (·.n) := O.own x (perm.mem_iff.mp (List.mem_of_getElem? hx))
        have s3 := same_tr s1 (same_tr s2 b3)
        refine ⟨_, rfl, _, rfl, s, dx, _, rfl, s3 _ _ h1, s, d, m, ts, rfl, S.mono s3, fun p4 H4 hp4 s4 hl4 => ?_⟩
        refine ⟨p4, _, rfl, Or.inl (Or.inl (Or.inl hl4)), rfl, ?_, ?_⟩
        · rw [en]
          exact flat_strs _
        · rw [en, inV_str hm]
          exact ⟨_, rfl, iteF ⟨_, rfl, same_tr b3 s4⟩⟩
      · rintro σ H3 ⟨y2, rfl, b3⟩
        exact q H3 (same_tr s1 (same_tr s2 b3))
def spShifted (K : PySem.W.Frag) (C : Addr) (TT : List (Addr × Str)) : Sp := fun vs H Q _ => ∃ (s dd : Addr) (d m : Int) (us : List Tb) (kvs : List (Key × V)) (gs : List (Str × List Int)), vs = [.ref s, .ref dd] ∧ SysAt K C H s d m (srt us) ∧ 1 ≤ d ∧ d ≤ 3 ∧ 2 ≤ m ∧ us.length ≤ 60 ∧ (us.map (·.n)).Nodup ∧
  (∀ t ∈ us, t.rs.length ≤ 100 ∧ ∀ r ∈ t.rs, r.t ∈ us.map (·.n) ∧ (r.v.length : Int) = d) ∧ H dd = some (.dK kvs) ∧ ShAt K H kvs gs ∧ ShOk d (us.map (·.n)) gs ∧ LamX.Tabs TT H ∧
  ∀ x H', LamX.ExtN H H' → LamX.Tabs TT H' → SysAt K C H' x d m (srt (us.map (shT (shOf gs)))) → Q (.ref x) H'
theorem ok_shifted {f C : Addr} {fd : FuncData} {TT : List (Addr × Str)} (F : Fun K "shifted" "shifted" s_shifted f fd) (T : Txt mg) (TC : TxtC K mg C) (p_names : Prp P w K mg base 1 C "names" (spNames K C)) (c_check_shifts : C8.Cal P w K mg base 3 "check_shifts" (spCheckSh K C) []) (t_reads : C8.Met P w K mg base 4 C "reads" (spReads K C) []) (t_constant : C8.Met P w K mg base 4 C "constant" (spConst K C) [])
    (c_moved : C8.Cal P w K mg base 1 "moved" (spMoved K) []) (t_with_table : C8.Met P w K mg base 8 C "with_table" (spWT K C TT) []) : FnOk P w K mg base CX0 9 f fd ["system", "shifts"] (spShifted K C TT) := by
  refine F.ok sc_shifted (fun vs H Q E h => ?_) (fun cdv A outer sh H vs Q E hr h => ?_)
  · obtain ⟨s, dd, d, m, us, kvs, gs, rfl, _⟩ := h
    rfl
  · obtain ⟨s, dd, d, m, us, kvs, gs, rfl, S, hd1, hd3, hm2, hl6, hnd, hrd, hd, hk, O, hT, q⟩ := h
    have hu := hu_of hr
    refine ⟨_, (pss_cons (ps_expr (C8.pe_c c_check_shifts hr (by decide) (by rfl) (pa_cons (pv 0) (pa_cons (pv 1) pa_nil))))
  (pss_cons (ps_set (i := 2) sc_shifted.nd rfl (by first | exact Or.inl rfl | exact Or.inr rfl) (pv 0))
  (pss_cons (ps_for PassesOwn.never rfl (pi_list (pe_pr (pv 0) p_names hr (by decide) rfl)) (pg_name (i := 3) sc_shifted.nd rfl (by first | exact Or.inl rfl | exact Or.inr rfl))
    (pss_cons (ps_setLc (i := 4) (own := [("table", 5), ("vector", 6), ("factor", 7)]) (g := gTup K 3 (gCons (gName 5) (gCons (gName 6) (gCons (gName 7) gNil)))) (tt := tYes) (by rfl) sc_shifted.nd rfl rfl (sw_true rfl rfl rfl (by decide +kernel)) (pi_list (C8.pe_mt t_reads hr (by decide) (pv 0) (pa_cons (pv 3) pa_nil))) (blkOk_by (N := ["system", "shifts", "made", "name", "reads", "table", "vector", "factor"]) (sc := defScope s_shifted) (by decide +kernel)) (fun _ _ _ _ _ => (pg_tup rfl (pgs_cons (pg_name (i := 5) sc_shifted.nd rfl (by first | exact Or.inl rfl | exact Or.inr rfl)) (pgs_cons (pg_name (i := 6) sc_shifted.nd rfl (by first | exact Or.inl rfl | exact Or.inr rfl)) (pgs_cons (pg_name (i := 7) sc_shifted.nd rfl (by first | exact Or.inl rfl | exact Or.inr rfl)) pgs_nil))))) (fun _ _ _ _ _ => pts_nil) (fun _ _ _ _ _ => (pe_tup (pa_cons (pv 5) (pa_cons (C8.pe_c c_moved hr (by decide) (by rfl) (pa_cons (pv 6) (pa_cons (pe_dget hu (pv 1) (pv 3) (fun _ _ => rfl)) (pa_cons (pe_dget hu (pv 1) (pv 5) (fun _ _ => rfl)) pa_nil)))) (pa_cons (pv 7) pa_nil))))))
    (pss_one (ps_set (i := 2) sc_shifted.nd rfl (by first | exact Or.inl rfl | exact Or.inr rfl) (C8.pe_mt t_with_table hr (by decide) (pv 2) (pa_cons (pv 3) (pa_cons (C8.pe_mt t_constant hr (by decide) (pv 0) (pa_cons (pv 3) pa_nil)) (pa_cons (pv 4) pa_nil))))))))
  (pss_one (ps_ret (pv 2)))))), ?_⟩
    obtain ⟨dx, t, tkv, h1, h2, h3⟩ := id S.ob
    have sn := srt_perm us
    have Os : ShOk d ((srt us).map (·.n)) gs := ⟨fun x hx => O.all x ((sn.map (·.n)).mem_iff.mp hx), fun x hx => (sn.map (·.n)).mem_iff.mpr (O.own x hx), O.len, O.few⟩
    have nds : ((srt us).map (·.n)).Nodup := (sn.map (·.n)).nodup_iff.mpr hnd
    have sl : (srt us).length = us.length := List.length_mergeSort _
    refine ⟨_, rfl, _, rfl, s, dd, d, m, srt us, kvs, gs, rfl, S, hd, hk, Os, fun H0 s0 => ?_⟩
    refine ⟨_, rfl, ?_⟩
    refine ⟨_, rfl, s, dx, _, rfl, s0 _ _ h1, s, d, m, srt us, rfl, S.mono s0, fun p H1 hp s1 hp1 => ⟨p, rfl, ⟨_, Or.inl (Or.inl hp1)⟩, ?_⟩⟩
    have s01 := same_tr s0 s1
    have en : ((srt us).map fun t => V.str t.n) = ((srt us).map (·.n)).map V.str := by
      rw [List.map_map]
      rfl
    rw [en] at hp1
    have nl : (((srt us).map (·.n)).map V.str).length = us.length := by rw [List.length_map, List.length_map, sl]
    refine for_it (walk_list (K := K) (a := p) (xs := ((srt us).map (·.n)).map V.str)) (fun i σ H' => ∃ (mk : Addr) (y3 y4 : Option V), σ = [some (.ref s), some (.ref dd), some (.ref mk), y3, y4, none, none, none] ∧ LamX.ExtN H1 H' ∧ LamX.Tabs TT H' ∧ SysAt K C H' mk d m (srt (us.map (shP (shOf gs) (((srt us).map (·.n)).take i)))))
      ⟨s, none, none, rfl, LamX.ExtN.of same_refl, hT.ext s01, ?_⟩ (fun i σ H' _ ⟨_, _, _, _, b, _⟩ => Or.inl (Or.inl (b _ _ hp1 (fun ps z => by cases z)))) ?_ ?_
    · have e : us.map (shP (shOf gs) (((srt us).map (·.n)).take 0)) = us := by
        rw [List.take_zero]
        exact (List.map_congr_left fun t _ => if_neg (by simp)).trans (List.map_id us)
      rw [e]
      exact S.mono s01
    · rintro i y σ _ H2 hi ⟨mk, y3, y4, rfl, X2, T2, S2⟩ ⟨rfl, hy⟩
      rw [List.getElem?_map] at hy
      obtain ⟨x, hx, rfl⟩ := Option.map_eq_some_iff.mp hy
      rw [List.getElem?_map] at hx
      obtain ⟨tb, htb, rfl⟩ := Option.map_eq_some_iff.mp hx
      have htm := List.mem_of_getElem? htb
      have htu : tb ∈ us := sn.mem_iff.mp htm
      have hmem : tb.n ∈ (srt us).map (·.n) := List.mem_map.mpr ⟨tb, htm, rfl⟩
      have hf := find_nodup' nds htm
      have SS : SysAt K C H2 s d m (srt us) := (S.mono s01).ext X2
      have hd2 : H2 dd = some (.dK kvs) := X2 _ _ (s01 _ _ hd) (fun ps z => by cases z)
      have hk2 : ShAt K H2 kvs gs := (hk.mono (.of s01)).mono (.ext X2)
      obtain ⟨dx2, t2, tkv2, g1, g2, g3⟩ := id SS.ob
      have nf : ∀ {y : Str}, ¬ y = "_dimensions" → ¬ y = "_modulus" → ¬ y = "_tables" → (flds d m t2).lookup y = none := fun a b c => flds_no _ _ _ a b c
      -- reads = [..]
      refine ⟨_, rfl, s, dx2, _, rfl, g1, nf (by decide +kernel) (by decide +kernel) (by decide +kernel), _, rfl, H2, s, d, m, srt us, tb.n, tb, rfl, same_refl, SS, hmem, hf, fun l H3 rs hl s3 hl3 hrs => ⟨l, rfl, ⟨_, Or.inl (Or.inl hl3)⟩, fun D hD => ?_⟩⟩
      have hrs3 := dpsm s3 _ _ hrs
      have hrl : rs.length = tb.rs.length := by rw [dps_len hrs, List.length_map]
      have hd3' := s3 _ _ hd2
      have hk3 := hk2.mono (.of s3)
      have dg : ∀ {H' : Hp} {z : Str}, Same H3 H' → z ∈ us.map (·.n) → ∃ (ua : Addr), DGet H' dd (.str z) (some (.ref ua)) ∧ SqT K H' ua ((shOf gs z).map V.int) ∧ ((shOf gs z).length : Int) = d := fun {H' z} sm hz => by
        obtain ⟨e1, e2⟩ := O.at hz
        obtain ⟨u, f1, f2⟩ := hk3.get e1
        obtain ⟨ua, us', rfl, ut, ud⟩ := dtup f2
        obtain rfl := dps_ints ud
        have g := DGet.k (k := Sum.inr z) (sm _ _ hd3')
        rw [f1] at g
        exact ⟨ua, g, sqt sm ut, e2⟩
      refine lc_it (walk_list (K := K) (a := l) (xs := rs)) (fun j H' => ∃ (Bx : Hp) (zs : List V), Same H3 Bx ∧ Bx D = none ∧ Same Bx H' ∧ H' D = some (.lst zs) ∧ DpAll K Bx zs (((tb.rs.take j).map (shR (shOf gs) tb.n)).map Rd1.d))
        ⟨H3, [], same_refl, hD, snew hD, upd_same, .nil⟩ (fun j H' _ ⟨Bx, zs, b1, _, b3, _⟩ => Or.inl (Or.inl (b3 _ _ (b1 _ _ hl3)))) ?_ ?_
      · rintro j y Hj _ hj ⟨Bx, zs, b1, b2, b3, b4, b5⟩ ⟨rfl, hy⟩
        obtain ⟨rd, ra, rb, e3, rfl, e4, e5, e6⟩ := rd_at (dpsm (same_tr b1 b3) _ _ hrs3) hy
        have hrm := List.mem_of_getElem? e3
        obtain ⟨r1, r2⟩ := (hrd tb htu).2 rd hrm
        obtain ⟨ua, dg1, ut1, ul1⟩ := dg (same_tr b1 b3) (List.mem_map.mpr ⟨tb, htu, rfl⟩)
        obtain ⟨ub, dg2, ut2, ul2⟩ := dg (same_tr b1 b3) r1
        refine ⟨ra, _, rfl, e5, rfl, _, _, rfl, _, _, rfl, _, _, rfl, rfl, rfl, yes_if ?_⟩
        refine ⟨_, rfl, _, rfl, _, rfl, _, rfl, dd, _, rfl, dg1, _, rfl, _, rfl, dd, _, rfl, dg2, rb, ua, ub, rd.v, shOf gs tb.n, shOf gs rd.t, rfl, e6, ut1, ut2, by omega, by omega, by omega, fun v4 H4 hv4 s4 v4at => ⟨_, rfl, (by show 3 ≤ sizeLine; decide), fun u hu5 => ?_⟩⟩
        have b34 := same_tr b3 s4
        have bv : Bx v4 = none := free_of b3 hv4
        have c1 : Same (upd Bx v4 (.tup ((mvV rd.v (shOf gs tb.n) (shOf gs rd.t)).map V.int))) H4 := fun b o e => by
          by_cases hb : b = v4
          · rw [hb, upd_same] at e
            rw [hb, ← e]
            exact v4at
          · rw [upd_ne hb] at e
            exact b34 _ _ e
        have bu := free_of c1 hu5
        have c2 := sgrow (o := .tup [.str rd.t, .ref v4, .int rd.f]) (p := u) c1
        have D4 := s4 _ _ b4
        have nuD : D ≠ u := ne_of_none D4 hu5
        have nvD : D ≠ v4 := ne_of_none b4 hv4
        have sBB : Same Bx (upd (upd Bx v4 (.tup ((mvV rd.v (shOf gs tb.n) (shOf gs rd.t)).map V.int))) u (.tup [.str rd.t, .ref v4, .int rd.f])) := same_tr (snew bv) (snew bu)
        have bD : (upd (upd Bx v4 (.tup ((mvV rd.v (shOf gs tb.n) (shOf gs rd.t)).map V.int))) u (.tup [.str rd.t, .ref v4, .int rd.f])) D = none := by rw [upd_ne nuD, upd_ne nvD]; exact b2
        have uv : (upd (upd Bx v4 (.tup ((mvV rd.v (shOf gs tb.n) (shOf gs rd.t)).map V.int))) u (.tup [.str rd.t, .ref v4, .int rd.f])) v4 = some (.tup ((mvV rd.v (shOf gs tb.n) (shOf gs rd.t)).map V.int)) := by
          rw [upd_ne (ne_of_none (upd_same (H := Bx) (a := v4)) bu)]
          exact upd_same
        have hzl : zs.length ≤ 100 := by
          rw [dps_len b5, List.length_map, List.length_map, List.length_take]
          have := (hrd tb htu).1
          omega
        refine ⟨zs, by rw [upd_ne nuD]; exact D4, small1000 (by omega), _, zs ++ [.ref u], same_tr b1 sBB, bD, swrite c2 bD, upd_same, ?_⟩
        rw [List.take_add_one, e3, List.map_append, List.map_append]
        exact dps_snoc (dpsm sBB _ _ b5) (.tup (Or.inl (Or.inl upd_same)) (.cons (.str _) (.cons (.tup (Or.inl (Or.inl uv)) (ints_dps _)) (.cons (.int _) .nil))))
      · rintro H4 ⟨Bx, zs, b1, b2, b3, b4, b5⟩
        rw [hrl, List.take_length] at b5
        have s4 := same_tr s3 (same_tr b1 b3)
        obtain ⟨dx3, t3, tkv3, o1, o2, o3⟩ := id S2.ob
        have nf3 : ∀ {y : Str}, ¬ y = "_dimensions" → ¬ y = "_modulus" → ¬ y = "_tables" → (flds d m t3).lookup y = none := fun a b c => flds_no _ _ _ a b c
        -- made = made.with_table(..)
        refine ⟨_, rfl, mk, dx3, _, rfl, s4 _ _ o1, nf3 (by decide +kernel) (by decide +kernel) (by decide +kernel), _, rfl, _, rfl, s, dx2, _, rfl, s4 _ _ g1, nf (by decide +kernel) (by decide +kernel) (by decide +kernel), _, rfl, s, d, m, srt us, tb.n, tb, rfl, SS.mono s4, hmem, hf, fun H5 s5 => ⟨_, rfl, ?_⟩⟩
        have s45 := same_tr s4 s5
        have nW : ((us.map (shP (shOf gs) (((srt us).map (·.n)).take i))).map (·.n)).Nodup := by rw [shP_names]; exact hnd
        refine ⟨mk, D, tb.n, tb.c, d, m, srt (us.map (shP (shOf gs) (((srt us).map (·.n)).take i))), zs, tb.rs.map (shR (shOf gs) tb.n), rfl, S2.mono s45, hd1, hd3, hm2, ((srt_perm _).map (·.n)).nodup_iff.mpr nW, ?_, ?_, Or.inl (Or.inl (s5 _ _ b4)), dpsm (same_tr b3 s5) _ _ b5, T2.ext s45, fun y5 H6 hy5 X6 T6 S6 => ?_⟩
        · rw [show (srt (us.map (shP (shOf gs) (((srt us).map (·.n)).take i)))).length = _ from List.length_mergeSort _, List.length_map]
          exact hl6
        · refine ((srt_perm _).map (·.n)).mem_iff.mpr ?_
          rw [shP_names]
          exact List.mem_map.mpr ⟨tb, htu, rfl⟩
        · refine ⟨y5, _, _, rfl, fun b o e n => X6 _ _ (s45 _ _ (X2 _ _ e n)) n, T6, ?_⟩
          rw [srt_set nW, shP_step hnd htu] at S6
          rw [List.take_add_one, List.getElem?_map, htb]
          exact S6
    · rintro σ H2 ⟨mk, y3, y4, rfl, X2, T2, S2⟩
      rw [nl] at S2
      have e : us.map (shP (shOf gs) (((srt us).map (·.n)).take us.length)) = us.map (shT (shOf gs)) := by
        rw [List.take_of_length_le (by rw [List.length_map, sl]; exact Nat.le_refl _)]
        refine List.map_congr_left fun t ht => ?_
        have hm : t.n ∈ (srt us).map (·.n) := (sn.map (·.n)).mem_iff.mpr (List.mem_map.mpr ⟨t, ht, rfl⟩)
        unfold shP
        rw [if_pos hm]
      rw [e] at S2
      exact ⟨_, rfl, q mk H2 (fun b o e n => X2 _ _ (s01 _ _ e) n) T2 S2⟩
end
end Fr

namespace Fr
open PySem PySem.Spec PyProof.Rows L2
abbrev s_Lshift : Stmt := topS 40
theorem sc_Lshift : FnScope ["_law_pool_here", "_law_titles", "_law_axes", "_law_moved", "_law_title", "_law_axis"] ["_law_pool_here", "_law_titles", "_law_axes"] (defScope s_Lshift) := ⟨rfl, rfl, rfl, by decide +kernel, rfl, by decide +kernel, by decide +kernel⟩
-- slots: 0 _law_pool_here, 1 _law_titles, 2 _law_axes, 3 _law_moved, 4 _law_title, 5 _law_axis
theorem ShAt.snoc {K : PySem.W.Frag} {H : Hp} {x : Str} {v : List Int} {u : V} : ∀ {kvs : List (Key × V)} {gs : List (Str × List Int)}, ShAt K H kvs gs → Dp K H u (.tuple (v.map .int)) → ShAt K H (kvs ++ [(Sum.inr x, u)]) (gs ++ [(x, v)])
  | [], _, h, hu => by cases h; exact .cons ⟨rfl, hu⟩ .nil
  | kv :: kvs, _, h, hu => by
    cases h with
    | cons h1 h2 => exact .cons h1 (ShAt.snoc h2 hu)
theorem ShAt.noVal {K : PySem.W.Frag} {H : Hp} {x : Str} : ∀ {kvs : List (Key × V)} {gs : List (Str × List Int)}, ShAt K H kvs gs → x ∉ gs.map (·.1) → valV kvs (Sum.inr x) = none
  | [], _, h, _ => by cases h; rfl
  | (k, u) :: kvs, _, h, n => by
    cases h with
    | @cons _ g _ gs h1 h2 =>
      obtain ⟨y, w⟩ := g
      have h1' : k = Sum.inr y := h1.1
      subst h1'
      rw [valV_neg (fun z => n (by rw [Sum.inr.inj z]; exact List.mem_cons_self))]
      exact ShAt.noVal h2 fun z => n (List.mem_cons_of_mem _ z)
section
variable {P : Program} {w : World} {K : PySem.W.Frag} {mg : Str → Option Value} {base : Heap}
def Six (v : List Int) : Prop := ∀ x ∈ v, -6 ≤ x ∧ x ≤ 6
def spShift (K : PySem.W.Frag) : Sp := fun vs H Q _ => ∃ (r lt : Addr) (ax : Int) (m : Nat) (B : Hp) (names : List Str), vs = [.ref r, .ref lt, .int ax] ∧ RS r m B H ∧ 1 ≤ ax ∧ ax ≤ 3 ∧ B lt = some (.lst (names.map V.str)) ∧ names.Nodup ∧ names.length ≤ 6 ∧ m ≤ 2 ^ 59 ∧
  ∀ p B' H' (kvs : List (Key × V)) (gs : List (Str × List Int)), Same B B' → B p = none → RS r (m + 100) B' H' → B' p = some (.dK kvs) → ShAt K B' kvs gs → gs.map (·.1) = names → (∀ g ∈ gs, (g.2.length : Int) = ax ∧ Six g.2) → Q (.ref p) H'
theorem ok_shift {f : Addr} {fd : FuncData} (F : Fun K "_law_shift" "_law_shift" s_Lshift f fd) (T : Txt mg) (c_Ldraw : C8.Cal P w K mg base 1 "_law_draw" spDraw []) : FnOk P w K mg base CX0 2 f fd ["_law_pool_here", "_law_titles", "_law_axes"] (spShift K) := by
  refine F.ok sc_Lshift (fun vs H Q E h => ?_) (fun cdv A outer sh H vs Q E hr h => ?_)
  · obtain ⟨r, lt, ax, m, B, names, rfl, _⟩ := h
    rfl
  · obtain ⟨r, lt, ax, m, B, names, rfl, R, ha1, ha3, hlt, hnd, hlen, hm, q⟩ := h
    have hu := hu_of hr
    refine ⟨_, (pss_cons (ps_set (i := 3) sc_Lshift.nd rfl (by first | exact Or.inl rfl | exact Or.inr rfl) pe_dnewK)
  (pss_cons (ps_for PassesOwn.never rfl (pi_list (pv 1)) (pg_name (i := 4) sc_Lshift.nd rfl (by first | exact Or.inl rfl | exact Or.inr rfl))
    (pss_one (ps_dput hu (pv 3) (pv 4) (pe_callTy call_tuple_of (by rfl) T.b_tuple (by decide +kernel) (pa_cons (pe_lc (own := [("_law_axis", 5)]) (g := gName 5) (tt := tYes) (by rfl) sc_Lshift.nd (pi_range1 (by rfl) T.b_range (pa_cons (pv 2) pa_nil)) (blkOk_by (N := ["_law_pool_here", "_law_titles", "_law_axes", "_law_moved", "_law_title", "_law_axis"]) (sc := defScope s_Lshift) (by decide +kernel)) (fun _ _ _ _ _ => (pg_name (i := 5) sc_Lshift.nd rfl (by first | exact Or.inl rfl | exact Or.inr rfl))) (fun _ _ _ _ _ => pts_nil) (fun _ _ _ _ _ => (pe_op op_sub (C8.pe_c c_Ldraw hr (by decide) (by rfl) (pa_cons (pv 0) (pa_cons pe_int pa_nil))) pe_int))) pa_nil)) rfl)))
  (pss_one (ps_ret (pv 3))))), ?_⟩
    refine fun p hp => ⟨_, rfl, ?_⟩
    have bp := free_of R.s hp
    have rp := R.ne hp
    refine ⟨lt, rfl, ⟨_, Or.inl (Or.inl ((R.new hp).s _ _ hlt))⟩, ?_⟩
    refine for_it (walk_list (K := K) (a := lt) (xs := names.map V.str)) (fun i σ H' => ∃ (y4 : Option V) (Bi : Hp) (kvs : List (Key × V)) (gs : List (Str × List Int)), σ = [some (.ref r), some (.ref lt), some (.int ax), some (.ref p), y4, none] ∧ Same B Bi ∧ Bi p = none ∧ RS r (m + 3 * i) Bi H' ∧ H' p = some (.dK kvs) ∧ ShAt K Bi kvs gs ∧ gs.map (·.1) = names.take i ∧ ∀ g ∈ gs, (g.2.length : Int) = ax ∧ Six g.2)
      ⟨none, B, [], [], rfl, same_refl, bp, R.new hp, upd_same, .nil, by rw [List.take_zero]; rfl, by intro g hg; cases hg⟩ (fun i σ H' _ ⟨_, Bi, _, _, _, b1, _, b2, _⟩ => Or.inl (Or.inl (b2.s _ _ (b1 _ _ hlt)))) ?_ ?_
    · rintro i y σ _ H1 hi ⟨y4, Bi, kvs, gs, rfl, b1, b2, b3, b4, b5, b6, b7⟩ ⟨rfl, hy⟩
      rw [List.getElem?_map] at hy
      obtain ⟨x, hx, rfl⟩ := Option.map_eq_some_iff.mp hy
      rw [List.length_map] at hi
      refine ⟨_, rfl, ?_⟩
      refine ⟨ax, rfl, by omega, by omega, fun D hD => ?_⟩
      have bD := free_of b3.s hD
      have rD := b3.ne hD
      have pD : p ≠ D := ne_of_none b4 hD
      refine lc_it walk_range (fun j H' => ∃ xs : List Int, xs.length = j ∧ Six xs ∧ H' D = some (.lst (xs.map V.int)) ∧ H' p = some (.dK kvs) ∧ RS r (m + 3 * i + j) Bi H') ⟨[], rfl, (by intro x hx; cases hx), upd_same, by rw [upd_ne pD]; exact b4, b3.new hD⟩ (fun _ _ _ _ => True.intro) ?_ ?_
      · rintro j y _ H2 hj ⟨xs, e1, e2, e3, e5, e4⟩ ⟨rfl, rfl⟩
        refine ⟨rfl, yes_if ?_⟩
        refine ⟨_, rfl, r, 13, _, rfl, e4.ok, by omega, by decide, by decide, fun d H3 d0 d1 D1 => ?_⟩
        have R3 := e4.dr D1
        have D3 : H3 D = some (.lst (xs.map V.int)) := by rw [D1.ne _ rD.symm]; exact e3
        have P3 : H3 p = some (.dK kvs) := by rw [D1.ne _ rp.symm]; exact e5
        refine ⟨_, _, rfl, rfl, _, D3, small1000 (by rw [List.length_map]; omega), xs ++ [d - 6], by rw [List.length_append, e1]; rfl, ?_, by rw [upd_same, List.map_append]; rfl, by rw [upd_ne pD]; exact P3, (R3.put bD rD).mono (by omega)⟩
        intro z hz
        rcases List.mem_append.mp hz with h | h
        · exact e2 z h
        · rw [List.mem_singleton.mp h]
          omega
      · rintro H2 ⟨xs, e1, e2, e3, e5, e4⟩
        have e4 := e4.mono (show m + 3 * i + ax.toNat ≤ m + 3 * (i + 1) by omega)
        refine ⟨D, _, rfl, Or.inl ⟨Or.inl (Or.inl e3), fun l hl => ?_⟩⟩
        have bl := free_of e4.s hl
        have rl := e4.ne hl
        have pl : p ≠ l := ne_of_none e5 hl
        have R5 := (e4.new (o := .tup (xs.map V.int)) hl).keep upd_same bl rl
        have P5 : (upd H2 l (.tup (xs.map V.int))) p = some (.dK kvs) := by rw [upd_ne pl]; exact e5
        have s5 : Same Bi (upd Bi l (.tup (xs.map V.int))) := snew bl
        have p5 : (upd Bi l (.tup (xs.map V.int))) p = none := by rw [upd_ne pl]; exact b2
        have hgl : gs.length = i := by
          have := congrArg List.length b6
          rw [List.length_map, List.length_take] at this
          omega
        refine ⟨_, rfl, _, rfl, p, _, rfl, DPut.k (k := Sum.inr x) P5 (by rw [b5.len, hgl]; exact Nat.lt_of_le_of_lt (show i ≤ 6 by omega) (by rw [sizeLine_eq]; decide)), ?_⟩
        have nx : x ∉ gs.map (·.1) := by
          rw [b6]
          exact notin_take hnd hx
        rw [putK_new _ (b5.noVal nx)]
        refine ⟨_, _, _, gs ++ [(x, xs)], rfl, same_tr b1 s5, p5, R5.put p5 rp, upd_same, (b5.mono (.of s5)).snoc (.tup (Or.inl (Or.inl upd_same)) (ints_dps _)), ?_, ?_⟩
        · rw [List.map_append, b6, List.take_add_one, hx]
          rfl
        · intro g hg
          rcases List.mem_append.mp hg with h | h
          · exact b7 g h
          · rw [List.mem_singleton.mp h]
            exact ⟨by show (xs.length : Int) = ax; omega, e2⟩
    · rintro σ H1 ⟨y4, Bi, kvs, gs, rfl, b1, b2, b3, b4, b5, b6, b7⟩
      rw [List.length_map, List.take_length] at b6
      refine ⟨_, rfl, ?_⟩
      have hl : names.length = (names.map V.str).length := (List.length_map _).symm
      refine q p _ _ kvs gs (same_tr b1 (snew b2)) bp ((b3.keep b4 b2 rp).mono (by omega)) upd_same (b5.mono (.of (snew b2))) b6 b7
end
end Fr

namespace Fr
open PySem PySem.Spec PyProof.Rows L2
section
variable {prog : Program} {w : World} {d r : Addr} {es : Array DictEntry} {ep : Nat}
theorem kdl_valuesR : PySem.W.KdlSrc prog w "dict_values" r d es.size (fun i v => ∃ hi : i < es.size, v = es[i].val) (fun h => h.IsValuesView r d ∧ h.DictRaw d es ep) where
  type := fun _ hm => hm.1.typeIs
  there := fun _ hm => ⟨let ⟨_, ho, _⟩ := hm.1; Heap.lt_size ho, let ⟨_, ho, _⟩ := hm.2; Heap.lt_size ho⟩
  keep := fun _ _ hm hk => ⟨let ⟨o, ho, x⟩ := hm.1; ⟨o, hk r (.inl rfl) o ho, x⟩, hm.2.at fun o e => hk d (.inr rfl) o e⟩
  notList := by decide
  notTuple := by decide
  hint := fun _ _ _ _ hm hq => PySem.W.kdl_hint_values hm.1.typeIs hq
  iter := fun _ _ hh hm => ⟨_, _, (fun _ _ hq => wpAny_pyIter_values_raw hm.1 hm.2 hq), Walks.rawValues hh _ d (Nat.ne_of_lt (let ⟨_, ho, _⟩ := hm.2; Heap.lt_size ho)) es ep, ⟨⟨_, Heap.get?_push_size _ rfl, rfl, rfl⟩, hm.2.at fun o e => Heap.get?_push_of_some _ e⟩⟩
end
def tLstValsT (te : TE) : TE := fun σ H Q => te σ H fun x H1 => ∃ (d : Addr) (kvs : List (List Key × V)), x = .ref d ∧ H1 d = some (.dT kvs) ∧ ∀ q, H1 q = none → Q (.ref q) (upd H1 q (.lst (kvs.map (·.2))))
theorem pe_listValsT {X : Cx} {e : Expr} {te : TE} {p apos cpos pos : Pos} (hc : X.calm = true) (hg : Gl X "list") (hm : X.mg "list" = none) (he : PE X e te) (hbase : attributeBase e "values" X.env (eval e X.env) = eval e X.env := by rfl) (hline : (apos.endLine == cpos.line) = true := by rfl)
    (na : starEach [.Call (.Attribute e "values" apos) [] [] cpos] X.env = (false, eval (.Call (.Attribute e "values" apos) [] [] cpos) X.env) :: starEach [] X.env := by rfl) : PE X (.Call (.Name "list" p) [.Call (.Attribute e "values" apos) [] [] cpos] [] pos) (tLstValsT te) := by
  refine ⟨fun pins s σ H Q I h => ?_⟩
  refine Call_ (ld_blt I hg hm boot_list (PyProof.Rows.callWith_type1 (args_cons ?_ na) na))
  refine wpAny_Call_method (T := "dict") (id := "dict.values") hbase rfl hline PySem.F.plainAttrs_dict PySem.F.slot_dict_values PySem.F.type_dict_values (thn (he.run pins s σ H _ I h) fun u s1 ⟨x, H1, I1, rx, d, kvs, ex, hd, q⟩ => ?_)
  subst ex
  obtain rfl : u = Value.ref d := rx
  obtain ⟨z, lo, xs, pr, o, es, ep, ho, hx, hdt, hes, _⟩ := (show ObjOk X.prog X.w H1 s1.heap d (.dT kvs) from I1.hok d _ hd)
  have raw : s1.heap.DictRaw d es ep := ⟨o, ho, hx, hdt⟩
  have l1 : es.size = xs.length := size_of_entries hes
  have l2 : kvs.length = xs.length := Paired.length pr
  refine ⟨raw.typeIs, fun b hb => by cases hb; exact ⟨o, ho, hx.2.1⟩, ?_⟩
  have I2 : Inv X pins σ H1 { s1 with heap := s1.heap.push { cls := .type "dict_values", data := .fields #[.ref d] } } := I1.kept (t' := s1.toks) fun b ob q => Heap.get?_push_of_some _ q
  have fin : wpAny (model X.prog X.w) X.A (call (.type "list") [.ref s1.heap.objs.size]) (EP X pins σ Q) X.xe { s1 with heap := s1.heap.push { cls := .type "dict_values", data := .fields #[.ref d] } } := by
    refine PySem.W.kdl_call (kdl_valuesR (r := s1.heap.objs.size) (d := d) (es := es) (ep := ep)) (I2.ok.hd hc) ⟨⟨_, Heap.get?_push_size _ rfl, rfl, rfl⟩, raw.at fun o e => Heap.get?_push_of_some _ e⟩ (by omega) fun h' tk acc' c' hkeep hS hacc => ?_
    refine ⟨.ref _, upd H1 _ (.lst (kvs.map (·.2))), I2.laid hkeep (Nat.le_refl _) (show ObjOk X.prog X.w _ _ _ (.lst (kvs.map (·.2))) from ⟨?_, acc'.toList, c', ?_, ?_⟩), rfl, q _ (I2.hok.fresh (Nat.le_refl _))⟩
    · rw [List.length_map]; exact z
    · have el : acc'.toList.length = acc'.size := by simp
      refine vals_of_at (by rw [List.length_map, el, hacc.1]; omega) fun j x w h1 h2 => ?_
      obtain ⟨hj, e1⟩ := hacc.2 j w (by rw [← Array.getElem?_toList]; exact h2)
      rw [List.getElem?_map] at h1
      obtain ⟨kv, h3, rfl⟩ := Option.map_eq_some_iff.mp h1
      obtain ⟨k, v⟩ := kv
      obtain ⟨b, hb, _, _, e3⟩ := paired_get pr h3
      have y := entry_at hes j
      rw [hb] at y
      have z2 := Array.getElem?_eq_getElem hj
      rw [z2] at y
      have y2 := Option.some.inj y
      rw [e1, y2]
      exact e3
    · rw [Array.toArray_toList]; exact hS
  show wpAny _ _ (callWith cpos (.builtin "dict.values") [.ref d] [] []) _ X.xe s1
  exact method_meetsIn PySem.F.slot_dict_values PySem.F.entry_dict_values rfl (PySem.evalArgs_none ⟨rfl, raw.typeIs, PySem.F.args_dict_values_1 _, _, meets_dict_values_raw d lo, ⟨⟨es, ep, raw⟩, args_nil fin⟩⟩)
end Fr

namespace Fr
open PySem PySem.Spec PyProof.Rows L2
/-- the least sum of a walk from a table -/
def Least (E : List RowP) (k : Nat) (x : Str) (v : Int) : Prop := (∃ w t, Wk x w t ∧ (∀ r ∈ w, r ∈ E) ∧ asum k w = v) ∧ ∀ w t, Wk x w t → (∀ r ∈ w, r ∈ E) → v ≤ asum k w
theorem Least.one {E : List RowP} {k : Nat} {x : Str} {v u : Int} (h : Least E k x v) (g : Least E k x u) : v = u := by
  obtain ⟨⟨w, t, h1, h2, rfl⟩, h3⟩ := h
  obtain ⟨⟨w', t', g1, g2, rfl⟩, g3⟩ := g
  have a := h3 _ _ g1 g2
  have b := g3 _ _ h1 h2
  omega
theorem Least.same {E F : List RowP} (s : ∀ y, y ∈ E ↔ y ∈ F) {k : Nat} {x : Str} {v : Int} (h : Least E k x v) : Least F k x v := by
  obtain ⟨⟨w, t, h1, h2, h3⟩, h4⟩ := h
  exact ⟨⟨w, t, h1, fun r hr => (s r).mp (h2 r hr), h3⟩, fun w t g1 g2 => h4 w t g1 fun r hr => (s r).mpr (g2 r hr)⟩
/-- no closed walk with a sum below 0 -/
def NoNeg (E : List RowP) (k : Nat) : Prop := ∀ w, Cl w → (∀ r ∈ w, r ∈ E) → 0 ≤ asum k w
theorem wk_cut {s s' t : Str} {w : List RowP} (h : Wk s' w t) (m : s ∈ w.map (·.o)) : ∃ c q, w = c ++ q ∧ c ≠ [] ∧ Wk s' c s ∧ Wk s q t := by
  obtain ⟨r, hr, rfl⟩ := List.mem_map.mp m
  obtain ⟨x, y, rfl⟩ := List.append_of_mem hr
  obtain ⟨m, h1, h2⟩ := wk_app.mp h
  exact ⟨x ++ [r], y, by simp, by simp, wk_app.mpr ⟨m, h1, h2.1, rfl⟩, h2.2⟩
/-- a walk on which a table stands twice has a closed walk in it -/
theorem wk_dup : ∀ {w : List RowP} {s t : Str}, Wk s w t → ¬ (s :: w.map (·.o)).Nodup → ∃ p c q m, w = p ++ c ++ q ∧ c ≠ [] ∧ Wk s p m ∧ Wk m c m ∧ Wk m q t
  | [], s, t, _, n => absurd (by simp) n
  | a :: l, s, t, h, n => by
    by_cases m : s ∈ (a :: l).map (·.o)
    · obtain ⟨c, q, h1, h2, h3, h4⟩ := wk_cut h m
      exact ⟨[], c, q, s, h1, h2, rfl, h3, h4⟩
    · obtain ⟨e, hl⟩ := h
      have n' : ¬ (a.o :: l.map (·.o)).Nodup := fun z => n (List.nodup_cons.mpr ⟨m, z⟩)
      obtain ⟨p, c, q, m', h1, h2, h3, h4, h5⟩ := wk_dup hl n'
      exact ⟨a :: p, c, q, m', by rw [h1]; rfl, h2, ⟨e, h3⟩, h4, h5⟩
/-- where no closed walk is below 0, a walk on which no table stands twice is as little -/
theorem wk_path {E : List RowP} {k : Nat} (N : NoNeg E k) : ∀ (n : Nat) (w : List RowP) (s t : Str), w.length ≤ n → Wk s w t → (∀ r ∈ w, r ∈ E) → ∃ u, Wk s u t ∧ (∀ r ∈ u, r ∈ E) ∧ (s :: u.map (·.o)).Nodup ∧ asum k u ≤ asum k w := by
  intro n
  induction n with
  | zero =>
    intro w s t hl h hE
    have e : w = [] := List.length_eq_zero_iff.mp (Nat.le_zero.mp hl)
    subst e
    exact ⟨[], h, hE, by simp, Int.le_refl _⟩
  | succ n ih =>
    intro w s t hl h hE
    by_cases nd : (s :: w.map (·.o)).Nodup
    · exact ⟨w, h, hE, nd, Int.le_refl _⟩
    · obtain ⟨p, c, q, m, rfl, h2, h3, h4, h5⟩ := wk_dup h nd
      have hc := N c (cl_wk h2 h4) fun r hr => hE r (by simp [hr])
      have cl : 0 < c.length := List.length_pos_iff.mpr h2
      rw [List.length_append, List.length_append] at hl
      obtain ⟨u, u1, u2, u3, u4⟩ := ih (p ++ q) s t (by rw [List.length_append]; omega) (wk_app.mpr ⟨m, h3, h5⟩) fun r hr => hE r (by
        rcases List.mem_append.mp hr with z | z
        · simp [z]
        · simp [z])
      refine ⟨u, u1, u2, u3, ?_⟩
      rw [asum_app, asum_app]
      rw [asum_app] at u4
      omega
/-- what is least among the walks on which no table stands twice is least -/
theorem least_of {E : List RowP} {k : Nat} (N : NoNeg E k) {x : Str} {v : Int} (h1 : ∃ w t, Wk x w t ∧ (∀ r ∈ w, r ∈ E) ∧ asum k w = v) (h2 : ∀ w t, Wk x w t → (∀ r ∈ w, r ∈ E) → (x :: w.map (·.o)).Nodup → v ≤ asum k w) : Least E k x v := by
  refine ⟨h1, fun w t hw hE => ?_⟩
  obtain ⟨u, u1, u2, u3, u4⟩ := wk_path N w.length w x t (Nat.le_refl _) hw hE
  have := h2 u t u1 u2 u3
  omega
theorem path_len {E : List RowP} {T : List Str} (hE : ∀ r ∈ E, r.o ∈ T) {x : Str} (hx : x ∈ T) {w : List RowP} (h : ∀ r ∈ w, r ∈ E) (nd : (x :: w.map (·.o)).Nodup) : w.length + 1 ≤ T.length := by
  have := length_le_of_nodup_of_subset (x :: w.map (·.o)) T nd fun y hy => by
    rcases List.mem_cons.mp hy with rfl | hy
    · exact hx
    · obtain ⟨r, hr, rfl⟩ := List.mem_map.mp hy
      exact hE r (h r hr)
  rw [List.length_cons, List.length_map] at this
  exact this
end Fr

namespace Fr
open PySem PySem.Spec PyProof.Rows L2
section
variable {X : Cx}
/-- t * 1: the same tuple -/
def rRepT1 (K : PySem.W.Frag) : R2 := fun x y H Q => ∃ l xs, x = .ref l ∧ y = .int 1 ∧ SqT K H l xs ∧ Q (.ref l) H
theorem tuple_mul1 (l : Addr) (items : Array Value) (n : Nat) (dd : Option Addr) (sl : Array (Option Value)) (u : Tok) :
    Meets (Builtin.«tuple.__mul__» ⟨[.ref l, .int 1 u], []⟩) (fun _ R s => s.heap.get? l = some { cls := .type "tuple", dict := dd, data := .seq items n, slots := sl } ∧ R (.ok (.ret (Value.ref l))) s) :=
  .of_wp fun prog w A R s h => by
    obtain ⟨hp, g, d, tk, os⟩ := s
    obtain ⟨hl, h⟩ := h
    have f1 := AutoSeq1.idx_int
    have c1 : (items.isEmpty || (1 : Int) == 1) = true := by rw [show ((1 : Int) == 1) = true from rfl, Bool.or_true]
    wp_walk using wpAny_loadPart' hl
    repeat (first
      | (refine wpAny_ite_true (decide_eq_true (by rw [c1])) ?_; wp_walk using wpAny_loadPart' hl)
      | (refine wpAny_ite_true (by rw [c1]) ?_; wp_walk using wpAny_loadPart' hl))
    all_goals first | exact ⟨_, rfl, h⟩ | exact h | skip
theorem op_repT1 : OpR X (binaryOp .Mult) (rRepT1 X.K) := by
  intro pins s σ H x y v u Q I rx ry h
  obtain ⟨l, xs, rfl, rfl, hT, q⟩ := h
  cases rx
  obtain ⟨t, rfl⟩ := ry
  obtain ⟨its, r, ⟨⟨cls, dd, data, sl⟩, ho, hc, n, hd⟩, hs⟩ := I.tuple hT
  simp only at hc hd
  subst hc hd
  exact wpAny_binaryOp_repeat_ref (T := "tuple") (U := "int") (by decide) ⟨_, ho, rfl⟩ (fun s' => typeIs_int s' 1 t) noFill_tuple_mul F.fills_int_mul F.slot_int_rmul repeat_tuple F.slot_int_index.lookup
    (call_meets F.slot_int_rmul (typeIs_int s 1 t) F.entry_int_rmul (F.args_int_rmul_2 _ _) (int_rmul_tuple 1 t l its.toArray n dd sl)
      ⟨ho, rfl, ⟨_, ho, rfl⟩, call_meets F.slot_tuple_mul ⟨_, ho, rfl⟩ F.entry_tuple_mul (F.args_tuple_mul_2 _ _) (tuple_mul1 l its.toArray n dd sl t) ⟨ho, .ref l, H, I, rfl, q⟩⟩)
/-- a tuple of one item times k, k from 1 on -/
def rRepU (K : PySem.W.Frag) : R2 := fun x y H Q => ∃ l k xs, x = .ref l ∧ y = .int k ∧ SqT K H l xs ∧ xs ≠ [] ∧ 1 ≤ k ∧ k ≤ 1000 ∧ xs.length ≤ 1000 ∧ (k = 1 → Q (.ref l) H) ∧ (2 ≤ k → ∀ p, H p = none → Q (.ref p) (upd H p (.tup (List.replicate k.toNat xs).flatten)))
theorem op_repU : OpR X (binaryOp .Mult) (rRepU X.K) := by
  intro pins s σ H x y v u Q I rx ry h
  obtain ⟨l, k, xs, rfl, rfl, hT, ne, k1, k2, sz, q1, q2⟩ := h
  by_cases e : k = 1
  · subst e
    exact op_repT1 pins s σ H _ _ v u Q I rx ry ⟨l, xs, rfl, rfl, hT, q1 rfl⟩
  · exact op_repT pins s σ H _ _ v u Q I rx ry ⟨l, k, xs, rfl, rfl, hT, ne, by omega, k2, sz, q2 (by omega)⟩
/-- y = {.. for ..}, y a name of a def: the new dict is stored before the comprehension's names are let go -/
theorem sw_trueD {kx vx : Expr} {gs : List Comprehension} {scope : Scope} {pos py : Pos} {y : Str} {l : Nat} {env : Env} (hk : env.scope.kind = .function) (hy : env.scope.names.lookup y = some .local) (hl : (py.line == pos.line) = true)
    (ha : (scope.names.any fun (n, k) => n == y && (k == .local || k == .cell)) = false) : swapsWith (.DictComp kx vx gs scope pos) (some (.Name y py)) l env = pure true := by
  have ky : env.kindOf y = some .local := hy
  have hb : env.blockKind = .function := by unfold Env.blockKind; rw [hk]; rfl
  unfold swapsWith
  simp only [hb, ky, ha, Expr.pos, hl]
  rfl
theorem ps_setDc {i : Nat} {y : Str} {py : Pos} {kx vx tg iter : Expr} {ifs : List Expr} {scope : Scope} {own : List (Str × Nat)} {pos spos : Pos} {wi : TI} {g : TG} {tt : TT} {tk tv : TE} (hc : X.calm = true) (hN : X.N.Nodup) (hy : X.N[i]? = some y) (hyl : X.env.scope.names.lookup y = some .local)
    (hsw : swapsWith (.DictComp kx vx [⟨tg, iter, ifs, 0⟩] scope pos) (some (.Name y py)) spos.line X.env = pure true) (hi : PI X tg iter wi) (ok : BlkOk X.N X.env.scope scope own)
    (hg : ∀ (s : Shared) (H : Hp) (C : Addr) (cl : List (Str × Addr)) (fp : List Addr), PG (X.blk s H scope (compEnvC scope cl C X.env) fp) tg g) (ht : ∀ (s : Shared) (H : Hp) (C : Addr) (cl : List (Str × Addr)) (fp : List Addr), PTs (X.blk s H scope (compEnvC scope cl C X.env) fp) ifs tt)
    (hk : ∀ (s : Shared) (H : Hp) (C : Addr) (cl : List (Str × Addr)) (fp : List Addr), PE (X.blk s H scope (compEnvC scope cl C X.env) fp) kx tk)
    (he : ∀ (s : Shared) (H : Hp) (C : Addr) (cl : List (Str × Addr)) (fp : List Addr), PE (X.blk s H scope (compEnvC scope cl C X.env) fp) vx tv) (hs : ∀ x, foldedSetIterable iter X.env x = pure x := by intro _; rfl) :
    PS X (.Assign [.Name y py] (.DictComp kx vx [⟨tg, iter, ifs, 0⟩] scope pos) spos) (tAsg (tDc wi g tt tk tv (own.map (·.2))) (gName i)) := by
  refine ⟨fun pins s σ H D I h => ?_⟩
  rw [exec_Assign_Name_used _ _ _ _ hsw]
  refine wpAny_bind (wpAny_standAt (wpAny_bind ?_))
  show wpAny _ X.A (do let _ ← comprehension (.DictComp kx vx [⟨tg, iter, ifs, 0⟩] scope pos) scope X.env (firstIterPos [⟨tg, iter, ifs, 0⟩] pos) newDict false (eval iter X.env) (some (assign (.Name y py) X.env))) _ _ s
  have h : tDc wi g tt tk tv (own.map (·.2)) σ H (fun x H1 => gName i x σ H1 D.nx) := h
  refine wpAny_bind (thn (dc_core (Qf := fun _ s' => SP X pins D .next s') hc hN I hi ok hg ht hk he hs h fun L C s' m H' I' q hn f => ?_) fun _ s' hq => wpAny_pure (wpAny_pure hq))
  show wpAny _ _ (assign (.Name y py) X.env (.ref L)) _ _ _
  refine wpAny_assign_Name (store_ok2 (v := V.ref L) I' hN hy (.inl hyl) rfl (fun s2 I2 ⟨a, sb, ha⟩ => ?_) (.inr hyl))
  obtain ⟨f0, f1, f2, f3, f4, f5⟩ := f
  have haC : C ≠ a := by
    rcases ha with z | z
    · rw [z]; exact f1
    · exact fun e => f4 y a z e.symm
  refine ⟨m, hn.sameBut sb haC, fun h3 sb3 => ?_⟩
  exact ⟨_, H', I2.turned (t' := s2.toks) (fun b o hb e => (sb3.2 b hb).trans e) f0 f1 f3 f4 f5, q⟩
end
end Fr

namespace Fr
open PySem PySem.Spec PyProof.Rows L2
abbrev s_lesser : Stmt := topS 27
theorem sc_lesser : FnScope ["one", "other", "left", "right"] ["one", "other"] (defScope s_lesser) := ⟨rfl, rfl, rfl, by decide +kernel, rfl, by decide +kernel, by decide +kernel⟩
-- slots: 0 one, 1 other, 2 left, 3 right
abbrev s_greatest_shifts : Stmt := topS 24
theorem sc_greatest_shifts : FnScope ["system", "links", "shifts", "name", "_", "reader", "table", "vector"] ["system"] (defScope s_greatest_shifts) := ⟨rfl, rfl, rfl, by decide +kernel, rfl, by decide +kernel, by decide +kernel⟩
-- slots: 0 system, 1 links, 2 shifts, 3 name, 4 _, 5 reader, 6 table, 7 vector
theorem keys_putK {κ : Type} [DecidableEq κ] {kvs : List (κ × V)} {k : κ} (v : V) (h : k ∈ kvs.map (·.1)) : (putK kvs k v).map (·.1) = kvs.map (·.1) := by
  unfold putK
  obtain ⟨p, hp, rfl⟩ := List.mem_map.mp h
  rw [if_pos (List.any_eq_true.mpr ⟨p, hp, decide_eq_true rfl⟩), List.map_map]
  refine List.map_congr_left fun q _ => ?_
  show (if q.1 = p.1 then (q.1, v) else q).1 = q.1
  split <;> rfl
def minV (a b : List Int) : List Int := List.zipWith (fun x y => if y < x then y else x) a b
theorem minV_len {a b : List Int} (h : a.length = b.length) : (minV a b).length = a.length := by
  unfold minV
  rw [List.length_zipWith]
  omega
theorem minV_at {a b : List Int} {i : Nat} {x y : Int} (h1 : a[i]? = some x) (h2 : b[i]? = some y) : (minV a b)[i]? = some (if y < x then y else x) := by
  unfold minV
  rw [List.getElem?_zipWith, h1, h2]
theorem getD_of {a : List Int} {i : Nat} {x : Int} (h : a[i]? = some x) : a.getD i 0 = x := by
  rw [List.getD_eq_getElem?_getD, h]
  rfl
theorem at_of {a : List Int} {i : Nat} (h : i < a.length) : a[i]? = some (a.getD i 0) := by
  rw [List.getD_eq_getElem?_getD, List.getElem?_eq_getElem h]
  rfl
theorem bars_free' {E : List RowP} {d : Int} {xs : List (Str × Int)} (h : Bars E d xs) : ¬ Free E d := fun f => by
  obtain ⟨w, ⟨_, h1, h2⟩, h3⟩ := h
  exact f ⟨w, h2, h1, h3⟩
/-- names and their vectors, in a dict -/
def GsAt (B : Hp) (kvs : List (Key × V)) (names : List Str) (G : Str → List Int) : Prop := kvs.map (·.1) = names.map Sum.inr ∧ ∀ x ∈ names, ∃ u, valV kvs (Sum.inr x) = some (.ref u) ∧ B u = some (.tup ((G x).map V.int))
theorem GsAt.mono {B B' : Hp} {kvs : List (Key × V)} {names : List Str} {G : Str → List Int} (s : Same B B') (h : GsAt B kvs names G) : GsAt B' kvs names G :=
  ⟨h.1, fun x hx => let ⟨u, h1, h2⟩ := h.2 x hx; ⟨u, h1, s _ _ h2⟩⟩
theorem GsAt.put {B : Hp} {kvs : List (Key × V)} {names : List Str} {G : Str → List Int} (h : GsAt B kvs names G) {x : Str} (hx : x ∈ names) {u : Addr} {v : List Int} (hu : B u = some (.tup (v.map V.int))) : GsAt B (putK kvs (Sum.inr x) (.ref u)) names (fun y => if y = x then v else G y) := by
  refine ⟨?_, fun y hy => ?_⟩
  · rw [keys_putK]
    · exact h.1
    · rw [h.1]
      exact List.mem_map.mpr ⟨x, hx, rfl⟩
  · rw [valV_put]
    dsimp only
    by_cases e : y = x
    · rw [if_pos e, if_pos (by rw [e])]
      exact ⟨u, rfl, hu⟩
    · rw [if_neg e, if_neg (fun z => e (Sum.inr.inj z))]
      exact h.2 y hy
theorem GsAt.add {B : Hp} {kvs : List (Key × V)} {names : List Str} {G : Str → List Int} (h : GsAt B kvs names G) {x : Str} (n : x ∉ names) {u : Addr} (hu : B u = some (.tup ((G x).map V.int))) : GsAt B (putK kvs (Sum.inr x) (.ref u)) (names ++ [x]) G := by
  refine ⟨?_, fun y hy => ?_⟩
  · unfold putK
    have : (kvs.any fun kv => decide (kv.1 = (Sum.inr x : Key))) = false := by
      rw [List.any_eq_false]
      intro p hp e
      have e := of_decide_eq_true e
      have m : (Sum.inr x : Key) ∈ names.map Sum.inr := by
        rw [← h.1, ← e]
        exact List.mem_map.mpr ⟨p, hp, rfl⟩
      obtain ⟨z, hz, ez⟩ := List.mem_map.mp m
      exact n (by rw [← Sum.inr.inj ez]; exact hz)
    rw [if_neg (by rw [this]; decide), List.map_append, List.map_append, h.1]
    rfl
  · rw [valV_put]
    by_cases e : y = x
    · rw [if_pos (by rw [e]), e]
      exact ⟨u, rfl, hu⟩
    · rw [if_neg (fun z => e (Sum.inr.inj z))]
      rcases List.mem_append.mp hy with z | z
      · exact h.2 y z
      · exact absurd (List.mem_singleton.mp z) e
/-- sums of walks found, none of so many rows below them -/
structure BF (E : List RowP) (d : Nat) (names : List Str) (k j : Nat) (G : Str → List Int) : Prop where
  len : ∀ x ∈ names, (G x).length = d
  sound : ∀ x ∈ names, ∀ c, c < d → ∃ w t, Wk x w t ∧ (∀ r ∈ w, r ∈ E) ∧ asum c w = (G x).getD c 0
  all : ∀ x ∈ names, ∀ c, c < d → ∀ w t, Wk x w t → (∀ r ∈ w, r ∈ E) → w.length ≤ k → (G x).getD c 0 ≤ asum c w
  more : ∀ c, c < d → ∀ r ∈ E.take j, ∀ w t, Wk r.o w t → (∀ r ∈ w, r ∈ E) → w.length ≤ k → (G r.w).getD c 0 ≤ r.v.getD c 0 + asum c w
theorem BF.done {E : List RowP} {d : Nat} {names : List Str} {k : Nat} {G : Str → List Int} (h : BF E d names k E.length G) : BF E d names (k + 1) 0 G := by
  refine ⟨h.len, h.sound, fun x hx c hc w t hw hE hl => ?_, fun c hc r hr => absurd hr (by simp)⟩
  cases w with
  | nil => exact h.all x hx c hc [] t hw hE (Nat.zero_le _)
  | cons r w =>
    obtain ⟨e, hw⟩ := hw
    have z := h.more c hc r (by rw [List.take_length]; exact hE r List.mem_cons_self) w t hw (fun y hy => hE y (List.mem_cons_of_mem _ hy)) (by rw [List.length_cons] at hl; omega)
    rw [e]
    have a : asum c (r :: w) = r.v.getD c 0 + asum c w := by
      unfold asum
      rw [List.map_cons, List.sum_cons]
    omega
theorem BF.step {E : List RowP} {d : Nat} {names : List Str} {k j : Nat} {G : Str → List Int} (h : BF E d names k j G) {r : RowP} (hr : E[j]? = some r) (hw : r.w ∈ names) (ho : r.o ∈ names) (hv : r.v.length = d) :
    BF E d names k (j + 1) (fun y => if y = r.w then minV (G r.w) (mvV r.v (List.replicate d 0) (G r.o)) else G y) := by
  have hrE := List.mem_of_getElem? hr
  have l1 := h.len _ hw
  have l2 := h.len _ ho
  have lm : (mvV r.v (List.replicate d 0) (G r.o)).length = d := by rw [mvV_len (by rw [List.length_replicate, hv]) (by rw [hv, l2]), hv]
  have val : ∀ c, c < d → (minV (G r.w) (mvV r.v (List.replicate d 0) (G r.o))).getD c 0 = if r.v.getD c 0 + (G r.o).getD c 0 < (G r.w).getD c 0 then r.v.getD c 0 + (G r.o).getD c 0 else (G r.w).getD c 0 := fun c hc => by
    have e1 := at_of (a := G r.w) (i := c) (by omega)
    have e2 := at_of (a := r.v) (i := c) (by omega)
    have e3 := at_of (a := G r.o) (i := c) (by omega)
    have e4 : (List.replicate d (0 : Int))[c]? = some 0 := by rw [List.getElem?_replicate, if_pos hc]
    have e5 := mvV_at e2 e4 e3
    rw [show r.v.getD c 0 - 0 + (G r.o).getD c 0 = r.v.getD c 0 + (G r.o).getD c 0 by omega] at e5
    exact getD_of (minV_at e1 e5)
  have low : ∀ x c, c < d → ((fun y => if y = r.w then minV (G r.w) (mvV r.v (List.replicate d 0) (G r.o)) else G y) x).getD c 0 ≤ (G x).getD c 0 := fun x c hc => by
    dsimp only
    by_cases e : x = r.w
    · rw [if_pos e, val c hc, e]
      split <;> omega
    · rw [if_neg e]
      exact Int.le_refl _
  refine ⟨fun x hx => ?_, fun x hx c hc => ?_, fun x hx c hc w t h1 h2 h3 => ?_, fun c hc q hq w t h1 h2 h3 => ?_⟩
  · show (if x = r.w then minV (G r.w) (mvV r.v (List.replicate d 0) (G r.o)) else G x).length = d
    by_cases e : x = r.w
    · rw [if_pos e, minV_len (by omega)]
      exact l1
    · rw [if_neg e]
      exact h.len x hx
  · show ∃ w t, Wk x w t ∧ (∀ y ∈ w, y ∈ E) ∧ asum c w = (if x = r.w then minV (G r.w) (mvV r.v (List.replicate d 0) (G r.o)) else G x).getD c 0
    by_cases e : x = r.w
    · rw [if_pos e, val c hc]
      by_cases z : r.v.getD c 0 + (G r.o).getD c 0 < (G r.w).getD c 0
      · rw [if_pos z]
        obtain ⟨w, t, g1, g2, g3⟩ := h.sound _ ho c hc
        refine ⟨r :: w, t, ⟨e, g1⟩, fun y hy => ?_, ?_⟩
        · rcases List.mem_cons.mp hy with rfl | hy
          · exact hrE
          · exact g2 y hy
        · rw [← g3]
          unfold asum
          rw [List.map_cons, List.sum_cons]
      · rw [if_neg z, e]
        exact h.sound _ hw c hc
    · rw [if_neg e]
      exact h.sound x hx c hc
  · exact Int.le_trans (low x c hc) (h.all x hx c hc w t h1 h2 h3)
  · rcases mem_take1 hr hq with z | rfl
    · exact Int.le_trans (low _ c hc) (h.more c hc q z w t h1 h2 h3)
    · show (if q.w = q.w then minV (G q.w) (mvV q.v (List.replicate d 0) (G q.o)) else G q.w).getD c 0 ≤ q.v.getD c 0 + asum c w
      rw [if_pos rfl, val c hc]
      have := h.all _ ho c hc w t h1 h2 h3
      split <;> omega
theorem free_noNeg {E : List RowP} {d : Int} (f : Free E d) {k : Nat} (hk : k < d.toNat) : NoNeg E k := fun w hc hE => by
  by_cases z : 0 ≤ asum k w
  · exact z
  · exact absurd ⟨w, hc, hE, k, hk, by omega⟩ f
theorem rows_in {ts : List Tb} {d : Int} (O : OkT d ts) {r : RowP} (h : r ∈ rowsS ts) : r.w ∈ ts.map (·.n) ∧ r.o ∈ ts.map (·.n) ∧ (r.v.length : Int) = d := by
  obtain ⟨l, hl, rfl⟩ := List.mem_map.mp h
  obtain ⟨t, ht, hn, hr⟩ := mem_links.mp hl
  have hm := List.mem_of_getElem? hr
  exact ⟨List.mem_map.mpr ⟨t, ht, hn⟩, O.here t ht _ hm, rd_len2 (O.reads t ht _ hm)⟩
theorem BF.least {ts : List Tb} {d : Int} (O : OkT d ts) (f : Free (rowsS ts) d) {k : Nat} (hk : ts.length ≤ k) {G : Str → List Int} (h : BF (rowsS ts) d.toNat (ts.map (·.n)) k 0 G) {x : Str} (hx : x ∈ ts.map (·.n)) {c : Nat} (hc : c < d.toNat) : Least (rowsS ts) c x ((G x).getD c 0) := by
  refine least_of (free_noNeg f hc) (h.sound x hx c hc) fun w t h1 h2 h3 => h.all x hx c hc w t h1 h2 ?_
  have := path_len (T := ts.map (·.n)) (fun r hr => (rows_in O hr).2.1) hx h2 h3
  rw [List.length_map] at this
  omega
theorem dps_vals {K : PySem.W.Frag} {H : Hp} : ∀ {kvs : List (List Key × V)} {ls : List Lk}, LkAt K H kvs ls → DpAll K H (kvs.map (·.2)) (ls.map Lk.d)
  | [], _, h => by cases h; exact .nil
  | _ :: _, _, h => by
    cases h with
    | cons h1 h2 => exact .cons h1.2 (dps_vals h2)
section
variable {P : Program} {w : World} {K : PySem.W.Frag} {mg : Str → Option Value} {base : Heap}
def spLesser (K : PySem.W.Frag) : Sp := fun vs H Q _ => ∃ (a b : Addr) (v o : List Int), vs = [.ref a, .ref b] ∧ SqT K H a (v.map V.int) ∧ SqT K H b (o.map V.int) ∧ v.length = o.length ∧ v.length ≤ 100000 ∧ ∀ p H', H p = none → Same H H' → H' p = some (.tup ((minV v o).map V.int)) → Q (.ref p) H'
theorem ok_lesser {f : Addr} {fd : FuncData} (F : Fun K "lesser" "lesser" s_lesser f fd) (T : Txt mg) : FnOk P w K mg base CX0 1 f fd ["one", "other"] (spLesser K) := by
  refine F.ok sc_lesser (fun vs H Q E h => ?_) (fun cdv A outer sh H vs Q E hr h => ?_)
  · obtain ⟨a, b, v, o, rfl, _⟩ := h
    rfl
  · obtain ⟨a, b, v, o, rfl, ha, hb, hl, hl2, q⟩ := h
    refine ⟨_, (pss_one (ps_ret (pe_callTy call_tuple_of (by rfl) T.b_tuple (by decide +kernel) (pa_cons (pe_lc (own := [("left", 2), ("right", 3)]) (g := gTup K 2 (gCons (gName 2) (gCons (gName 3) gNil))) (tt := tYes) (by rfl) sc_lesser.nd (RZ.pi_zipA (by rfl) T.b_zip (pa_cons (pv 0) (pa_cons (pv 1) pa_nil))) (blkOk_by (N := ["one", "other", "left", "right"]) (sc := defScope s_lesser) (by decide +kernel)) (fun _ _ _ _ _ => (pg_tup rfl (pgs_cons (pg_name (i := 2) sc_lesser.nd rfl (by first | exact Or.inl rfl | exact Or.inr rfl)) (pgs_cons (pg_name (i := 3) sc_lesser.nd rfl (by first | exact Or.inl rfl | exact Or.inr rfl)) pgs_nil)))) (fun _ _ _ _ _ => pts_nil) (fun _ _ _ _ _ => (pe_callB (call_min2 rfl) (by rfl) T.b_min (by decide +kernel) (pa_cons (pv 2) (pa_cons (pv 3) pa_nil))))) pa_nil)))), ?_⟩
    have big : 100000 ≤ sizeLine := by decide
    have hmin : min (v.map V.int).length (o.map V.int).length = v.length := by rw [List.length_map, List.length_map]; omega
    refine ⟨_, rfl, _, rfl, a, b, v.map V.int, o.map V.int, rfl, Or.inr ⟨ha, hb, fun D hD => lc_flat (walk_zipT (K := K) (a := a) (b := b) (xs := v.map V.int) (ys := o.map V.int) hmin.symm) (fun j => .int ((minV v o).getD j 0)) (by omega) hD (fun H' sm => ⟨sqt sm ha, sqt sm hb⟩) (fun i H x H' y => ypair_same y) ?_ ?_⟩⟩
    · rintro j z Ha Hb hj sm ⟨Tp, z1, z2, rfl, hT, rfl, f1, f2⟩ R hR
      have f1' : (v.map V.int)[j]? = some z1 := f1
      have f2' : (o.map V.int)[j]? = some z2 := f2
      rw [List.getElem?_map] at f1' f2'
      obtain ⟨c1, g1, rfl⟩ := Option.map_eq_some_iff.mp f1'
      obtain ⟨c2, g2, rfl⟩ := Option.map_eq_some_iff.mp f2'
      refine ⟨Tp, _, rfl, Or.inl (Or.inl upd_same), rfl, _, _, rfl, _, _, rfl, rfl, rfl, _, rfl, _, rfl, c1, c2, rfl, ?_⟩
      have r' := hR _ same_refl
      rw [getD_of (minV_at g1 g2)] at r'
      exact r'
    · intro H4 s4 hD4
      have e : (List.range v.length).map (fun i => V.int ((minV v o).getD i 0)) = (minV v o).map V.int := by
        have z := range_map_get ((minV v o).map V.int) (fun i => V.int ((minV v o).getD i 0)) (fun i b hb => by
          rw [List.getElem?_map] at hb
          obtain ⟨c, h1, h2⟩ := Option.map_eq_some_iff.mp hb
          rw [getD_of h1]
          exact h2)
        rw [List.length_map, minV_len hl] at z
        exact z
      rw [e] at hD4
      exact ⟨D, _, rfl, Or.inl ⟨Or.inl (Or.inl hD4), fun t ht => q t _ (free_of s4 ht) (same_tr s4 (snew ht)) upd_same⟩⟩
def spGS (K : PySem.W.Frag) (C : Addr) : Sp := fun vs H Q _ => ∃ (s : Addr) (d m : Int) (ts : List Tb), vs = [.ref s] ∧ SysAt K C H s d m ts ∧ 1 ≤ d ∧ d ≤ 3 ∧ OkT d ts ∧ ts.length ≤ 60 ∧
  (∀ H', Same H H' → ¬ Free (rowsS ts) d → Q .non H') ∧
  (∀ p H' kvs G, Same H H' → H p = none → H' p = some (.dK kvs) → GsAt H' kvs (ts.map (·.n)) G → (∀ x ∈ ts.map (·.n), (G x).length = d.toNat ∧ ∀ c, c < d.toNat → Least (rowsS ts) c x ((G x).getD c 0)) → Free (rowsS ts) d → Q (.ref p) H')
theorem ok_gs {f C : Addr} {fd : FuncData} (F : Fun K "greatest_shifts" "greatest_shifts" s_greatest_shifts f fd) (T : Txt mg) (p_dimensions : Prp P w K mg base 1 C "dimensions" (spDims K C)) (p_names : Prp P w K mg base 1 C "names" (spNames K C)) (c_links_of : C8.Cal P w K mg base 5 "links_of" (spLinks K C) []) (c_barring_walk : C8.Cal P w K mg base 6 "barring_walk" (spBarW K C) [])
    (c_lesser : C8.Cal P w K mg base 1 "lesser" (spLesser K) []) (c_moved : C8.Cal P w K mg base 1 "moved" (spMoved K) []) : FnOk P w K mg base CX0 7 f fd ["system"] (spGS K C) := by
  refine F.ok sc_greatest_shifts (fun vs H Q E h => ?_) (fun cdv A outer sh H vs Q E hr h => ?_)
  · obtain ⟨s, d, m, ts, rfl, _⟩ := h
    rfl
  · obtain ⟨s, d, m, ts, rfl, S, hd1, hd3, O, hl60, qn, qs⟩ := h
    have hu := hu_of hr
    refine ⟨_, (pss_cons (ps_if (pt_cmpR op_notN (C8.pe_c c_barring_walk hr (by decide) (by rfl) (pa_cons (pv 0) pa_nil)) pe_non (nomark _))
    (pss_one (ps_ret pe_non))
    pss_nil)
  (pss_cons (ps_set (i := 1) sc_greatest_shifts.nd rfl (by first | exact Or.inl rfl | exact Or.inr rfl) (pe_listValsT rfl (by rfl) T.b_list (C8.pe_c c_links_of hr (by decide) (by rfl) (pa_cons (pv 0) pa_nil))))
  (pss_cons (ps_setDc (i := 2) (own := [("name", 3)]) (g := gName 3) (tt := tYes) (by rfl) sc_greatest_shifts.nd rfl rfl (sw_trueD rfl rfl rfl (by decide +kernel)) (pi_list (pe_pr (pv 0) p_names hr (by decide) rfl)) (blkOk_by (N := ["system", "links", "shifts", "name", "_", "reader", "table", "vector"]) (sc := defScope s_greatest_shifts) (by decide +kernel)) (fun _ _ _ _ _ => (pg_name (i := 3) sc_greatest_shifts.nd rfl (by first | exact Or.inl rfl | exact Or.inr rfl))) (fun _ _ _ _ _ => pts_nil) (fun _ _ _ _ _ => (pv 3)) (fun _ _ _ _ _ => (pe_op (r := rRepU K) op_repU (pe_tup (pa_cons pe_int pa_nil)) (pe_pr (pv 0) p_dimensions hr (by decide) rfl))))
  (pss_cons (ps_for PassesOwn.never rfl (pi_list (pe_pr (pv 0) p_names hr (by decide) rfl)) (pg_name (i := 4) sc_greatest_shifts.nd rfl (by first | exact Or.inl rfl | exact Or.inr rfl))
    (pss_one (ps_for PassesOwn.never rfl (pi_list (pv 1)) (pg_tup rfl (pgs_cons (pg_name (i := 5) sc_greatest_shifts.nd rfl (by first | exact Or.inl rfl | exact Or.inr rfl)) (pgs_cons (pg_name (i := 6) sc_greatest_shifts.nd rfl (by first | exact Or.inl rfl | exact Or.inr rfl)) (pgs_cons (pg_name (i := 7) sc_greatest_shifts.nd rfl (by first | exact Or.inl rfl | exact Or.inr rfl)) pgs_nil))))
      (pss_one (ps_dput hu (pv 2) (pv 5) (C8.pe_c c_lesser hr (by decide) (by rfl) (pa_cons (pe_dget hu (pv 2) (pv 5) (fun _ _ => rfl)) (pa_cons (C8.pe_c c_moved hr (by decide) (by rfl) (pa_cons (pv 7) (pa_cons (pe_op op_repU (pe_tup (pa_cons pe_int pa_nil)) (pe_pr (pv 0) p_dimensions hr (by decide) rfl)) (pa_cons (pe_dget hu (pv 2) (pv 6) (fun _ _ => rfl)) pa_nil)))) pa_nil))) rfl)))))
  (pss_one (ps_ret (pv 2))))))), ?_⟩
    refine ⟨_, rfl, s, d, m, ts, rfl, S, hd1, hd3, O, hl60, fun H1 s1 free => ?_, fun l H1 rs xs s1 _ _ _ hb _ => ?_⟩
    · refine ⟨rfl, _, rfl, iteF ?_⟩
      -- links
      refine ⟨_, rfl, s, d, m, ts, rfl, S.mono s1, O.nodup, Nat.le_trans O.few (by decide), fun p H2 kvs hp s2 hp2 hk2 => ⟨p, kvs, rfl, hp2, fun q1 hq1 => ?_⟩⟩
      have s3 : Same H (upd H2 q1 (.lst (kvs.map (·.2)))) := same_tr s1 (same_tr s2 (snew hq1))
      have L3 : (upd H2 q1 (.lst (kvs.map (·.2)))) q1 = some (.lst (kvs.map (·.2))) := upd_same
      have D3 := dpsm (snew (o := .lst (kvs.map (·.2))) hq1) _ _ (dps_vals hk2)
      have lenL : (kvs.map (·.2)).length = (rowsS ts).length := by rw [List.length_map, hk2.len]; unfold rowsS; rw [List.length_map]
      generalize upd H2 q1 (.lst (kvs.map (·.2))) = H3 at s3 L3 D3 ⊢
      generalize kvs.map (·.2) = lv at L3 D3 lenL
      clear hp2 hk2 s1 s2 hp hq1
      have S3 := S.mono s3
      obtain ⟨dx, tt, tkv, o1, _⟩ := id S3.ob
      refine ⟨_, rfl, s, dx, _, rfl, o1, s, d, m, ts, rfl, S3, fun nl H4 hnl s4 hn4 => ?_⟩
      have hn4 : H4 nl = some (.lst ((ts.map (·.n)).map V.str)) := by rw [List.map_map]; exact hn4
      have s34 := same_tr s3 s4
      have L4 := s4 _ _ L3
      have D4 := dpsm s4 _ _ D3
      have len6 : ts.length ≤ 60 := hl60
      obtain ⟨names, hnames⟩ : ∃ names, names = ts.map (·.n) := ⟨_, rfl⟩
      rw [← hnames] at hn4
      have nlen : names.length = ts.length := by rw [hnames, List.length_map]
      have nnd : names.Nodup := by rw [hnames]; exact O.nodup
      have z1 : 1 ≤ sizeLine := by decide
      have zd : ((List.replicate d.toNat [V.int 0]).flatten) = (List.replicate d.toNat (0 : Int)).map V.int := by
        rw [List.map_replicate]
        induction d.toNat with
        | zero => rfl
        | succ n ih => rw [List.replicate_succ, List.flatten_cons, ih, List.replicate_succ]; rfl
      refine ⟨nl, rfl, ⟨_, Or.inl (Or.inl hn4)⟩, fun D hD => dc_it (walk_list (K := K) (a := nl) (xs := names.map V.str)) (fun i H' => ∃ (B : Hp) (kvs : List (Key × V)), Same H4 B ∧ B D = none ∧ Same B H' ∧ H' D = some (.dK kvs) ∧ GsAt B kvs (names.take i) (fun _ => List.replicate d.toNat 0)) ⟨H4, [], same_refl, hD, snew hD, upd_same, rfl, fun x hx => by simp at hx⟩ (fun i H' _ ⟨B, _, b1, _, b3, _⟩ => Or.inl (Or.inl (b3 _ _ (b1 _ _ hn4)))) ?_ ?_⟩
      · rintro i y _ Hi hi ⟨B, kvs, b1, b2, b3, b4, b5⟩ ⟨rfl, hy⟩
        rw [List.getElem?_map] at hy
        obtain ⟨x, hx, rfl⟩ := Option.map_eq_some_iff.mp hy
        have S5 := S.mono (same_tr s34 (same_tr b1 b3))
        obtain ⟨dx, tt, tkv, o1, _⟩ := id S5.ob
        have kl : kvs.length = (names.take i).length := by
          have z := congrArg List.length b5.1
          rw [List.length_map, List.length_map] at z
          exact z
        have nx : x ∉ names.take i := notin_takeG nnd hx
        have fin : ∀ (u : Addr) (B' H5 : Hp), Same B B' → B' D = none → Same B' H5 → H5 D = some (.dK kvs) → B' u = some (.tup ((List.replicate d.toNat (0 : Int)).map V.int)) → ∃ (ks : List (Key × V)) (k : Key), V.str x = kV k ∧ H5 D = some (.dK ks) ∧ ks.length < sizeLine ∧ ∃ (B : Hp) (kvs : List (Key × V)), Same H4 B ∧ B D = none ∧ Same B (upd H5 D (.dK (putK ks k (.ref u)))) ∧ (upd H5 D (.dK (putK ks k (.ref u)))) D = some (.dK kvs) ∧ GsAt B kvs (names.take (i + 1)) (fun _ => List.replicate d.toNat 0) := fun u B' H5 e1 e2 e3 e4 e5 => by
          refine ⟨kvs, Sum.inr x, rfl, e4, small1000 (by rw [kl, List.length_take]; omega), B', _, same_tr b1 e1, e2, swrite e3 e2, upd_same, ?_⟩
          rw [List.take_add_one, hx]
          exact GsAt.add (b5.mono e1) nx e5
        refine ⟨rfl, yes_if ⟨_, rfl, z1, fun t ht => ?_⟩⟩
        have bt := free_of b3 ht
        have tD : D ≠ t := ne_of_none b4 ht
        have sB : Same (upd B t (.tup [.int 0])) (upd Hi t (.tup [.int 0])) := sgrow b3
        have bt1 : (upd B t (.tup [.int 0])) D = none := by rw [upd_ne tD]; exact b2
        have ht1 : (upd Hi t (.tup [.int 0])) D = some (.dK kvs) := by rw [upd_ne tD]; exact b4
        have t1 : (upd B t (.tup [.int 0])) t = some (.tup [.int 0]) := upd_same
        refine ⟨_, rfl, s, dx, _, rfl, snew ht _ _ o1, s, d, m, ts, rfl, S5.mono (snew ht), t, d, [.int 0], rfl, rfl, Or.inl (Or.inl (sB _ _ t1)), by simp, hd1, by omega, by decide, fun e1 => ?_, fun e2 p hp => ?_⟩
        · refine fin t _ _ (snew bt) bt1 sB ht1 ?_
          rw [t1, e1]
          rfl
        · have pD : D ≠ p := ne_of_none ht1 hp
          refine fin p (upd (upd B t (.tup [.int 0])) p (.tup (List.replicate d.toNat [V.int 0]).flatten)) _ (same_tr (snew bt) (snew (free_of sB hp))) (by rw [upd_ne pD]; exact bt1) (sgrow sB) (by rw [upd_ne pD]; exact ht1) ?_
          rw [upd_same, zd]
      · rintro H5 ⟨B, kvs, b1, b2, b3, b4, b5⟩
        rw [List.length_map, List.take_length] at b5
        have bf0 : BF (rowsS ts) d.toNat names 0 0 (fun _ => List.replicate d.toNat 0) := by
          refine ⟨fun x hx => List.length_replicate, fun x hx c hc => ⟨[], x, rfl, (fun r hr => (List.not_mem_nil hr).elim), ?_⟩, fun x hx c hc w t h1 h2 h3 => ?_, fun c hc r hr => absurd hr (by simp)⟩
          · rw [List.getD_eq_getElem?_getD, List.getElem?_replicate, if_pos hc]
            rfl
          · rw [List.length_eq_zero_iff.mp (Nat.le_zero.mp h3), List.getD_eq_getElem?_getD, List.getElem?_replicate, if_pos hc]
            exact Int.le_refl _
        have S5 := S.mono (same_tr s34 (same_tr b1 b3))
        have bs4 := b1
        obtain ⟨dx, tt, tkv, o1, _⟩ := id S5.ob
        refine ⟨_, rfl, s, dx, _, rfl, o1, s, d, m, ts, rfl, S5, fun nl2 H6 hnl2 s6 hn6 => ?_⟩
        have hn6 : H6 nl2 = some (.lst (names.map V.str)) := by rw [hnames, List.map_map]; exact hn6
        have D6 := s6 _ _ b4
        have sB6 := same_tr b3 s6
        obtain ⟨u1, u2⟩ := base_add sB6 hn6
        have nD : D ≠ nl2 := fun z => by rw [← z, b4] at hnl2; cases hnl2
        have B0D : (upd B nl2 (.lst (names.map V.str))) D = none := by rw [upd_ne nD]; exact b2
        have B0n : (upd B nl2 (.lst (names.map V.str))) nl2 = some (.lst (names.map V.str)) := upd_same
        have b5 := b5.mono u1
        have sH0 := same_tr s34 (same_tr b1 u1)
        have L0 := u1 _ _ (b1 _ _ L4)
        have D0 := dpsm (same_tr b1 u1) _ _ D4
        generalize upd B nl2 (.lst (names.map V.str)) = B0 at u2 B0D B0n b5 sH0 L0 D0
        have S0 := S.mono sH0
        obtain ⟨dx, tt, tkv, o0, _⟩ := id S0.ob
        have Hno : H D = none := by
          cases e : H D with
          | none => rfl
          | some o =>
            have z := sH0 _ _ e
            rw [B0D] at z
            cases z
        clear S5 bs4 u1 sB6 b1 b2 b3 s6 D4 L4 hn4 hD hnl s4 s34 S3 D3 L3 s3 hnl2
        have El : (rowsS ts).length = lv.length := lenL.symm
        refine ⟨nl2, rfl, ⟨_, Or.inl (Or.inl hn6)⟩, for_it (walk_list (K := K) (a := nl2) (xs := names.map V.str)) (fun i σ H' => ∃ (y4 y5 y6 y7 : Option V), σ = [some (.ref s), some (.ref q1), some (.ref D), none, y4, y5, y6, y7] ∧ ∃ (Bq : Hp) (kvs : List (Key × V)) (G : Str → List Int), Same B0 Bq ∧ Bq D = none ∧ Same Bq H' ∧ H' D = some (.dK kvs) ∧ GsAt Bq kvs names G ∧ BF (rowsS ts) d.toNat names i 0 G)
          ⟨none, none, none, none, rfl, B0, kvs, _, same_refl, B0D, u2, D6, b5, bf0⟩ (fun i σ H' _ ⟨_, _, _, _, _, Bq, _, _, c1, _, c3, _⟩ => Or.inl (Or.inl (c3 _ _ (c1 _ _ B0n)))) ?_ ?_⟩
        · rintro i y σ _ Hi hi ⟨y4, y5, y6, y7, rfl, Bq, kvs, G, c1, c2, c3, c4, c5, c6⟩ ⟨rfl, hy⟩
          have hq1 := c3 _ _ (c1 _ _ L0)
          refine ⟨_, rfl, q1, rfl, ⟨_, Or.inl (Or.inl hq1)⟩, for_it (walk_list (K := K) (a := q1) (xs := lv)) (fun j σ H' => ∃ (y5 y6 y7 : Option V), σ = [some (.ref s), some (.ref q1), some (.ref D), none, some y, y5, y6, y7] ∧ ∃ (Bq : Hp) (kvs : List (Key × V)) (G : Str → List Int), Same B0 Bq ∧ Bq D = none ∧ Same Bq H' ∧ H' D = some (.dK kvs) ∧ GsAt Bq kvs names G ∧ BF (rowsS ts) d.toNat names i j G)
            ⟨y5, y6, y7, rfl, Bq, kvs, G, c1, c2, c3, c4, c5, c6⟩ (fun j σ H' _ ⟨_, _, _, _, Bq, _, _, c1, _, c3, _⟩ => Or.inl (Or.inl (c3 _ _ (c1 _ _ L0)))) ?_ ?_⟩
          · clear c1 c2 c3 c4 c5 c6 hq1
            rintro j v σ _ Hj hj ⟨y5, y6, y7, rfl, Bq, kvs, G, c1, c2, c3, c4, c5, c6⟩ ⟨rfl, hv⟩
            obtain ⟨dd, hdd, dv⟩ := dps_get (dpsm c1 _ _ D0) hv
            rw [List.getElem?_map] at hdd
            obtain ⟨l, hl, rfl⟩ := Option.map_eq_some_iff.mp hdd
            obtain ⟨ua, us, rfl, ut, ud⟩ := dtup (show Dp K Bq v (.tuple [.str l.n, .str l.r.t, .tuple (l.r.v.map .int)]) from dv)
            obtain ⟨w1, w2, w3, rfl, v1', v2', v3'⟩ := dps3 ud
            obtain rfl := dstr v1'
            obtain rfl := dstr v2'
            obtain ⟨vb, vs, rfl, vt, vd⟩ := dtup v3'
            obtain rfl := dps_ints vd
            have hEj : (rowsS ts)[j]? = some (lkR l) := by unfold rowsS; rw [List.getElem?_map, hl]; rfl
            obtain ⟨rw1, rw2, rw3⟩ := rows_in O (List.mem_of_getElem? hEj)
            rw [← hnames] at rw1 rw2
            obtain ⟨p1, vp1, hp1⟩ := c5.2 _ rw1
            obtain ⟨p2, vp2, hp2⟩ := c5.2 _ rw2
            have klen : kvs.length = names.length := by
              have z := congrArg List.length c5.1
              rw [List.length_map, List.length_map] at z
              exact z
            refine ⟨ua, _, rfl, sqt c3 ut, rfl, _, _, rfl, _, _, rfl, _, _, rfl, rfl, ?_⟩
            have g1 : DGet Hj D (.str l.n) (some (.ref p1)) := by
              have z := DGet.k (k := Sum.inr l.n) c4
              rw [show valV kvs (Sum.inr l.n) = some (.ref p1) from vp1] at z
              exact z
            refine ⟨_, rfl, _, rfl, D, _, rfl, g1, ?_⟩
            refine ⟨_, rfl, z1, fun t ht => ?_⟩
            have s1 := snew (o := .tup [V.int 0]) ht
            have t1 : (upd Hj t (.tup [V.int 0])) t = some (.tup [V.int 0]) := upd_same
            generalize upd Hj t (.tup [V.int 0]) = Hk at s1 t1 ⊢
            have c3k := same_tr c3 s1
            have s0k := same_tr c1 c3k
            refine ⟨_, rfl, s, dx, _, rfl, s0k _ _ o0, s, d, m, ts, rfl, S0.mono s0k, t, d, [.int 0], rfl, rfl, Or.inl (Or.inl t1), by simp, hd1, by omega, by decide, ?_⟩
            refine (fun (rest : ∀ (z : Addr) H', Same Hk H' → H' z = some (.tup ((List.replicate d.toNat (0 : Int)).map V.int)) → (?G : Addr → Hp → Prop) z H') => ?use) ?prf
            case use =>
              refine ⟨fun e1 => ?one, fun e2 p hp => ?two⟩
              case two =>
                have q1 := snew (o := .tup (List.replicate d.toNat [V.int 0]).flatten) hp
                have q2 : (upd Hk p (.tup (List.replicate d.toNat [V.int 0]).flatten)) p = some (.tup ((List.replicate d.toNat (0 : Int)).map V.int)) := by rw [upd_same, zd]
                generalize upd Hk p (.tup (List.replicate d.toNat [V.int 0]).flatten) = Hx at q1 q2 ⊢
                exact rest p Hx q1 q2
              case one => exact rest t Hk same_refl (by rw [t1, e1]; rfl)
            case prf =>
              intro z Hm sm hz
              have sjm := same_tr s1 sm
              have c3m := same_tr c3k sm
              have g2 : DGet Hm D (.str l.r.t) (some (.ref p2)) := by
                have z := DGet.k (k := Sum.inr l.r.t) (sjm _ _ c4)
                rw [show valV kvs (Sum.inr l.r.t) = some (.ref p2) from vp2] at z
                exact z
              have lv3 : l.r.v.length = d.toNat := by
                have : ((lkR l).v.length : Int) = d := rw3
                have : (l.r.v.length : Int) = d := this
                omega
              have lg1 := c6.len _ rw1
              have lg2 := c6.len _ rw2
              refine ⟨_, rfl, _, rfl, D, _, rfl, g2, ?_⟩
              refine ⟨vb, z, p2, l.r.v, List.replicate d.toNat 0, G l.r.t, rfl, sqt c3m vt, Or.inl (Or.inl hz), Or.inl (Or.inl (c3m _ _ hp2)), by rw [List.length_replicate]; exact lv3, by rw [lv3]; exact lg2.symm, by omega, fun pm Hn hpm sn hn => ?_⟩
              have c3n := same_tr c3m sn
              have lm : (mvV l.r.v (List.replicate d.toNat 0) (G l.r.t)).length = d.toNat := by
                rw [mvV_len (by rw [List.length_replicate]; exact lv3) (by rw [lv3]; exact lg2.symm)]
                exact lv3
              refine ⟨p1, pm, G l.n, mvV l.r.v (List.replicate d.toNat 0) (G l.r.t), rfl, Or.inl (Or.inl (c3n _ _ hp1)), Or.inl (Or.inl hn), by rw [lm]; exact lg1, by rw [show (G l.n).length = d.toNat from lg1]; omega, fun pl Ho hpl so ho => ?_⟩
              have c3o := same_tr c3n so
              have cD : Ho D = some (.dK kvs) := so _ _ (sn _ _ (sjm _ _ c4))
              obtain ⟨e1, e2⟩ := base_add c3o ho
              have nDp : D ≠ pl := fun w => by
                rw [← w, cD] at ho
                cases ho
              have bD : (upd Bq pl (.tup ((minV (G l.n) (mvV l.r.v (List.replicate d.toNat 0) (G l.r.t))).map V.int))) D = none := by rw [upd_ne nDp]; exact c2
              refine ⟨_, rfl, _, rfl, D, _, rfl, DPut.k (k := Sum.inr l.n) cD (small1000 (by omega)), ?_⟩
              exact ⟨_, _, _, rfl, _, _, _, same_tr c1 e1, bD, swrite e2 bD, upd_same, (c5.mono e1).put rw1 upd_same, c6.step hEj rw1 rw2 lv3⟩
          · rintro σ H7 ⟨y5, y6, y7, rfl, Bq, kvs, G, c1, c2, c3, c4, c5, c6⟩
            rw [← El] at c6
            exact ⟨_, _, _, _, rfl, Bq, kvs, G, c1, c2, c3, c4, c5, c6.done⟩
        · rintro σ H7 ⟨y4, y5, y6, y7, rfl, Bq, kvs, G, c1, c2, c3, c4, c5, c6⟩
          rw [List.length_map, nlen] at c6
          rw [hnames] at c5 c6
          exact ⟨_, rfl, qs D H7 kvs G (same_tr sH0 (same_tr c1 c3)) Hno c4 (c5.mono c3) (fun x hx => ⟨c6.len x hx, fun c hc => c6.least O free (Nat.le_refl _) hx hc⟩) free⟩
    · refine ⟨rfl, _, rfl, iteT ?_⟩
      exact qn H1 s1 (bars_free' hb)
end
end Fr

namespace Fr
open PySem PySem.Spec PyProof.Rows L2
abbrev s_Llows : Stmt := topS 41
theorem sc_Llows : FnScope ["_law_rows_here", "_law_titles", "_law_axis", "_law_lows_here", "_law_title", "_law_waiting", "_law_way", "_law_total_here", "_law_row"] ["_law_rows_here", "_law_titles", "_law_axis"] (defScope s_Llows) := ⟨rfl, rfl, rfl, by decide +kernel, rfl, by decide +kernel, by decide +kernel⟩
-- slots: 0 _law_rows_here, 1 _law_titles, 2 _law_axis, 3 _law_lows_here, 4 _law_title, 5 _law_waiting, 6 _law_way, 7 _law_total_here, 8 _law_row
/-- names and numbers, in a dict -/
def LowAt (kvs : List (Key × V)) (names : List Str) (f : Str → Int) : Prop := kvs.map (·.1) = names.map Sum.inr ∧ ∀ x ∈ names, valV kvs (Sum.inr x) = some (.int (f x))
theorem LowAt.put {kvs : List (Key × V)} {names : List Str} {f : Str → Int} (h : LowAt kvs names f) {x : Str} (hx : x ∈ names) (n : Int) : LowAt (putK kvs (Sum.inr x) (.int n)) names (fun y => if y = x then n else f y) := by
  refine ⟨?_, fun y hy => ?_⟩
  · have m : (Sum.inr x : Key) ∈ kvs.map (·.1) := by
      rw [h.1]
      exact List.mem_map.mpr ⟨x, hx, rfl⟩
    rw [← h.1]
    unfold putK
    obtain ⟨p, hp, e⟩ := List.mem_map.mp m
    rw [if_pos (List.any_eq_true.mpr ⟨p, hp, decide_eq_true e⟩), List.map_map]
    refine List.map_congr_left fun q _ => ?_
    show (if q.1 = Sum.inr x then (q.1, V.int n) else q).1 = q.1
    split <;> rfl
  · rw [valV_put]
    dsimp only
    by_cases e : y = x
    · rw [if_pos e, if_pos (by rw [e])]
    · rw [if_neg e, if_neg (fun z => e (Sum.inr.inj z))]
      exact h.2 y hy
theorem LowAt.add {kvs : List (Key × V)} {names : List Str} {f : Str → Int} (h : LowAt kvs names f) {x : Str} (n : x ∉ names) (v : Int) : LowAt (putK kvs (Sum.inr x) (.int v)) (names ++ [x]) (fun y => if y = x then v else f y) := by
  refine ⟨?_, fun y hy => ?_⟩
  · unfold putK
    have : (kvs.any fun kv => decide (kv.1 = (Sum.inr x : Key))) = false := by
      rw [List.any_eq_false]
      intro p hp e
      have e := of_decide_eq_true e
      have m : (Sum.inr x : Key) ∈ names.map Sum.inr := by
        rw [← h.1, ← e]
        exact List.mem_map.mpr ⟨p, hp, rfl⟩
      obtain ⟨z, hz, ez⟩ := List.mem_map.mp m
      exact n (by rw [← Sum.inr.inj ez]; exact hz)
    rw [if_neg (by rw [this]; decide), List.map_append, List.map_append, h.1]
    rfl
  · rw [valV_put]
    dsimp only
    by_cases e : y = x
    · rw [if_pos e, if_pos (by rw [e])]
    · rw [if_neg e, if_neg (fun z => e (Sum.inr.inj z))]
      rcases List.mem_append.mp hy with z | z
      · exact h.2 y z
      · exact absurd (List.mem_singleton.mp z) e
/-- a walk on which no table stands twice -/
def Path (E : List RowP) (t : Str) (w : List RowP) : Prop := (∀ r ∈ w, r ∈ E) ∧ (∃ e, Wk t w e) ∧ (t :: w.map (·.o)).Nodup
theorem wk_tail : ∀ {w : List RowP} {t e : Str}, Wk t w e → ∃ ini, t :: w.map (·.o) = ini ++ [e]
  | [], t, e, h => ⟨[], by
    have h : t = e := h
    rw [h]
    rfl⟩
  | a :: l, t, e, h => by
    obtain ⟨ini, hi⟩ := wk_tail h.2
    exact ⟨t :: ini, by rw [List.map_cons, hi]; rfl⟩
theorem path_nil {E : List RowP} (t : Str) : Path E t [] := ⟨(fun r h => (List.not_mem_nil h).elim), ⟨t, rfl⟩, by simp⟩
theorem path_more {E : List RowP} {t e : Str} {w : List RowP} (h : Path E t w) (he : Wk t w e) {r : RowP} (hr : r ∈ E) (hw : r.w = e) (ho : r.o ∉ t :: w.map (·.o)) : Path E t (w ++ [r]) := by
  obtain ⟨h1, _, h3⟩ := h
  refine ⟨fun y hy => ?_, ⟨r.o, wk_app.mpr ⟨e, he, hw.symm, rfl⟩⟩, ?_⟩
  · rcases List.mem_append.mp hy with z | z
    · exact h1 y z
    · rw [List.mem_singleton.mp z]
      exact hr
  · rw [List.map_append, ← List.cons_append]
    refine List.nodup_append.mpr ⟨h3, by simp, fun x hx z hz => ?_⟩
    rw [List.map_singleton, List.mem_singleton] at hz
    rw [hz]
    intro q
    rw [q] at hx
    exact ho hx
theorem path_next {E : List RowP} {t e : Str} {w : List RowP} (he : Wk t w e) {u : List RowP} (hu : Path E t u) (p : Pre w u) : u = w ∨ ∃ r ∈ E, r.w = e ∧ r.o ∉ t :: w.map (·.o) ∧ Pre (w ++ [r]) u := by
  obtain ⟨v, rfl⟩ := p
  cases v with
  | nil => exact .inl (List.append_nil w)
  | cons r v =>
    obtain ⟨h1, ⟨z, h2⟩, h3⟩ := hu
    obtain ⟨m, h4, h5⟩ := wk_app.mp h2
    refine .inr ⟨r, h1 r (by simp), ?_, fun q => ?_, v, by simp⟩
    · rw [wk_end he h4]
      exact h5.1.symm
    · rw [List.map_append, List.map_cons, ← List.cons_append] at h3
      exact (List.nodup_append.mp h3).2.2 _ q r.o (by simp) rfl
def ndD (k : Nat) (t : Str) (w : List RowP) : PyData := .tuple [.list ((t :: w.map (·.o)).map .str), .int (asum k w)]
theorem nds_shaped {k : Nat} {t : Str} {ws : List (List RowP)} {T : List Str} (hs : ∀ x ∈ T, PyData.strOk x = true) (h : ∀ w ∈ ws, ∀ x ∈ t :: w.map (·.o), x ∈ T) : SeqAt.shaped (.list (ws.map (ndD k t))) = true := shaped_list fun d hd => by
  obtain ⟨w, hw, rfl⟩ := List.mem_map.mp hd
  have g : ∀ ys : List Str, (∀ x ∈ ys, PyData.strOk x = true) → PyData.canLayAll0 (ys.map PyData.str) = true ∧ PyData.depthAll (ys.map PyData.str) = 0 := by
    intro ys
    induction ys with
    | nil => exact fun _ => ⟨by simp [PyData.canLayAll0], by simp [PyData.depthAll]⟩
    | cons y ys ih =>
      intro hy
      obtain ⟨i1, i2⟩ := ih fun z hz => hy z (List.mem_cons_of_mem _ hz)
      exact ⟨by simp [PyData.canLayAll0, PyData.canLay0, hy y List.mem_cons_self, i1], by simp [PyData.depthAll, PyData.depth, i2]⟩
  obtain ⟨g1, g2⟩ := g (t :: w.map (·.o)) fun x hx => hs x (h w hw x hx)
  unfold ndD
  exact ⟨by simp only [PyData.canLay0, PyData.canLayAll0, g1, Bool.and_true], by simp only [PyData.depth, PyData.depthAll, g2]; omega⟩
section
variable {P : Program} {w : World} {K : PySem.W.Frag} {mg : Str → Option Value} {base : Heap}
def spLows (K : PySem.W.Frag) : Sp := fun vs H Q _ => ∃ (l lt : Addr) (k : Nat) (d : Int) (E : List RowP) (T : List Str), vs = [.ref l, .ref lt, .int (k : Int)] ∧ LD K H l (E.map RowP.d) ∧ H lt = some (.lst (T.map V.str)) ∧ T.Nodup ∧ T.length ≤ 6 ∧ E.length ≤ 12 ∧ (∀ r ∈ E, OkRow r ∧ r.o ∈ T ∧ (r.v.length : Int) = d) ∧ (∀ x ∈ T, PyData.strOk x = true) ∧ (k : Int) < d ∧ d ≤ 3 ∧ NoNeg E k ∧
  ∀ p H' kvs f, Same H H' → H p = none → H' p = some (.dK kvs) → LowAt kvs T f → (∀ x ∈ T, Least E k x (f x)) → Q (.ref p) H'
theorem ok_lows {f : Addr} {fd : FuncData} (F : Fun K "_law_lows" "_law_lows" s_Llows f fd) (T : Txt mg) : FnOk P w K mg base CX0 1 f fd ["_law_rows_here", "_law_titles", "_law_axis"] (spLows K) := by
  refine F.ok sc_Llows (fun vs H Q E h => ?_) (fun cdv A outer sh H vs Q E hr h => ?_)
  · obtain ⟨l, lt, k, d, E, T, rfl, _⟩ := h
    rfl
  · obtain ⟨l, lt, k, d, E, TT, rfl, ⟨es, hl, he⟩, hlt, nd, fewT, fewE, okE, okT, hk, hd3, NN, q⟩ := h
    have hu := hu_of hr
    refine ⟨_, (pss_cons (ps_set (i := 3) sc_Llows.nd rfl (by first | exact Or.inl rfl | exact Or.inr rfl) pe_dnewK)
  (pss_cons (ps_for PassesOwn.never rfl (pi_list (pv 1)) (pg_name (i := 4) sc_Llows.nd rfl (by first | exact Or.inl rfl | exact Or.inr rfl))
    (pss_cons (ps_asg (pe_tup (pa_cons pe_int (pa_cons (pe_lst (pa_cons (pe_tup (pa_cons (pe_lst (pa_cons (pv 4) pa_nil)) (pa_cons pe_int pa_nil))) pa_nil)) pa_nil))) (pg_tup rfl (pgs_cons (pg_sub (pv 3) (pv 4) (set_dict hu)) (pgs_cons (pg_name (i := 5) sc_Llows.nd rfl (by first | exact Or.inl rfl | exact Or.inr rfl)) pgs_nil))))
    (pss_one (ps_while PassesOwn.never (pt_cmpR (op_neD hr.units) (pv 5) (pe_lst pa_nil) (nomark _))
      (pss_cons (ps_asg (pe_bm0 PySem.F.plainAttrs_list PySem.F.slot_list_pop PySem.F.type_list_pop mt_pop (pv 5)) (pg_tup rfl (pgs_cons (pg_name (i := 6) sc_Llows.nd rfl (by first | exact Or.inl rfl | exact Or.inr rfl)) (pgs_cons (pg_name (i := 7) sc_Llows.nd rfl (by first | exact Or.inl rfl | exact Or.inr rfl)) pgs_nil))))
      (pss_cons (ps_dput hu (pv 3) (pv 4) (pe_callB (call_min2 rfl) (by rfl) T.b_min (by decide +kernel) (pa_cons (pe_dget hu (pv 3) (pv 4) (fun _ _ => rfl)) (pa_cons (pv 7) pa_nil))) rfl)
      (pss_one (ps_for PassesOwn.never rfl (pi_list (pv 0)) (pg_name (i := 8) sc_Llows.nd rfl (by first | exact Or.inl rfl | exact Or.inr rfl))
        (pss_one (ps_if (PW.pt (pw_and (pt_cmpR op_eq (pe_ix ix_tup (pv 8) pe_int (fun _ _ => rfl)) (pe_ix ix_list (pv 6) (pe_un un_neg pe_int) (fun _ _ => rfl)) (nomark _)) (pw_and1 (pt_cmpR op_notIn_seq (pe_ix ix_tup (pv 8) pe_int (fun _ _ => rfl)) (pv 6) (by rfl)))))
          (pss_one (ps_expr (pe_bm PySem.F.plainAttrs_list PySem.F.slot_list_append PySem.F.type_list_append mt_append (pv 5) (pa_cons (pe_tup (pa_cons (pe_op op_catL (pv 6) (pe_lst (pa_cons (pe_ix ix_tup (pv 8) pe_int (fun _ _ => rfl)) pa_nil))) (pa_cons (pe_op op_add (pv 7) (pe_ix ix_tup (pe_ix ix_tup (pv 8) pe_int (fun _ _ => rfl)) (pv 2) (fun _ _ => rfl))) pa_nil))) pa_nil))))
          pss_nil))))))))))
  (pss_one (ps_ret (pv 3))))), ?_⟩
    have z1 : 1 ≤ sizeLine := by decide
    have z2 : 2 ≤ sizeLine := by decide
    have el : es.length = E.length := by rw [dps_len he, List.length_map]
    intro p hp
    have npl : p ≠ lt := fun z => by rw [z, hlt] at hp; cases hp
    have s0 : Same H (upd H p (.dK [])) := snew hp
    refine ⟨_, rfl, lt, rfl, ⟨_, Or.inl (Or.inl (s0 _ _ hlt))⟩, for_it (walk_list (K := K) (a := lt) (xs := TT.map V.str)) (fun i σ H' => ∃ (y4 y5 y6 y7 y8 : Option V), σ = [some (.ref l), some (.ref lt), some (.int (k : Int)), some (.ref p), y4, y5, y6, y7, y8] ∧ ∃ (B : Hp) (kvs : List (Key × V)) (g : Str → Int), Same H B ∧ B p = none ∧ Same B H' ∧ H' p = some (.dK kvs) ∧ LowAt kvs (TT.take i) g ∧ ∀ x ∈ TT.take i, Least E k x (g x))
      ⟨none, none, none, none, none, rfl, H, [], fun _ => 0, same_refl, hp, s0, upd_same, ⟨rfl, fun x hx => by simp at hx⟩, fun x hx => by simp at hx⟩ (fun i σ H' _ ⟨_, _, _, _, _, _, B, _, _, b1, _, b3, _⟩ => Or.inl (Or.inl (b3 _ _ (b1 _ _ hlt)))) ?_ ?_⟩
    · rintro i y σ _ H1 hi ⟨y4, y5, y6, y7, y8, rfl, B, kvs, g, b1, b2, b3, b4, b5, b6⟩ ⟨rfl, hy⟩
      rw [List.getElem?_map] at hy
      obtain ⟨t, ht, rfl⟩ := Option.map_eq_some_iff.mp hy
      have kl : kvs.length = (TT.take i).length := by
        have z := congrArg List.length b5.1
        rw [List.length_map, List.length_map] at z
        exact z
      have tnew : t ∉ TT.take i := notin_takeG nd ht
      have tT : t ∈ TT := List.mem_of_getElem? ht
      refine ⟨_, rfl, z1, fun p1 hp1 => ⟨z2, fun t1 ht1 => ⟨z1, fun w1 hw1 => ⟨z2, fun T0 hT0 => ?_⟩⟩⟩⟩
      obtain ⟨n1, n2, n3, n4⟩ := new_base (o := .lst [.str t]) b3 hp1
      have P2 : (upd H1 p1 (.lst [.str t])) p = some (.dK kvs) := snew hp1 _ _ b4
      have Bp1 := n4 p ⟨_, b4⟩ b2
      obtain ⟨m1, m2, m3, m4⟩ := new_base (o := .tup [.ref p1, .int 0]) n2 ht1
      have P3 := snew (o := .tup [.ref p1, .int 0]) ht1 _ _ P2
      have Bp2 := m4 p ⟨_, P2⟩ Bp1
      have n3 := m1 _ _ n3
      have Bw2 := free_of m2 hw1
      have s4 := same_tr m2 (snew (o := .lst [.ref t1]) hw1)
      have P4 := snew (o := .lst [.ref t1]) hw1 _ _ P3
      have W4 : (upd (upd (upd H1 p1 (.lst [.str t])) t1 (.tup [.ref p1, .int 0])) w1 (.lst [.ref t1])) w1 = some (.lst [.ref t1]) := upd_same
      have s5 := same_tr s4 (snew (o := .tup [.int 0, .ref w1]) hT0)
      have P5 := snew (o := .tup [.int 0, .ref w1]) hT0 _ _ P4
      have W5 := snew (o := .tup [.int 0, .ref w1]) hT0 _ _ W4
      have T5 : (upd (upd (upd (upd H1 p1 (.lst [.str t])) t1 (.tup [.ref p1, .int 0])) w1 (.lst [.ref t1])) T0 (.tup [.int 0, .ref w1])) T0 = some (.tup [.int 0, .ref w1]) := upd_same
      have sB2 := same_tr b1 (same_tr n1 m1)
      generalize upd (upd (upd (upd H1 p1 (.lst [.str t])) t1 (.tup [.ref p1, .int 0])) w1 (.lst [.ref t1])) T0 (.tup [.int 0, .ref w1]) = H5 at s5 P5 W5 T5 ⊢
      generalize upd (upd B p1 (.lst [.str t])) t1 (.tup [.ref p1, .int 0]) = B2 at s5 sB2 Bp2 Bw2 m3 n3
      clear n1 n2 n4 m1 m2 m4 s4 P2 P3 P4 W4 Bp1 hp1 ht1 hw1 hT0 b1 b2 b3 b4
      have pw : p ≠ w1 := fun z => by rw [z, W5] at P5; cases P5
      refine ⟨T0, _, rfl, Or.inl (Or.inl T5), rfl, _, _, rfl, _, rfl, _, rfl, p, _, rfl, DPut.k (k := Sum.inr t) P5 (small1000 (by rw [kl, List.length_take]; omega)), _, _, rfl, rfl, ?_⟩
      have tk1 : TT.take (i + 1) = TT.take i ++ [t] := by rw [List.take_add_one, ht]; rfl
      have LA : LowAt (putK kvs (Sum.inr t) (.int 0)) (TT.take (i + 1)) (fun y => if y = t then 0 else g y) := by
        rw [tk1]
        exact b5.add tnew 0
      have nd0 : DpAll K B2 [.ref t1] (([[]] : List (List RowP)).map (ndD k t)) := .cons (.tup (Or.inl (Or.inl m3)) (.cons (.lst (Or.inl (Or.inl n3)) (.cons (.str _) .nil)) (.cons (.int _) .nil))) .nil
      have s6 := swrite (o := .dK (putK kvs (Sum.inr t) (.int 0))) s5 Bp2
      have P6 : (upd H5 p (.dK (putK kvs (Sum.inr t) (.int 0)))) p = some (.dK (putK kvs (Sum.inr t) (.int 0))) := upd_same
      have W6 : (upd H5 p (.dK (putK kvs (Sum.inr t) (.int 0)))) w1 = some (.lst [.ref t1]) := by rw [upd_ne pw.symm]; exact W5
      generalize upd H5 p (.dK (putK kvs (Sum.inr t) (.int 0))) = H6 at s6 P6 W6 ⊢
      clear P5 W5 T5 s5
      have hl2 := sB2 _ _ hl
      have he2 := dpsm sB2 _ _ he
      have inT : ∀ w : List RowP, (∀ r ∈ w, r ∈ E) → ∀ x ∈ t :: w.map (·.o), x ∈ TT := fun w hw x hx => by
        rcases List.mem_cons.mp hx with rfl | hx
        · exact tT
        · obtain ⟨r, hr, rfl⟩ := List.mem_map.mp hx
          exact (okE r (hw r hr)).2.1
      have plen : ∀ w, Path E t w → w.length + 1 ≤ 6 := fun w hw => Nat.le_trans (path_len (fun r hr => (okE r hr).2.1) tT hw.1 hw.2.2) fewT
      refine ⟨fun m σ H' => ∃ (y6 y7 y8 : Option V), σ = [some (.ref l), some (.ref lt), some (.int (k : Int)), some (.ref p), some (.str t), some (.ref w1), y6, y7, y8] ∧ ∃ (B' : Hp) (kvs : List (Key × V)) (cur : Int) (wv : List V) (ws : List (List RowP)), Same B2 B' ∧ B' p = none ∧ B' w1 = none ∧ Same B' H' ∧ H' p = some (.dK kvs) ∧ LowAt kvs (TT.take (i + 1)) (fun y => if y = t then cur else g y) ∧ H' w1 = some (.lst wv) ∧ DpAll K B' wv (ws.map (ndD k t)) ∧ (∀ w ∈ ws, Path E t w) ∧ (∃ w e, Wk t w e ∧ (∀ r ∈ w, r ∈ E) ∧ asum k w = cur) ∧ (∀ u, Path E t u → cur ≤ asum k u ∨ ∃ w ∈ ws, Pre w u) ∧ m = wts ws ∧ m ≤ 13 ^ 6,
        ⟨_, y6, y7, y8, rfl, B2, _, 0, _, [[]], same_refl, Bp2, Bw2, s6, P6, LA, W6, nd0, fun w hw => by rw [List.mem_singleton.mp hw]; exact path_nil t, ⟨[], t, rfl, (fun r hr => (List.not_mem_nil hr).elim), rfl⟩, fun u hu => .inr ⟨[], by simp, u, rfl⟩, rfl, by decide⟩, ?_⟩
      clear nd0 LA P6 W6 s6 Bp2 Bw2 kl tnew kvs b5
      rintro m σ H7 ⟨y6, y7, y8, rfl, B', kvs, cur, wv, ws, d1, d2, d3, d4, d5, d6, d7, d8, g1, g2, g3, rfl, g5⟩
      refine ⟨_, rfl, Nat.zero_le _, fun p2 hp2 => ?_⟩
      have n2 := snew (o := .lst []) hp2
      have shn : SeqAt.shaped (.list []) = true := shaped_list fun d hd => by cases hd
      refine ⟨_, _, .lst (Or.inl (Or.inl (n2 _ _ d7))) (dpsm (same_tr d4 n2) _ _ d8), .lst (Or.inl (Or.inl upd_same)) .nil, nds_shaped okT (fun w hw => inT w (g1 w hw).1), shn, _, rfl, ?_⟩
      rw [eqv_nil]
      have s8 := same_tr d4 n2
      have P8 := n2 _ _ d5
      have W8 := n2 _ _ d7
      generalize upd H7 p2 (.lst []) = H8 at s8 P8 W8 ⊢
      clear n2 hp2 d4 d5 d7
      rcases List.eq_nil_or_concat ws with rfl | ⟨ws', w, rfl⟩
      · refine iteF ⟨_, _, _, _, _, rfl, B', kvs, _, same_tr sB2 d1, d2, s8, P8, d6, fun x hx => ?_⟩
        rw [tk1] at hx
        by_cases e : x = t
        · rw [if_pos e, e]
          obtain ⟨w, e', h1, h2, h3⟩ := g2
          refine least_of NN ⟨w, e', h1, h2, h3⟩ fun w t' hw hE nd => ?_
          rcases g3 w ⟨hE, ⟨t', hw⟩, nd⟩ with z | ⟨w', hw', _⟩
          · exact z
          · cases hw'
        · rw [if_neg e]
          rcases List.mem_append.mp hx with z | z
          · exact b6 x z
          · exact absurd (List.mem_singleton.mp z) e
      · rw [List.concat_eq_append] at *
        have emp : ((ws' ++ [w]).map (ndD k t)).isEmpty = false := by simp
        rw [emp]
        have pw1 := g1 w (by simp)
        obtain ⟨⟨e, hwk⟩⟩ : Nonempty { e // Wk t w e } := let ⟨e, h⟩ := pw1.2.1; ⟨⟨e, h⟩⟩
        obtain ⟨ini, hini⟩ := wk_tail hwk
        rw [List.map_append, List.map_singleton] at d8
        obtain ⟨vs, y, rfl, d81, d82⟩ := dps_last d8
        obtain ⟨b, ys, rfl, hb, hy2⟩ := dtup (show Dp K B' y (.tuple [.list ((t :: w.map (·.o)).map .str), .int (asum k w)]) from d82)
        obtain ⟨v1, v2, rfl, hv1, hv2⟩ := dps2 hy2
        obtain rfl := dint hv2
        obtain ⟨bw, ss, rfl, hbw, hss⟩ := dlst hv1
        refine iteT ⟨_, fun σ' H' h => h, ?_⟩
        refine ⟨_, rfl, Or.inl ⟨rfl, _, Or.inl (Or.inl W8)⟩, w1, _, .ref b, rfl, rfl, W8, by rw [List.length_append]; simp, ?_⟩
        rw [List.dropLast_concat]
        have s9 : Same B' (upd H8 w1 (.lst vs)) := swrite s8 d3
        have P9 : (upd H8 w1 (.lst vs)) p = some (.dK kvs) := by rw [upd_ne pw]; exact P8
        have W9 : (upd H8 w1 (.lst vs)) w1 = some (.lst vs) := upd_same
        generalize upd H8 w1 (.lst vs) = H9 at s9 P9 W9 ⊢
        clear s8 P8 W8
        refine ⟨b, _, rfl, sqt s9 hb, rfl, _, _, rfl, _, _, rfl, rfl, ?_⟩
        have tmem : t ∈ TT.take (i + 1) := by rw [tk1]; simp
        have gt : DGet H9 p (.str t) (some (.int cur)) := by
          have z := DGet.k (k := Sum.inr t) P9
          rw [d6.2 t tmem] at z
          dsimp only at z
          rw [if_pos rfl] at z
          exact z
        have kl : kvs.length = (TT.take (i + 1)).length := by
          have z := congrArg List.length d6.1
          rw [List.length_map, List.length_map] at z
          exact z
        refine ⟨_, rfl, _, rfl, p, _, rfl, gt, _, rfl, cur, asum k w, rfl, ?_⟩
        obtain ⟨cu, hcu⟩ : ∃ cu, cu = if asum k w < cur then asum k w else cur := ⟨_, rfl⟩
        rw [← hcu]
        have cu1 : cu ≤ cur ∧ cu ≤ asum k w ∧ (cu = cur ∨ cu = asum k w) := by
          rw [hcu]
          split <;> omega
        refine ⟨_, rfl, _, rfl, p, _, rfl, DPut.k (k := Sum.inr t) P9 (small1000 (by rw [kl, List.length_take]; omega)), ?_⟩
        have LA : LowAt (putK kvs (Sum.inr t) (.int cu)) (TT.take (i + 1)) (fun y => if y = t then cu else g y) := by
          have z := d6.put tmem cu
          have e : (fun y => if y = t then cu else if y = t then cur else g y) = fun y => if y = t then cu else g y := funext fun y => by
            by_cases h : y = t
            · rw [if_pos h, if_pos h]
            · rw [if_neg h, if_neg h, if_neg h]
          rw [e] at z
          exact z
        have s10 := swrite (o := .dK (putK kvs (Sum.inr t) (.int cu))) s9 d2
        have P10 : (upd H9 p (.dK (putK kvs (Sum.inr t) (.int cu)))) p = some (.dK (putK kvs (Sum.inr t) (.int cu))) := upd_same
        have W10 : (upd H9 p (.dK (putK kvs (Sum.inr t) (.int cu)))) w1 = some (.lst vs) := by rw [upd_ne pw.symm]; exact W9
        generalize upd H9 p (.dK (putK kvs (Sum.inr t) (.int cu))) = H10 at s10 P10 W10 ⊢
        generalize putK kvs (Sum.inr t) (.int cu) = kvs2 at P10 LA
        clear s9 P9 W9 gt d6 kl
        have sl10 := same_tr d1 s10
        obtain ⟨cond, hcond⟩ : ∃ cond : RowP → Bool, cond = fun r => decide (r.w = e ∧ r.o ∉ t :: w.map (·.o)) := ⟨_, rfl⟩
        have wsum : wts (ws' ++ [w]) = wts ws' + wt w := by
          rw [wts_app]
          simp [wts]
        have wtp := wt_pos w
        have lenW : ws'.length ≤ wts ws' := wts_len ws'
        have big : 13 ^ 6 + 100 ≤ sizeLine := by decide
        refine ⟨_, rfl, l, rfl, ⟨_, Or.inl (Or.inl (sl10 _ _ hl2))⟩, for_it (walk_list (K := K) (a := l) (xs := es)) (fun j σ H' => ∃ (y8 : Option V), σ = [some (.ref l), some (.ref lt), some (.int (k : Int)), some (.ref p), some (.str t), some (.ref w1), some (.ref bw), some (.int (asum k w)), y8] ∧ ∃ (Bj : Hp) (wv : List V), Same B' Bj ∧ Bj p = none ∧ Bj w1 = none ∧ Same Bj H' ∧ H' p = some (.dK kvs2) ∧ H' w1 = some (.lst wv) ∧ DpAll K Bj wv ((ws' ++ ((E.take j).filter cond).map fun r => w ++ [r]).map (ndD k t)))
          ⟨y8, rfl, B', vs, same_refl, d2, d3, s10, P10, W10, by rw [List.take_zero]; simpa using d81⟩ (fun j σ H' _ ⟨_, _, Bj, _, c1, _, _, c4, _⟩ => Or.inl (Or.inl (same_tr d1 (same_tr c1 c4) _ _ hl2))) ?_ ?_⟩
        · rintro j x σ _ H11 hj ⟨y8, rfl, Bj, wv, c1, c2, c3, c4, c5, c6, c7⟩ ⟨rfl, hx⟩
          have sB11 := same_tr d1 (same_tr c1 c4)
          obtain ⟨r, ra, rb, hr1, rfl, ta, tb⟩ := row_at (dpsm sB11 _ _ he2) hx
          have rE := List.mem_of_getElem? hr1
          have sB' := same_tr c1 c4
          have hb11 := sql sB' hbw
          have key : (((E.take (j + 1)).filter cond).map fun r => w ++ [r]) = (((E.take j).filter cond).map fun r => w ++ [r]) ++ (if cond r = true then [w ++ [r]] else []) := by
            rw [List.take_add_one, hr1, Option.toList_some, List.filter_append, List.map_append]
            congr 1
            by_cases z : cond r = true
            · rw [if_pos z, List.filter_cons_of_pos z]
              rfl
            · rw [if_neg z, List.filter_cons_of_neg z]
              rfl
          have ess := dps_strs hss
          have hlast : atI ss (-1) = some (.str e) := by
            have es : ss = (ini.map V.str) ++ [V.str e] := by
              rw [ess, hini, List.map_append]
              rfl
            rw [es]
            exact atI_last _ _
          refine ⟨_, rfl, ra, _, 0, _, rfl, rfl, ta, rfl, _, rfl, 1, rfl, bw, ss, _, _, rfl, rfl, hb11, hlast, rfl, _, rfl, ?_⟩
          have dec : decide (V.str r.w = V.str e) = decide (r.w = e) := decide_eq_decide.mpr ⟨fun z => V.str.inj z, fun z => by rw [z]⟩
          rw [dec]
          have stay : cond r = false → (∃ (y8 : Option V), ([some (.ref l), some (.ref lt), some (.int (k : Int)), some (.ref p), some (.str t), some (.ref w1), some (.ref bw), some (.int (asum k w)), some (.ref ra)] : List (Option V)) = [some (.ref l), some (.ref lt), some (.int (k : Int)), some (.ref p), some (.str t), some (.ref w1), some (.ref bw), some (.int (asum k w)), y8] ∧ ∃ (Bj : Hp) (wv : List V), Same B' Bj ∧ Bj p = none ∧ Bj w1 = none ∧ Same Bj H11 ∧ H11 p = some (.dK kvs2) ∧ H11 w1 = some (.lst wv) ∧ DpAll K Bj wv ((ws' ++ ((E.take (j + 1)).filter cond).map fun r => w ++ [r]).map (ndD k t))) := fun hc => by
            refine ⟨_, rfl, Bj, wv, c1, c2, c3, c4, c5, c6, ?_⟩
            rw [key, if_neg (by rw [hc]; decide), List.append_nil]
            exact c7
          by_cases hw : r.w = e
          · rw [decide_eq_true hw]
            by_cases m : r.o ∈ t :: w.map (·.o)
            · refine iteT ⟨_, rfl, ra, _, 2, _, rfl, rfl, ta, rfl, _, rfl, bw, ss, rfl, Or.inl hb11, rfl, by rw [ess]; exact flat_strs _, false, congrArg V.bl (by rw [if_pos rfl, ess, inV_str m]; rfl), ?_⟩
              exact iteF (stay (by rw [hcond]; exact decide_eq_false fun h => h.2 m))
            · refine iteT ⟨_, rfl, ra, _, 2, _, rfl, rfl, ta, rfl, _, rfl, bw, ss, rfl, Or.inl hb11, rfl, by rw [ess]; exact flat_strs _, true, congrArg V.bl (by rw [if_pos rfl, ess, inV_no m]; rfl), ?_⟩
              refine iteT ?_
              have hc : cond r = true := by rw [hcond]; exact decide_eq_true ⟨hw, m⟩
              obtain ⟨n, nv1, nv2⟩ := at_nat2 (v := r.v) (k := k) (by have := (okE r rE).2.2; omega)
              rw [show (0 : Int) + (k : Int) = k by omega] at nv2
              have en : r.v.getD k 0 = n := by rw [List.getD_eq_getElem?_getD, nv1]; rfl
              have sslen : ss.length ≤ 100 := by
                rw [ess, List.length_map, List.length_cons, List.length_map]
                have := plen w pw1
                omega
              refine ⟨_, rfl, Or.inl ⟨rfl, _, Or.inl (Or.inl c6)⟩, _, rfl, _, rfl, ra, _, 2, _, rfl, rfl, ta, rfl, z1, fun q1 hq1 => ?_⟩
              have sq1 := snew (o := .lst [.str r.o]) hq1
              refine ⟨bw, q1, ss, [.str r.o], rfl, rfl, sql sq1 hb11, Or.inl (Or.inl upd_same), Nat.le_of_lt (small1000 (show ss.length + 1 ≤ 1000 by omega)), fun q2 hq2 => ?_⟩
              have c4q := same_tr c4 sq1
              have c5q := sq1 _ _ c5
              have c6q := sq1 _ _ c6
              have taq := sqt sq1 ta
              have tbq := sqt sq1 tb
              generalize upd H11 q1 (.lst [.str r.o]) = H12 at c4q c5q c6q taq tbq hq2 ⊢
              obtain ⟨k1, k2, k3, k4⟩ := new_base (o := .lst (ss ++ [.str r.o])) c4q hq2
              have sq2 := snew (o := .lst (ss ++ [.str r.o])) hq2
              have Bp := k4 p ⟨_, c5q⟩ c2
              have Bw := k4 w1 ⟨_, c6q⟩ c3
              have c5r := sq2 _ _ c5q
              have c6r := sq2 _ _ c6q
              have taq := sqt sq2 taq
              have tbq := sqt sq2 tbq
              generalize upd H12 q2 (.lst (ss ++ [.str r.o])) = H13 at k2 c5r c6r taq tbq ⊢
              refine ⟨_, rfl, _, rfl, ra, _, 3, _, rfl, rfl, taq, rfl, _, rfl, rb, _, _, _, rfl, rfl, tbq, nv2, _, _, rfl, rfl, z2, fun u hu1 => ?_⟩
              obtain ⟨l1, l2, l3, l4⟩ := new_base (o := .tup [.ref q2, .int (asum k w + n)]) k2 hu1
              have Bp2 := l4 p ⟨_, c5r⟩ Bp
              have Bw2 := l4 w1 ⟨_, c6r⟩ Bw
              have c5s := snew (o := .tup [.ref q2, .int (asum k w + n)]) hu1 _ _ c5r
              have c6s := snew (o := .tup [.ref q2, .int (asum k w + n)]) hu1 _ _ c6r
              have k3' := l1 _ _ k3
              have wvl : wv.length ≤ 13 ^ 6 + 50 := by
                rw [dps_len c7, List.length_map, List.length_append, List.length_map]
                have e1 := List.length_filter_le cond (E.take j)
                rw [List.length_take] at e1
                rw [wsum] at g5
                omega
              refine ⟨w1, wv, _, rfl, rfl, c6s, by omega, ?_⟩
              refine ⟨_, rfl, _, wv ++ [.ref u], same_tr c1 (same_tr k1 l1), Bp2, Bw2, swrite l2 Bw2, by rw [upd_ne pw]; exact c5s, upd_same, ?_⟩
              rw [key, if_pos hc, ← List.append_assoc, List.map_append]
              refine dps_put (dpsm (same_tr k1 l1) _ _ c7) ?_
              refine .tup (Or.inl (Or.inl l3)) (.cons (.lst (Or.inl (Or.inl k3')) ?_) (.cons ?_ .nil))
              · rw [List.map_append, ← List.cons_append, List.map_append]
                exact dps_put (dpsm (same_tr c1 (same_tr k1 l1)) _ _ hss) (.str _)
              · rw [asum_snoc, en]
                exact .int _
          · rw [decide_eq_false hw]
            exact iteF (iteF (stay (by rw [hcond]; exact decide_eq_false fun h => hw h.1)))
        · rintro σ H11 ⟨y8, rfl, Bj, wv, c1, c2, c3, c4, c5, c6, c7⟩
          rw [el, List.take_length] at c7
          have cmem : ∀ r ∈ E.filter cond, r ∈ E ∧ r.w = e ∧ r.o ∉ t :: w.map (·.o) := fun r hr => by
            obtain ⟨h1, h2⟩ := List.mem_filter.mp hr
            rw [hcond] at h2
            have h2 := of_decide_eq_true h2
            exact ⟨h1, h2.1, h2.2⟩
          have pnew : ∀ r ∈ E.filter cond, Path E t (w ++ [r]) := fun r hr => by
            obtain ⟨h1, h2, h3⟩ := cmem r hr
            exact path_more pw1 hwk h1 h2 h3
          have less : wts ((E.filter cond).map fun r => w ++ [r]) + 1 ≤ wt w := by
            cases ef : E.filter cond with
            | nil => simpa [wts] using wtp
            | cons r rest =>
              have hr : r ∈ E.filter cond := by rw [ef]; simp
              have l6 := plen _ (pnew r hr)
              rw [List.length_append, List.length_singleton] at l6
              rw [← ef]
              exact wts_more (by omega) (Nat.le_trans (List.length_filter_le _ _) fewE)
          refine ⟨wts (ws' ++ (E.filter cond).map fun r => w ++ [r]), by rw [wts_app, wsum]; omega, _, _, _, rfl, Bj, kvs2, cu, wv, _, same_tr d1 c1, c2, c3, c4, c5, LA, c6, c7, fun u hu => ?_, ?_, fun u hu => ?_, rfl, by rw [wts_app]; rw [wsum] at g5; omega⟩
          · rcases List.mem_append.mp hu with z | z
            · exact g1 u (List.mem_append_left _ z)
            · obtain ⟨r, hr, rfl⟩ := List.mem_map.mp z
              exact pnew r hr
          · rcases cu1.2.2 with z | z
            · rw [z]
              exact g2
            · rw [z]
              exact ⟨w, e, hwk, pw1.1, rfl⟩
          · rcases g3 u hu with z | ⟨w', hw', pre⟩
            · exact .inl (Int.le_trans cu1.1 z)
            · rcases List.mem_append.mp hw' with z | z
              · exact .inr ⟨w', List.mem_append_left _ z, pre⟩
              · rw [List.mem_singleton.mp z] at pre
                rcases path_next hwk hu pre with z | ⟨r, hr, h1, h2, h3⟩
                · exact .inl (by rw [z]; exact cu1.2.1)
                · refine .inr ⟨w ++ [r], List.mem_append_right _ (List.mem_map.mpr ⟨r, List.mem_filter.mpr ⟨hr, ?_⟩, rfl⟩), h3⟩
                  rw [hcond]
                  exact decide_eq_true ⟨h1, h2⟩
    · rintro σ H1 ⟨y4, y5, y6, y7, y8, rfl, B, kvs, g, b1, b2, b3, b4, b5, b6⟩
      rw [List.length_map, List.take_length] at b5 b6
      exact ⟨_, rfl, q p H1 kvs g (same_tr b1 b3) hp b4 b5 b6⟩
end
end Fr

namespace Fr
open PySem PySem.Spec PyProof.Rows L2
abbrev s_Ldrawn : Stmt := topS 43
theorem sc_Ldrawn : FnScope ["_law_pool_here", "_law_axes", "_law_tables_here", "_law_some", "_law_title", "_law_part", "_law_reads_here", "_law_one", "_law_row"] ["_law_pool_here", "_law_axes"] (defScope s_Ldrawn) := ⟨rfl, rfl, rfl, by decide +kernel, rfl, by decide +kernel, by decide +kernel⟩
-- slots: 0 _law_pool_here, 1 _law_axes, 2 _law_tables_here, 3 _law_some, 4 _law_title, 5 _law_part, 6 _law_reads_here, 7 _law_one, 8 _law_row
def abV (v : List Int) : List Int := v.map fun i => if i < 0 then -i else i
def abR (r : Rd1) : Rd1 := ⟨r.t, abV r.v, r.f⟩
def abT (t : Tb) : Tb := ⟨t.n, t.c, t.rs.map abR⟩
theorem OkT.ab {d : Int} {ts : List Tb} (O : OkT d ts) : OkT d (ts.map abT) := by
  have nm : (ts.map abT).map (·.n) = ts.map (·.n) := by rw [List.map_map]; rfl
  refine ⟨fun t ht => ?_, by rw [nm]; exact O.nodup, ?_, fun t ht r hr => ?_, fun t ht r hr => ?_⟩
  · obtain ⟨u, hu, rfl⟩ := List.mem_map.mp ht
    exact O.names u hu
  · rw [List.map_map]
    have e : ts.map ((fun t => t.rs.length) ∘ abT) = ts.map fun t => t.rs.length := List.map_congr_left fun t _ => by
      show (t.rs.map abR).length = _
      rw [List.length_map]
    rw [e]
    exact O.few
  · obtain ⟨u, hu, rfl⟩ := List.mem_map.mp ht
    obtain ⟨q, hq, rfl⟩ := List.mem_map.mp hr
    have z := O.reads u hu q hq
    unfold isRead at z ⊢
    show (isName q.t && (decide (((abV q.v).length : Int) = d) && !decide (q.f = 0))) = true
    rw [show (abV q.v).length = q.v.length from List.length_map _]
    exact z
  · obtain ⟨u, hu, rfl⟩ := List.mem_map.mp ht
    obtain ⟨q, hq, rfl⟩ := List.mem_map.mp hr
    rw [nm]
    exact O.here u hu q hq
section
variable {P : Program} {w : World} {K : PySem.W.Frag} {mg : Str → Option Value} {base : Heap}
def spDrawn (K : PySem.W.Frag) : Sp := fun vs H Q _ => ∃ (r : Addr) (ax : Int) (m : Nat) (B : Hp), vs = [.ref r, .int ax] ∧ RS r m B H ∧ 1 ≤ ax ∧ ax ≤ 3 ∧ m ≤ 2 ^ 57 + 10 ∧
  ∀ p B' H' (ts : List Tb), Same B B' → RS r (m + 2010) B' H' → LD K B' p (ts.map Tb.d) → 1 ≤ ts.length → ts.length ≤ 6 → OkT ax ts → (∀ t ∈ ts, PyData.strOk t.n = true) → Q (.ref p) H'
theorem ok_drawn {f : Addr} {fd : FuncData} (F : Fun K "_law_drawn" "_law_drawn" s_Ldrawn f fd) (T : Txt mg) (c_Ldraw : C8.Cal P w K mg base 1 "_law_draw" spDraw []) (c_Ltables : C8.Cal P w K mg base 3 "_law_tables" (spTabs K) []) (c_Lwide : C8.Cal P w K mg base 3 "_law_wide" (spWide K) []) : FnOk P w K mg base CX0 4 f fd ["_law_pool_here", "_law_axes"] (spDrawn K) := by
  refine F.ok sc_Ldrawn (fun vs H Q E h => ?_) (fun cdv A outer sh H vs Q E hr h => ?_)
  · obtain ⟨r, ax, m, B, rfl, _⟩ := h
    rfl
  · obtain ⟨r, ax, m, B, rfl, R, ha1, ha3, hm, q⟩ := h
    refine ⟨_, (pss_cons (ps_set (i := 2) sc_Ldrawn.nd rfl (by first | exact Or.inl rfl | exact Or.inr rfl) (pe_ix ix_list (pe_lst (pa_cons (C8.pe_c c_Ltables hr (by decide) (by rfl) (pa_cons (pv 0) (pa_cons (pv 1) (pa_cons pe_int pa_nil)))) (pa_cons (C8.pe_c c_Lwide hr (by decide) (by rfl) (pa_cons (pv 0) (pa_cons (pv 1) (pa_cons pe_int pa_nil)))) pa_nil))) (C8.pe_c c_Ldraw hr (by decide) (by rfl) (pa_cons (pv 0) (pa_cons pe_int pa_nil))) (fun _ _ => rfl)))
  (pss_cons (ps_if (pt_cmpR op_eq (C8.pe_c c_Ldraw hr (by decide) (by rfl) (pa_cons (pv 0) (pa_cons pe_int pa_nil))) pe_int (nomark _))
    (pss_one (ps_ret (pv 2)))
    pss_nil)
  (pss_cons (ps_set (i := 3) sc_Ldrawn.nd rfl (by first | exact Or.inl rfl | exact Or.inr rfl) (pe_lst pa_nil))
  (pss_cons (ps_for PassesOwn.never rfl (pi_list (pv 2)) (pg_tup rfl (pgs_cons (pg_name (i := 4) sc_Ldrawn.nd rfl (by first | exact Or.inl rfl | exact Or.inr rfl)) (pgs_cons (pg_name (i := 5) sc_Ldrawn.nd rfl (by first | exact Or.inl rfl | exact Or.inr rfl)) (pgs_cons (pg_name (i := 6) sc_Ldrawn.nd rfl (by first | exact Or.inl rfl | exact Or.inr rfl)) pgs_nil))))
    (pss_one (ps_expr (pe_bm PySem.F.plainAttrs_list PySem.F.slot_list_append PySem.F.type_list_append mt_append (pv 3) (pa_cons (pe_tup (pa_cons (pv 4) (pa_cons (pv 5) (pa_cons (pe_lc (own := [("_law_row", 8)]) (g := gName 8) (tt := tYes) (by rfl) sc_Ldrawn.nd (pi_list (pv 6)) (blkOk_by (N := ["_law_pool_here", "_law_axes", "_law_tables_here", "_law_some", "_law_title", "_law_part", "_law_reads_here", "_law_one", "_law_row"]) (sc := defScope s_Ldrawn) (by decide +kernel)) (fun _ _ _ _ _ => (pg_name (i := 8) sc_Ldrawn.nd rfl (by first | exact Or.inl rfl | exact Or.inr rfl))) (fun _ _ _ _ _ => pts_nil) (fun _ _ _ _ _ => (pe_tup (pa_cons (pe_ix (r := rIxT K) ix_tup (pv 8) pe_int (fun _ _ => rfl)) (pa_cons (pe_callTy (r := rTupS K) call_tuple_of (by rfl) T.b_tuple (by decide +kernel) (pa_cons (pe_lc (own := [("_law_one", 7)]) (g := gName 7) (tt := tYes) (by rfl) sc_Ldrawn.nd (pi_tupK (K' := K) (pe_ix (r := rIxT K) ix_tup (pv 8) pe_int (fun _ _ => rfl))) (blkOk_by (N := ["_law_pool_here", "_law_axes", "_law_tables_here", "_law_some", "_law_title", "_law_part", "_law_reads_here", "_law_one", "_law_row"]) (sc := { kind := .function, names := [(".0", .local), ("_law_row", .local), ("tuple", .globalImplicit)], isGenerator := false, isCoroutine := false }) (by decide +kernel)) (fun _ _ _ _ _ => (pg_name (i := 7) sc_Ldrawn.nd rfl (by first | exact Or.inl rfl | exact Or.inr rfl))) (fun _ _ _ _ _ => pts_nil) (fun _ _ _ _ _ => (pe_callB call_abs (by rfl) T.b_abs (by decide +kernel) (pa_cons (pv 7) pa_nil)))) pa_nil)) (pa_cons (pe_ix (r := rIxT K) ix_tup (pv 8) pe_int (fun _ _ => rfl)) pa_nil)))))) pa_nil)))) pa_nil)))))
  (pss_one (ps_ret (pv 3))))))), ?_⟩
    have z2 : 2 ≤ sizeLine := by decide
    have z3 : 3 ≤ sizeLine := by decide
    refine ⟨_, rfl, _, rfl, r, ax, 7, m, B, rfl, R, ha1, ha3, by decide, by decide, by omega, fun lp B2 H2 ts0 s2 R2 hlp l1 l4 O hs sm few => ?_⟩
    refine ⟨_, rfl, _, rfl, r, ax, m + 1000, B2, rfl, R2, ha1, ha3, by omega, fun lp3 B3 H3 ts3 s3 R3 hlp3 l5 l6 O3 hs3 sm3 few3 => ?_⟩
    have hlp := hlp.grow s3
    refine ⟨z2, fun pq hpq => ?_⟩
    have rpq := R3.ne hpq
    have R4 := R3.new (o := .lst [.ref lp, .ref lp3]) hpq
    have h4 : (upd H3 pq (.lst [.ref lp, .ref lp3])) pq = some (.lst [.ref lp, .ref lp3]) := upd_same
    generalize upd H3 pq (.lst [.ref lp, .ref lp3]) = H4 at R4 h4 ⊢
    refine ⟨_, rfl, r, 2, _, rfl, R4.ok, by omega, by decide, by decide, fun d2 H5 d20 d21 D2 => ?_⟩
    have R5 := R4.dr D2
    have h5 : H5 pq = some (.lst [.ref lp, .ref lp3]) := by rw [D2.ne _ rpq.symm]; exact h4
    obtain ⟨lq, ts, hlq, hlqd, l1, l6, O, hs⟩ : ∃ lq ts, atI [V.ref lp, V.ref lp3] d2 = some (.ref lq) ∧ LD K B3 lq (ts.map Tb.d) ∧ 1 ≤ ts.length ∧ ts.length ≤ 6 ∧ OkT ax ts ∧ ∀ t ∈ ts, PyData.strOk t.n = true := by
      by_cases z : d2 = 0
      · exact ⟨lp, ts0, by rw [z]; rfl, hlp, l1, by omega, O, hs⟩
      · have z : d2 = 1 := by omega
        exact ⟨lp3, ts3, by rw [z]; rfl, hlp3, by omega, l6, O3, hs3⟩
    refine ⟨pq, _, d2, _, rfl, rfl, Or.inl (Or.inl h5), hlq, ?_⟩
    have sB := same_tr s2 s3
    clear R2 R3 R4 h4 h5 hlp hlp3 D2 hpq rpq s2 s3
    refine ⟨_, rfl, r, 3, _, rfl, R5.ok, by omega, by decide, by decide, fun d3 H6 d30 d31 D3 => ?_⟩
    have R6 := R5.dr D3
    refine ⟨rfl, _, rfl, ?_⟩
    have dec : decide (V.int d3 = V.int 0) = decide (d3 = 0) := decide_eq_decide.mpr ⟨fun z => V.int.inj z, fun z => by rw [z]⟩
    rw [dec]
    by_cases z0 : d3 = 0
    · rw [decide_eq_true z0]
      exact iteT ⟨_, rfl, q lq B3 H6 ts sB (R6.mono (by omega)) hlqd l1 l6 O hs⟩
    rw [decide_eq_false z0]
    refine iteF ⟨Nat.zero_le _, fun g hg => ?_⟩
    have rg := R6.ne hg
    have bg := free_of R6.s hg
    obtain ⟨xs, hx, hd⟩ := hlqd
    have xl : xs.length = ts.length := by rw [dps_len hd, List.length_map]
    have R7 := R6.new (o := .lst []) hg
    refine ⟨_, rfl, lq, rfl, ⟨_, Or.inl (Or.inl (R7.s _ _ hx))⟩, for_it (walk_list (K := K) (a := lq) (xs := xs)) (fun i σ H' => ∃ (y4 y5 y6 : Option V), σ = [some (.ref r), some (.int ax), some (.ref lq), some (.ref g), y4, y5, y6, none, none] ∧ ∃ (Bi : Hp) (zs : List V), Same B3 Bi ∧ RS r (m + 2002) Bi H' ∧ Bi g = none ∧ H' g = some (.lst zs) ∧ DpAll K Bi zs ((ts.take i).map fun t => (abT t).d))
      ⟨none, none, none, rfl, B3, [], same_refl, R7.mono (by omega), bg, upd_same, .nil⟩ (fun i σ H' _ ⟨_, _, _, _, Bi, _, c1, c2, _⟩ => Or.inl (Or.inl (c2.s _ _ (c1 _ _ hx)))) ?_ ?_⟩
    · rintro i x σ _ Hi hi ⟨y4, y5, y6, rfl, Bi, zs, c1, c2, c3, c4, c5⟩ ⟨rfl, hy⟩
      obtain ⟨dd, hdd, dx⟩ := dps_get (dpsm c1 _ _ hd) hy
      rw [List.getElem?_map] at hdd
      obtain ⟨t, ht, rfl⟩ := Option.map_eq_some_iff.mp hdd
      obtain ⟨a, us, rfl, ha, hus⟩ := dtup (show Dp K Bi x (.tuple [.str t.n, .int t.c, .list (t.rs.map Rd1.d)]) from dx)
      obtain ⟨w1, w2, w3, rfl, g1, g2, g3⟩ := dps3 hus
      obtain rfl := dstr g1
      obtain rfl := dint g2
      obtain ⟨lr, ys, rfl, hlr, hys⟩ := dlst g3
      refine ⟨a, _, rfl, sqt c2.s ha, rfl, _, _, rfl, _, _, rfl, _, _, rfl, rfl, ?_⟩
      have zl : zs.length = (ts.take i).length := by rw [dps_len c5, List.length_map]
      have hlr2 := sql c2.s hlr
      have rsl : t.rs.length ≤ 12 := by
        exact Nat.le_trans (mem_le_sum (f := fun t : Tb => t.rs.length) (List.mem_of_getElem? ht)) O.few
      refine ⟨_, rfl, Or.inl ⟨rfl, _, Or.inl (Or.inl c4)⟩, _, rfl, _, rfl, _, rfl, lr, rfl, ⟨_, hlr2⟩, fun D hD => lc_fd (K := K) (fun B => B r = none ∧ B g = none) t.rs Rd1.d (fun r => (abR r).d) (fun _ => true) hlr2 c2.s ⟨c2.n, c3⟩ hys (by omega) hD (fun x' rd B' H4 hr1 t1 t2 t3 t4 t5 ⟨_, eD⟩ dx' Rk N hR hN => ⟨rfl, yes_if ?_⟩) ?_⟩
      · obtain ⟨ra, us', rfl, ta, tus⟩ := dtup (show Dp K B' x' (.tuple [.str rd.t, .tuple (rd.v.map .int), .int rd.f]) from dx')
        obtain ⟨v1, v2, v3, rfl, h1, h2, h3⟩ := dps3 tus
        obtain rfl := dstr h1
        obtain rfl := dint h3
        obtain ⟨rb, vs', rfl, tb, tvs⟩ := dtup h2
        obtain rfl := dps_ints tvs
        have ta4 := sqt t4 ta
        have tb4 := sqt t4 tb
        have vl : (rd.v.length : Int) = ax := rd_len2 (O.reads t (List.mem_of_getElem? ht) rd hr1)
        refine ⟨_, rfl, ra, _, 0, _, rfl, rfl, ta4, rfl, _, rfl, ra, _, 1, _, rfl, rfl, ta4, rfl, rb, rfl, ⟨_, tb4⟩, fun D2 hD2 => lc_flat (walk_tup (K := K) (a := rb) (xs := rd.v.map V.int)) (fun j => .int ((abV rd.v).getD j 0)) (by rw [List.length_map]; omega) hD2 (fun H' sm => sqt sm tb4) (fun i H x H' y => by obtain ⟨rfl, _⟩ := y; exact same_refl) ?_ ?_⟩
        · rintro j y Ha Hb hj sm ⟨rfl, hy⟩ R hR
          rw [List.getElem?_map] at hy
          obtain ⟨n, hn, rfl⟩ := Option.map_eq_some_iff.mp hy
          have z := hR _ same_refl
          have e : (abV rd.v).getD j 0 = if n < 0 then -n else n := by
            unfold abV
            rw [List.getD_eq_getElem?_getD, List.getElem?_map, hn]
            rfl
          rw [e] at z
          exact ⟨rfl, _, rfl, n, rfl, z⟩
        · intro H7 s7 e7
          have e : (List.range (rd.v.map V.int).length).map (fun j => V.int ((abV rd.v).getD j 0)) = (abV rd.v).map V.int := by
            have z := range_map_get ((abV rd.v).map V.int) (fun j => V.int ((abV rd.v).getD j 0)) (fun i b hb => by
              rw [List.getElem?_map] at hb
              obtain ⟨c, h1, h2⟩ := Option.map_eq_some_iff.mp hb
              rw [List.getD_eq_getElem?_getD, h1]
              exact h2)
            rw [List.length_map, show (abV rd.v).length = rd.v.length from List.length_map _] at z
            rw [List.length_map]
            exact z
          rw [e] at e7
          have t47 := same_tr t4 s7
          refine ⟨D2, _, rfl, Or.inl ⟨Or.inl (Or.inl e7), fun l hl2 => ?_⟩⟩
          obtain ⟨n1, n2, n3, n4⟩ := new_base (o := .tup ((abV rd.v).map V.int)) t47 hl2
          have sl := snew (o := .tup ((abV rd.v).map V.int)) hl2
          have ta8 := sqt (same_tr s7 sl) ta4
          have hD8 : ∃ o, (upd H7 l (.tup ((abV rd.v).map V.int))) D = some o := ⟨_, sl _ _ (s7 _ _ eD)⟩
          have rok := (R6.ok.new (o := .lst []) hg)
          have ex : ∀ b, (∃ o, Hi b = some o) → ∃ o, H7 b = some o := fun b ⟨o, ho⟩ => ⟨o, s7 _ _ (t5 _ _ ho)⟩
          have exr := ex r c2.ok.some
          have exg := ex g ⟨_, c4⟩
          refine ⟨_, rfl, ra, _, 2, _, rfl, rfl, ta8, rfl, z3, fun u hu1 => ?_⟩
          obtain ⟨m1, m2, m3, m4⟩ := new_base (o := .tup [.str rd.t, .ref l, .int rd.f]) n2 hu1
          have ex2 : ∀ b, (∃ o, H7 b = some o) → ∃ o, (upd H7 l (.tup ((abV rd.v).map V.int))) b = some o := fun b ⟨o, ho⟩ => ⟨o, sl _ _ ho⟩
          refine hR rfl _ _ (upd (upd B' l (.tup ((abV rd.v).map V.int))) u (.tup [.str rd.t, .ref l, .int rd.f])) (same_tr s7 (same_tr sl (snew hu1))) (same_tr n1 m1) (m4 D hD8 (n4 D ⟨_, s7 _ _ eD⟩ t2)) ⟨m4 r (ex2 r exr) (n4 r exr t3.1), m4 g (ex2 g exg) (n4 g exg t3.2)⟩ m2 ?_
          exact .tup (Or.inl (Or.inl m3)) (.cons (.str _) (.cons (.tup (Or.inl (Or.inl (m1 _ _ n3))) (ints_dps _)) (.cons (.int _) .nil)))
      · intro H7 B1 bs t1 t2 t3 t4 t5 e7 d7
        rw [List.filter_eq_self.mpr (fun _ _ => rfl)] at d7
        refine ⟨z3, fun u hu1 => ?_⟩
        have R8 : RS r (m + 2002) B1 H7 := ⟨t4, t3.1, (c2.grow t5).ok⟩
        have g7 := t5 _ _ c4
        have nD : ∀ b, (∃ o, Hi b = some o) → b ≠ D := fun b ⟨o, ho⟩ z => by rw [z, hD] at ho; cases ho
        have rD := nD r c2.ok.some
        have gD := nD g ⟨_, c4⟩
        have R9 := R8.keep e7 t2 rD
        have bg9 : (upd B1 D (.lst bs)) g = none := by rw [upd_ne gD]; exact t3.2
        have D9 : (upd B1 D (.lst bs)) D = some (.lst bs) := upd_same
        have d9 := dpsm (snew (o := .lst bs) t2) _ _ d7
        have s9 := same_tr t1 (snew (o := .lst bs) t2)
        generalize upd B1 D (.lst bs) = B9 at R9 bg9 D9 d9 s9
        obtain ⟨n1, n2, n3, n4⟩ := new_base (o := .tup [.str t.n, .int t.c, .ref D]) R9.s hu1
        have R10 := (R9.new (o := .tup [.str t.n, .int t.c, .ref D]) hu1)
        have R11 : RS r (m + 2002) (upd B9 u (.tup [.str t.n, .int t.c, .ref D])) (upd H7 u (.tup [.str t.n, .int t.c, .ref D])) := ⟨n2, n4 r R9.ok.some R9.n, R10.ok⟩
        have bg11 := n4 g ⟨_, g7⟩ bg9
        have g11 := snew (o := .tup [.str t.n, .int t.c, .ref D]) hu1 _ _ g7
        refine ⟨g, zs, _, rfl, rfl, g11, small1000 (by rw [zl, List.length_take]; omega), ?_⟩
        refine ⟨_, _, _, rfl, _, zs ++ [.ref u], same_tr c1 (same_tr s9 n1), R11.put bg11 rg, bg11, upd_same, ?_⟩
        rw [List.take_add_one, ht, Option.toList_some, List.map_append]
        refine dps_put (dpsm (same_tr s9 n1) _ _ c5) ?_
        refine .tup (Or.inl (Or.inl n3)) (.cons (.str _) (.cons (.int _) (.cons (.lst (Or.inl (Or.inl (n1 _ _ D9))) ?_) .nil)))
        have z := dpsm n1 _ _ d9
        rw [show (abT t).rs.map Rd1.d = t.rs.map fun r => (abR r).d by unfold abT; rw [List.map_map]; rfl]
        exact z
    · rintro σ H8 ⟨y4, y5, y6, rfl, Bi, zs, c1, c2, c3, c4, c5⟩
      rw [xl, List.take_length] at c5
      have e : (ts.map fun t => (abT t).d) = (ts.map abT).map Tb.d := by rw [List.map_map]; rfl
      rw [e] at c5
      have nm : (ts.map abT).length = ts.length := List.length_map _
      exact ⟨_, rfl, q g _ H8 (ts.map abT) (same_tr sB (same_tr c1 (snew c3))) ((c2.keep c4 c3 rg).mono (by omega)) ⟨zs, upd_same, dpsm (snew c3) _ _ c5⟩ (by omega) (by omega) O.ab fun t ht => by
        obtain ⟨u, hu, rfl⟩ := List.mem_map.mp ht
        exact hs u hu⟩
end
end Fr

namespace Fr
open PySem PySem.Spec PyProof.Rows L2
theorem op_orR {X : Cx} {op : Value → Value → Sem Value} {r1 r2 : R2} (h1 : OpR X op r1) (h2 : OpR X op r2) : OpR X op (fun x y H Q => r1 x y H Q ∨ r2 x y H Q) := by
  intro pins s σ H x y v u Q I rx ry h
  rcases h with h | h
  · exact h1 pins s σ H x y v u Q I rx ry h
  · exact h2 pins s σ H x y v u Q I rx ry h
theorem Room.units3 {k : Nat} {A : Around} (r : Room k A) : A.units + 70 < cLine := by have := r.un; omega
/-- None, or a dict of data, and its equal -/
inductive EqN (K : PySem.W.Frag) (H : Hp) : V → V → Prop
  | non : EqN K H .non .non
  | dic {a b : Addr} {ks ls : List (Key × V)} : H a = some (.dK ks) → H b = some (.dK ls) → ks.length = ls.length → KvEq K H ls ks true → EqN K H (.ref a) (.ref b)
def rEqLd (K : PySem.W.Frag) : R2 := fun x y H Q => ∃ (a b : Addr) (xs ys : List V), x = .ref a ∧ y = .ref b ∧ SqL K H a xs ∧ SqL K H b ys ∧ Paired (EqN K H) xs ys ∧ Q (.bl true) H
theorem op_eqLd {X : Cx} (hu : X.A.units + 70 < cLine) : OpR X (compareOp .Eq) (rEqLd X.K) := by
  intro pins s σ H x y v u Q I rx ry h
  obtain ⟨a, b, xs, ys, rfl, rfl, ha, hb, hp, q⟩ := h
  cases (show v = Value.ref a from rx)
  cases (show u = Value.ref b from ry)
  have ih : ∀ x y v u, EqN X.K H x y → RelV x v → RelV y u → SeqAt.EqP X.prog X.w X.A.in1 s v u true := by
    intro x y v u h rx ry
    cases h with
    | non => exact (eqAt_same rx ry rfl).eqP
    | @dic a b ks ls h1 h2 h3 h4 =>
      cases (show v = Value.ref a from rx)
      cases (show u = Value.ref b from ry)
      by_cases e : a = b
      · subst e
        exact (SeqAt.EqAt.same _).eqP
      · refine SeqAt.eqP_refs e fun E Q q => ?_
        obtain ⟨_, ya, va, ra, da⟩ := (show ObjOk X.prog X.w H s.heap a (.dK ks) from I.hok a _ h1)
        obtain ⟨_, yb, vb, rb, db⟩ := (show ObjOk X.prog X.w H s.heap b (.dK ls) from I.hok b _ h2)
        refine PySem.W.rcP_dicts (knd := mixKind X.prog X.w) (r := true) ya yb da db (by show X.A.units + 1 < cLine; omega) (fun _ => kvHits I (by show X.A.units + 1 + 1 + 64 < cLine; omega) rb h4 ra) E Q ?_
        have e : va.length = vb.length := by rw [← ra.length, ← rb.length]; exact h3
        rw [show (va.length == vb.length && true) = true from by rw [e]; simp]
        exact q
  obtain ⟨us, r1, p1, _⟩ := I.list ha
  obtain ⟨ws, r2, p2, _⟩ := I.list hb
  have hsz : us.toArray.size = ws.toArray.size := by
    rw [List.size_toArray, List.size_toArray, ← r1.length, ← r2.length]
    exact Paired.length hp
  refine SeqAt.rcP_lists (e := fun _ => true) p1.isList p2.isList hsz (by omega) (fun j h1 h2 => ?_) _ _ ?_
  · have k := items_run ih hp r1 r2 j (by simpa using h1) (by simpa using h2)
    simpa using k
  · rw [show ((List.range us.toArray.size).all fun _ => true) = true from List.all_eq_true.mpr fun _ _ => rfl]
    exact ⟨.bl true, H, I, rfl, q⟩
end Fr

namespace Fr
open PySem PySem.Spec PyProof.Rows L2
abbrev s_Lright : Stmt := topS 44
theorem sc_Lright : FnScope ["_law_pool_here", "_law_axes", "_law_tables_here", "_law_made_here", "_law_titles", "_law_one", "_law_rows_here", "_law_title", "_law_number", "_law_row", "_law_due", "_law_lows_here", "_law_axis", "_law_low", "_law_again", "_law_told"] ["_law_pool_here"] (defScope s_Lright) := ⟨rfl, rfl, rfl, by decide +kernel, rfl, by decide +kernel, by decide +kernel⟩
-- slots: 0 _law_pool_here, 1 _law_axes, 2 _law_tables_here, 3 _law_made_here, 4 _law_titles, 5 _law_one, 6 _law_rows_here, 7 _law_title, 8 _law_number, 9 _law_row, 10 _law_due, 11 _law_lows_here, 12 _law_axis, 13 _law_low, 14 _law_again, 15 _law_told
def kwS1 {α : Type} : List α → List α → List α
  | [], [s] => [s]
  | _, _ => []
theorem noL_row (y : RowP) : noL y.d = true := by
  show (true && (true && (true && (noLs (y.v.map PyData.int) && true)))) = true
  rw [noL_ints]
  rfl
theorem sh_names (g : Str → List Int) (ts : List Tb) : (ts.map (shT g)).map (·.n) = ts.map (·.n) := by
  rw [List.map_map]
  rfl
theorem shr_len {d : Int} {names : List Str} {gs : List (Str × List Int)} (h : ShOk d names gs) {x : Str} {r : Rd1} (hx : x ∈ names) (hr : r.t ∈ names) (hl : (r.v.length : Int) = d) : ((shR (shOf gs) x r).v.length : Int) = d := by
  have a := (h.at hx).2
  have b := (h.at hr).2
  show ((mvV r.v (shOf gs x) (shOf gs r.t)).length : Int) = d
  rw [mvV_len (by omega) (by omega)]
  exact hl
theorem OkT.shift {d : Int} {ts : List Tb} {gs : List (Str × List Int)} (O : OkT d ts) (h : ShOk d (ts.map (·.n)) gs) : OkT d (ts.map (shT (shOf gs))) := by
  refine ⟨?_, by rw [sh_names]; exact O.nodup, ?_, ?_, ?_⟩
  · intro t ht
    obtain ⟨u, hu, rfl⟩ := List.mem_map.mp ht
    exact O.names u hu
  · rw [List.map_map]
    have e : ts.map ((fun t => t.rs.length) ∘ shT (shOf gs)) = ts.map fun t => t.rs.length := List.map_congr_left fun t _ => by
      show (t.rs.map (shR (shOf gs) t.n)).length = _
      rw [List.length_map]
    rw [e]
    exact O.few
  · intro t ht r hr
    obtain ⟨u, hu, rfl⟩ := List.mem_map.mp ht
    obtain ⟨q, hq, rfl⟩ := List.mem_map.mp hr
    have z := O.reads u hu q hq
    have hl := shr_len h (List.mem_map.mpr ⟨u, hu, rfl⟩) (O.here u hu q hq) (rd_len2 z)
    unfold isRead at z ⊢
    rw [Bool.and_eq_true, Bool.and_eq_true] at z ⊢
    exact ⟨z.1, decide_eq_true hl, z.2.2⟩
  · intro t ht r hr
    obtain ⟨u, hu, rfl⟩ := List.mem_map.mp ht
    obtain ⟨q, hq, rfl⟩ := List.mem_map.mp hr
    rw [sh_names]
    exact O.here u hu q hq
theorem pre_sh {d : Int} {ts : List Tb} (O : OkT d ts) : ∀ t ∈ ts, t.rs.length ≤ 100 ∧ ∀ r ∈ t.rs, r.t ∈ ts.map (·.n) ∧ (r.v.length : Int) = d := fun t ht =>
  ⟨Nat.le_trans (Nat.le_trans (mem_le_sum (f := fun t : Tb => t.rs.length) ht) O.few) (by decide), fun r hr => ⟨O.here t ht r hr, rd_len2 (O.reads t ht r hr)⟩⟩
theorem free_iff {E F : List RowP} {d : Int} {cs : List (List RowP)} (hc : ∀ u, u ∈ cs ↔ Cyc E u) (h : ∀ y, y ∈ E ↔ y ∈ F) : (((cs.filter fun u => decide (∃ k, k < d.toNat ∧ asum k u < 0)).map wkD).isEmpty = true) ↔ Free F d := by
  rw [List.isEmpty_map, List.isEmpty_iff, List.filter_eq_nil_iff]
  constructor
  · rintro g ⟨w, c, e, k, hk, hs⟩
    obtain ⟨u, h1, h2⟩ := cyc_of c (fun r hr => (h r).mpr (e r hr)) hs
    exact g u ((hc u).mpr h1) (decide_eq_true ⟨k, hk, h2⟩)
  · rintro g u hu hd
    obtain ⟨k, hk, hs⟩ := of_decide_eq_true hd
    obtain ⟨h1, h2, _⟩ := (hc u).mp hu
    exact g ⟨u, h1, fun r hr => (h r).mp (h2 r hr), k, hk, hs⟩
theorem valV_of {kvs : List (Key × V)} : (kvs.map (·.1)).Nodup → ∀ p ∈ kvs, valV kvs p.1 = some p.2 := by
  induction kvs with
  | nil => intro _ p hp; cases hp
  | cons a kvs ih =>
    intro nd p hp
    rw [List.map_cons, List.nodup_cons] at nd
    rcases List.mem_cons.mp hp with rfl | hp
    · exact valV_pos rfl
    · rw [valV_neg fun e => nd.1 (by rw [e]; exact List.mem_map.mpr ⟨p, hp, rfl⟩)]
      exact ih nd.2 p hp
theorem ints_shaped (v : List Int) : SeqAt.shaped (.tuple (v.map PyData.int)) = true := by
  have hi : ∀ ns : List Int, PyData.canLayAll0 (ns.map PyData.int) = true ∧ PyData.depthAll (ns.map PyData.int) = 0 := by
    intro ns
    induction ns with
    | nil => exact ⟨by simp [PyData.canLayAll0], by simp [PyData.depthAll]⟩
    | cons n ns ih => exact ⟨by simp [PyData.canLayAll0, PyData.canLay0, ih.1], by simp [PyData.depthAll, PyData.depth, ih.2]⟩
  obtain ⟨h1, h2⟩ := hi v
  unfold SeqAt.shaped
  rw [Bool.and_eq_true]
  exact ⟨by simp only [PyData.canLay0, h1], decide_eq_true (by simp only [PyData.depth, h2]; decide)⟩
theorem gs_eq {K : PySem.W.Frag} {H : Hp} {ks ls : List (Key × V)} {names names' : List Str} {G G' : Str → List Int} (nd : names.Nodup) (pm : names.Perm names') (h : GsAt H ks names G) (h' : GsAt H ls names' G') (e : ∀ x ∈ names, G x = G' x) : ks.length = ls.length ∧ KvEq K H ls ks true := by
  constructor
  · have z := congrArg List.length h.1
    have z' := congrArg List.length h'.1
    rw [List.length_map, List.length_map] at z z'
    rw [z, z', pm.length_eq]
  · have knd : (ks.map (·.1)).Nodup := by
      rw [h.1]
      exact List.pairwise_map.mpr (nd.imp fun n z => n (Sum.inr.inj z))
    have all : ∀ p ∈ ks, ∃ (u u' : Addr) (v : List Int), p.2 = .ref u ∧ valV ls p.1 = some (.ref u') ∧ H u = some (.tup (v.map V.int)) ∧ H u' = some (.tup (v.map V.int)) := fun p hp => by
      have m : p.1 ∈ names.map Sum.inr := by
        rw [← h.1]
        exact List.mem_map.mpr ⟨p, hp, rfl⟩
      obtain ⟨x, hx, ex⟩ := List.mem_map.mp m
      obtain ⟨u, h1, h2⟩ := h.2 x hx
      obtain ⟨u', h3, h4⟩ := h'.2 x (pm.mem_iff.mp hx)
      have z := valV_of knd p hp
      rw [← ex, h1] at z
      refine ⟨u, u', G x, (Option.some.inj z).symm, by rw [← ex]; exact h3, h2, by rw [e x hx]; exact h4⟩
    clear h h' knd nd
    induction ks with
    | nil => exact .nil
    | cons p ks ih =>
      obtain ⟨u, u', v, h1, h2, h3, h4⟩ := all p List.mem_cons_self
      obtain ⟨k, pv⟩ := p
      have h1 : pv = .ref u := h1
      subst h1
      have sh := ints_shaped v
      have z : KvEq K H ls ((k, .ref u) :: ks) (PyData.eqv (.tuple (v.map .int)) (.tuple (v.map .int)) && true) := .hit h2 (.tup (Or.inl (Or.inl h3)) (ints_dps _)) (.tup (Or.inl (Or.inl h4)) (ints_dps _)) sh sh (ih fun p hp => all p (List.mem_cons_of_mem _ hp))
      rw [SeqAt.eqv_refl _ (SeqAt.canLay_of_shaped sh)] at z
      exact z
theorem ext_at {a b : List Int} {n : Nat} (h1 : a.length = n) (h2 : b.length = n) (h : ∀ c, c < n → a.getD c 0 = b.getD c 0) : a = b := by
  refine List.ext_getElem? fun i => ?_
  by_cases hi : i < n
  · rw [at_of (by omega : i < a.length), at_of (by omega : i < b.length), h i hi]
  · rw [List.getElem?_eq_none (by omega), List.getElem?_eq_none (by omega)]
/-- a dict of numbers that stands -/
def LowP (B : Hp) (names : List Str) (v : V) (f : Str → Int) : Prop := ∃ p kvs, v = .ref p ∧ B p = some (.dK kvs) ∧ LowAt kvs names f
theorem LowP.mono {B B' : Hp} {names : List Str} (s : Same B B') (v : V) (f : Str → Int) (h : LowP B names v f) : LowP B' names v f := by
  obtain ⟨p, kvs, h1, h2, h3⟩ := h
  exact ⟨p, kvs, h1, s _ _ h2, h3⟩
/-- what the law takes the greatest shifts to be -/
def Due (B : Hp) (F : List RowP) (ax : Int) (names : List Str) (due : V) : Prop := (due = .non ∧ ¬ Free F ax) ∨ ∃ pd kvs G, due = .ref pd ∧ B pd = some (.dK kvs) ∧ GsAt B kvs names G ∧ (∀ x ∈ names, (G x).length = ax.toNat ∧ ∀ c, c < ax.toNat → Least F c x ((G x).getD c 0)) ∧ Free F ax
section
variable {P : Program} {w : World} {K : PySem.W.Frag} {mg : Str → Option Value} {base : Heap}
def spRight30 (K : PySem.W.Frag) (TT : List (Addr × Str)) : Sp := fun vs H Q _ => ∃ (r : Addr) (m : Nat) (B : Hp), vs = [.ref r] ∧ LS TT r m B H ∧ m ≤ 2 ^ 57 ∧ ∀ H', LS TT r (m + 3000) B H' → Q (.bl true) H'
theorem ok_right30 {f C : Addr} {fd : FuncData} {TT : List (Addr × Str)} (F : Fun K "_law_right" "_law_right" s_Lright f fd) (T : Txt mg)
    (c_Ldraw : C8.Cal P w K mg base 1 "_law_draw" spDraw []) (c_Ldrawn : C8.Cal P w K mg base 4 "_law_drawn" (spDrawn K) []) (c_Lmade : C8.Cal P w K mg base 7 "_law_made" (spMade K C TT) []) (c_Lshift : C8.Cal P w K mg base 2 "_law_shift" (spShift K) []) (c_shifted : C8.Cal P w K mg base 9 "shifted" (spShifted K C TT) [])
    (t_reads : C8.Met P w K mg base 4 C "reads" (spReads K C) []) (c_Lcycles : C8.Cal P w K mg base 1 "_law_cycles" (spCyc K) []) (c_Ltotal : C8.Cal P w K mg base 1 "_law_total" (spTot K) []) (c_Llows : C8.Cal P w K mg base 1 "_law_lows" (spLows K) []) (c_greatest_shifts : C8.Cal P w K mg base 7 "greatest_shifts" (spGS K C) []) (k_greatest_shifts : CalK P w K mg base 7 "greatest_shifts" (spGS K C) ["system"] kwS1) :
    FnOk P w K mg base CX0 10 f fd ["_law_pool_here"] (spRight30 K TT) := by
  refine F.ok sc_Lright (fun vs H Q E h => ?_) (fun cdv A outer sh H vs Q E hr h => ?_)
  · obtain ⟨r, m, B, rfl, _⟩ := h
    rfl
  · obtain ⟨r, m, B, rfl, L, hm, q⟩ := h
    have hu := hu_of hr
    refine ⟨_, (pss_cons (ps_set (i := 1) sc_Lright.nd rfl (by first | exact Or.inl rfl | exact Or.inr rfl) (pe_op op_add pe_int (C8.pe_c c_Ldraw hr (by decide) (by rfl) (pa_cons (pv 0) (pa_cons pe_int pa_nil)))))
  (pss_cons (ps_set (i := 2) sc_Lright.nd rfl (by first | exact Or.inl rfl | exact Or.inr rfl) (C8.pe_c c_Ldrawn hr (by decide) (by rfl) (pa_cons (pv 0) (pa_cons (pv 1) pa_nil))))
  (pss_cons (ps_asg (pe_tup (pa_cons (C8.pe_c c_Lmade hr (by decide) (by rfl) (pa_cons (pv 1) (pa_cons (pv 2) pa_nil))) (pa_cons (pe_callB cr_sortedS (by rfl) T.b_sorted (by decide +kernel) (pa_cons (pe_lc (own := [("_law_one", 5)]) (g := gName 5) (tt := tYes) (by rfl) sc_Lright.nd (pi_list (pv 2)) (blkOk_by (N := ["_law_pool_here", "_law_axes", "_law_tables_here", "_law_made_here", "_law_titles", "_law_one", "_law_rows_here", "_law_title", "_law_number", "_law_row", "_law_due", "_law_lows_here", "_law_axis", "_law_low", "_law_again", "_law_told"]) (sc := defScope s_Lright) (by decide +kernel)) (fun _ _ _ _ _ => (pg_name (i := 5) sc_Lright.nd rfl (by first | exact Or.inl rfl | exact Or.inr rfl))) (fun _ _ _ _ _ => pts_nil) (fun _ _ _ _ _ => (pe_ix (r := rIxT K) ix_tup (pv 5) pe_int (fun _ _ => rfl)))) pa_nil)) pa_nil))) (pg_tup rfl (pgs_cons (pg_name (i := 3) sc_Lright.nd rfl (by first | exact Or.inl rfl | exact Or.inr rfl)) (pgs_cons (pg_name (i := 4) sc_Lright.nd rfl (by first | exact Or.inl rfl | exact Or.inr rfl)) pgs_nil))))
  (pss_cons (ps_if (pt_cmpR op_eq (C8.pe_c c_Ldraw hr (by decide) (by rfl) (pa_cons (pv 0) (pa_cons pe_int pa_nil))) pe_int (nomark _))
    (pss_one (ps_set (i := 3) sc_Lright.nd rfl (by first | exact Or.inl rfl | exact Or.inr rfl) (C8.pe_c c_shifted hr (by decide) (by rfl) (pa_cons (pv 3) (pa_cons (C8.pe_c c_Lshift hr (by decide) (by rfl) (pa_cons (pv 0) (pa_cons (pv 4) (pa_cons (pv 1) pa_nil)))) pa_nil)))))
    pss_nil)
  (pss_cons (ps_set (i := 6) sc_Lright.nd rfl (by first | exact Or.inl rfl | exact Or.inr rfl) (pe_lst pa_nil))
  (pss_cons (ps_for PassesOwn.never rfl (pi_list (pv 4)) (pg_name (i := 7) sc_Lright.nd rfl (by first | exact Or.inl rfl | exact Or.inr rfl))
    (pss_one (ps_expr (pe_bm PySem.F.plainAttrs_list PySem.F.slot_list_extend PySem.F.type_list_extend mt_extend (pv 6) (pa_cons (pe_lc (own := [("_law_number", 8), ("_law_row", 9)]) (g := gTup K 2 (gCons (gName 8) (gCons (gName 9) gNil))) (tt := tYes) (by rfl) sc_Lright.nd (pi_enum (by rfl) T.b_enumerate (pa_cons (C8.pe_mt t_reads hr (by decide) (pv 3) (pa_cons (pv 7) pa_nil)) pa_nil)) (blkOk_by (N := ["_law_pool_here", "_law_axes", "_law_tables_here", "_law_made_here", "_law_titles", "_law_one", "_law_rows_here", "_law_title", "_law_number", "_law_row", "_law_due", "_law_lows_here", "_law_axis", "_law_low", "_law_again", "_law_told"]) (sc := defScope s_Lright) (by decide +kernel)) (fun _ _ _ _ _ => (pg_tup rfl (pgs_cons (pg_name (i := 8) sc_Lright.nd rfl (by first | exact Or.inl rfl | exact Or.inr rfl)) (pgs_cons (pg_name (i := 9) sc_Lright.nd rfl (by first | exact Or.inl rfl | exact Or.inr rfl)) pgs_nil)))) (fun _ _ _ _ _ => pts_nil) (fun _ _ _ _ _ => (pe_tup (pa_cons (pv 7) (pa_cons (pv 8) (pa_cons (pe_ix (r := rIxT K) ix_tup (pv 9) pe_int (fun _ _ => rfl)) (pa_cons (pe_ix (r := rIxT K) ix_tup (pv 9) pe_int (fun _ _ => rfl)) pa_nil))))))) pa_nil)))))
  (pss_cons (ps_set (i := 10) sc_Lright.nd rfl (by first | exact Or.inl rfl | exact Or.inr rfl) pe_non)
  (pss_cons (ps_if (pt_cmpR (op_eqD hr.units) (pe_lc (own := [("_law_one", 5)]) (g := gName 5) (by rfl) sc_Lright.nd (pi_list (C8.pe_c c_Lcycles hr (by decide) (by rfl) (pa_cons (pv 6) pa_nil))) (blkOk_by (N := ["_law_pool_here", "_law_axes", "_law_tables_here", "_law_made_here", "_law_titles", "_law_one", "_law_rows_here", "_law_title", "_law_number", "_law_row", "_law_due", "_law_lows_here", "_law_axis", "_law_low", "_law_again", "_law_told"]) (sc := defScope s_Lright) (by decide +kernel)) (fun _ _ _ _ _ => (pg_name (i := 5) sc_Lright.nd rfl (by first | exact Or.inl rfl | exact Or.inr rfl))) (fun _ _ _ _ _ => (pts_one (pt_cmpR op_lt (pe_callB (r := rMinT K) (cr_minT rfl) (by rfl) T.b_min (by decide +kernel) (pa_cons (C8.pe_c c_Ltotal hr (by decide) (by rfl) (pa_cons (pv 5) (pa_cons (pv 1) pa_nil))) pa_nil)) pe_int (nomark _)))) (fun _ _ _ _ _ => (pv 5))) (pe_lst pa_nil) (nomark _))
    (pss_cons (ps_par (i := 11) (j := 10) (by rfl) sc_Lright.nd rfl rfl (by decide) rfl rfl (pa_cons (pe_lc (own := [("_law_axis", 12)]) (g := gName 12) (tt := tYes) (by rfl) sc_Lright.nd (pi_range1 (by rfl) T.b_range (pa_cons (pv 1) pa_nil)) (blkOk_by (N := ["_law_pool_here", "_law_axes", "_law_tables_here", "_law_made_here", "_law_titles", "_law_one", "_law_rows_here", "_law_title", "_law_number", "_law_row", "_law_due", "_law_lows_here", "_law_axis", "_law_low", "_law_again", "_law_told"]) (sc := defScope s_Lright) (by decide +kernel)) (fun _ _ _ _ _ => (pg_name (i := 12) sc_Lright.nd rfl (by first | exact Or.inl rfl | exact Or.inr rfl))) (fun _ _ _ _ _ => pts_nil) (fun _ _ _ _ _ => (C8.pe_c c_Llows hr (by decide) (by rfl) (pa_cons (pv 6) (pa_cons (pv 4) (pa_cons (pv 12) pa_nil)))))) (pa_cons pe_dnewK pa_nil)) (by rfl))
    (pss_one (ps_for PassesOwn.never rfl (pi_list (pv 4)) (pg_name (i := 7) sc_Lright.nd rfl (by first | exact Or.inl rfl | exact Or.inr rfl))
      (pss_one (ps_dput hu (pv 10) (pv 7) (pe_callTy call_tuple_of (by rfl) T.b_tuple (by decide +kernel) (pa_cons (pe_lc (own := [("_law_low", 13)]) (g := gName 13) (tt := tYes) (by rfl) sc_Lright.nd (pi_list (pv 11)) (blkOk_by (N := ["_law_pool_here", "_law_axes", "_law_tables_here", "_law_made_here", "_law_titles", "_law_one", "_law_rows_here", "_law_title", "_law_number", "_law_row", "_law_due", "_law_lows_here", "_law_axis", "_law_low", "_law_again", "_law_told"]) (sc := defScope s_Lright) (by decide +kernel)) (fun _ _ _ _ _ => (pg_name (i := 13) sc_Lright.nd rfl (by first | exact Or.inl rfl | exact Or.inr rfl))) (fun _ _ _ _ _ => pts_nil) (fun _ _ _ _ _ => (pe_dget hu (pv 13) (pv 7) (fun _ _ => rfl)))) pa_nil)) rfl)))))
    pss_nil)
  (pss_cons (ps_for PassesOwn.never rfl (pi_range1 (by rfl) T.b_range (pa_cons pe_int pa_nil)) (pg_name (i := 14) sc_Lright.nd rfl (by first | exact Or.inl rfl | exact Or.inr rfl))
    (pss_cons (ps_set (i := 15) sc_Lright.nd rfl (by first | exact Or.inl rfl | exact Or.inr rfl) (pe_ck k_greatest_shifts hr (by decide) (by rfl) (pk_cons (pv 3) pk_nil)))
    (pss_cons (ps_if (PW.pt (pw_or (pt_cmpR (op_orR op_ne (op_neKv hr.units1)) (pv 15) (pv 10) (nomark _)) (pw_or1 (pt_cmpR (op_orR op_ne (op_neKv hr.units1)) (C8.pe_c c_greatest_shifts hr (by decide) (by rfl) (pa_cons (pv 3) pa_nil)) (pv 10) (nomark _)))))
      (pss_one (ps_ret pe_bl))
      pss_nil)
    (pss_one (ps_if (pt_cmpR op_notN (pv 15) pe_non (nomark _))
      (pss_one (ps_expr (pe_dclear (pv 15))))
      pss_nil)))))
  (pss_one (ps_ret pe_bl))))))))))), ?_⟩
    have z2 : 2 ≤ sizeLine := by decide
    have z1 : 1 ≤ sizeLine := by decide
    have z4 : 4 ≤ sizeLine := by decide
    -- axes
    refine ⟨_, rfl, r, 3, _, rfl, L.rs.ok, by omega, by decide, by decide, fun d1 H1 d10 d11 D1 => ⟨_, _, rfl, rfl, ?_⟩⟩
    have L1 := L.dr D1
    obtain ⟨ax, hax⟩ : ∃ ax : Int, ax = 1 + d1 := ⟨_, rfl⟩
    have ha1 : 1 ≤ ax := by omega
    have ha3 : ax ≤ 3 := by omega
    dsimp only
    rw [← hax]
    -- the tables
    refine ⟨_, rfl, _, rfl, r, ax, m + 1, _, rfl, RS.cut L1.rs.ok, ha1, ha3, by omega, fun lp B3 H3 ts s3 R3 hlp l1 l6 O hs => ?_⟩
    have L3 := L1.call R3 s3
    have hlp3 := hlp.grow R3.s
    have OY : OkSys ax 97 ts := ⟨ha1, ha3, by decide, l1, l6, O⟩
    -- made
    refine ⟨_, rfl, _, rfl, ax, _, ts, rfl, L3.tb, OY, hlp3.dp, fun x H4 X4 T4 S4 => ?_⟩
    have L4 := L3.ext X4 T4
    have hlp4 := hlp3.ext X4
    -- titles
    obtain ⟨xs, hx, hxd⟩ := id hlp4
    have xl : xs.length = ts.length := by rw [dps_len hxd, List.length_map]
    refine ⟨_, rfl, lp, rfl, ⟨_, Or.inl (Or.inl hx)⟩, fun D hD => lc_it (walk_list (K := K) (a := lp) (xs := xs)) (fun i H' => H' D = some (.lst (((ts.map (·.n)).take i).map V.str)) ∧ Same H4 H') ⟨upd_same, snew hD⟩ (fun i H' _ ⟨_, b⟩ => Or.inl (Or.inl (b _ _ hx))) ?_ ?_⟩
    · rintro i y _ Hi hi ⟨b1, b2⟩ ⟨rfl, hy⟩
      obtain ⟨tb, a, l, ys, htb, rfl, hta, _⟩ := tb_at (dpsm b2 _ _ hxd) hy
      refine ⟨rfl, yes_if ?_⟩
      refine ⟨_, rfl, a, _, 0, _, rfl, rfl, hta, rfl, _, b1, small1000 (by rw [List.length_map, List.length_take, List.length_map]; omega), ?_, swrite b2 hD⟩
      rw [upd_same, List.take_add_one, List.getElem?_map, htb, List.map_append]
      rfl
    rintro H5 ⟨b1, b2⟩
    rw [xl, List.take_of_length_le (by rw [List.length_map]; exact Nat.le_refl _)] at b1
    refine ⟨D, ts.map (·.n), rfl, Or.inl (Or.inl b1), by rw [List.length_map]; omega, fun names lt perm so hlt => ⟨z2, fun tq htq => ?_⟩⟩
    have en : names = (srt ts).map (·.n) := sorted_names perm so
    have s46 := same_tr b2 (same_tr (snew (o := .lst (names.map V.str)) hlt) (snew (o := .tup [.ref x, .ref lt]) htq))
    have L6 := L4.grow s46
    have S6 := S4.mono s46
    have l6' : (upd (upd H5 lt (.lst (names.map V.str))) tq (.tup [.ref x, .ref lt])) lt = some (.lst (names.map V.str)) := snew htq _ _ upd_same
    refine ⟨tq, _, rfl, Or.inl (Or.inl upd_same), rfl, _, _, rfl, _, _, rfl, rfl, ?_⟩
    have rlt : r ≠ lt := by
      obtain ⟨o, ho⟩ := L4.rs.ok.some
      exact ne_of_none (b2 _ _ ho) hlt
    generalize upd (upd H5 lt (.lst (names.map V.str))) tq (.tup [.ref x, .ref lt]) = H6 at L6 S6 l6' ⊢
    have OT0 : OkT ax (srt ts) := O.perm (srt_perm ts).symm
    have nT0 : (srt ts).length = ts.length := (srt_perm ts).length_eq
    have okN : ∀ x ∈ names, PyData.strOk x = true := fun x hx => by
      rw [en] at hx
      obtain ⟨t, ht, rfl⟩ := List.mem_map.mp hx
      exact hs t ((srt_perm ts).mem_iff.mp ht)
    have nd : names.Nodup := by rw [en]; exact OT0.nodup
    have nl6 : names.length ≤ 6 := by rw [en, List.length_map, nT0]; exact l6
    have nl1 : 1 ≤ names.length := by rw [en, List.length_map, nT0]; exact l1
    have S6 : SysAt K C H6 x ax 97 (srt (srt ts)) := by rw [srt_srt O.nodup]; exact S6
    have e00 : srt (srt ts) = srt ts := srt_srt O.nodup
    generalize srt ts = T0 at S6 OT0 en nT0 e00
    clear perm b1 b2 s46 hD hx hxd xl hlp4 L4 S4 T4 X4 OY hlp3 L3 hlp R3 s3 L1 D1 hs O hlt htq
    -- shifted or not
    have U6 : Same B (bs H6 r) := L6.up
    have S6b := S6.re L6.rs.ok
    have lt6 : (bs H6 r) lt = some (.lst (names.map V.str)) := bs_of l6' rlt.symm fun ps z => by cases z
    have L6 := L6.re
    generalize bs H6 r = B6 at L6 U6 S6b lt6
    clear l6' S6
    refine ⟨_, rfl, r, 2, _, rfl, L6.rs.ok, by omega, by decide, by decide, fun d2 H7 d20 d21 D2 => ?_⟩
    have L7 := L6.dr D2
    refine ⟨rfl, _, rfl, ?_⟩
    have dec : decide (V.int d2 = V.int 0) = decide (d2 = 0) := decide_eq_decide.mpr ⟨fun z => V.int.inj z, fun z => by rw [z]⟩
    rw [dec]
    refine (fun (rest : ∀ (x' : Addr) (Tn : List Tb) H', LS TT r (m + 2200) B6 H' → SysAt K C H' x' ax 97 Tn → OkT ax Tn → Tn.map (·.n) = names → (?G : Addr → Hp → Prop) x' H') => ?use) ?prf
    case use =>
      by_cases z0 : d2 = 0
      · rw [decide_eq_true z0]
        refine iteT ⟨_, rfl, _, rfl, _, rfl, _, rfl, r, lt, ax, _, cutr H7 r, names, rfl, RS.cut L7.rs.ok, ha1, ha3, by rw [cutr_ne rlt.symm]; exact L7.rs.s _ _ lt6, nd, nl6, by omega, fun dd B8 H8 kvs gs s8 bdd R8 hdd hsh hgn hgl => ?_⟩
        have L8 := L7.call R8 s8
        have OS : ShOk ax (T0.map (·.n)) gs := ⟨fun y hy => by rw [hgn, en]; exact hy, fun y hy => by rw [hgn, en] at hy; exact hy, fun p hp => (hgl p hp).1, by
          have z := congrArg List.length hgn
          rw [List.length_map] at z
          omega⟩
        refine ⟨x, dd, ax, 97, T0, kvs, gs, rfl, S6b.mono L8.rs.s, ha1, ha3, by decide, by rw [nT0]; omega, OT0.nodup, pre_sh OT0, R8.s _ _ hdd, hsh.mono (.of R8.s), OS, L8.tb, fun y H9 X9 T9 S9 => ?_⟩
        have O9 : OkT ax (T0.map (shT (shOf gs))) := OT0.shift OS
        exact rest y _ H9 ((L8.ext X9 T9).mono (by omega)) S9 (O9.perm (srt_perm _).symm) (sorted_names (by rw [sh_names, en]) so).symm
      · rw [decide_eq_false z0]
        refine iteF ?_
        rw [e00] at S6b
        exact rest x T0 H7 (L7.mono (by omega)) (S6b.mono L7.rs.s) OT0 en.symm
    case prf =>
      intro x' Tn H' L' S' O' nm'
      clear L7 D2 d20 d21 dec L6 S6b en nT0 OT0
      have lt' := L'.rs.s _ _ lt6
      have U9 : Same B6 (bs H' r) := L'.up
      have S9 := S'.re L'.rs.ok
      have lt9 : (bs H' r) lt = some (.lst (names.map V.str)) := bs_of lt' rlt.symm fun ps z => by cases z
      have L9 := L'.re
      have UB := same_tr U6 U9
      generalize bs H' r = B9 at L9 U9 S9 lt9 UB
      clear U6 U9 lt6 lt' L' S'
      refine ⟨Nat.zero_le _, fun g hg => ?_⟩
      have rg := L9.rs.ne hg
      have bg := free_of L9.rs.s hg
      have L10 := L9.new (o := .lst []) hg
      have g10 : (upd H' g (.lst [])) g = some (.lst []) := upd_same
      generalize upd H' g (.lst []) = H10 at L10 g10 ⊢
      have nTn : Tn.length = names.length := by
        have z := congrArg List.length nm'
        rw [List.length_map] at z
        exact z
      have fewE : (rowsU Tn).length ≤ 12 := by
        rw [rowsU_len]
        exact O'.few
      refine ⟨_, rfl, lt, rfl, ⟨_, Or.inl (Or.inl (L10.rs.s _ _ lt9))⟩, for_it (walk_list (K := K) (a := lt) (xs := names.map V.str)) (fun i σ H' => ∃ (y7 : Option V), σ = [some (.ref r), some (.int ax), some (.ref lp), some (.ref x'), some (.ref lt), none, some (.ref g), y7, none, none, none, none, none, none, none, none] ∧ ∃ (Bi : Hp) (zs : List V), Same B9 Bi ∧ Bi r = none ∧ Bi g = none ∧ LS TT r (m + 2200) B9 H' ∧ Same Bi H' ∧ H' g = some (.lst zs) ∧ DpAll K Bi zs ((rowsU (Tn.take i)).map RowP.d))
        ⟨none, rfl, B9, [], same_refl, L9.rs.n, bg, L10, L10.rs.s, g10, .nil⟩ (fun i σ H' _ ⟨_, _, Bi, _, c1, _, _, _, c5, _⟩ => Or.inl (Or.inl (c5 _ _ (c1 _ _ lt9)))) ?_ ?_⟩
      · rintro i y σ _ H11 hi ⟨y7, rfl, Bi, zs, c1, c2, c3, c4, c5, c6, c7⟩ ⟨rfl, hy⟩
        rw [List.getElem?_map] at hy
        obtain ⟨name, hn, rfl⟩ := Option.map_eq_some_iff.mp hy
        obtain ⟨t, ht, rfl⟩ : ∃ t, Tn[i]? = some t ∧ t.n = name := by
          have z := hn
          rw [← nm', List.getElem?_map] at z
          exact Option.map_eq_some_iff.mp z
        have tm := List.mem_of_getElem? ht
        have hmem : t.n ∈ Tn.map (·.n) := List.mem_map.mpr ⟨t, tm, rfl⟩
        have hf := find_nodup' O'.nodup tm
        have Si := S9.mono c1
        obtain ⟨dx, tt, tkv, g1, _⟩ := id Si.ob
        refine ⟨_, rfl, Or.inl ⟨rfl, _, Or.inl (Or.inl c6)⟩, _, rfl, x', dx, _, rfl, c5 _ _ g1, no_fld (by decide +kernel), _, rfl, Bi, x', ax, 97, Tn, t.n, t, rfl, c5, Si, hmem, hf, fun l2 H12 rs2 hl2 s12 hl12 hrs2 => ⟨l2, rs2, rfl, Or.inl (Or.inl hl12), fun D4 hD4 => ?_⟩⟩
        have cs12 := same_tr c5 s12
        have rsl : t.rs.length ≤ 12 := Nat.le_trans (mem_le_sum (f := fun t : Tb => t.rs.length) tm) O'.few
        have rs2l : rs2.length = t.rs.length := by rw [dps_len hrs2, List.length_map]
        have r12 : ∃ o, H12 r = some o := let ⟨o, ho⟩ := c4.rs.ok.some; ⟨o, s12 _ _ ho⟩
        refine lc_it (walk_enum (K := K) (a := l2) (xs := rs2)) (fun j H' => ∃ (B' : Hp) (bs : List V), Same Bi B' ∧ B' D4 = none ∧ B' r = none ∧ B' g = none ∧ Same B' H' ∧ Same H12 H' ∧ H' D4 = some (.lst bs) ∧ DpAll K B' bs ((rowsT t j).map RowP.d)) ⟨Bi, [], same_refl, free_of cs12 hD4, c2, c3, same_tr cs12 (snew hD4), snew hD4, upd_same, .nil⟩ (fun j H' _ ⟨_, _, _, _, _, _, _, s, _⟩ => Or.inl (Or.inl (s _ _ hl12))) ?_ ?_
        · rintro j y H13 _ hj ⟨B', bs, e1, e2, e3, e4, e5, e6, e7, e8⟩ ⟨Tp, z1', xv, rfl, hT, rfl, f1, f2⟩
          cases f1
          obtain ⟨dd, hdd, dxv⟩ := dps_get hrs2 f2
          rw [List.getElem?_map] at hdd
          obtain ⟨rd, hrd, rfl⟩ := Option.map_eq_some_iff.mp hdd
          obtain ⟨ra, us', rfl, ta, tus⟩ := dtup (show Dp K Bi xv (.tuple [.str rd.t, .tuple (rd.v.map .int), .int rd.f]) from dxv)
          obtain ⟨v1, v2, v3, rfl, h1, h2, h3⟩ := dps3 tus
          obtain rfl := dstr h1
          obtain rfl := dint h3
          obtain ⟨rb, vs', rfl, tb, tvs⟩ := dtup h2
          obtain rfl := dps_ints tvs
          have sT := snew (o := .tup [.int (j : Nat), .ref ra]) hT
          have e5' := same_tr e5 sT
          have ta' := sqt (same_tr e1 e5') ta
          have e7' := sT _ _ e7
          have eT : (upd H13 Tp (.tup [.int (j : Nat), .ref ra])) Tp = some (.tup [.int (j : Nat), .ref ra]) := upd_same
          have e6' := same_tr e6 sT
          generalize upd H13 Tp (.tup [.int (j : Nat), .ref ra]) = H14 at e5' ta' e7' eT e6' ⊢
          refine ⟨Tp, _, rfl, Or.inl (Or.inl eT), rfl, _, _, rfl, _, _, rfl, rfl, rfl, yes_if ?_⟩
          refine ⟨_, rfl, _, rfl, _, rfl, ra, _, 0, _, rfl, rfl, ta', rfl, _, rfl, ra, _, 1, _, rfl, rfl, ta', rfl, z4, fun u hu1 => ?_⟩
          obtain ⟨n1, n2, n3, n4⟩ := new_base (o := .tup [.str t.n, .int (j : Nat), .str rd.t, .ref rb]) e5' hu1
          have ex : ∀ b, (∃ o, H12 b = some o) → ∃ o, H14 b = some o := fun b ⟨o, ho⟩ => ⟨o, e6' _ _ ho⟩
          refine ⟨bs, snew hu1 _ _ e7', small1000 (by
            rw [dps_len e8, List.length_map]
            unfold rowsT
            rw [List.length_mapIdx, List.length_take]
            omega), upd B' u (.tup [.str t.n, .int (j : Nat), .str rd.t, .ref rb]), bs ++ [.ref u], same_tr e1 n1, n4 D4 ⟨_, e7'⟩ e2, n4 r (ex r r12) e3, n4 g (ex g ⟨_, s12 _ _ c6⟩) e4, swrite n2 (n4 D4 ⟨_, e7'⟩ e2), swrite (same_tr e6' (snew hu1)) hD4, upd_same, ?_⟩
          have e : rowsT t (j + 1) = rowsT t j ++ [⟨t.n, j, rd.t, rd.v⟩] := by
            unfold rowsT
            rw [List.take_add_one, hrd]
            have : j < t.rs.length := (List.getElem?_eq_some_iff.mp hrd).1
            simp
            omega
          rw [e, List.map_append]
          refine dps_put (dpsm n1 _ _ e8) (.tup (Or.inl (Or.inl n3)) (.cons (.str _) (.cons (.int _) (.cons (.str _) (.cons ?_ .nil)))))
          exact .tup (sqt (same_tr e1 n1) tb) (ints_dps _)
        · rintro H13 ⟨B', bs, e1, e2, e3, e4, e5, e6, e7, e8⟩
          rw [rs2l] at e8
          have g13 := e6 _ _ (s12 _ _ c6)
          have bsl : bs.length = t.rs.length := by
            rw [dps_len e8, List.length_map]
            unfold rowsT
            rw [List.length_mapIdx, List.length_take, Nat.min_self]
          have zsl : zs.length ≤ 12 := by
            rw [dps_len c7, List.length_map, rowsU_len]
            have z := congrArg (fun l : List Tb => (l.map fun t => t.rs.length).sum) (List.take_append_drop i Tn)
            simp only [List.map_append, List.sum_append] at z
            have := O'.few
            omega
          refine ⟨g, D4, zs, bs, rfl, rfl, g13, e7, Nat.le_of_lt (small1000 (by omega)), ?_⟩
          have tk : rowsU (Tn.take (i + 1)) = rowsU (Tn.take i) ++ rowsT t t.rs.length := by
            rw [List.take_add_one, ht]
            unfold rowsU
            rw [List.flatMap_append]
            simp
          refine ⟨_, rfl, B', zs ++ bs, same_tr c1 e1, e3, e4, (c4.grow (same_tr s12 e6)).put bg rg g13, swrite e5 e4, upd_same, ?_⟩
          rw [tk, List.map_append]
          exact dps_app (dpsm e1 _ _ c7) e8
      · rintro σ H11 ⟨y7, rfl, Bi, zs, c1, c2, c3, c4, c5, c6, c7⟩
        rw [List.length_map, ← nTn, List.take_length] at c7
        have L11 := c4
        have g11 := c6
        have d11 := dpsm c5 _ _ c7
        have lt11 := c5 _ _ (c1 _ _ lt9)
        have S11 := S9.mono (same_tr c1 c5)
        have UB12 : Same B9 (bs H11 r) := L11.up
        have g12 : (bs H11 r) g = some (.lst zs) := bs_of g11 rg.symm fun ps z => by cases z
        have d12 : DpAll K (bs H11 r) zs ((rowsU Tn).map RowP.d) := dpst (ST.bs L11.rs.ok) _ _ (noLs_map noL_row _) d11
        have lt12 : (bs H11 r) lt = some (.lst (names.map V.str)) := bs_of lt11 rlt.symm fun ps z => by cases z
        have S12 := S11.re L11.rs.ok
        have L12 := L11.re
        have UBB := same_tr UB UB12
        generalize bs H11 r = B12 at UB12 g12 d12 lt12 S12 L12 UBB
        have same : ∀ y, y ∈ rowsU Tn ↔ y ∈ rowsS Tn := rows_same (List.Perm.refl _) (List.Perm.refl _)
        have okE : ∀ y ∈ rowsU Tn, OkRow y ∧ (y.v.length : Int) = ax ∧ y.w ∈ names ∧ y.o ∈ names := fun y hy => by
          obtain ⟨h1, h2, h3⟩ := row_ok (List.Perm.refl _) O' (fun t ht => okN _ (by rw [← nm']; exact List.mem_map.mpr ⟨t, ht, rfl⟩)) hy
          obtain ⟨t, ht, e1, rd, e2, e3, _⟩ := mem_rowsU.mp hy
          rw [nm'] at h3
          refine ⟨h1, h2, h3, ?_⟩
          rw [e3, ← nm']
          exact O'.here t ht rd (List.mem_of_getElem? e2)
        clear c1 c2 c3 c4 c5 c6 c7 d11 lt11 g11 S11 L10 g10 hg bg L11 S9 lt9 UB12 UB L9
        generalize rowsU Tn = E at fewE d12 same okE
        have z13 : 12 * 13 ^ 5 ≤ 10000000 := by decide
        -- the closed walks
        refine ⟨_, rfl, g, E, names, rfl, ⟨zs, L12.rs.s _ _ g12, dpsm L12.rs.s _ _ d12⟩, fun y hy => ⟨(okE y hy).1, (okE y hy).2.2.1⟩, fewE, nl6, fun pc H13 cs s13 hp13 hcs hclen => ?_⟩
        have L13 := L12.grow s13
        obtain ⟨cv, hc13, hcd⟩ := hp13
        refine ⟨pc, rfl, ⟨_, Or.inl (Or.inl hc13)⟩, fun D hD => lc_fd (K := K) (fun _ => True) cs wkD wkD (fun u => decide (∃ k, k < ax.toNat ∧ asum k u < 0)) (Or.inl (Or.inl hc13)) same_refl True.intro hcd (Nat.le_trans hclen z13) hD (fun v u B1 H14 hu1 t1 t2 _ t4 t5 _ dv R N hR hN => ⟨rfl, ?_⟩) ?_⟩
        · obtain ⟨b, ys, rfl, hb, hy⟩ := dlst (id dv)
          obtain ⟨_, c2, c3, _⟩ := (hcs u).mp hu1
          have ul : u.length ≤ 6 := by
            have z := length_le_of_nodup_of_subset (u.map (·.w)) names c3 fun x hx => by
              obtain ⟨y, hy, rfl⟩ := List.mem_map.mp hx
              exact (okE y (c2 y hy)).2.2.1
            rw [List.length_map] at z
            omega
          refine ⟨_, rfl, _, rfl, b, ax, u, ys, rfl, sql t4 hb, dpsm t4 _ _ hy, ha1, ha3, fun y hy => (okE y (c2 y hy)).2.1, by omega, fun p H15 s15 hp15 => ⟨p, vsum ax u, rfl, Or.inl (Or.inl hp15), by unfold vsum; rw [List.length_map, List.length_range]; omega, fun n n1 n2 => ⟨_, _, rfl, rfl, _, rfl, ?_⟩⟩⟩
          have mn := min_neg (d := ax) (w := u) n1 n2
          by_cases z : n < 0
          · rw [decide_eq_true z]
            exact iteT ⟨_, rfl, hR (decide_eq_true (mn.mp z)) _ _ B1 s15 same_refl t2 True.intro (same_tr t4 s15) dv⟩
          · rw [decide_eq_false z]
            exact iteF (hN (decide_eq_false fun h => z (mn.mpr h)) _ s15)
        intro H14 B1 bs' t1 t2 _ t4 t5 e9 d9
        refine ⟨Nat.zero_le _, fun p1 hp1 => ?_⟩
        have n1 := snew (o := .lst []) hp1
        refine ⟨_, _, .lst (Or.inl (Or.inl (n1 _ _ e9))) (dpsm (same_tr t4 n1) _ _ d9), .lst (Or.inl (Or.inl upd_same)) .nil, wks_shaped (fun y hy => (okE y hy).1) (fun u hu1 => ((hcs u).mp (List.mem_filter.mp hu1).1).2.1), shaped_list (fun d hd => by cases hd), _, rfl, ?_⟩
        rw [eqv_nil]
        have ff := free_iff (F := rowsS Tn) (d := ax) hcs same
        have L15 := L13.grow (same_tr t5 n1)
        generalize ((cs.filter fun u => decide (∃ k, k < ax.toNat ∧ asum k u < 0)).map wkD).isEmpty = fb at ff ⊢
        generalize upd H14 p1 (.lst []) = H15 at L15 ⊢
        clear t1 t2 t4 t5 e9 d9 hp1 n1 hcd hc13 hcs hclen L13 s13 hD L12
        refine (fun (rest : ∀ (due : V) (z7 z11 : Option V) (Bx H' : Hp), LS TT r (m + 2200) B12 H' → Same B12 Bx → Bx r = none → Same Bx H' → Due Bx (rowsS Tn) ax names due → (?G2 : V → Option V → Option V → Hp → Prop) due z7 z11 H') => ?use2) ?prf2
        case use2 =>
          by_cases hfb : fb = true
          · have free := ff.mp hfb
            rw [hfb]
            refine iteT ?_
            have sBH := L15.rs.s
            have okE3 : ∀ r ∈ E, OkRow r ∧ r.o ∈ names ∧ (r.v.length : Int) = ax := fun y hy => ⟨(okE y hy).1, (okE y hy).2.2.2, (okE y hy).2.1⟩
            have NNE : ∀ c, c < ax.toNat → NoNeg E c := fun c hc w h1 h2 => free_noNeg free hc w h1 fun r hr => (same r).mp (h2 r hr)
            refine ⟨_, rfl, ax, rfl, by omega, by omega, fun D5 hD5 => lc_it walk_range (fun c H' => ∃ (B : Hp) (ps : List V) (fs : List (Str → Int)), Same B12 B ∧ B D5 = none ∧ B r = none ∧ Same B H' ∧ Same H15 H' ∧ H' D5 = some (.lst ps) ∧ Paired (LowP B names) ps fs ∧ fs.length = c ∧ ∀ (j : Nat) (f : Str → Int), fs[j]? = some f → ∀ x ∈ names, Least E j x (f x))
              ⟨B12, [], [], same_refl, free_of sBH hD5, L15.rs.n, same_tr sBH (snew hD5), snew hD5, upd_same, .nil, rfl, fun j f h => by simp at h⟩ (fun _ _ _ _ => True.intro) ?_ ?_⟩
            · rintro c y _ H16 hc ⟨B, ps, fs, e1, e2, e3, e4, e5, e6, e7, e8, e9⟩ ⟨rfl, rfl⟩
              have s12H := same_tr e1 e4
              refine ⟨rfl, yes_if ?_⟩
              refine ⟨_, rfl, _, rfl, _, rfl, g, lt, c, ax, E, names, by show [V.ref g, V.ref lt, V.int (0 + (c : Int))] = _; rw [Int.zero_add], ⟨zs, s12H _ _ g12, dpsm s12H _ _ d12⟩, s12H _ _ lt12, nd, nl6, fewE, okE3, okN, by omega, ha3, NNE c hc, fun p H17 kvs f s17 hp hp17 hlo hle => ?_⟩
              have e4' := same_tr e4 s17
              obtain ⟨u1, u2⟩ := base_add e4' hp17
              have e6' := s17 _ _ e6
              have nDp : D5 ≠ p := fun z => by rw [z, hp17] at e6'; cases e6'
              have rp : r ≠ p := fun z => by
                obtain ⟨o, ho⟩ := L15.rs.ok.some
                rw [z] at ho
                rw [e5 _ _ ho] at hp
                cases hp
              have bD : (upd B p (.dK kvs)) D5 = none := by rw [upd_ne nDp]; exact e2
              have pl : ps.length = fs.length := Paired.length e7
              refine ⟨ps, e6', small1000 (by omega), upd B p (.dK kvs), ps ++ [.ref p], fs ++ [f], same_tr e1 u1, bD, by rw [upd_ne rp]; exact e3, swrite u2 bD, swrite (same_tr e5 s17) hD5, upd_same, paired_put ⟨p, kvs, rfl, upd_same, hlo⟩ (paired_imp (LowP.mono u1) e7), by rw [List.length_append, e8]; rfl, fun j f' hj x hx => ?_⟩
              by_cases hjl : j < fs.length
              · rw [List.getElem?_append_left hjl] at hj
                exact e9 j f' hj x hx
              · have : j = fs.length := by
                  have := (List.getElem?_eq_some_iff.mp hj).1
                  rw [List.length_append, List.length_singleton] at this
                  omega
                rw [this, List.getElem?_append_right (Nat.le_refl _), Nat.sub_self] at hj
                cases hj
                rw [this, e8]
                exact hle x hx
            · rintro H16 ⟨B, ps, fs, e1, e2, e3, e4, e5, e6, e7, e8, e9⟩
              have rD5 : r ≠ D5 := L15.rs.ne hD5
              have L16 := L15.grow e5
              obtain ⟨u1, u2⟩ := base_add e4 e6
              have B16r : (upd B D5 (.lst ps)) r = none := by rw [upd_ne rD5]; exact e3
              have BD : (upd B D5 (.lst ps)) D5 = some (.lst ps) := upd_same
              have e7 := paired_imp (LowP.mono u1) e7
              have s12B := same_tr e1 u1
              generalize upd B D5 (.lst ps) = B16 at u2 B16r BD e7 s12B
              clear e1 e2 e3 e4 e5 e6 u1 hD5 sBH
              refine fun p6 hp6 => ⟨_, _, rfl, ?_⟩
              have rp6 := L16.rs.ne hp6
              have bp6 := free_of u2 hp6
              have L17 := L16.new (o := .dK []) hp6
              have s17 := same_tr u2 (snew (o := .dK []) hp6)
              have P17 : (upd H16 p6 (.dK [])) p6 = some (.dK []) := upd_same
              generalize upd H16 p6 (.dK []) = H17 at L17 s17 P17 ⊢
              refine ⟨_, rfl, lt, rfl, ⟨_, Or.inl (Or.inl (L17.rs.s _ _ lt12))⟩, for_it (walk_list (K := K) (a := lt) (xs := names.map V.str)) (fun i σ H' => ∃ (y7 : Option V), σ = [some (.ref r), some (.int ax), some (.ref lp), some (.ref x'), some (.ref lt), none, some (.ref g), y7, none, none, some (.ref p6), some (.ref D5), none, none, none, none] ∧ ∃ (Bz : Hp) (kvs : List (Key × V)), Same B16 Bz ∧ Bz p6 = none ∧ Bz r = none ∧ LS TT r (m + 2200) B12 H' ∧ Same Bz H' ∧ H' p6 = some (.dK kvs) ∧ GsAt Bz kvs (names.take i) (fun x => fs.map fun f => f x))
                ⟨y7, rfl, B16, [], same_refl, bp6, B16r, L17, s17, P17, rfl, fun x hx => by simp at hx⟩ (fun i σ H' _ ⟨_, _, Bz, _, c1, _, _, _, c5, _⟩ => Or.inl (Or.inl (c5 _ _ (c1 _ _ (s12B _ _ lt12))))) ?_ ?_⟩
              · rintro i y σ _ H18 hi ⟨y7, rfl, Bz, kvs, c1, c2, c3, c4, c5, c6, c7⟩ ⟨rfl, hy⟩
                rw [List.getElem?_map] at hy
                obtain ⟨x, hx, rfl⟩ := Option.map_eq_some_iff.mp hy
                have xm := List.mem_of_getElem? hx
                have D18 := c5 _ _ (c1 _ _ BD)
                have pl : ps.length = fs.length := Paired.length e7
                refine ⟨_, rfl, D5, rfl, ⟨_, Or.inl (Or.inl D18)⟩, fun D7 hD7 => lc_it (walk_list (K := K) (a := D5) (xs := ps)) (fun j H' => H' D7 = some (.lst (((fs.take j).map fun f => f x).map V.int)) ∧ Same H18 H') ⟨upd_same, snew hD7⟩ (fun j H' _ ⟨_, s⟩ => Or.inl (Or.inl (s _ _ D18))) ?_ ?_⟩
                · rintro j y _ H19 hj ⟨f1, f2⟩ ⟨rfl, hy⟩
                  obtain ⟨f, hf, p, kv, rfl, hp, hlo⟩ := paired_at e7 hy
                  have hp19 := f2 _ _ (c5 _ _ (c1 _ _ hp))
                  have gt : DGet H19 p (.str x) (some (.int (f x))) := by
                    have z := DGet.k (k := Sum.inr x) hp19
                    rw [hlo.2 x xm] at z
                    exact z
                  refine ⟨rfl, yes_if ⟨_, rfl, _, rfl, p, _, rfl, gt, _, f1, small1000 (by rw [List.length_map, List.length_map, List.length_take]; omega), ?_, swrite f2 hD7⟩⟩
                  rw [upd_same, List.take_add_one, hf, List.map_append, List.map_append]
                  rfl
                · rintro H19 ⟨f1, f2⟩
                  rw [pl, List.take_length] at f1
                  refine ⟨D7, _, rfl, Or.inl ⟨Or.inl (Or.inl f1), fun u hu1 => ?_⟩⟩
                  have s20 := same_tr f2 (snew (o := .tup ((fs.map fun f => f x).map V.int)) hu1)
                  have u20 : (upd H19 u (.tup ((fs.map fun f => f x).map V.int))) u = some (.tup ((fs.map fun f => f x).map V.int)) := upd_same
                  have c6' := s20 _ _ c6
                  have c5' := same_tr c5 s20
                  generalize upd H19 u (.tup ((fs.map fun f => f x).map V.int)) = H20 at s20 u20 c6' c5' ⊢
                  have kl : kvs.length = (names.take i).length := by
                    have z := congrArg List.length c7.1
                    rw [List.length_map, List.length_map] at z
                    exact z
                  have npu : p6 ≠ u := fun z => by rw [z, u20] at c6'; cases c6'
                  have nru : r ≠ u := fun z => by
                    obtain ⟨o, ho⟩ := c4.rs.ok.some
                    rw [z] at ho
                    have := f2 _ _ ho
                    rw [hu1] at this
                    cases this
                  obtain ⟨w1, w2⟩ := base_add c5' u20
                  have bp : (upd Bz u (.tup ((fs.map fun f => f x).map V.int))) p6 = none := by rw [upd_ne npu]; exact c2
                  refine ⟨_, rfl, _, rfl, p6, _, rfl, DPut.k (k := Sum.inr x) c6' (small1000 (by rw [kl, List.length_take]; omega)), ?_⟩
                  have L21 : LS TT r (m + 2200) B12 (upd H20 p6 (.dK (putK kvs (Sum.inr x) (.ref u)))) := by
                    have L20 := c4.grow s20
                    have bp12 : B12 p6 = none := by
                      cases e : B12 p6 with
                      | none => rfl
                      | some o =>
                        have z := c1 _ _ (s12B _ _ e)
                        rw [c2] at z
                        cases z
                    exact ⟨L20.rs.put bp12 rp6, tabs_upd L20.tb c6' (fun ps z => by cases z) (fun c q z => by unfold LamX.CodeO at z; cases z), L20.nt⟩
                  refine ⟨_, rfl, _, _, same_tr c1 w1, bp, by rw [upd_ne nru]; exact c3, L21, swrite w2 bp, upd_same, ?_⟩
                  rw [List.take_add_one, hx]
                  exact GsAt.add (c7.mono w1) (notin_takeG nd hx) upd_same
              · rintro σ H18 ⟨y7, rfl, Bz, kvs, c1, c2, c3, c4, c5, c6, c7⟩
                rw [List.length_map, List.take_length] at c7
                have hdue : Due (upd Bz p6 (.dK kvs)) (rowsS Tn) ax names (.ref p6) := by
                  refine .inr ⟨p6, kvs, _, rfl, upd_same, c7.mono (snew c2), fun x hx => ⟨by rw [List.length_map, e8], fun c hc => ?_⟩, free⟩
                  have hcl : c < fs.length := by rw [e8]; exact hc
                  have z := e9 c fs[c] (List.getElem?_eq_getElem hcl) x hx
                  rw [List.getD_eq_getElem?_getD, List.getElem?_map, List.getElem?_eq_getElem hcl]
                  exact z.same same
                obtain ⟨u1, u2⟩ := base_add c5 c6
                have br : (upd Bz p6 (.dK kvs)) r = none := by rw [upd_ne rp6]; exact c3
                have s12x := same_tr s12B (same_tr c1 u1)
                generalize upd Bz p6 (.dK kvs) = Bx at hdue u2 br s12x
                generalize V.ref p6 = due at hdue ⊢
                generalize some (V.ref D5) = z11
                exact rest due y7 z11 Bx H18 c4 s12x br u2 hdue
          · have nfree : ¬ Free (rowsS Tn) ax := fun z => hfb (ff.mpr z)
            rw [show fb = false by simpa using hfb]
            refine iteF ?_
            exact rest .non y7 none B12 H15 L15 same_refl L15.rs.n L15.rs.s (.inl ⟨rfl, nfree⟩)
        case prf2 =>
          intro due z7 z11 Bx H16 L16 s16 bxr sx16 hdue
          have Sx := S12.mono s16
          have lTn : Tn.length ≤ 60 := by rw [nTn]; omega
          refine ⟨2, rfl, by decide, by decide, ?_⟩
          refine for_range (fun i σ H' => ∃ (y14 y15 : Option V), σ = [some (.ref r), some (.int ax), some (.ref lp), some (.ref x'), some (.ref lt), none, some (.ref g), z7, none, none, some due, z11, none, none, y14, y15] ∧ LS TT r (m + 2200) B12 H' ∧ Same Bx H')
            ⟨none, none, rfl, L16, sx16⟩ ?_ ?_
          · rintro i σ H17 hi ⟨y14, y15, rfl, L17, s17⟩
            have S17 := Sx.mono s17
            refine ⟨_, rfl, x', ax, 97, Tn, rfl, S17, ha1, ha3, O', lTn, fun H18 s18 nf => ?_, fun p H18 kvs G s18 hp hp18 hg hle hf => ?_⟩
            · rcases hdue with ⟨rfl, _⟩ | ⟨_, _, _, _, _, _, _, fr⟩
              · refine ⟨_, rfl, _, rfl, Or.inl ⟨rfl, _, rfl, iteF ?_⟩⟩
                refine ⟨_, rfl, x', ax, 97, Tn, rfl, S17.mono s18, ha1, ha3, O', lTn, fun H19 s19 _ => ?_, fun _ _ _ _ _ _ _ _ _ hf => absurd hf nf⟩
                refine ⟨_, rfl, Or.inl ⟨rfl, _, rfl, iteF ?_⟩⟩
                refine ⟨_, rfl, rfl, _, rfl, iteF ?_⟩
                have s1719 := same_tr s18 s19
                exact ⟨_, _, rfl, L17.grow s1719, same_tr s17 s1719⟩
              · exact absurd fr nf
            · rcases hdue with ⟨_, nf⟩ | ⟨pd, kd, Gd, rfl, hpd, hgd, hld, fr⟩
              · exact absurd hf nf
              · rw [nm'] at hg hle
                have eqG : ∀ x ∈ names, G x = Gd x := fun x hx => ext_at (hle x hx).1 (hld x hx).1 fun c hc => ((hle x hx).2 c hc).one ((hld x hx).2 c hc)
                have sx18 := same_tr s17 s18
                obtain ⟨e1, e2⟩ := gs_eq (K := K) nd (List.Perm.refl _) hg (hgd.mono sx18) eqG
                refine ⟨_, rfl, _, rfl, Or.inr ⟨p, pd, kvs, kd, true, rfl, rfl, hp18, sx18 _ _ hpd, fun _ => e2, _, rfl, ?_⟩⟩
                rw [show (!(kvs.length == kd.length && true)) = false by rw [e1]; simp]
                refine iteF ?_
                refine ⟨_, rfl, x', ax, 97, Tn, rfl, S17.mono s18, ha1, ha3, O', lTn, fun _ _ nf => absurd hf nf, fun p2 H19 kvs2 G2 s19 hp2 hp19 hg2 hle2 _ => ?_⟩
                rw [nm'] at hg2 hle2
                have eqG2 : ∀ x ∈ names, G2 x = Gd x := fun x hx => ext_at (hle2 x hx).1 (hld x hx).1 fun c hc => ((hle2 x hx).2 c hc).one ((hld x hx).2 c hc)
                have sx19 := same_tr sx18 s19
                obtain ⟨e3, e4⟩ := gs_eq (K := K) nd (List.Perm.refl _) hg2 (hgd.mono sx19) eqG2
                refine ⟨_, rfl, Or.inr ⟨p2, pd, kvs2, kd, true, rfl, rfl, hp19, sx19 _ _ hpd, fun _ => e4, _, rfl, ?_⟩⟩
                rw [show (!(kvs2.length == kd.length && true)) = false by rw [e3]; simp]
                refine iteF ?_
                refine ⟨_, rfl, rfl, _, rfl, iteT ?_⟩
                have L19 := L17.grow (same_tr s18 s19)
                have P19 := s19 _ _ hp18
                have bxp : Bx p = none := free_of s17 hp
                have rp : r ≠ p := L17.rs.ne hp
                have bp12 : B12 p = none := free_of s16 bxp
                have L20 : LS TT r (m + 2200) B12 (upd H19 p (.dK [])) := ⟨L19.rs.put bp12 rp, tabs_upd L19.tb P19 (fun ps z => by cases z) (fun c q z => by unfold LamX.CodeO at z; cases z), L19.nt⟩
                refine ⟨_, rfl, Or.inr (Or.inr (Or.inl ⟨rfl, Or.inl ⟨_, P19⟩⟩)), p, kvs, rfl, rfl, P19, ?_⟩
                exact ⟨_, _, rfl, L20, swrite sx19 bxp⟩
          · rintro σ H17 ⟨y14, y15, rfl, L17, s17⟩
            exact q _ ((L17.sub UBB).mono (by omega))
end
end Fr

namespace Fr
open PySem PySem.Spec PyProof.Rows L2
abbrev sI : String := "str_ascii_iterator"
abbrev zs1 (h : Heap) (x : Str) (t : Tok) : Heap := h.push { cls := .type sI, data := .fields #[.str x t, .int 0 0] }
abbrev zs2 (h : Heap) (x : Str) (t : Tok) (y : Str) (u : Tok) : Heap := (zs1 h x t).push { cls := .type sI, data := .fields #[.str y u, .int 0 0] }
abbrev zs3 (h : Heap) (x : Str) (t : Tok) (y : Str) (u : Tok) : Heap := (zs2 h x t y u).push { cls := .type "tuple", data := .seq #[.ref h.objs.size, .ref (zs1 h x t).objs.size] }
abbrev zs4 (h : Heap) (x : Str) (t : Tok) (y : Str) (u : Tok) : Heap := (zs3 h x t y u).push { cls := .type "tuple", data := .seq #[.none, .none] }
abbrev zs5 (h : Heap) (x : Str) (t : Tok) (y : Str) (u : Tok) : Heap := (zs4 h x t y u).push { cls := .type "zip", data := .fields #[.none, .bool false, .bool false, .ref (zs2 h x t y u).objs.size, .ref (zs3 h x t y u).objs.size] }
theorem meets_zipS (x : Str) (t : Tok) (y : Str) (u : Tok) (ha : x.cps.all (· < 128) = true) (hb : y.cps.all (· < 128) = true) :
    Meets (Builtin.«zip.__new__» ⟨[.type "zip", .str x t, .str y u], []⟩) (fun _ R s => R (.ok (.ret (.ref (zs4 s.heap x t y u).objs.size))) { s with heap := zs5 s.heap x t y u }) :=
  .of_wp fun prog w A R s h => by
    obtain ⟨hp, g, d, tk, os⟩ := s
    have hsub := PySem.sub_zip
    wp_walk using wpAny_pyIter_ascii ha, wpAny_pyIter_ascii hb
    exact ⟨_, rfl, h⟩
section
variable {prog : Program} {w : World} {A : Around} {E : Value → Shared → Prop} {s : Shared}
theorem call_zipS {x y : Str} {t u : Tok} {Q : Value → Shared → Prop} (ha : x.cps.all (· < 128) = true) (hb : y.cps.all (· < 128) = true)
    (h : ∀ h', IsZip h' (s.heap.objs.size + 4) (s.heap.objs.size + 2) (s.heap.objs.size + 3) .none → IsPair h' (s.heap.objs.size + 2) (.ref s.heap.objs.size) (.ref (s.heap.objs.size + 1)) →
      IsPair h' (s.heap.objs.size + 3) .none .none → h'.IsStrIter s.heap.objs.size sI x t 0 → h'.IsStrIter (s.heap.objs.size + 1) sI y u 0 → h'.objs.size = s.heap.objs.size + 5 →
      (∀ c o, s.heap.get? c = some o → h'.get? c = some o) → Q (.ref (s.heap.objs.size + 4)) { s with heap := h' }) :
    wpAny (model prog w) A (call (.type "zip") [.str x t, .str y u]) Q E s := by
  refine callType_new PySem.F.called_zip (by decide) (PySem.F.typeCall_zip_2 _ _) (PySem.F.newCall_zip_2 _ _) (fun obj => PySem.F.args_object_init_3 obj _ _) PySem.F.entry_zip_new (meets_zipS x t y u ha hb) ?_
  have z1 : (zs1 s.heap x t).objs.size = s.heap.objs.size + 1 := Heap.size_push ..
  have z2 : (zs2 s.heap x t y u).objs.size = s.heap.objs.size + 2 := by rw [Heap.size_push, z1]
  have z3 : (zs3 s.heap x t y u).objs.size = s.heap.objs.size + 3 := by rw [Heap.size_push, z2]
  have z4 : (zs4 s.heap x t y u).objs.size = s.heap.objs.size + 4 := by rw [Heap.size_push, z3]
  have z5 : (zs5 s.heap x t y u).objs.size = s.heap.objs.size + 5 := by rw [Heap.size_push, z4]
  have g5 : (zs5 s.heap x t y u).get? (zs4 s.heap x t y u).objs.size = some _ := Heap.get?_push_size _ rfl
  have g4 : (zs5 s.heap x t y u).get? (zs3 s.heap x t y u).objs.size = some _ := Heap.get?_push_of_some _ (Heap.get?_push_size _ rfl)
  have g3 : (zs5 s.heap x t y u).get? (zs2 s.heap x t y u).objs.size = some _ := Heap.get?_push_of_some _ (Heap.get?_push_of_some _ (Heap.get?_push_size _ rfl))
  have g2 : (zs5 s.heap x t y u).get? (zs1 s.heap x t).objs.size = some _ := Heap.get?_push_of_some _ (Heap.get?_push_of_some _ (Heap.get?_push_of_some _ (Heap.get?_push_size _ rfl)))
  have g1 : (zs5 s.heap x t y u).get? s.heap.objs.size = some _ := Heap.get?_push_of_some _ (Heap.get?_push_of_some _ (Heap.get?_push_of_some _ (Heap.get?_push_of_some _ (Heap.get?_push_size _ rfl))))
  show _ ∧ _
  rw [z2, z3, z4] at g5
  rw [z1, z2] at g3
  rw [z3] at g4
  rw [z1] at g2
  rw [z4]
  exact ⟨⟨_, g5, rfl⟩, h _ g5 g3 g4 ⟨_, g1, rfl, rfl⟩ ⟨_, g2, rfl, rfl⟩ z5 fun c o x =>
    Heap.get?_push_of_some _ (Heap.get?_push_of_some _ (Heap.get?_push_of_some _ (Heap.get?_push_of_some _ (Heap.get?_push_of_some _ x))))⟩
end
/-- the signs of two texts, in new pairs -/
def ItzS (x y : Str) : It :=
  ⟨fun i _ => i < min x.cps.size y.cps.size, fun i H v H' => ∃ T c d, v = .ref T ∧ H T = none ∧ H' = upd H T (.tup [.str ⟨#[c]⟩, .str ⟨#[d]⟩]) ∧ x.cps[i]? = some c ∧ y.cps[i]? = some d, fun i _ => i = min x.cps.size y.cps.size⟩
theorem nds (n i j : Nat) (h : i ≠ j) : ((n + i : Nat) : Addr) ≠ ((n + j : Nat) : Addr) := fun e => h (Nat.add_left_cancel e)
theorem sep_s (n : Nat) : ZipSep2 (n + 4) (n + 2) (n + 3) n (n + 1) [n] [n + 1] := by
  have a : ∀ j, j ≠ 0 → (n + j : Nat) ≠ n := fun j h => by omega
  refine ⟨nds n 2 4 (by decide), nds n 3 4 (by decide), nds n 2 3 (by decide), a 2 (by decide), by simp, ?_, ?_, nds n 2 1 (by decide), by simp, ?_, ?_, ?_, ?_⟩
  · simpa using a 4 (by decide)
  · simpa using a 3 (by decide)
  · simpa using nds n 4 1 (by decide)
  · simpa using nds n 3 1 (by decide)
  · simpa using (a 1 (by decide)).symm
  · simpa using a 1 (by decide)
theorem turn_zipS {P : Program} {w : World} {K : PySem.W.Frag} {elts : List Expr} {kk : Nat} {tpos : Pos} {x y : Str} {t u : Tok} {z TI TO i1 i2 : Addr} (D : ZipSep2 z TI TO i1 i2 [i1] [i2]) :
    Turn P w K (.Tuple elts kk tpos) (ItzS x y) [z, TI, TO, i1, i2] z (fun i h => IsZip h z TI TO .none ∧ IsPair h TI (.ref i1) (.ref i2) ∧ (∃ x y, IsPair h TO x y) ∧ h.IsStrIter i1 sI x t i ∧ h.IsStrIter i2 sI y u i) where
  mem := by simp
  obj := fun i h st c hc => by
    obtain ⟨hz, hTI, ⟨x, y, hTO⟩, ⟨o1, e1, _, d1⟩, ⟨o2, e2, _, d2⟩⟩ := st
    have e' : c = z ∨ c = TI ∨ c = TO ∨ c = i1 ∨ c = i2 := by simpa using hc
    rcases e' with q | q | q | q | q
    · rw [q]; exact ⟨_, hz, fun v q => nomatch q⟩
    · rw [q]; exact ⟨_, hTI, fun v q => nomatch q⟩
    · rw [q]; exact ⟨_, hTO, fun v q => nomatch q⟩
    · rw [q]; exact ⟨o1, e1, fun v q => by rw [d1] at q; cases q⟩
    · rw [q]; exact ⟨o2, e2, fun v q => by rw [d2] at q; cases q⟩
  keep := fun i h h' st k => by
    obtain ⟨hz, hTI, ⟨x, y, hTO⟩, ⟨o1, e1, r1⟩, ⟨o2, e2, r2⟩⟩ := st
    exact ⟨k z (by simp) _ hz, k TI (by simp) _ hTI, ⟨x, y, k TO (by simp) _ hTO⟩, ⟨o1, k i1 (by simp) _ e1, r1⟩, ⟨o2, k i2 (by simp) _ e2, r2⟩⟩
  item := by
    intro X hP hw hK hc i pins s σ H E I hf st hg
    subst hP hw hK
    obtain ⟨hz, hTI, ⟨x0, y0, hTO⟩, h1, h2⟩ := st
    have hg : i < min x.cps.size y.cps.size := hg
    have hzl : z < s.heap.objs.size := Heap.lt_size hz
    have D1 := Draws.strAscii (prog := X.prog) (w := X.w) (A := X.A.in1) (I.ok.hd hc) i1 x t
    have D2 := Draws.strAscii (prog := X.prog) (w := X.w) (A := X.A.in1) (I.ok.hd hc) i2 y u
    refine wpAny_pyNext_zipD2_item D D1 D2 hz hTI hTO h1 h2 (by omega) (by omega) fun a b h' tk ⟨c, u1, hc1, ea⟩ ⟨d, u2, hd1, eb⟩ z' TO' h1' h2' hT hsz hk => ?_
    subst ea
    subst eb
    refine ⟨_, rfl, wpAny_letOwnedTupleGo_zip (s := { s with heap := h', toks := tk }) z' fun h'' z'' sb => ?_⟩
    have hT2 : h''.get? s.heap.objs.size = some { cls := .type "tuple", data := .seq #[.str ⟨#[c]⟩ u1, .str ⟨#[d]⟩ u2] } := (sb.2 _ (Nat.ne_of_gt hzl)).trans hT
    have new : ObjOk X.prog X.w (upd H s.heap.objs.size (.tup [.str ⟨#[c]⟩, .str ⟨#[d]⟩])) h'' s.heap.objs.size (.tup [.str ⟨#[c]⟩, .str ⟨#[d]⟩]) :=
      ⟨by show 2 ≤ sizeLine; decide, [.str ⟨#[c]⟩ u1, .str ⟨#[d]⟩ u2], .cons ⟨u1, rfl⟩ (.cons ⟨u2, rfl⟩ .nil), ⟨_, hT2, rfl, _, rfl⟩⟩
    have I1 : Inv X pins σ (upd H s.heap.objs.size (.tup [.str ⟨#[c]⟩, .str ⟨#[d]⟩])) { s with heap := h'', toks := tk } :=
      I.turnedNew (t' := tk) (ch := [z, TI, TO, i1, i2]) (fun c o hb q => (sb.2 c (fun q' => hb (by simp [q']))).trans (hk c o (fun q' => hb (by simp [q'])) (fun q' => hb (by simp [q'])) (fun q' => hb (by simp [q'])) (fun q' => hb (by simp [q'])) q)) hf (Nat.le_refl _) new
    have n1 : z ≠ i1 := D.zi1
    have n2 : z ≠ i2 := D.zi2
    refine ⟨.ref s.heap.objs.size, _, I1, rfl, ⟨_, c, d, rfl, I.hok.fresh (Nat.le_refl _), rfl, hc1, hd1⟩, ⟨z'', ?_, ⟨.str ⟨#[c]⟩ u1, .str ⟨#[d]⟩ u2, ?_⟩, ?_, ?_⟩, fun c hcm => ?_⟩
    · exact (sb.2 _ D.TIz).trans (hk _ _ D.TIz D.TITO D.TIi1 D.TIi2 hTI)
    · exact (sb.2 _ D.TOz).trans TO'
    · obtain ⟨o1, e1, r1⟩ := h1'
      exact ⟨o1, (sb.2 _ n1.symm).trans e1, r1⟩
    · obtain ⟨o2, e2, r2⟩ := h2'
      exact ⟨o2, (sb.2 _ n2.symm).trans e2, r2⟩
    · have hlt : c < s.heap.objs.size := by
        have e' : c = z ∨ c = TI ∨ c = TO ∨ c = i1 ∨ c = i2 := by simpa using hcm
        rcases e' with q | q | q | q | q
        · rw [q]; exact hzl
        · rw [q]; exact Heap.lt_size hTI
        · rw [q]; exact Heap.lt_size hTO
        · rw [q]; obtain ⟨_, e1, _⟩ := h1; exact Heap.lt_size e1
        · rw [q]; obtain ⟨_, e2, _⟩ := h2; exact Heap.lt_size e2
      rw [upd_ne (Nat.ne_of_lt hlt)]
      exact (hf c hcm).1
  done := by
    intro X hP hw hK hc i pins s σ H E I hf st hg
    subst hP hw hK
    obtain ⟨hz, hTI, ⟨x0, y0, hTO⟩, h1, h2⟩ := st
    have hg : i = min x.cps.size y.cps.size := hg
    have D1 := Draws.strAscii (prog := X.prog) (w := X.w) (A := X.A.in1) (I.ok.hd hc) i1 x t
    have D2 := Draws.strAscii (prog := X.prog) (w := X.w) (A := X.A.in1) (I.ok.hd hc) i2 y u
    exact wpAny_pyNext_zipD2_end D D1 D2 hz hTI hTO h1 h2 (by omega) (by omega) (by omega) fun h' tk hk => ⟨rfl, I.turnedL (t' := tk) (ch := [z, TI, TO, i1, i2]) (fun c o hb q =>
      hk c o (fun q' => hb (by simp [q'])) (fun q' => hb (by simp [q'])) (fun q' => hb (by simp [q'])) (fun q' => hb (by simp [q'])) q) hf⟩
  self := fun A i s Q E st h => wpAny_pyIter_zip st.1 h
def iZipS (ta : TA) : TI := fun σ H R => ta σ H fun vs H1 => ∃ x y, vs = [.str x, .str y] ∧ x.cps.all (· < 128) = true ∧ y.cps.all (· < 128) = true ∧ R (ItzS x y) H1
theorem pi_zipS {X : Cx} {e e2 : Expr} {ta : TA} {p pos tpos : Pos} {elts : List Expr} {kk : Nat} (hg : Gl X "zip") (hm : X.mg "zip" = none) (ha : PA X [e, e2] ta)
    (hs : starEach [e, e2] X.env = (false, eval e X.env) :: starEach [e2] X.env := by rfl) (hpl : (backTo pos (starEach [e2] X.env)).any (·.1) = false := by rfl) :
    PI X (.Tuple elts kk tpos) (.Call (.Name "zip" p) [e, e2] [] pos) (iZipS ta) := by
  refine ⟨fun pins s σ H R I h => ?_⟩
  refine Call_ (ld_blt I hg hm PyProof.Rows.boot_zip (PyProof.Rows.callWith_type1 (thn (ha.run pos pins s σ H _ I h) fun us s1 ⟨vs, H1, I1, r1, q1⟩ => ?_) hs hpl))
  obtain ⟨x, y, ex, hx, hy, q⟩ := q1
  subst ex
  cases r1 with
  | cons r rr =>
    cases rr with
    | cons r' rr =>
      cases rr
      obtain ⟨t, rfl⟩ := r
      obtain ⟨u, rfl⟩ := r'
      have fresh5 : ∀ c, c ∈ [s1.heap.objs.size + 4, s1.heap.objs.size + 2, s1.heap.objs.size + 3, s1.heap.objs.size, s1.heap.objs.size + 1] → FpOk X pins H1 c := fun c hcm => by
        have e' : c = s1.heap.objs.size + 4 ∨ c = s1.heap.objs.size + 2 ∨ c = s1.heap.objs.size + 3 ∨ c = s1.heap.objs.size ∨ c = s1.heap.objs.size + 1 := by simpa using hcm
        have hle : s1.heap.objs.size ≤ c := by
          rcases e' with z | z | z | z | z
          · rw [z]; exact Nat.le_add_right _ _
          · rw [z]; exact Nat.le_add_right _ _
          · rw [z]; exact Nat.le_add_right _ _
          · rw [z]; exact Nat.le_refl _
          · rw [z]; exact Nat.le_add_right _ _
        exact I1.fpOk hle (I1.hok.fresh hle)
      refine call_zipS hx hy fun h' hz hTI hTO h1 h2 hsz hk => wpAny_pyIter_zip hz ?_
      have I2 : Inv X pins σ H1 { s1 with heap := h' } := I1.kept (t' := s1.toks) hk
      exact ⟨s1.heap.objs.size + 4, [s1.heap.objs.size + 4, s1.heap.objs.size + 2, s1.heap.objs.size + 3, s1.heap.objs.size, s1.heap.objs.size + 1], _, _, H1, rfl, I2, turn_zipS (sep_s s1.heap.objs.size), ⟨hz, hTI, ⟨_, _, hTO⟩, h1, h2⟩, fresh5, q⟩
theorem walk_zipS {x y : Str} {n : Nat} (hn : n = min x.cps.size y.cps.size) : Walk (ItzS x y) n (fun _ => True) (fun i H v H' => ∃ T c d, v = .ref T ∧ H T = none ∧ H' = upd H T (.tup [.str ⟨#[c]⟩, .str ⟨#[d]⟩]) ∧ x.cps[i]? = some c ∧ y.cps[i]? = some d) := by
  subst hn
  exact ⟨fun i _ hi q => hi, fun _ q => rfl, fun i H v H' _ q y => y⟩
end Fr

namespace Fr
open PySem PySem.Spec PyProof.Rows L2
abbrev s_law : Stmt := topS 45
theorem sc_law : FnScope ["_law_script", "_law_at", "_law_pool_here", "_law_turn", "_law_chain", "_law_less", "_law_six", "_law_one", "_law_two", "_law_due", "_law_title", "_law_told"] ["_law_script"] (defScope s_law) := ⟨rfl, rfl, rfl, by decide +kernel, rfl, by decide +kernel, by decide +kernel⟩
-- slots: 0 _law_script, 1 _law_at, 2 _law_pool_here, 3 _law_turn, 4 _law_chain, 5 _law_less, 6 _law_six, 7 _law_one, 8 _law_two, 9 _law_due, 10 _law_title, 11 _law_told
def chA : Tb := ⟨"a", 0, [⟨"b", [-3], 1⟩]⟩
def chB : Tb := ⟨"b", 1, [⟨"a", [4], 1⟩]⟩
def lsA : Tb := ⟨"a", 0, [⟨"a", [1, -1], 1⟩]⟩
def lsB : Tb := ⟨"b", 2, []⟩
def sx (x y : Str) (n : Int) : Tb := ⟨x, 0, [⟨y, [n], 1⟩]⟩
def sixT : List Tb := [sx "a" "b" 0, sx "b" "c" 0, sx "c" "d" 0, sx "d" "e" 0, sx "e" "f" (-3), ⟨"f", 0, []⟩]
theorem ok_of {d m : Int} {ts : List Tb} (h1 : 1 ≤ d) (h3 : d ≤ 3) (hm : 2 ≤ m) (l1 : 1 ≤ ts.length) (l6 : ts.length ≤ 6) (a : (ts.all fun t => isName t.n) = true) (b : (ts.map (·.n)).Nodup) (c : (ts.map fun t => t.rs.length).sum ≤ 12) (e : (ts.all fun t => t.rs.all fun r => isRead d r && decide (r.t ∈ ts.map (·.n))) = true) : OkSys d m ts := by
  refine ⟨h1, h3, hm, l1, l6, ⟨fun t ht => List.all_eq_true.mp a t ht, b, c, fun t ht r hr => ?_, fun t ht r hr => ?_⟩⟩
  · have z := List.all_eq_true.mp (List.all_eq_true.mp e t ht) r hr
    rw [Bool.and_eq_true] at z
    exact z.1
  · have z := List.all_eq_true.mp (List.all_eq_true.mp e t ht) r hr
    rw [Bool.and_eq_true] at z
    exact of_decide_eq_true z.2
theorem chain_ok : OkSys 1 1000003 [chA, chB] := ok_of (by decide) (by decide) (by decide) (by decide) (by decide) (by decide +kernel) (by decide +kernel) (by decide) (by decide +kernel)
theorem less_ok : OkSys 2 1000003 [lsA, lsB] := ok_of (by decide) (by decide) (by decide) (by decide) (by decide) (by decide +kernel) (by decide +kernel) (by decide) (by decide +kernel)
theorem six_ok : OkSys 1 1000003 sixT := ok_of (by decide) (by decide) (by decide) (by decide) (by decide) (by decide +kernel) (by decide +kernel) (by decide) (by decide +kernel)
/-- what a potential tells of walks -/
theorem pot_rows {ts us : List Tb} {pot : Str → Int} (p : us.Perm ts) (h : ∀ t ∈ ts, ∀ r ∈ t.rs, r.v.getD 0 0 ≥ pot r.t - pot t.n) {y : RowP} (hy : y ∈ rowsS us) : y.v.getD 0 0 ≥ pot y.o - pot y.w := by
  obtain ⟨t, ht, h1, rd, h2, h3, h4⟩ := mem_rowsS.mp hy
  rw [h3, h4, ← h1]
  exact h t (p.mem_iff.mp ht) rd (List.mem_of_getElem? h2)
theorem pot_walk {E : List RowP} {pot : Str → Int} (h : ∀ y ∈ E, y.v.getD 0 0 ≥ pot y.o - pot y.w) : ∀ {w : List RowP} {s t : Str}, Wk s w t → (∀ r ∈ w, r ∈ E) → asum 0 w ≥ pot t - pot s
  | [], s, t, e, _ => by
    have e : s = t := e
    subst e
    have z : asum 0 [] = 0 := rfl
    omega
  | a :: w, s, t, e, m => by
    obtain ⟨e1, e2⟩ := e
    have i := pot_walk h e2 fun r hr => m r (List.mem_cons_of_mem _ hr)
    have j := h a (m a List.mem_cons_self)
    have z : asum 0 (a :: w) = a.v.getD 0 0 + asum 0 w := by
      unfold asum
      rw [List.map_cons, List.sum_cons]
    rw [e1]
    omega
theorem pot_free {E : List RowP} {pot : Str → Int} (h : ∀ y ∈ E, y.v.getD 0 0 ≥ pot y.o - pot y.w) : Free E 1 := by
  rintro ⟨w, ⟨a, l, rfl, hw⟩, h1, k, hk, hs⟩
  have : k = 0 := by
    have : k < 1 := hk
    omega
  subst this
  have := pot_walk h hw h1
  omega
/-- where the potential's lowest is reached, the least sum is known -/
theorem pot_least {E : List RowP} {pot : Str → Int} (h : ∀ y ∈ E, y.v.getD 0 0 ≥ pot y.o - pot y.w) (lo : ∀ x, -3 ≤ pot x) {x : Str} {w : List RowP} {t : Str} (hw : Wk x w t) (hE : ∀ r ∈ w, r ∈ E) (hs : asum 0 w = -3 - pot x) : Least E 0 x (-3 - pot x) :=
  ⟨⟨w, t, hw, hE, hs⟩, fun u t' hu hu2 => by
    have := pot_walk h hu hu2
    have := lo t'
    omega⟩
def potB (x : Str) : Int := if x = "b" then -3 else 0
def potF (x : Str) : Int := if x = "f" then -3 else 0
theorem lo_B (x : Str) : -3 ≤ potB x := by unfold potB; split <;> decide
theorem lo_F (x : Str) : -3 ≤ potF x := by unfold potF; split <;> decide
theorem row_in {ts us : List Tb} (p : us.Perm ts) {t : Tb} {i : Nat} {rd : Rd1} (ht : t ∈ ts) (hr : t.rs[i]? = some rd) : (⟨t.n, i, rd.t, rd.v⟩ : RowP) ∈ rowsS us := mem_rowsS.mpr ⟨t, p.mem_iff.mpr ht, rfl, rd, hr, rfl, rfl⟩
theorem chain_pot {us : List Tb} (p : us.Perm [chA, chB]) : ∀ y ∈ rowsS us, y.v.getD 0 0 ≥ potB y.o - potB y.w := fun y hy => pot_rows p (by decide +kernel) hy
theorem six_pot {us : List Tb} (p : us.Perm sixT) : ∀ y ∈ rowsS us, y.v.getD 0 0 ≥ potF y.o - potF y.w := fun y hy => pot_rows p (by decide +kernel) hy
theorem chain_least {us : List Tb} (p : us.Perm [chA, chB]) : ∀ x ∈ (["a", "b"] : List Str), Least (rowsS us) 0 x (-3 - potB x) := fun x hx => by
  simp only [List.mem_cons, List.not_mem_nil, or_false] at hx
  rcases hx with rfl | rfl
  · refine pot_least (chain_pot p) lo_B (w := [⟨"a", 0, "b", [-3]⟩]) (t := "b") ⟨rfl, rfl⟩ (fun r hr => ?_) (by decide +kernel)
    rw [List.mem_singleton.mp hr]
    exact row_in p (t := chA) (i := 0) (by simp) rfl
  · exact pot_least (chain_pot p) lo_B (w := []) (t := "b") rfl (fun r hr => (List.not_mem_nil hr).elim) (by decide +kernel)
def sixR : List RowP := [⟨"a", 0, "b", [0]⟩, ⟨"b", 0, "c", [0]⟩, ⟨"c", 0, "d", [0]⟩, ⟨"d", 0, "e", [0]⟩, ⟨"e", 0, "f", [-3]⟩]
theorem six_in {us : List Tb} (p : us.Perm sixT) : ∀ r ∈ sixR, r ∈ rowsS us := fun r hr => by
  simp only [sixR, List.mem_cons, List.not_mem_nil, or_false] at hr
  rcases hr with rfl | rfl | rfl | rfl | rfl
  · exact row_in p (t := sx "a" "b" 0) (i := 0) (by simp [sixT]) rfl
  · exact row_in p (t := sx "b" "c" 0) (i := 0) (by simp [sixT]) rfl
  · exact row_in p (t := sx "c" "d" 0) (i := 0) (by simp [sixT]) rfl
  · exact row_in p (t := sx "d" "e" 0) (i := 0) (by simp [sixT]) rfl
  · exact row_in p (t := sx "e" "f" (-3)) (i := 0) (by simp [sixT]) rfl
theorem six_least {us : List Tb} (p : us.Perm sixT) : ∀ x ∈ (["a", "b", "c", "d", "e", "f"] : List Str), Least (rowsS us) 0 x (-3 - potF x) := fun x hx => by
  have six := six_in p
  have sub : ∀ n, ∀ r ∈ sixR.drop n, r ∈ rowsS us := fun n r hr => six r (List.mem_of_mem_drop hr)
  simp only [List.mem_cons, List.not_mem_nil, or_false] at hx
  rcases hx with rfl | rfl | rfl | rfl | rfl | rfl
  · exact pot_least (six_pot p) lo_F (w := sixR.drop 0) (t := "f") ⟨rfl, rfl, rfl, rfl, rfl, rfl⟩ (sub 0) (by decide +kernel)
  · exact pot_least (six_pot p) lo_F (w := sixR.drop 1) (t := "f") ⟨rfl, rfl, rfl, rfl, rfl⟩ (sub 1) (by decide +kernel)
  · exact pot_least (six_pot p) lo_F (w := sixR.drop 2) (t := "f") ⟨rfl, rfl, rfl, rfl⟩ (sub 2) (by decide +kernel)
  · exact pot_least (six_pot p) lo_F (w := sixR.drop 3) (t := "f") ⟨rfl, rfl, rfl⟩ (sub 3) (by decide +kernel)
  · exact pot_least (six_pot p) lo_F (w := sixR.drop 4) (t := "f") ⟨rfl, rfl⟩ (sub 4) (by decide +kernel)
  · exact pot_least (six_pot p) lo_F (w := sixR.drop 5) (t := "f") rfl (sub 5) (by decide +kernel)
theorem less_neg {us : List Tb} (p : us.Perm [lsA, lsB]) : ¬ Free (rowsS us) 2 := fun f =>
  f ⟨[⟨"a", 0, "a", [1, -1]⟩], ⟨_, [], rfl, rfl, rfl⟩, fun r hr => by rw [List.mem_singleton.mp hr]; exact row_in p (t := lsA) (i := 0) (by simp) rfl, 1, by decide, by decide +kernel⟩
/-- the signs of a text, texts of their own -/
def chs (x : Str) : List Str := x.cps.toList.map fun c => ⟨#[c]⟩
theorem chs_at {x : Str} {i c : Nat} (h : x.cps[i]? = some c) : (chs x)[i]? = some ⟨#[c]⟩ := by
  unfold chs
  rw [List.getElem?_map, Array.getElem?_toList, h]
  rfl
theorem gs_one {E : List RowP} {pot : Str → Int} {names : List Str} {G : Str → List Int} (h : ∀ x ∈ names, (G x).length = (1 : Int).toNat ∧ ∀ c, c < (1 : Int).toNat → Least E c x ((G x).getD c 0)) (l : ∀ x ∈ names, Least E 0 x (-3 - pot x)) : ∀ x ∈ names, G x = [-3 - pot x] := fun x hx => by
  obtain ⟨h1, h2⟩ := h x hx
  have z := (h2 0 (by decide)).one (l x hx)
  have h1 : (G x).length = 1 := h1
  obtain ⟨n, hn⟩ := List.length_eq_one_iff.mp h1
  rw [hn] at z ⊢
  rw [show n = -3 - pot x from z]
theorem dp_v1 {K : PySem.W.Frag} {H : Hp} {t : Addr} (n : Int) (ht : H t = none) : Dp K (upd H t (.tup [.int n])) (.ref t) (.tuple ([n].map .int)) := .tup (Or.inl (Or.inl upd_same)) (.cons (.int _) .nil)
theorem dp_rd {K : PySem.W.Frag} {H : Hp} {u t : Addr} {x : Str} {v : List Int} {f : Int} (hv : Dp K H (.ref u) (.tuple (v.map .int))) (ht : H t = none) : Dp K (upd H t (.tup [.str x, .ref u, .int f])) (.ref t) (Rd1.d ⟨x, v, f⟩) := .tup (Or.inl (Or.inl upd_same)) (.cons (.str _) (.cons (dpm (snew ht) _ _ hv) (.cons (.int _) .nil)))
theorem dp_l1 {K : PySem.W.Frag} {H : Hp} {l : Addr} {x : V} {d : PyData} (h : Dp K H x d) (hl : H l = none) : Dp K (upd H l (.lst [x])) (.ref l) (.list [d]) := .lst (Or.inl (Or.inl upd_same)) (.cons (dpm (snew hl) _ _ h) .nil)
theorem dp_tb {K : PySem.W.Frag} {H : Hp} {l t : Addr} {x : Str} {c : Int} {rs : List Rd1} (hl : Dp K H (.ref l) (.list (rs.map Rd1.d))) (ht : H t = none) : Dp K (upd H t (.tup [.str x, .int c, .ref l])) (.ref t) (Tb.d ⟨x, c, rs⟩) := .tup (Or.inl (Or.inl upd_same)) (.cons (.str _) (.cons (.int _) (.cons (dpm (snew ht) _ _ hl) .nil)))
/-- pairs of names and vectors, in a dict -/
def PrAt (B : Hp) (G : Str → List Int) (p : Addr) (z : Str × Addr) : Prop := B p = some (.tup [.str z.1, .ref z.2]) ∧ B z.2 = some (.tup ((G z.1).map V.int))
theorem PrAt.mono {B B' : Hp} {G : Str → List Int} (s : Same B B') (p : Addr) (z : Str × Addr) (h : PrAt B G p z) : PrAt B' G p z := ⟨s _ _ h.1, s _ _ h.2⟩
def prK (z : Str × Addr) : Key × V := (Sum.inr z.1, .ref z.2)
theorem prs_imp {R S : Addr → Str × Addr → Prop} (f : ∀ v a, R v a → S v a) : ∀ {vs : List Addr} {as : List (Str × Addr)}, Paired R vs as → Paired S vs as
  | [], _, h => by cases h; exact .nil
  | _ :: vs, _, h => by
    cases h with
    | cons h1 h2 => exact .cons (f _ _ h1) (prs_imp f h2)
theorem prs_put {R : Addr → Str × Addr → Prop} {v : Addr} {a : Str × Addr} (h : R v a) : ∀ {vs : List Addr} {as : List (Str × Addr)}, Paired R vs as → Paired R (vs ++ [v]) (as ++ [a])
  | [], _, k => by cases k; exact .cons h .nil
  | u :: vs, _, k => by
    cases k with
    | cons k1 k2 => exact .cons k1 (prs_put h k2)
theorem prs_sq {K : PySem.W.Frag} {B : Hp} {G : Str → List Int} : ∀ {ps : List Addr} {zs : List (Str × Addr)}, Paired (PrAt B G) ps zs → Paired (fun (p : Addr) (kv : Key × V) => SqT K B p [kV kv.1, kv.2]) ps (zs.map prK)
  | [], _, h => by cases h; exact .nil
  | _ :: ps, _, h => by
    cases h with
    | cons h1 h2 => exact .cons (Or.inl (Or.inl h1.1)) (prs_sq h2)
theorem gs_merge {B : Hp} {G : Str → List Int} : ∀ {ps : List Addr} {zs : List (Str × Addr)} {kvs : List (Key × V)} {names : List Str}, Paired (PrAt B G) ps zs → GsAt B kvs names G → (names ++ zs.map (·.1)).Nodup → GsAt B (mergeK kvs (zs.map prK)) (names ++ zs.map (·.1)) G
  | [], _, kvs, names, h, g, _ => by
    cases h
    rw [List.map_nil, List.map_nil, List.append_nil]
    exact g
  | _ :: ps, _, kvs, names, h, g, nd => by
    cases h with
    | @cons _ z _ zs h1 h2 =>
      have e : names ++ (z :: zs).map (·.1) = (names ++ [z.1]) ++ zs.map (·.1) := by simp
      rw [e] at nd ⊢
      have nz : z.1 ∉ names := fun m => by
        have := (List.nodup_append.mp (List.nodup_append.mp nd).1).2.2 z.1 m z.1 (by simp)
        exact this rfl
      exact gs_merge h2 (g.add nz h1.2) nd
theorem GsAt.ext {B B' : Hp} {kvs : List (Key × V)} {names : List Str} {G : Str → List Int} (x : LamX.ExtN B B') (h : GsAt B kvs names G) : GsAt B' kvs names G :=
  ⟨h.1, fun y hy => let ⟨u, h1, h2⟩ := h.2 y hy; ⟨u, h1, x _ _ h2 fun ps z => by cases z⟩⟩
section
variable {P : Program} {w : World} {K : PySem.W.Frag} {mg : Str → Option Value} {base : Heap}
def spLaw30 (K : PySem.W.Frag) (TT : List (Addr × Str)) : Sp := fun vs H Q _ => ∃ (a : Addr) (ns : List Int), vs = [.ref a] ∧ SqL K H a (ns.map V.int) ∧ ns.length ≤ 63 ∧ LamX.Tabs TT H ∧ ∀ H', Q (.bl true) H'
theorem ok_law30 {f C : Addr} {fd : FuncData} {TT : List (Addr × Str)} (F : Fun K "law" "law" s_law f fd) (T : Txt mg) (zm : mg "max" = none) (zd : mg "dict" = none) (TC : TxtC K mg C) (c_Lpool : C8.Cal P w K mg base 1 "_law_pool" (spPool K) []) (c_Lright : C8.Cal P w K mg base 10 "_law_right" (spRight30 K TT) [])
    (m_System : C8.Mak P w K mg base 5 "System" C (spInit K C TT) [.int 1000003]) (c_greatest_shifts : C8.Cal P w K mg base 7 "greatest_shifts" (spGS K C) []) : FnG P w K mg base 11 f fd ["_law_script"] (spLaw30 K TT) := by
  refine Fun_okG F sc_law (fun vs H Q E h => ?_) (fun cdv A outer sh H vs Q E hr h => ?_)
  · obtain ⟨a, ns, rfl, _⟩ := h
    rfl
  · obtain ⟨a, ns, rfl, ha, hl, hT, q⟩ := h
    have hu := hu_of hr.room
    refine ⟨_, (pss_cons (ps_for PassesOwn.never rfl (pi_range1 (by rfl) T.b_range (pa_cons (pe_callB (call_max2 rfl) (by rfl) zm (by decide +kernel) (pa_cons pe_int (pa_cons (pe_callB (call_min2 rfl) (by rfl) T.b_min (by decide +kernel) (pa_cons pe_int (pa_cons (pe_callB call_len_seq (by rfl) T.b_len PySem.boot_len (pa_cons (pv 0) pa_nil)) pa_nil))) pa_nil))) pa_nil)) (pg_name (i := 1) sc_law.nd rfl (by first | exact Or.inl rfl | exact Or.inr rfl))
    (pss_cons (ps_set (i := 2) sc_law.nd rfl (by first | exact Or.inl rfl | exact Or.inr rfl) (C8.pe_c c_Lpool hr.room (by decide) (by rfl) (pa_cons (pv 0) (pa_cons (pv 1) pa_nil))))
    (pss_one (ps_for PassesOwn.never rfl (pi_range1 (by rfl) T.b_range (pa_cons pe_int pa_nil)) (pg_name (i := 3) sc_law.nd rfl (by first | exact Or.inl rfl | exact Or.inr rfl))
      (pss_one (ps_if (pt_not (pt_val (C8.pe_c c_Lright hr.room (by decide) (by rfl) (pa_cons (pv 2) pa_nil))))
        (pss_one (ps_ret pe_bl))
        pss_nil))))))
  (pss_cons (ps_set (i := 4) sc_law.nd rfl (by first | exact Or.inl rfl | exact Or.inr rfl) (C8.pe_mk m_System hr.room (by decide) (by rfl) (pa_cons pe_int (pa_cons (pe_lst (pa_cons (pe_tup (pa_cons pe_str (pa_cons pe_int (pa_cons (pe_lst (pa_cons (pe_tup (pa_cons pe_str (pa_cons (pe_tup (pa_cons (pe_un un_neg pe_int) pa_nil)) (pa_cons pe_int pa_nil)))) pa_nil)) pa_nil)))) (pa_cons (pe_tup (pa_cons pe_str (pa_cons pe_int (pa_cons (pe_lst (pa_cons (pe_tup (pa_cons pe_str (pa_cons (pe_tup (pa_cons pe_int pa_nil)) (pa_cons pe_int pa_nil)))) pa_nil)) pa_nil)))) pa_nil))) pa_nil))))
  (pss_cons (ps_set (i := 5) sc_law.nd rfl (by first | exact Or.inl rfl | exact Or.inr rfl) (C8.pe_mk m_System hr.room (by decide) (by rfl) (pa_cons pe_int (pa_cons (pe_lst (pa_cons (pe_tup (pa_cons pe_str (pa_cons pe_int (pa_cons (pe_lst (pa_cons (pe_tup (pa_cons pe_str (pa_cons (pe_tup (pa_cons pe_int (pa_cons (pe_un un_neg pe_int) pa_nil))) (pa_cons pe_int pa_nil)))) pa_nil)) pa_nil)))) (pa_cons (pe_tup (pa_cons pe_str (pa_cons pe_int (pa_cons (pe_lst pa_nil) pa_nil)))) pa_nil))) pa_nil))))
  (pss_cons (ps_setLc (i := 6) (own := [("_law_one", 7), ("_law_two", 8)]) (g := gTup K 2 (gCons (gName 7) (gCons (gName 8) gNil))) (tt := tYes) (by rfl) sc_law.nd rfl rfl (sw_true rfl rfl rfl (by decide +kernel)) (pi_zipS (by rfl) T.b_zip (pa_cons pe_str (pa_cons pe_str pa_nil))) (blkOk_by (N := ["_law_script", "_law_at", "_law_pool_here", "_law_turn", "_law_chain", "_law_less", "_law_six", "_law_one", "_law_two", "_law_due", "_law_title", "_law_told"]) (sc := defScope s_law) (by decide +kernel)) (fun _ _ _ _ _ => (pg_tup rfl (pgs_cons (pg_name (i := 7) sc_law.nd rfl (by first | exact Or.inl rfl | exact Or.inr rfl)) (pgs_cons (pg_name (i := 8) sc_law.nd rfl (by first | exact Or.inl rfl | exact Or.inr rfl)) pgs_nil)))) (fun _ _ _ _ _ => pts_nil) (fun _ _ _ _ _ => (pe_tup (pa_cons (pv 7) (pa_cons pe_int (pa_cons (pe_lst (pa_cons (pe_tup (pa_cons (pv 8) (pa_cons (pe_tup (pa_cons pe_int pa_nil)) (pa_cons pe_int pa_nil)))) pa_nil)) pa_nil))))))
  (pss_cons (ps_set (i := 6) sc_law.nd rfl (by first | exact Or.inl rfl | exact Or.inr rfl) (pe_op op_cat (pv 6) (pe_lst (pa_cons (pe_tup (pa_cons pe_str (pa_cons pe_int (pa_cons (pe_lst (pa_cons (pe_tup (pa_cons pe_str (pa_cons (pe_tup (pa_cons (pe_un un_neg pe_int) pa_nil)) (pa_cons pe_int pa_nil)))) pa_nil)) pa_nil)))) (pa_cons (pe_tup (pa_cons pe_str (pa_cons pe_int (pa_cons (pe_lst pa_nil) pa_nil)))) pa_nil)))))
  (pss_cons (ps_set (i := 9) sc_law.nd rfl (by first | exact Or.inl rfl | exact Or.inr rfl) (pe_callTy (call_dictP rfl) (by rfl) zd (by decide +kernel) (pa_cons (pe_op op_cat (pe_lc (own := [("_law_title", 10)]) (g := gName 10) (tt := tYes) (by rfl) sc_law.nd (pi_str pe_str) (blkOk_by (N := ["_law_script", "_law_at", "_law_pool_here", "_law_turn", "_law_chain", "_law_less", "_law_six", "_law_one", "_law_two", "_law_due", "_law_title", "_law_told"]) (sc := defScope s_law) (by decide +kernel)) (fun _ _ _ _ _ => (pg_name (i := 10) sc_law.nd rfl (by first | exact Or.inl rfl | exact Or.inr rfl))) (fun _ _ _ _ _ => pts_nil) (fun _ _ _ _ _ => (pe_tup (pa_cons (pv 10) (pa_cons (pe_tup (pa_cons (pe_un un_neg pe_int) pa_nil)) pa_nil))))) (pe_lst (pa_cons (pe_tup (pa_cons pe_str (pa_cons (pe_tup (pa_cons pe_int pa_nil)) pa_nil))) pa_nil))) pa_nil)))
  (pss_cons (ps_set (i := 11) sc_law.nd rfl (by first | exact Or.inl rfl | exact Or.inr rfl) (pe_lst (pa_cons (C8.pe_c c_greatest_shifts hr.room (by decide) (by rfl) (pa_cons (pv 4) pa_nil)) (pa_cons (C8.pe_c c_greatest_shifts hr.room (by decide) (by rfl) (pa_cons (pv 5) pa_nil)) (pa_cons (C8.pe_c c_greatest_shifts hr.room (by decide) (by rfl) (pa_cons (C8.pe_mk m_System hr.room (by decide) (by rfl) (pa_cons pe_int (pa_cons (pv 6) pa_nil))) pa_nil)) pa_nil)))))
  (pss_one (ps_ret (pe_cmpR (op_eqLd (Fr.Room.units3 hr.room)) (pv 11) (pe_lst (pa_cons (pe_disp (pps_cons pe_str (pe_tup (pa_cons (pe_un un_neg pe_int) pa_nil)) (pps_cons pe_str (pe_tup (pa_cons pe_int pa_nil)) pps_nil)) (by rfl) (by rfl) (fun z => by cases z) (by decide)) (pa_cons pe_non (pa_cons (pv 9) pa_nil)))) (nomark _))))))))))), ?_⟩
    have hlap : (if (if ((ns.map V.int).length : Int) < 10 then ((ns.map V.int).length : Int) else 10) > 1 then (if ((ns.map V.int).length : Int) < 10 then ((ns.map V.int).length : Int) else 10) else 1) ≤ 10 ∧ 0 ≤ (if (if ((ns.map V.int).length : Int) < 10 then ((ns.map V.int).length : Int) else 10) > 1 then (if ((ns.map V.int).length : Int) < 10 then ((ns.map V.int).length : Int) else 10) else 1) := by
      split <;> split <;> omega
    refine ⟨_, rfl, a, _, rfl, Or.inl ha, 10, _, rfl, 1, _, rfl, _, rfl, by omega, by omega, ?_⟩
    refine for_range (fun i σ H' => ∃ (y1 y2 y3 : Option V), σ = [some (.ref a), y1, y2, y3, none, none, none, none, none, none, none, none] ∧ SqL K H' a (ns.map V.int) ∧ LamX.Tabs TT H')
      ⟨none, none, none, rfl, ha, hT⟩ ?_ ?_
    · rintro i σ H2 hi ⟨y1, y2, y3, rfl, ha2, hT2⟩
      have hi10 : i < 10 := by omega
      refine ⟨_, rfl, _, rfl, a, ns, i, (by rw [Int.zero_add]; rfl), ha2, by omega, hl, fun p H3 hp s3 rok => ?_⟩
      have L0 := LS.own rok (hT2.ext s3)
      have ha3 : SqL K (bs H3 p) a (ns.map V.int) := sql_ext (H1 := H2) (fun b o e n => bs_of (s3 b o e) (ne_of_none e hp) n) ha2
      generalize bs H3 p = B at L0 ha3
      refine ⟨6, rfl, by decide, by decide, ?_⟩
      refine for_range (fun j σ H' => ∃ (y3 : Option V), σ = [some (.ref a), some (.int (0 + (i : Int))), some (.ref p), y3, none, none, none, none, none, none, none, none] ∧ LS TT p (3000 * j) B H')
        ⟨_, rfl, L0⟩ ?_ ?_
      · rintro j σ H4 hj ⟨y3, rfl, L4⟩
        have hj6 : j < 6 := hj
        refine ⟨_, rfl, p, _, B, rfl, L4, by omega, fun H5 L5 => ?_⟩
        exact ⟨_, rfl, iteF ⟨_, rfl, L5.mono (by omega)⟩⟩
      · rintro σ H4 ⟨y3, rfl, L4⟩
        exact ⟨_, _, _, rfl, sql L4.rs.s ha3, L4.tb⟩
    · rintro σ H0 ⟨y1, y2, y3, rfl, ha2, hT0⟩
      clear ha ha2 hT hlap
      have z1 : 1 ≤ sizeLine := by decide
      have z2 : 2 ≤ sizeLine := by decide
      have z3 : 3 ≤ sizeLine := by decide
      -- chain
      refine ⟨_, rfl, z1, fun t1 ht1 => ?_⟩
      have s1 := snew (o := .tup [.int (-3)]) ht1
      have d1 := dp_v1 (K := K) (-3) ht1
      generalize upd H0 t1 (.tup [.int (-3)]) = H1 at s1 d1 ⊢
      refine ⟨z3, fun t2 ht2 => ?_⟩
      have s2 := snew (o := .tup [.str "b", .ref t1, .int 1]) ht2
      have d2 := dp_rd (x := "b") (f := 1) d1 ht2
      generalize upd H1 t2 (.tup [.str "b", .ref t1, .int 1]) = H2 at s2 d2 ⊢
      refine ⟨z1, fun l1 hl1 => ?_⟩
      have s3 := snew (o := .lst [.ref t2]) hl1
      have d3 := dp_l1 d2 hl1
      generalize upd H2 l1 (.lst [.ref t2]) = H3 at s3 d3 ⊢
      refine ⟨z3, fun t3 ht3 => ?_⟩
      have s4 := snew (o := .tup [.str "a", .int 0, .ref l1]) ht3
      have d4 : Dp K _ (.ref t3) chA.d := dp_tb (x := "a") (c := 0) (rs := [⟨"b", [-3], 1⟩]) d3 ht3
      generalize upd H3 t3 (.tup [.str "a", .int 0, .ref l1]) = H4 at s4 d4 ⊢
      refine ⟨z1, fun t4 ht4 => ?_⟩
      have s5 := snew (o := .tup [.int 4]) ht4
      have d5 := dp_v1 (K := K) 4 ht4
      generalize upd H4 t4 (.tup [.int 4]) = H5 at s5 d5 ⊢
      refine ⟨z3, fun t5 ht5 => ?_⟩
      have s6 := snew (o := .tup [.str "a", .ref t4, .int 1]) ht5
      have d6 := dp_rd (x := "a") (f := 1) d5 ht5
      generalize upd H5 t5 (.tup [.str "a", .ref t4, .int 1]) = H6 at s6 d6 ⊢
      refine ⟨z1, fun l2 hl2 => ?_⟩
      have s7 := snew (o := .lst [.ref t5]) hl2
      have d7 := dp_l1 d6 hl2
      generalize upd H6 l2 (.lst [.ref t5]) = H7 at s7 d7 ⊢
      refine ⟨z3, fun t6 ht6 => ?_⟩
      have s8 := snew (o := .tup [.str "b", .int 1, .ref l2]) ht6
      have d8 : Dp K _ (.ref t6) chB.d := dp_tb (x := "b") (c := 1) (rs := [⟨"a", [4], 1⟩]) d7 ht6
      generalize upd H7 t6 (.tup [.str "b", .int 1, .ref l2]) = H8 at s8 d8 ⊢
      have d4 := dpm (same_tr s5 (same_tr s6 (same_tr s7 s8))) _ _ d4
      refine ⟨z2, fun l3 hl3 => ?_⟩
      have s9 := snew (o := .lst [.ref t3, .ref t6]) hl3
      have d9 : Dp K (upd H8 l3 (.lst [.ref t3, .ref t6])) (.ref l3) (.list ([chA, chB].map Tb.d)) := .lst (Or.inl (Or.inl upd_same)) (.cons (dpm s9 _ _ d4) (.cons (dpm s9 _ _ d8) .nil))
      generalize upd H8 l3 (.lst [.ref t3, .ref t6]) = H9 at s9 d9 ⊢
      have hT9 := hT0.ext (same_tr s1 (same_tr s2 (same_tr s3 (same_tr s4 (same_tr s5 (same_tr s6 (same_tr s7 (same_tr s8 s9))))))))
      clear s1 s2 s3 s4 s5 s6 s7 s8 s9 d1 d2 d3 d4 d5 d6 d7 d8 ht1 ht2 ht3 ht4 ht5 ht6 hl1 hl2 hl3
      refine fun x dx nx ndx nex => mk_sys hT9 chain_ok d9 nx ndx nex fun H10 X10 T10 S10 => ?_
      -- less
      refine ⟨_, rfl, z2, fun t1 ht1 => ?_⟩
      have s1 := snew (o := .tup [.int 1, .int (-1)]) ht1
      have d1 : Dp K (upd H10 t1 (.tup [.int 1, .int (-1)])) (.ref t1) (.tuple (([1, -1] : List Int).map .int)) := .tup (Or.inl (Or.inl upd_same)) (.cons (.int _) (.cons (.int _) .nil))
      generalize upd H10 t1 (.tup [.int 1, .int (-1)]) = H11 at s1 d1 ⊢
      refine ⟨z3, fun t2 ht2 => ?_⟩
      have s2 := snew (o := .tup [.str "a", .ref t1, .int 1]) ht2
      have d2 := dp_rd (x := "a") (f := 1) d1 ht2
      generalize upd H11 t2 (.tup [.str "a", .ref t1, .int 1]) = H12 at s2 d2 ⊢
      refine ⟨z1, fun l1 hl1 => ?_⟩
      have s3 := snew (o := .lst [.ref t2]) hl1
      have d3 := dp_l1 d2 hl1
      generalize upd H12 l1 (.lst [.ref t2]) = H13 at s3 d3 ⊢
      refine ⟨z3, fun t3 ht3 => ?_⟩
      have s4 := snew (o := .tup [.str "a", .int 0, .ref l1]) ht3
      have d4 : Dp K _ (.ref t3) lsA.d := dp_tb (x := "a") (c := 0) (rs := [⟨"a", [1, -1], 1⟩]) d3 ht3
      generalize upd H13 t3 (.tup [.str "a", .int 0, .ref l1]) = H14 at s4 d4 ⊢
      refine ⟨Nat.zero_le _, fun l2 hl2 => ?_⟩
      have s5 := snew (o := .lst []) hl2
      have d5 : Dp K (upd H14 l2 (.lst [])) (.ref l2) (.list (([] : List Rd1).map Rd1.d)) := .lst (Or.inl (Or.inl upd_same)) .nil
      generalize upd H14 l2 (.lst []) = H15 at s5 d5 ⊢
      refine ⟨z3, fun t4 ht4 => ?_⟩
      have s6 := snew (o := .tup [.str "b", .int 2, .ref l2]) ht4
      have d6 : Dp K _ (.ref t4) lsB.d := dp_tb (x := "b") (c := 2) (rs := []) d5 ht4
      generalize upd H15 t4 (.tup [.str "b", .int 2, .ref l2]) = H16 at s6 d6 ⊢
      have d4 := dpm (same_tr s5 s6) _ _ d4
      refine ⟨z2, fun l3 hl3 => ?_⟩
      have s7 := snew (o := .lst [.ref t3, .ref t4]) hl3
      have d7 : Dp K (upd H16 l3 (.lst [.ref t3, .ref t4])) (.ref l3) (.list ([lsA, lsB].map Tb.d)) := .lst (Or.inl (Or.inl upd_same)) (.cons (dpm s7 _ _ d4) (.cons (dpm s7 _ _ d6) .nil))
      generalize upd H16 l3 (.lst [.ref t3, .ref t4]) = H17 at s7 d7 ⊢
      have s17 := same_tr s1 (same_tr s2 (same_tr s3 (same_tr s4 (same_tr s5 (same_tr s6 s7)))))
      have hT17 := T10.ext s17
      have S17 := S10.mono s17
      clear s1 s2 s3 s4 s5 s6 s7 s17 d1 d2 d3 d4 d5 d6 ht1 ht2 ht3 ht4 hl1 hl2 hl3 S10 T10 X10 d9 hT9 nx ndx nex hT0
      refine fun y dy ny ndy ney => mk_sys hT17 less_ok d7 ny ndy ney fun H18 X18 T18 S18 => ?_
      have SC := S17.ext X18
      clear X18 S17 hT17 d7 ny ndy ney
      -- six
      have c4 : chs "abcd" = (["a", "b", "c", "d"] : List Str) := by decide +kernel
      have c5 : chs "bcde" = (["b", "c", "d", "e"] : List Str) := by decide +kernel
      refine ⟨"abcd", "bcde", rfl, by decide +kernel, by decide +kernel, fun D hD => lc_it (walk_zipS (x := "abcd") (y := "bcde") (n := 4) (by decide +kernel)) (fun i H' => ∃ (B : Hp) (bs : List V), Same H18 B ∧ B D = none ∧ Same B H' ∧ H' D = some (.lst bs) ∧ DpAll K B bs ((sixT.take i).map Tb.d)) ⟨H18, [], same_refl, hD, snew hD, upd_same, .nil⟩ (fun _ _ _ _ => True.intro) ?_ ?_⟩
      · rintro i v Ha Hb hi ⟨B, bs, b1, b2, b3, b4, b5⟩ ⟨Tp, c, d, rfl, hT, rfl, hc, hd⟩
        have h1 := chs_at hc
        have h2 := chs_at hd
        rw [c4] at h1
        rw [c5] at h2
        generalize (⟨#[c]⟩ : Str) = xa at h1 ⊢
        generalize (⟨#[d]⟩ : Str) = xb at h2 ⊢
        have key : sixT[i]? = some (sx xa xb 0) := by
          match i, hi with
          | 0, _ => cases h1; cases h2; rfl
          | 1, _ => cases h1; cases h2; rfl
          | 2, _ => cases h1; cases h2; rfl
          | 3, _ => cases h1; cases h2; rfl
        have bsl : bs.length ≤ 6 := by
          rw [dps_len b5, List.length_map, List.length_take]
          exact Nat.le_trans (Nat.min_le_right _ _) (by decide)
        have b3' := same_tr b3 (snew (o := .tup [.str xa, .str xb]) hT)
        have b4' := snew (o := .tup [.str xa, .str xb]) hT _ _ b4
        have eT : (upd Ha Tp (.tup [.str xa, .str xb])) Tp = some (.tup [.str xa, .str xb]) := upd_same
        generalize upd Ha Tp (.tup [.str xa, .str xb]) = H19 at b3' b4' eT ⊢
        refine ⟨Tp, _, rfl, Or.inl (Or.inl eT), rfl, _, _, rfl, _, _, rfl, rfl, rfl, yes_if ?_⟩
        refine ⟨_, rfl, _, rfl, z1, fun t1 ht1 => ?_⟩
        obtain ⟨n1, n2, n3, n4⟩ := new_base (o := .tup [V.int 0]) b3' ht1
        have e1 := n4 D ⟨_, b4'⟩ b2
        have f1 := snew (o := .tup [V.int 0]) ht1 _ _ b4'
        generalize upd H19 t1 (.tup [V.int 0]) = H20 at n2 f1 ⊢
        have dd1 : Dp K (upd B t1 (.tup [V.int 0])) (.ref t1) (.tuple (([0] : List Int).map .int)) := .tup (Or.inl (Or.inl n3)) (.cons (.int _) .nil)
        generalize upd B t1 (.tup [V.int 0]) = B1 at n1 n2 e1 dd1
        refine ⟨z3, fun t2 ht2 => ?_⟩
        obtain ⟨m1, m2, m3, m4⟩ := new_base (o := .tup [.str xb, .ref t1, .int 1]) n2 ht2
        have e2 := m4 D ⟨_, f1⟩ e1
        have f2 := snew (o := .tup [.str xb, .ref t1, .int 1]) ht2 _ _ f1
        have dd2 : Dp K (upd B1 t2 (.tup [.str xb, .ref t1, .int 1])) (.ref t2) (Rd1.d ⟨xb, [0], 1⟩) := .tup (Or.inl (Or.inl m3)) (.cons (.str _) (.cons (dpm m1 _ _ dd1) (.cons (.int _) .nil)))
        generalize upd H20 t2 (.tup [.str xb, .ref t1, .int 1]) = H21 at m2 f2 ⊢
        generalize upd B1 t2 (.tup [.str xb, .ref t1, .int 1]) = B2 at m1 m2 e2 dd2
        refine ⟨z1, fun l1 hl1 => ?_⟩
        obtain ⟨o1, o2, o3, o4⟩ := new_base (o := .lst [.ref t2]) m2 hl1
        have e3 := o4 D ⟨_, f2⟩ e2
        have f3 := snew (o := .lst [.ref t2]) hl1 _ _ f2
        have dd3 : Dp K (upd B2 l1 (.lst [.ref t2])) (.ref l1) (.list (([⟨xb, [0], 1⟩] : List Rd1).map Rd1.d)) := .lst (Or.inl (Or.inl o3)) (.cons (dpm o1 _ _ dd2) .nil)
        generalize upd H21 l1 (.lst [.ref t2]) = H22 at o2 f3 ⊢
        generalize upd B2 l1 (.lst [.ref t2]) = B3 at o1 o2 e3 dd3
        refine ⟨z3, fun t3 ht3 => ?_⟩
        obtain ⟨p1, p2, p3, p4⟩ := new_base (o := .tup [.str xa, .int 0, .ref l1]) o2 ht3
        have e4 := p4 D ⟨_, f3⟩ e3
        have f4 := snew (o := .tup [.str xa, .int 0, .ref l1]) ht3 _ _ f3
        have dd4 : Dp K (upd B3 t3 (.tup [.str xa, .int 0, .ref l1])) (.ref t3) (sx xa xb 0).d := .tup (Or.inl (Or.inl p3)) (.cons (.str _) (.cons (.int _) (.cons (dpm p1 _ _ dd3) .nil)))
        have sB := same_tr n1 (same_tr m1 (same_tr o1 p1))
        refine ⟨bs, f4, small1000 (by omega), upd B3 t3 (.tup [.str xa, .int 0, .ref l1]), bs ++ [.ref t3], same_tr b1 sB, e4, swrite p2 e4, upd_same, ?_⟩
        rw [List.take_add_one, key, Option.toList_some, List.map_append]
        exact dps_put (dpsm sB _ _ b5) dd4
      · rintro H19 ⟨B, bs, b1, b2, b3, b4, b5⟩
        have s19 := same_tr b1 b3
        have d19 := dpsm b3 _ _ b5
        have bsl : bs.length ≤ 6 := by
          rw [dps_len b5, List.length_map, List.length_take]
          exact Nat.le_trans (Nat.min_le_right _ _) (by decide)
        have SC := SC.mono s19
        have SL := S18.mono s19
        have T19 := T18.ext s19
        clear b1 b2 b3 b5 hD S18 T18 s19
        refine ⟨_, rfl, _, rfl, z1, fun t1 ht1 => ?_⟩
        have s1 := snew (o := .tup [.int (-3)]) ht1
        have d1 := dp_v1 (K := K) (-3) ht1
        generalize upd H19 t1 (.tup [.int (-3)]) = H20 at s1 d1 ⊢
        refine ⟨z3, fun t2 ht2 => ?_⟩
        have s2 := snew (o := .tup [.str "f", .ref t1, .int 1]) ht2
        have d2 := dp_rd (x := "f") (f := 1) d1 ht2
        generalize upd H20 t2 (.tup [.str "f", .ref t1, .int 1]) = H21 at s2 d2 ⊢
        refine ⟨z1, fun l1 hl1 => ?_⟩
        have s3 := snew (o := .lst [.ref t2]) hl1
        have d3 := dp_l1 d2 hl1
        generalize upd H21 l1 (.lst [.ref t2]) = H22 at s3 d3 ⊢
        refine ⟨z3, fun t3 ht3 => ?_⟩
        have s4 := snew (o := .tup [.str "e", .int 0, .ref l1]) ht3
        have d4 : Dp K _ (.ref t3) (sx "e" "f" (-3)).d := dp_tb (x := "e") (c := 0) (rs := [⟨"f", [-3], 1⟩]) d3 ht3
        generalize upd H22 t3 (.tup [.str "e", .int 0, .ref l1]) = H23 at s4 d4 ⊢
        refine ⟨Nat.zero_le _, fun l2 hl2 => ?_⟩
        have s5 := snew (o := .lst []) hl2
        have d5 : Dp K (upd H23 l2 (.lst [])) (.ref l2) (.list (([] : List Rd1).map Rd1.d)) := .lst (Or.inl (Or.inl upd_same)) .nil
        generalize upd H23 l2 (.lst []) = H24 at s5 d5 ⊢
        refine ⟨z3, fun t4 ht4 => ?_⟩
        have s6 := snew (o := .tup [.str "f", .int 0, .ref l2]) ht4
        have d6 : Dp K _ (.ref t4) (Tb.d ⟨"f", 0, []⟩) := dp_tb (x := "f") (c := 0) (rs := []) d5 ht4
        generalize upd H24 t4 (.tup [.str "f", .int 0, .ref l2]) = H25 at s6 d6 ⊢
        have d4 := dpm (same_tr s5 s6) _ _ d4
        refine ⟨z2, fun l3 hl3 => ?_⟩
        have s7 := snew (o := .lst [.ref t3, .ref t4]) hl3
        have d4 := dpm s7 _ _ d4
        have d6 := dpm s7 _ _ d6
        have L26 : (upd H25 l3 (.lst [.ref t3, .ref t4])) l3 = some (.lst [.ref t3, .ref t4]) := upd_same
        generalize upd H25 l3 (.lst [.ref t3, .ref t4]) = H26 at s7 d4 d6 L26 ⊢
        have s26 := same_tr s1 (same_tr s2 (same_tr s3 (same_tr s4 (same_tr s5 (same_tr s6 s7)))))
        have D26 := s26 _ _ b4
        have six26 : DpAll K H26 (bs ++ [.ref t3, .ref t4]) (sixT.map Tb.d) := by
          have z := dps_app (dpsm s26 _ _ d19) (.cons d4 (.cons d6 .nil))
          exact z
        refine ⟨D, l3, bs, _, rfl, rfl, D26, L26, Nat.le_of_lt (small1000 (show bs.length + 2 ≤ 1000 by omega)), fun ls hls => ?_⟩
        have s27 := snew (o := .lst (bs ++ [.ref t3, .ref t4])) hls
        have six27 : Dp K (upd H26 ls (.lst (bs ++ [.ref t3, .ref t4]))) (.ref ls) (.list (sixT.map Tb.d)) := .lst (Or.inl (Or.inl upd_same)) (dpsm s27 _ _ six26)
        have s1927 := same_tr s26 s27
        generalize upd H26 ls (.lst (bs ++ [.ref t3, .ref t4])) = H27 at s1927 six27 ⊢
        have SC := SC.mono s1927
        have SL := SL.mono s1927
        have T27 := T19.ext s1927
        clear s1 s2 s3 s4 s5 s6 s7 s26 s27 d1 d2 d3 d4 d5 d6 ht1 ht2 ht3 ht4 hl1 hl2 hl3 hls D26 L26 six26 d19 b4 T19
        -- due
        have ca : chs "abcde" = (["a", "b", "c", "d", "e"] : List Str) := by decide +kernel
        refine ⟨"abcde", rfl, fun D2 hD2 => lc_it (walk_str (z := "abcde")) (fun i H' => ∃ (B : Hp) (ps : List Addr) (zs : List (Str × Addr)), Same H27 B ∧ B D2 = none ∧ Same B H' ∧ H' D2 = some (.lst (ps.map V.ref)) ∧ Paired (PrAt B fun x => [-3 - potF x]) ps zs ∧ zs.map (·.1) = (chs "abcde").take i) ⟨H27, [], [], same_refl, hD2, snew hD2, upd_same, .nil, rfl⟩ (fun _ _ _ _ => True.intro) ?_ ?_⟩
        · rintro i v Ha Hb hi ⟨B, ps, zs, b1, b2, b3, b4, b5, b6⟩ ⟨rfl, c, hc, rfl⟩
          have h1 := chs_at hc
          have hi5 : i < 5 := hi
          have pot0 : ∀ xa : Str, (chs "abcde")[i]? = some xa → potF xa = 0 := fun xa h => by
            have m := List.mem_of_getElem? h
            rw [ca] at m
            simp only [List.mem_cons, List.not_mem_nil, or_false] at m
            rcases m with rfl | rfl | rfl | rfl | rfl <;> decide +kernel
          have p0 := pot0 _ h1
          generalize (⟨#[c]⟩ : Str) = xa at h1 p0 ⊢
          have psl : ps.length ≤ 5 := by
            have z := congrArg List.length b6
            rw [List.length_map, List.length_take] at z
            have := Paired.length b5
            omega
          refine ⟨rfl, yes_if ?_⟩
          refine ⟨_, rfl, _, rfl, z1, fun t1 ht1 => ?_⟩
          obtain ⟨n1, n2, n3, n4⟩ := new_base (o := .tup [V.int (-3)]) b3 ht1
          have e1 := n4 D2 ⟨_, b4⟩ b2
          have f1 := snew (o := .tup [V.int (-3)]) ht1 _ _ b4
          generalize upd Hb t1 (.tup [V.int (-3)]) = H29 at n2 f1 ⊢
          generalize upd B t1 (.tup [V.int (-3)]) = B1 at n1 n2 n3 e1
          refine ⟨z2, fun t2 ht2 => ?_⟩
          obtain ⟨m1, m2, m3, m4⟩ := new_base (o := .tup [.str xa, .ref t1]) n2 ht2
          have e2 := m4 D2 ⟨_, f1⟩ e1
          have f2 := snew (o := .tup [.str xa, .ref t1]) ht2 _ _ f1
          have sB := same_tr n1 m1
          refine ⟨ps.map V.ref, f2, small1000 (by rw [List.length_map]; omega), upd B1 t2 (.tup [.str xa, .ref t1]), ps ++ [t2], zs ++ [(xa, t1)], same_tr b1 sB, e2, swrite m2 e2, by rw [upd_same, List.map_append]; rfl, prs_put ⟨m3, ?pa⟩ (prs_imp (PrAt.mono sB) b5), ?nm⟩
          case pa =>
            show (upd B1 t2 (.tup [.str xa, .ref t1])) t1 = some (.tup (([-3 - potF xa] : List Int).map V.int))
            rw [p0]
            exact m1 _ _ n3
          case nm =>
            rw [List.map_append, b6, List.take_add_one, h1]
            rfl
        · rintro H28 ⟨B, ps, zs, b1, b2, b3, b4, b5, b6⟩
          have b6 : zs.map (·.1) = (["a", "b", "c", "d", "e"] : List Str) := by rw [b6, ca]; decide +kernel
          have b5 := prs_imp (PrAt.mono b3) b5
          have s28 := same_tr b1 b3
          have psl : ps.length ≤ 5 := by
            have z := congrArg List.length b6
            rw [List.length_map] at z
            have := Paired.length b5
            have e : (["a", "b", "c", "d", "e"] : List Str).length = 5 := rfl
            omega
          clear b1 b2 b3 hD2 c4 c5
          refine ⟨z1, fun t1 ht1 => ⟨z2, fun t2 ht2 => ⟨z1, fun l1 hl1 => ?_⟩⟩⟩
          have q1 := snew (o := .tup [V.int 0]) ht1
          have q2 := snew (o := .tup [.str "f", .ref t1]) ht2
          have q3 := snew (o := .lst [.ref t2]) hl1
          have e1 : (upd (upd (upd H28 t1 (.tup [V.int 0])) t2 (.tup [.str "f", .ref t1])) l1 (.lst [.ref t2])) t1 = some (.tup [V.int 0]) := q3 _ _ (q2 _ _ upd_same)
          have e2 : (upd (upd (upd H28 t1 (.tup [V.int 0])) t2 (.tup [.str "f", .ref t1])) l1 (.lst [.ref t2])) t2 = some (.tup [.str "f", .ref t1]) := q3 _ _ upd_same
          have e3 : (upd (upd (upd H28 t1 (.tup [V.int 0])) t2 (.tup [.str "f", .ref t1])) l1 (.lst [.ref t2])) l1 = some (.lst [.ref t2]) := upd_same
          have q := same_tr q1 (same_tr q2 q3)
          generalize upd (upd (upd H28 t1 (.tup [V.int 0])) t2 (.tup [.str "f", .ref t1])) l1 (.lst [.ref t2]) = H29 at q e1 e2 e3 ⊢
          clear q1 q2 q3 ht1 ht2 hl1
          refine ⟨D2, l1, _, _, rfl, rfl, q _ _ b4, e3, Nat.le_of_lt (small1000 (show (ps.map V.ref).length + 1 ≤ 1000 by rw [List.length_map]; omega)), fun l4 hl4 => ?_⟩
          have q4 := snew (o := .lst (ps.map V.ref ++ [.ref t2])) hl4
          have e4 : (upd H29 l4 (.lst (ps.map V.ref ++ [.ref t2]))) l4 = some (.lst ((ps ++ [t2]).map V.ref)) := by rw [upd_same, List.map_append]; rfl
          have P4 : Paired (PrAt (upd H29 l4 (.lst (ps.map V.ref ++ [.ref t2]))) fun x => [-3 - potF x]) (ps ++ [t2]) (zs ++ [(("f" : Str), t1)]) := prs_put ⟨q4 _ _ e2, by
            show (upd H29 l4 (.lst (ps.map V.ref ++ [.ref t2]))) t1 = some (HO.tup (([-3 - potF "f"] : List Int).map V.int))
            rw [show potF "f" = -3 by decide +kernel]
            exact q4 _ _ e1⟩ (prs_imp (PrAt.mono (same_tr q q4)) b5)
          have s30 := same_tr s28 (same_tr q q4)
          generalize upd H29 l4 (.lst (ps.map V.ref ++ [.ref t2])) = H30 at q4 e4 P4 s30 ⊢
          refine ⟨l4, ps ++ [t2], (zs ++ [(("f" : Str), t1)]).map prK, rfl, Or.inl (Or.inl e4), prs_sq P4, fun pd hpd => ?_⟩
          have nm6 : (zs ++ [(("f" : Str), t1)]).map (·.1) = (["a", "b", "c", "d", "e", "f"] : List Str) := by rw [List.map_append, b6]; rfl
          have G30 := gs_merge (kvs := []) (names := []) P4 ⟨rfl, fun x hx => by cases hx⟩ (by rw [List.nil_append, nm6]; decide +kernel)
          rw [List.nil_append, nm6] at G30
          have q5 := snew (o := .dK (mergeK [] ((zs ++ [(("f" : Str), t1)]).map prK))) hpd
          have e5 : (upd H30 pd (.dK (mergeK [] ((zs ++ [(("f" : Str), t1)]).map prK)))) pd = some (.dK (mergeK [] ((zs ++ [(("f" : Str), t1)]).map prK))) := upd_same
          have G31 := G30.mono q5
          have s31 := same_tr s30 q5
          generalize upd H30 pd (.dK (mergeK [] ((zs ++ [(("f" : Str), t1)]).map prK))) = H31 at e5 G31 s31 ⊢
          generalize mergeK [] ((zs ++ [(("f" : Str), t1)]).map prK) = kd at e5 G31
          have SC := SC.mono s31
          have SL := SL.mono s31
          have T31 := T27.ext s31
          have six31 := dpm s31 _ _ six27
          clear G30 P4 q4 e4 q e1 e2 e3 b4 b5 b6 s28 s30 nm6 q5 hpd hl4 T27 six27
          -- told
          have pc := srt_perm [chA, chB]
          have pl := srt_perm [lsA, lsB]
          have OC : OkT 1 (srt [chA, chB]) := chain_ok.ok.perm pc.symm
          have OL : OkT 2 (srt [lsA, lsB]) := less_ok.ok.perm pl.symm
          have lc : (srt [chA, chB]).length ≤ 60 := by rw [pc.length_eq]; decide
          have ll : (srt [lsA, lsB]).length ≤ 60 := by rw [pl.length_eq]; decide
          have pnC : ((srt [chA, chB]).map (·.n)).Perm (["a", "b"] : List Str) := pc.map (·.n)
          generalize srt [chA, chB] = tc at SC pc OC lc pnC
          generalize srt [lsA, lsB] = tl at SL pl OL ll
          refine ⟨_, rfl, x, 1, 1000003, tc, rfl, SC, by decide, by decide, OC, lc, fun _ _ nf => absurd (pot_free (chain_pot pc)) nf, fun p1 H32 k1 G1 s32 hp1 hk1 hg1 hl1 _ => ?_⟩
          refine ⟨_, rfl, y, 2, 1000003, tl, rfl, SL.mono s32, by decide, by decide, OL, ll, fun H33 s33 _ => ?_, fun _ _ _ _ _ _ _ _ _ fr => absurd fr (less_neg pl)⟩
          have s3133 := same_tr s32 s33
          have hT33 := T31.ext s3133
          have k33 := s33 _ _ hk1
          have g33 := hg1.mono s33
          have d33 := s3133 _ _ e5
          have gd33 := G31.mono s3133
          refine ⟨_, rfl, fun x3 dx3 nx ndx nex => mk_sys hT33 six_ok (dpm s3133 _ _ six31) nx ndx nex fun H34 X34 T34 S34 => ?_⟩
          have ps := srt_perm sixT
          have OS : OkT 1 (srt sixT) := six_ok.ok.perm ps.symm
          have ls6 : (srt sixT).length ≤ 60 := by rw [ps.length_eq]; decide
          have pnS : ((srt sixT).map (·.n)).Perm (["a", "b", "c", "d", "e", "f"] : List Str) := ps.map (·.n)
          generalize srt sixT = t6 at S34 ps OS ls6 pnS
          have k34 := X34 _ _ k33 fun ps z => by cases z
          have g34 := g33.ext X34
          have d34 := X34 _ _ d33 fun ps z => by cases z
          have gd34 := gd33.ext X34
          clear k33 g33 d33 gd33 X34 T34 nx ndx nex hT33 s3133 s33 s32 hk1 hg1 e5 G31 six31 SC SL T31 hp1
          refine ⟨x3, 1, 1000003, t6, rfl, S34, by decide, by decide, OS, ls6, fun _ _ nf => absurd (pot_free (six_pot ps)) nf, fun p3 H35 k3 G3 s35 _ hk3 hg3 hl3 _ => ?_⟩
          refine ⟨z3, fun tl htl => ?_⟩
          have s36 := snew (o := .lst [.ref p1, .non, .ref p3]) htl
          have t36 : (upd H35 tl (.lst [.ref p1, .non, .ref p3])) tl = some (.lst [.ref p1, .non, .ref p3]) := upd_same
          have k36 := s36 _ _ (s35 _ _ k34)
          have g36 := (g34.mono s35).mono s36
          have d36 := s36 _ _ (s35 _ _ d34)
          have gd36 := (gd34.mono s35).mono s36
          have k336 := s36 _ _ hk3
          have g336 := hg3.mono s36
          generalize upd H35 tl (.lst [.ref p1, .non, .ref p3]) = H36 at t36 k36 g36 d36 gd36 k336 g336 ⊢
          clear k34 g34 d34 gd34 hk3 hg3 s35 s36 htl S34
          refine ⟨_, rfl, fun p4 hp4 => ⟨_, rfl, z1, fun t1 ht1 => ⟨z1, fun t2 ht2 => ?_⟩⟩⟩
          have q1 := snew (o := .dK []) hp4
          have q2 := snew (o := .tup [V.int (-3)]) ht1
          have q3 := snew (o := .tup [V.int 0]) ht2
          have q := same_tr q1 (same_tr q2 q3)
          have e4 : (upd (upd (upd H36 p4 (.dK [])) t1 (.tup [V.int (-3)])) t2 (.tup [V.int 0])) p4 = some (.dK []) := q3 _ _ (q2 _ _ upd_same)
          have e1 : (upd (upd (upd H36 p4 (.dK [])) t1 (.tup [V.int (-3)])) t2 (.tup [V.int 0])) t1 = some (.tup [V.int (-3)]) := q3 _ _ upd_same
          have e2 : (upd (upd (upd H36 p4 (.dK [])) t1 (.tup [V.int (-3)])) t2 (.tup [V.int 0])) t2 = some (.tup [V.int 0]) := upd_same
          have q' : Same H36 (upd (upd (upd (upd H36 p4 (.dK [])) t1 (.tup [V.int (-3)])) t2 (.tup [V.int 0])) p4 (.dK (mergeK [] [(Sum.inr "a", .ref t1), (Sum.inr "b", .ref t2)]))) := swrite q hp4
          refine ⟨e4, [(Sum.inr "a", .ref t1), (Sum.inr "b", .ref t2)], rfl, (by show 2 ≤ 15; decide), ?_⟩
          have n41 : t1 ≠ p4 := (ne_of_none (upd_same (H := H36) (a := p4) (o := HO.dK [])) ht1).symm
          have n42 : t2 ≠ p4 := (ne_of_none (q2 _ _ (upd_same (H := H36) (a := p4) (o := HO.dK []))) ht2).symm
          have e1' : (upd (upd (upd (upd H36 p4 (.dK [])) t1 (.tup [V.int (-3)])) t2 (.tup [V.int 0])) p4 (.dK (mergeK [] [(Sum.inr "a", .ref t1), (Sum.inr "b", .ref t2)]))) t1 = some (.tup [V.int (-3)]) := by rw [upd_ne n41]; exact e1
          have e2' : (upd (upd (upd (upd H36 p4 (.dK [])) t1 (.tup [V.int (-3)])) t2 (.tup [V.int 0])) p4 (.dK (mergeK [] [(Sum.inr "a", .ref t1), (Sum.inr "b", .ref t2)]))) t2 = some (.tup [V.int 0]) := by rw [upd_ne n42]; exact e2
          have e4' : (upd (upd (upd (upd H36 p4 (.dK [])) t1 (.tup [V.int (-3)])) t2 (.tup [V.int 0])) p4 (.dK (mergeK [] [(Sum.inr "a", .ref t1), (Sum.inr "b", .ref t2)]))) p4 = some (.dK (mergeK [] [(Sum.inr "a", .ref t1), (Sum.inr "b", .ref t2)])) := upd_same
          generalize upd (upd (upd (upd H36 p4 (.dK [])) t1 (.tup [V.int (-3)])) t2 (.tup [V.int 0])) p4 (.dK (mergeK [] [(Sum.inr "a", .ref t1), (Sum.inr "b", .ref t2)])) = H37 at q' e1' e2' e4' ⊢
          have GL : GsAt H37 (mergeK [] [(Sum.inr "a", .ref t1), (Sum.inr "b", .ref t2)]) (["a", "b"] : List Str) (fun x => [-3 - potB x]) := by
            have g0 : GsAt H37 [] [] (fun x => [-3 - potB x]) := ⟨rfl, fun x hx => by cases hx⟩
            have ga := g0.add (x := "a") (u := t1) (by simp) (by show H37 t1 = some (HO.tup (([-3 - potB "a"] : List Int).map V.int)); rw [show potB "a" = 0 by decide +kernel]; exact e1')
            have gb := ga.add (x := "b") (u := t2) (by decide +kernel) (by show H37 t2 = some (HO.tup (([-3 - potB "b"] : List Int).map V.int)); rw [show potB "b" = -3 by decide +kernel]; exact e2')
            exact gb
          generalize mergeK [] [(Sum.inr "a", V.ref t1), (Sum.inr "b", V.ref t2)] = kl at e4' GL
          clear q q1 q2 q3 e1 e2 e4 e1' e2' hp4 ht1 ht2 n41 n42
          refine ⟨_, rfl, z3, fun ql hql => ?_⟩
          have s38 := snew (o := .lst [.ref p4, .non, .ref pd]) hql
          have s3638 := same_tr q' s38
          have A1 := gs_eq (K := K) (OC.nodup) pnC (g36.mono s3638) (GL.mono s38) (gs_one hl1 fun x hx => chain_least pc x (pnC.mem_iff.mp hx))
          have A3 := gs_eq (K := K) (OS.nodup) pnS (g336.mono s3638) (gd36.mono s3638) (gs_one hl3 fun x hx => six_least ps x (pnS.mem_iff.mp hx))
          exact ⟨tl, ql, _, _, rfl, rfl, Or.inl (Or.inl (s3638 _ _ t36)), Or.inl (Or.inl upd_same), .cons (.dic (s3638 _ _ k36) (s38 _ _ e4') A1.1 A1.2) (.cons .non (.cons (.dic (s3638 _ _ k336) (s3638 _ _ d36) A3.1 A3.2) .nil)), q _⟩
end
end Fr

namespace Fr
open PySem PySem.Spec PyProof.Rows L2
section
variable {P : Program} {w : World} {K : PySem.W.Frag} {mg mb : Str → Option Value} {a : Addr} {cs : List (Addr × Addr)} {s : Shared} {vs : List Value} {ns : List Int}
/-- what is tracked when the law is called: the tables, and the script unless it is written down -/
structure Begin (K : PySem.W.Frag) (cs : List (Addr × Addr)) (a : Addr) (so : Obj) (ns : List Int) (H : Hp) : Prop where
  tab : ∀ p ∈ cs, H p.2 = some (.tbl #[])
  scr : SqL K H a (ns.map V.int)
  only : ∀ b u, H b = some u → (u = .tbl #[] ∧ ∃ p ∈ cs, p.2 = b) ∨ (b = a ∧ u = .frz so (.lst (ns.map V.int)) ∧ K.lookup a = none)
theorem begin_ex (inK : K.In s.heap) (ha : s.heap.get? a = some { cls := .type "list", data := .seq vs.toArray }) (hi : IntsAre vs ns) (hl : ns.length ≤ sizeLine) (hT : ∀ p ∈ cs, s.heap.get? p.2 = some { cls := .none, data := .fields #[] }) :
    ∃ H, Begin K cs a { cls := .type "list", data := .seq vs.toArray } ns H := by
  have na : ¬ ∃ p ∈ cs, p.2 = a := by
    rintro ⟨p, hp, e⟩
    have z := hT p hp
    rw [e, ha] at z
    have z2 : Data.seq vs.toArray _ = Data.fields #[] := congrArg Obj.data (Option.some.inj z)
    cases z2
  haveI : DecidablePred fun b => ∃ p ∈ cs, p.2 = b := fun b => Classical.propDecidable _
  refine ⟨fun b => if ∃ p ∈ cs, p.2 = b then some (.tbl #[]) else if b = a then (match K.lookup a with | none => some (.frz { cls := .type "list", data := .seq vs.toArray } (.lst (ns.map V.int))) | some _ => none) else none, ⟨fun p hp => if_pos ⟨p, hp, rfl⟩, ?_, ?_⟩⟩
  · cases hk : K.lookup a with
    | none =>
      refine .inl (.inr ⟨{ cls := .type "list", data := .seq vs.toArray }, ?_⟩)
      exact (if_neg na).trans (if_pos rfl)
    | some o =>
      have e := inK a o hk
      rw [ha] at e
      cases e
      exact .inr ⟨_, vs.toArray, _, hk, rfl, rfl, rfl, by rw [List.size_toArray, hi.length]; exact hl, by simpa using vals_ints hi⟩
  · intro b u h
    by_cases h1 : ∃ p ∈ cs, p.2 = b
    · rw [if_pos h1] at h
      cases h
      exact .inl ⟨rfl, h1⟩
    · rw [if_neg h1] at h
      by_cases h2 : b = a
      · rw [if_pos h2] at h
        cases hk : K.lookup a with
        | none =>
          rw [hk] at h
          cases h
          exact .inr ⟨h2, rfl, rfl⟩
        | some o =>
          rw [hk] at h
          cases h
      · rw [if_neg h2] at h
        cases h
theorem law_callG {k : Nat} {fa : Addr} {fd : FuncData} {x : Str} {sp : Sp} (inK : K.In s.heap) (hns : s.heap.Ns mainGlobals mg) (hb : s.heap.Ns builtinsNs mb) (hbb : ∀ x : Str, x ≠ "__name__" → mb x = bootBuiltins x) (hlim : s.heap.NoLimit) (hg : s.gens = #[])
    (hT : ∀ p ∈ cs, s.heap.get? p.2 = some { cls := .none, data := .fields #[] }) (nT : ∀ p ∈ cs, K.lookup p.2 = none) (hC : ∀ p ∈ cs, PySem.W.CodeHd s.heap p.1 p.2)
    (hbm : ∃ (bm : Addr) (ob : Obj), mg "__builtins__" = some (.ref bm) ∧ bm ≠ builtinsNs ∧ s.heap.get? bm = some ob ∧ ob.cls = .type "module" ∧ ob.dict = some builtinsNs ∧ ob.data = .plain)
    (ha : s.heap.get? a = some { cls := .type "list", data := .seq vs.toArray }) (hi : IntsAre vs ns) (hl : ns.length ≤ sizeLine) (hr : Room k callerA)
    (F : ∀ base : Heap, K.In base → base.Ns mainGlobals mg → (∀ p ∈ cs, LamX.TabB base mg p.1 p.2) → FnG P w K mg base k fa fd [x] sp) (bind : ∀ (s : Shared) (u : Value), BindsTo s fd ⟨[u], []⟩ [(x, u)])
    (hsp : ∀ H : Hp, (∀ p ∈ cs, H p.2 = some (.tbl #[])) → SqL K H a (ns.map V.int) → sp [.ref a] H (fun v _ => v = .bl true) fun _ _ _ => False) :
    codeAny (model P w) callerA (.call (.ref fa) ⟨[.ref a], []⟩) (fun r s' => r = .ok (.ret (.bool true)) ∧ OldK s.heap s'.heap ∧ s'.os = s.os ∧ AllBare s'.gens) s := by
  obtain ⟨H, B⟩ := begin_ex inK ha hi hl hT
  have hok : HOk P w H s.heap := by
    intro b u h
    rcases B.only b u h with ⟨rfl, p, hp, rfl⟩ | ⟨rfl, rfl, _⟩
    · exact hT p hp
    · exact ⟨ha, by rw [List.length_map]; exact hl, vs, _, vals_ints hi, ha⟩
  -- what is no list and no empty table is not tracked
  have out : ∀ {b : Addr} {o : Obj}, s.heap.get? b = some o → (∀ ys n, o.data ≠ .seq ys n) → o.data ≠ .fields #[] → H b = none := by
    intro b o h1 h2 h3
    cases hb : H b with
    | none => rfl
    | some u =>
      rcases B.only b u hb with ⟨_, p, hp, rfl⟩ | ⟨rfl, _, _⟩
      · rw [hT p hp] at h1
        cases h1
        exact (h3 rfl).elim
      · rw [ha] at h1
        cases h1
        exact (h2 _ _ rfl).elim
  have low : ∀ {b : Addr} {o : Obj}, s.heap.get? b = some o → (∀ ys n, o.data ≠ .seq ys n) → o.data ≠ .fields #[] → (hidT s.heap H).get? b = some o := fun h1 h2 h3 => hidT_get h1 (out h1 h2 h3)
  have nsB : ∀ {b : Addr} {m : Str → Option Value}, s.heap.Ns b m → (hidT s.heap H).Ns b m := by
    rintro b m ⟨o, es, ep, h1, h2, h3⟩
    exact ⟨o, es, ep, low h1 (fun ys n z => by rw [h2] at z; cases z) (fun z => by rw [h2] at z; cases z), h2, h3⟩
  have inB : K.In (hidT s.heap H) := by
    intro b o h
    refine hidT_get (inK b o h) ?_
    cases hb : H b with
    | none => rfl
    | some u =>
      rcases B.only b u hb with ⟨_, p, hp, rfl⟩ | ⟨rfl, _, z⟩
      · rw [nT p hp] at h
        cases h
      · rw [z] at h
        cases h
  have md : L2.Mod K mg (hidT s.heap H) := by
    obtain ⟨mc, l1, l2⟩ := hlim
    exact ⟨inB, nsB hns, ⟨mb, nsB hb, hbb⟩, ⟨mc, nsB l1, l2⟩⟩
  have tb : ∀ p ∈ cs, LamX.TabB (hidT s.heap H) mg p.1 p.2 := by
    intro p hp
    have hp0 := hT p hp
    constructor
    · obtain ⟨o, us, f1, f2, f3, f4, f5, f6, f7, g, r1, r2, r3, r4, r5, r6, r7, r8, ne⟩ := hC p hp
      refine ⟨o, us, f1, f2, f3, f4, f5, f6, f7, low g (fun ys n z => by rw [r2] at z; cases z) (fun z => ?_), r1, r2, r3, r4, r5, r6, r7, r8, ne⟩
      rw [r2] at z
      cases z
      simp at r3
    · obtain ⟨bm, ob, b1, b2, b3, b4, b5, b6⟩ := hbm
      refine ⟨bm, ob, b1, b2, fun z => ?_, fun z => ?_, low b3 (fun ys n z => by rw [b6] at z; cases z) (fun z => by rw [b6] at z; cases z), b4, b5, b6⟩
      · obtain ⟨o, es, ep, e1, e2, _⟩ := hns
        rw [z, e1] at b3
        cases b3
        rw [e2] at b6
        cases b6
      · rw [z, hp0] at b3
        cases b3
        cases b6
    · intro z
      obtain ⟨o, es, ep, e1, e2, _⟩ := hns
      rw [z, hp0] at e1
      cases e1
      cases e2
  have env : Env0 P w K mg (hidT s.heap H) callerA [] s H :=
    { frames := rfl, mod := md, bs := fun _ _ z => of_hidT z, bsz := Nat.le_of_eq (hidT_size _ _), funs := trivial, frf := fun b z => absurd (show b ∈ ([] : List Addr) from z) (List.not_mem_nil), hok := hok, bare := .of_eq hg }
  refine codeAny_mono ((F _ inB (nsB hns) tb).go callerA [] s H ⟨[.ref a], []⟩ [.ref a] [.ref a] _ _ ⟨hr, rfl⟩ env (bind s (.ref a)) (.cons rfl .nil) (hsp H B.tab B.scr)) ?_
  intro rs s2 z
  match rs, z with
  | .error e, z => exact (show False from z).elim
  | .ok .next, z => exact z.elim
  | .ok .brk, z => exact z.elim
  | .ok .cont, z => exact z.elim
  | .ok (.ret u), z =>
    obtain ⟨v, H2, os, bare, un, hok2, ru, rfl⟩ := z
    obtain rfl : u = Value.bool true := ru
    have grow : ∀ p ∈ cs, ∃ more : Array Value, s2.heap.get? p.2 = some { cls := .none, data := .fields more } := fun p hp => by
      obtain ⟨more, e⟩ := un.tbls p.2 #[] (B.tab p hp)
      exact ⟨_, hok2 _ _ e⟩
    have keep : ∀ b o, (¬ ∃ p ∈ cs, p.2 = b) → s.heap.get? b = some o → s2.heap.get? b = some o := by
      intro b o nb h
      cases hb : H b with
      | none => exact un.keep b o h hb (fun z => absurd (show b ∈ ([] : List Addr) from z) List.not_mem_nil) List.not_mem_nil
      | some u =>
        rcases B.only b u hb with ⟨_, z⟩ | ⟨rfl, rfl, _⟩
        · exact (nb z).elim
        · have h1 := (hok _ _ hb).1
          rw [h] at h1
          cases h1
          exact (hok2 _ _ (un.frzs _ _ _ hb)).1
    refine ⟨rfl, ⟨fun b o h => ?_, fun b o h => ?_⟩, os, bare⟩
    · by_cases hb : ∃ p ∈ cs, p.2 = b
      · obtain ⟨p, hp, rfl⟩ := hb
        obtain ⟨more, e⟩ := grow p hp
        have h0 := hT p hp
        rw [h] at h0
        cases h0
        refine .inr (.inl ⟨((hC p hp).tab (hT p hp)).isCodeTable, rfl, #[], more, rfl, ?_⟩)
        rw [Array.empty_append]
        exact e
      · exact .inl (keep b o hb h)
    · by_cases hb : ∃ p ∈ cs, p.2 = b
      · obtain ⟨p, hp, rfl⟩ := hb
        obtain ⟨more, e⟩ := grow p hp
        exact ⟨_, e⟩
      · exact ⟨o, keep b o hb h⟩
/-- what is to be known of a law's def, at the heap behind its program's top -/
def LawAtG (l : PySem.W.OpenLaw) (w : World) (K : PySem.W.Frag) (k n : Nat) (x : Str) (mg : Str → Option Value) (fa : Addr) (h : Heap) : Prop :=
  ∃ (fd : FuncData) (cs : List (Addr × Addr)) (sp : Sp), ((∀ p ∈ cs, h.get? p.2 = some { cls := .none, data := .fields #[] }) ∧ (∀ p ∈ cs, K.lookup p.2 = none) ∧ ∀ p ∈ cs, PySem.W.CodeHd h p.1 p.2) ∧ (∀ (s : Shared) (u : Value), BindsTo s fd ⟨[u], []⟩ [(x, u)]) ∧
    (∀ (H : Hp) (a : Addr) (ns : List Int), ns.length ≤ n → (∀ p ∈ cs, H p.2 = some (.tbl #[])) → SqL K H a (ns.map V.int) → sp [.ref a] H (fun v _ => v = .bl true) fun _ _ _ => False) ∧
    ∀ base : Heap, K.In base → base.Ns mainGlobals mg → (∀ p ∈ cs, LamX.TabB base mg p.1 p.2) → FnG l.prog w K mg base k fa fd [x] sp
theorem walk_ofG {l : PySem.W.OpenLaw} {n k : Nat} {q : Program} {loose : List Str} {XP : (Str → Option Value) → Heap → Prop} {YP : World → Heap → Prop} {d : DefRec} {K : Params → PySem.W.Frag} {x : Str}
    (hn : l.most = some n) (hz : n ≤ sizeLine) (hdf : d.params.defaults = []) (hr : Room k callerA) (hY : ∀ (w : World) (h : Heap), YP w h → (K w.params).In h)
    (F : ∀ (w : World) (mg : Str → Option Value) (fa : Addr) (h : Heap), YP w h → (K w.params).In h → h.Ns mainGlobals mg → mg d.name = some (.ref fa) → LawAtG l w (K w.params) k n x mg fa h) : PySem.W.WalkO q loose XP YP l.row.toRowW d [] (fun f vs => PySem.call f vs) := by
  refine Att.attach_callB hn hdf ?_
  intro w _ s mg mb fa _ _ _ _ a vs ns G Y _ _ _ hmg hobj hints hlen _ hg
  have inK := hY w _ Y
  obtain ⟨fd, cs, sp, ⟨h1, h2, h3⟩, hb, hsp, hF⟩ := F w mg fa _ Y inK G.T.g hmg
  exact law_callG inK G.T.g G.T.b G.T.builtins G.T.nolimit hg h1 h2 h3 G.T.bmain hobj hints (Nat.le_trans hlen hz) hr hF hb fun H t => hsp H a ns hlen t
end
end Fr

namespace Fr
open PySem PySem.Spec PyProof.Rows L2
theorem kb1 {K : PySem.W.Frag} {fd : FuncData} {a b : Str} (h : ∀ (s : Shared) (u v : Value), BindsTo s fd ⟨[u], [(b, v)]⟩ [(a, u), (b, v)]) : L2.KBinds K fd [a, b] [b] kw1 kw1 :=
  ⟨fun s us ws _ hlen => (match us, ws, hlen with
    | [u], [v], _ => h s u v
    | [], _, h => absurd h (by simp [kw1])
    | [_], [], h => absurd h (by simp [kw1])
    | [_], _ :: _ :: _, h => absurd h (by simp [kw1])
    | _ :: _ :: _, _, h => absurd h (by simp [kw1])), fun hv hz => by
    cases hv with
    | nil => exact .nil
    | cons h1 h2 =>
      cases h2 with
      | nil =>
        cases hz with
        | nil => exact .nil
        | cons h3 h4 =>
          cases h4 with
          | nil => exact .cons h1 (.cons h3 .nil)
          | cons _ _ => exact .nil
      | cons _ _ => exact .nil⟩
theorem kb1S {K : PySem.W.Frag} {fd : FuncData} {a : Str} (h : ∀ (s : Shared) (v : Value), BindsTo s fd ⟨[], [(a, v)]⟩ [(a, v)]) : L2.KBinds K fd [a] [a] kwS1 kwS1 :=
  ⟨fun s us ws _ hlen => (match us, ws, hlen with
    | [], [v], _ => h s v
    | [], [], h => absurd h (by simp [kwS1])
    | [], _ :: _ :: _, h => absurd h (by simp [kwS1])
    | _ :: _, _, h => absurd h (by simp [kwS1])), fun hv hz => by
    cases hv with
    | nil =>
      cases hz with
      | nil => exact .nil
      | cons h1 h2 =>
        cases h2 with
        | nil => exact .cons h1 .nil
        | cons _ _ => exact .nil
    | cons _ _ => exact .nil⟩
theorem all_mk {l : PySem.W.OpenLaw} {w : World} {K : PySem.W.Frag} {h : Heap} {mg : Str → Option Value} {fa : Addr} (X : K.In h) (G : h.Ns mainGlobals mg) (hfa : mg "law" = some (.ref fa))
    {C c0 Pt T0 fI f1 f2 f3 f4 f5 f6 f7 f8 f9 f10 f11 f12 f13 f14 f15 f16 f17 f18 f19 f20 f21 f22 f23 f24 f25 f26 f27 pPdimensions gPdimensions pPmodulus gPmodulus pPnames gPnames fMreads fMconstant fMall_reads fMwith_tables fMwith_table fMlen : Addr} {od1 an1 od2 an2 od3 an3 od4 an4 od5 an5 od6 an6 od7 an7 od8 an8 od9 an9 od10 an10 od11 an11 od12 an12 od13 an13 od14 an14 od15 an15 od16 an16 od17 an17 od18 an18 od19 an19 od20 an20 od21 an21 od22 an22 od23 an23 od24 an24 od25 an25 od26 an26 od27 an27 odPdimensions anPdimensions odPmodulus anPmodulus odPnames anPnames odMreads anMreads odMconstant anMconstant odMall_reads anMall_reads odMwith_tables anMwith_tables odMwith_table anMwith_table odMlen anMlen odI anI odT : Option Addr} {sl1 sl2 sl3 sl4 sl5 sl6 sl7 sl8 sl9 sl10 sl11 sl12 sl13 sl14 sl15 sl16 sl17 sl18 sl19 sl20 sl21 sl22 sl23 sl24 sl25 sl26 sl27 slPdimensions slPmodulus slPnames slMreads slMconstant slMall_reads slMwith_tables slMwith_table slMlen slI slT : Array (Option Value)} {oc1 kV1 dc1 pm1 ct1 cd1 oc2 kV2 dc2 pm2 ct2 cd2 oc3 kV3 dc3 pm3 ct3 cd3 oc4 kV4 dc4 pm4 ct4 cd4 oc5 kV5 dc5 pm5 ct5 cd5 oc6 kV6 dc6 pm6 ct6 cd6 oc7 kV7 dc7 pm7 ct7 cd7 oc8 kV8 dc8 pm8 ct8 cd8 oc9 kV9 dc9 pm9 ct9 cd9 oc10 kV10 dc10 pm10 ct10 cd10 oc11 kV11 dc11 pm11 ct11 cd11 oc12 kV12 dc12 pm12 ct12 cd12 oc13 kV13 dc13 pm13 ct13 cd13 oc14 kV14 dc14 pm14 ct14 cd14 oc15 kV15 dc15 pm15 ct15 cd15 oc16 kV16 dc16 pm16 ct16 cd16 oc17 kV17 dc17 pm17 ct17 cd17 oc18 kV18 dc18 pm18 ct18 cd18 oc19 kV19 dc19 pm19 ct19 cd19 oc20 kV20 dc20 pm20 ct20 cd20 oc21 kV21 dc21 pm21 ct21 cd21 oc22 kV22 dc22 pm22 ct22 cd22 oc23 kV23 dc23 pm23 ct23 cd23 oc24 kV24 dc24 pm24 ct24 cd24 oc25 kV25 dc25 pm25 ct25 cd25 oc26 kV26 dc26 pm26 ct26 cd26 oc27 kV27 dc27 pm27 ct27 cd27 ocPdimensions kVPdimensions dcPdimensions pmPdimensions ctPdimensions cdPdimensions ocPmodulus kVPmodulus dcPmodulus pmPmodulus ctPmodulus cdPmodulus ocPnames kVPnames dcPnames pmPnames ctPnames cdPnames ocMreads kVMreads dcMreads pmMreads ctMreads cdMreads ocMconstant kVMconstant dcMconstant pmMconstant ctMconstant cdMconstant ocMall_reads kVMall_reads dcMall_reads pmMall_reads ctMall_reads cdMall_reads ocMwith_tables kVMwith_tables dcMwith_tables pmMwith_tables ctMwith_tables cdMwith_tables ocMwith_table kVMwith_table dcMwith_table pmMwith_table ctMwith_table cdMwith_table ocMlen kVMlen dcMlen pmMlen ctMlen cdMlen ocI kVI dcI pmI ctI ocT : Value} {restPdimensions restPmodulus restPnames : List Value} {tT t_MOST_DIMENSIONS t_MOST_TABLES t_MOST_READS t_MOST_LETTERS : Tok} {nT : Nat}
    (a1 : PySem.W.nsIn K mainGlobals "is_name" = some (some (.ref f1)))
    (l1 : K.lookup f1 = some ⟨oc1, od1, .func (PySem.W.fnOf "is_name" "is_name" (defArgs s_is_name) (defBody s_is_name) (defScope s_is_name) .none kV1 dc1 pm1 an1 cd1 ct1), sl1⟩)
    (e1 : PySem.W.codeIn K cd1 "is_name" = true)
    (k1 : PySem.W.keepIn K (.ref f1) = true)
    (a2 : PySem.W.nsIn K mainGlobals "is_read" = some (some (.ref f2)))
    (l2 : K.lookup f2 = some ⟨oc2, od2, .func (PySem.W.fnOf "is_read" "is_read" (defArgs s_is_read) (defBody s_is_read) (defScope s_is_read) .none kV2 dc2 pm2 an2 cd2 ct2), sl2⟩)
    (e2 : PySem.W.codeIn K cd2 "is_read" = true)
    (k2 : PySem.W.keepIn K (.ref f2) = true)
    (a3 : PySem.W.nsIn K mainGlobals "check_table" = some (some (.ref f3)))
    (l3 : K.lookup f3 = some ⟨oc3, od3, .func (PySem.W.fnOf "check_table" "check_table" (defArgs s_check_table) (defBody s_check_table) (defScope s_check_table) .none kV3 dc3 pm3 an3 cd3 ct3), sl3⟩)
    (e3 : PySem.W.codeIn K cd3 "check_table" = true)
    (k3 : PySem.W.keepIn K (.ref f3) = true)
    (a4 : PySem.W.nsIn K mainGlobals "check_tables" = some (some (.ref f4)))
    (l4 : K.lookup f4 = some ⟨oc4, od4, .func (PySem.W.fnOf "check_tables" "check_tables" (defArgs s_check_tables) (defBody s_check_tables) (defScope s_check_tables) .none kV4 dc4 pm4 an4 cd4 ct4), sl4⟩)
    (e4 : PySem.W.codeIn K cd4 "check_tables" = true)
    (k4 : PySem.W.keepIn K (.ref f4) = true)
    (a5 : PySem.W.nsIn K mainGlobals "check_tables_that_are_read" = some (some (.ref f5)))
    (l5 : K.lookup f5 = some ⟨oc5, od5, .func (PySem.W.fnOf "check_tables_that_are_read" "check_tables_that_are_read" (defArgs s_check_tables_that_are_read) (defBody s_check_tables_that_are_read) (defScope s_check_tables_that_are_read) .none kV5 dc5 pm5 an5 cd5 ct5), sl5⟩)
    (e5 : PySem.W.codeIn K cd5 "check_tables_that_are_read" = true)
    (k5 : PySem.W.keepIn K (.ref f5) = true)
    (a6 : PySem.W.nsIn K mainGlobals "check_system" = some (some (.ref f6)))
    (l6 : K.lookup f6 = some ⟨oc6, od6, .func (PySem.W.fnOf "check_system" "check_system" (defArgs s_check_system) (defBody s_check_system) (defScope s_check_system) .none kV6 dc6 pm6 an6 cd6 ct6), sl6⟩)
    (e6 : PySem.W.codeIn K cd6 "check_system" = true)
    (k6 : PySem.W.keepIn K (.ref f6) = true)
    (a7 : PySem.W.nsIn K mainGlobals "check_shifts" = some (some (.ref f7)))
    (l7 : K.lookup f7 = some ⟨oc7, od7, .func (PySem.W.fnOf "check_shifts" "check_shifts" (defArgs s_check_shifts) (defBody s_check_shifts) (defScope s_check_shifts) .none kV7 dc7 pm7 an7 cd7 ct7), sl7⟩)
    (e7 : PySem.W.codeIn K cd7 "check_shifts" = true)
    (k7 : PySem.W.keepIn K (.ref f7) = true)
    (a8 : PySem.W.nsIn K mainGlobals "links_of" = some (some (.ref f8)))
    (l8 : K.lookup f8 = some ⟨oc8, od8, .func (PySem.W.fnOf "links_of" "links_of" (defArgs s_links_of) (defBody s_links_of) (defScope s_links_of) .none kV8 dc8 pm8 an8 cd8 ct8), sl8⟩)
    (e8 : PySem.W.codeIn K cd8 "links_of" = true)
    (k8 : PySem.W.keepIn K (.ref f8) = true)
    (a9 : PySem.W.nsIn K mainGlobals "falling_walk" = some (some (.ref f9)))
    (l9 : K.lookup f9 = some ⟨oc9, od9, .func (PySem.W.fnOf "falling_walk" "falling_walk" (defArgs s_falling_walk) (defBody s_falling_walk) (defScope s_falling_walk) .none kV9 dc9 pm9 an9 cd9 ct9), sl9⟩)
    (e9 : PySem.W.codeIn K cd9 "falling_walk" = true)
    (k9 : PySem.W.keepIn K (.ref f9) = true)
    (a10 : PySem.W.nsIn K mainGlobals "barring_walk" = some (some (.ref f10)))
    (l10 : K.lookup f10 = some ⟨oc10, od10, .func (PySem.W.fnOf "barring_walk" "barring_walk" (defArgs s_barring_walk) (defBody s_barring_walk) (defScope s_barring_walk) .none kV10 dc10 pm10 an10 cd10 ct10), sl10⟩)
    (e10 : PySem.W.codeIn K cd10 "barring_walk" = true)
    (k10 : PySem.W.keepIn K (.ref f10) = true)
    (a11 : PySem.W.nsIn K mainGlobals "moved" = some (some (.ref f11)))
    (l11 : K.lookup f11 = some ⟨oc11, od11, .func (PySem.W.fnOf "moved" "moved" (defArgs s_moved) (defBody s_moved) (defScope s_moved) .none kV11 dc11 pm11 an11 cd11 ct11), sl11⟩)
    (e11 : PySem.W.codeIn K cd11 "moved" = true)
    (k11 : PySem.W.keepIn K (.ref f11) = true)
    (a12 : PySem.W.nsIn K mainGlobals "lesser" = some (some (.ref f12)))
    (l12 : K.lookup f12 = some ⟨oc12, od12, .func (PySem.W.fnOf "lesser" "lesser" (defArgs s_lesser) (defBody s_lesser) (defScope s_lesser) .none kV12 dc12 pm12 an12 cd12 ct12), sl12⟩)
    (e12 : PySem.W.codeIn K cd12 "lesser" = true)
    (k12 : PySem.W.keepIn K (.ref f12) = true)
    (a13 : PySem.W.nsIn K mainGlobals "shifted" = some (some (.ref f13)))
    (l13 : K.lookup f13 = some ⟨oc13, od13, .func (PySem.W.fnOf "shifted" "shifted" (defArgs s_shifted) (defBody s_shifted) (defScope s_shifted) .none kV13 dc13 pm13 an13 cd13 ct13), sl13⟩)
    (e13 : PySem.W.codeIn K cd13 "shifted" = true)
    (k13 : PySem.W.keepIn K (.ref f13) = true)
    (a14 : PySem.W.nsIn K mainGlobals "greatest_shifts" = some (some (.ref f14)))
    (l14 : K.lookup f14 = some ⟨oc14, od14, .func (PySem.W.fnOf "greatest_shifts" "greatest_shifts" (defArgs s_greatest_shifts) (defBody s_greatest_shifts) (defScope s_greatest_shifts) .none kV14 dc14 pm14 an14 cd14 ct14), sl14⟩)
    (e14 : PySem.W.codeIn K cd14 "greatest_shifts" = true)
    (k14 : PySem.W.keepIn K (.ref f14) = true)
    (a15 : PySem.W.nsIn K mainGlobals "_law_pool" = some (some (.ref f15)))
    (l15 : K.lookup f15 = some ⟨oc15, od15, .func (PySem.W.fnOf "_law_pool" "_law_pool" (defArgs s_Lpool) (defBody s_Lpool) (defScope s_Lpool) .none kV15 dc15 pm15 an15 cd15 ct15), sl15⟩)
    (e15 : PySem.W.codeIn K cd15 "_law_pool" = true)
    (k15 : PySem.W.keepIn K (.ref f15) = true)
    (a16 : PySem.W.nsIn K mainGlobals "_law_draw" = some (some (.ref f16)))
    (l16 : K.lookup f16 = some ⟨oc16, od16, .func (PySem.W.fnOf "_law_draw" "_law_draw" (defArgs s_Ldraw) (defBody s_Ldraw) (defScope s_Ldraw) .none kV16 dc16 pm16 an16 cd16 ct16), sl16⟩)
    (e16 : PySem.W.codeIn K cd16 "_law_draw" = true)
    (k16 : PySem.W.keepIn K (.ref f16) = true)
    (a17 : PySem.W.nsIn K mainGlobals "_law_vector" = some (some (.ref f17)))
    (l17 : K.lookup f17 = some ⟨oc17, od17, .func (PySem.W.fnOf "_law_vector" "_law_vector" (defArgs s_Lvector) (defBody s_Lvector) (defScope s_Lvector) .none kV17 dc17 pm17 an17 cd17 ct17), sl17⟩)
    (e17 : PySem.W.codeIn K cd17 "_law_vector" = true)
    (k17 : PySem.W.keepIn K (.ref f17) = true)
    (a18 : PySem.W.nsIn K mainGlobals "_law_tables" = some (some (.ref f18)))
    (l18 : K.lookup f18 = some ⟨oc18, od18, .func (PySem.W.fnOf "_law_tables" "_law_tables" (defArgs s_Ltables) (defBody s_Ltables) (defScope s_Ltables) .none kV18 dc18 pm18 an18 cd18 ct18), sl18⟩)
    (e18 : PySem.W.codeIn K cd18 "_law_tables" = true)
    (k18 : PySem.W.keepIn K (.ref f18) = true)
    (a19 : PySem.W.nsIn K mainGlobals "_law_made" = some (some (.ref f19)))
    (l19 : K.lookup f19 = some ⟨oc19, od19, .func (PySem.W.fnOf "_law_made" "_law_made" (defArgs s_Lmade) (defBody s_Lmade) (defScope s_Lmade) .none kV19 dc19 pm19 an19 cd19 ct19), sl19⟩)
    (e19 : PySem.W.codeIn K cd19 "_law_made" = true)
    (k19 : PySem.W.keepIn K (.ref f19) = true)
    (a20 : PySem.W.nsIn K mainGlobals "_law_total" = some (some (.ref f20)))
    (l20 : K.lookup f20 = some ⟨oc20, od20, .func (PySem.W.fnOf "_law_total" "_law_total" (defArgs s_Ltotal) (defBody s_Ltotal) (defScope s_Ltotal) .none kV20 dc20 pm20 an20 cd20 ct20), sl20⟩)
    (e20 : PySem.W.codeIn K cd20 "_law_total" = true)
    (k20 : PySem.W.keepIn K (.ref f20) = true)
    (a21 : PySem.W.nsIn K mainGlobals "_law_cycles" = some (some (.ref f21)))
    (l21 : K.lookup f21 = some ⟨oc21, od21, .func (PySem.W.fnOf "_law_cycles" "_law_cycles" (defArgs s_Lcycles) (defBody s_Lcycles) (defScope s_Lcycles) .none kV21 dc21 pm21 an21 cd21 ct21), sl21⟩)
    (e21 : PySem.W.codeIn K cd21 "_law_cycles" = true)
    (k21 : PySem.W.keepIn K (.ref f21) = true)
    (a22 : PySem.W.nsIn K mainGlobals "_law_shift" = some (some (.ref f22)))
    (l22 : K.lookup f22 = some ⟨oc22, od22, .func (PySem.W.fnOf "_law_shift" "_law_shift" (defArgs s_Lshift) (defBody s_Lshift) (defScope s_Lshift) .none kV22 dc22 pm22 an22 cd22 ct22), sl22⟩)
    (e22 : PySem.W.codeIn K cd22 "_law_shift" = true)
    (k22 : PySem.W.keepIn K (.ref f22) = true)
    (a23 : PySem.W.nsIn K mainGlobals "_law_lows" = some (some (.ref f23)))
    (l23 : K.lookup f23 = some ⟨oc23, od23, .func (PySem.W.fnOf "_law_lows" "_law_lows" (defArgs s_Llows) (defBody s_Llows) (defScope s_Llows) .none kV23 dc23 pm23 an23 cd23 ct23), sl23⟩)
    (e23 : PySem.W.codeIn K cd23 "_law_lows" = true)
    (k23 : PySem.W.keepIn K (.ref f23) = true)
    (a24 : PySem.W.nsIn K mainGlobals "_law_wide" = some (some (.ref f24)))
    (l24 : K.lookup f24 = some ⟨oc24, od24, .func (PySem.W.fnOf "_law_wide" "_law_wide" (defArgs s_Lwide) (defBody s_Lwide) (defScope s_Lwide) .none kV24 dc24 pm24 an24 cd24 ct24), sl24⟩)
    (e24 : PySem.W.codeIn K cd24 "_law_wide" = true)
    (k24 : PySem.W.keepIn K (.ref f24) = true)
    (a25 : PySem.W.nsIn K mainGlobals "_law_drawn" = some (some (.ref f25)))
    (l25 : K.lookup f25 = some ⟨oc25, od25, .func (PySem.W.fnOf "_law_drawn" "_law_drawn" (defArgs s_Ldrawn) (defBody s_Ldrawn) (defScope s_Ldrawn) .none kV25 dc25 pm25 an25 cd25 ct25), sl25⟩)
    (e25 : PySem.W.codeIn K cd25 "_law_drawn" = true)
    (k25 : PySem.W.keepIn K (.ref f25) = true)
    (a26 : PySem.W.nsIn K mainGlobals "_law_right" = some (some (.ref f26)))
    (l26 : K.lookup f26 = some ⟨oc26, od26, .func (PySem.W.fnOf "_law_right" "_law_right" (defArgs s_Lright) (defBody s_Lright) (defScope s_Lright) .none kV26 dc26 pm26 an26 cd26 ct26), sl26⟩)
    (e26 : PySem.W.codeIn K cd26 "_law_right" = true)
    (k26 : PySem.W.keepIn K (.ref f26) = true)
    (a27 : PySem.W.nsIn K mainGlobals "law" = some (some (.ref f27)))
    (l27 : K.lookup f27 = some ⟨oc27, od27, .func (PySem.W.fnOf "law" "law" (defArgs s_law) (defBody s_law) (defScope s_law) .none kV27 dc27 pm27 an27 cd27 ct27), sl27⟩)
    (e27 : PySem.W.codeIn K cd27 "law" = true)
    (k27 : PySem.W.keepIn K (.ref f27) = true)
    (aC : PySem.W.nsIn K mainGlobals "System" = some (some (.ref C)))
    (atPdimensions : PySem.W.findIn K (.ref C) "dimensions" = some (some (.ref pPdimensions)))
    (gePdimensions : PySem.W.specialIn K (.ref pPdimensions) "__get__" = some (some (.builtin "property.__get__")))
    (taPdimensions : PySem.W.takesIn K (.ref pPdimensions) = some true)
    (rePdimensions : PySem.W.recIn K pPdimensions "property" = some (.ref gPdimensions :: restPdimensions))
    (lPdimensions : K.lookup gPdimensions = some ⟨ocPdimensions, odPdimensions, .func (PySem.W.fnOf "dimensions" "System.dimensions" (defArgs s_System_dimensions) (defBody s_System_dimensions) (defScope s_System_dimensions) .none kVPdimensions dcPdimensions pmPdimensions anPdimensions cdPdimensions ctPdimensions), slPdimensions⟩)
    (ePdimensions : PySem.W.codeIn K cdPdimensions "System.dimensions" = true)
    (kPdimensions : PySem.W.keepIn K (.ref gPdimensions) = true)
    (atPmodulus : PySem.W.findIn K (.ref C) "modulus" = some (some (.ref pPmodulus)))
    (gePmodulus : PySem.W.specialIn K (.ref pPmodulus) "__get__" = some (some (.builtin "property.__get__")))
    (taPmodulus : PySem.W.takesIn K (.ref pPmodulus) = some true)
    (rePmodulus : PySem.W.recIn K pPmodulus "property" = some (.ref gPmodulus :: restPmodulus))
    (lPmodulus : K.lookup gPmodulus = some ⟨ocPmodulus, odPmodulus, .func (PySem.W.fnOf "modulus" "System.modulus" (defArgs s_System_modulus) (defBody s_System_modulus) (defScope s_System_modulus) .none kVPmodulus dcPmodulus pmPmodulus anPmodulus cdPmodulus ctPmodulus), slPmodulus⟩)
    (ePmodulus : PySem.W.codeIn K cdPmodulus "System.modulus" = true)
    (kPmodulus : PySem.W.keepIn K (.ref gPmodulus) = true)
    (atPnames : PySem.W.findIn K (.ref C) "names" = some (some (.ref pPnames)))
    (gePnames : PySem.W.specialIn K (.ref pPnames) "__get__" = some (some (.builtin "property.__get__")))
    (taPnames : PySem.W.takesIn K (.ref pPnames) = some true)
    (rePnames : PySem.W.recIn K pPnames "property" = some (.ref gPnames :: restPnames))
    (lPnames : K.lookup gPnames = some ⟨ocPnames, odPnames, .func (PySem.W.fnOf "names" "System.names" (defArgs s_System_names) (defBody s_System_names) (defScope s_System_names) .none kVPnames dcPnames pmPnames anPnames cdPnames ctPnames), slPnames⟩)
    (ePnames : PySem.W.codeIn K cdPnames "System.names" = true)
    (kPnames : PySem.W.keepIn K (.ref gPnames) = true)
    (atMreads : PySem.W.findIn K (.ref C) "reads" = some (some (.ref fMreads)))
    (isMreads : PySem.W.isFn K (.ref fMreads) = true)
    (lMreads : K.lookup fMreads = some ⟨ocMreads, odMreads, .func (PySem.W.fnOf "reads" "System.reads" (defArgs s_System_reads) (defBody s_System_reads) (defScope s_System_reads) .none kVMreads dcMreads pmMreads anMreads cdMreads ctMreads), slMreads⟩)
    (eMreads : PySem.W.codeIn K cdMreads "System.reads" = true)
    (kMreads : PySem.W.keepIn K (.ref fMreads) = true)
    (atMconstant : PySem.W.findIn K (.ref C) "constant" = some (some (.ref fMconstant)))
    (isMconstant : PySem.W.isFn K (.ref fMconstant) = true)
    (lMconstant : K.lookup fMconstant = some ⟨ocMconstant, odMconstant, .func (PySem.W.fnOf "constant" "System.constant" (defArgs s_System_constant) (defBody s_System_constant) (defScope s_System_constant) .none kVMconstant dcMconstant pmMconstant anMconstant cdMconstant ctMconstant), slMconstant⟩)
    (eMconstant : PySem.W.codeIn K cdMconstant "System.constant" = true)
    (kMconstant : PySem.W.keepIn K (.ref fMconstant) = true)
    (atMall_reads : PySem.W.findIn K (.ref C) "all_reads" = some (some (.ref fMall_reads)))
    (isMall_reads : PySem.W.isFn K (.ref fMall_reads) = true)
    (lMall_reads : K.lookup fMall_reads = some ⟨ocMall_reads, odMall_reads, .func (PySem.W.fnOf "all_reads" "System.all_reads" (defArgs s_System_all_reads) (defBody s_System_all_reads) (defScope s_System_all_reads) .none kVMall_reads dcMall_reads pmMall_reads anMall_reads cdMall_reads ctMall_reads), slMall_reads⟩)
    (eMall_reads : PySem.W.codeIn K cdMall_reads "System.all_reads" = true)
    (kMall_reads : PySem.W.keepIn K (.ref fMall_reads) = true)
    (atMwith_tables : PySem.W.findIn K (.ref C) "_with_tables" = some (some (.ref fMwith_tables)))
    (isMwith_tables : PySem.W.isFn K (.ref fMwith_tables) = true)
    (lMwith_tables : K.lookup fMwith_tables = some ⟨ocMwith_tables, odMwith_tables, .func (PySem.W.fnOf "_with_tables" "System._with_tables" (defArgs s_Systemwith_tables) (defBody s_Systemwith_tables) (defScope s_Systemwith_tables) .none kVMwith_tables dcMwith_tables pmMwith_tables anMwith_tables cdMwith_tables ctMwith_tables), slMwith_tables⟩)
    (eMwith_tables : PySem.W.codeIn K cdMwith_tables "System._with_tables" = true)
    (kMwith_tables : PySem.W.keepIn K (.ref fMwith_tables) = true)
    (atMwith_table : PySem.W.findIn K (.ref C) "with_table" = some (some (.ref fMwith_table)))
    (isMwith_table : PySem.W.isFn K (.ref fMwith_table) = true)
    (lMwith_table : K.lookup fMwith_table = some ⟨ocMwith_table, odMwith_table, .func (PySem.W.fnOf "with_table" "System.with_table" (defArgs s_System_with_table) (defBody s_System_with_table) (defScope s_System_with_table) .none kVMwith_table dcMwith_table pmMwith_table anMwith_table cdMwith_table ctMwith_table), slMwith_table⟩)
    (eMwith_table : PySem.W.codeIn K cdMwith_table "System.with_table" = true)
    (kMwith_table : PySem.W.keepIn K (.ref fMwith_table) = true)
    (atMlen : PySem.W.findIn K (.ref C) "__len__" = some (some (.ref fMlen)))
    (isMlen : PySem.W.isFn K (.ref fMlen) = true)
    (lMlen : K.lookup fMlen = some ⟨ocMlen, odMlen, .func (PySem.W.fnOf "__len__" "System.__len__" (defArgs s_System_len) (defBody s_System_len) (defScope s_System_len) .none kVMlen dcMlen pmMlen anMlen cdMlen ctMlen), slMlen⟩)
    (eMlen : PySem.W.codeIn K cdMlen "System.__len__" = true)
    (kMlen : PySem.W.keepIn K (.ref fMlen) = true)
    (atI : PySem.W.findIn K (.ref C) "__init__" = some (some (.ref fI)))
    (isI : PySem.W.isFn K (.ref fI) = true)
    (lI : K.lookup fI = some ⟨ocI, odI, .func (PySem.W.fnOf "__init__" "System.__init__" (defArgs s_System_init) (defBody s_System_init) (defScope s_System_init) (.ref T0) kVI dcI pmI anI (.ref c0) ctI), slI⟩)
    (eI : PySem.W.codeIn K (.ref c0) "System.__init__" = true)
    (kI : PySem.W.keepIn K (.ref fI) = true)
    (lT : K.lookup T0 = some ⟨ocT, odT, .seq [Value.int 1000003 tT].toArray nT, slT⟩)
    (pg : PySem.W.plainGet K C Str.empty = true)
    (hd : PySem.W.hasDictIn K C = true)
    (po : PySem.W.plainOver K C = true)
    (sa : PySem.W.findIn K (.ref C) "__setattr__" = some (some (.builtin "object.__setattr__")))
    (mk : PySem.W.makesIn K C = true)
    (kc : PySem.W.keepIn K (.ref C) = true)
    (n_dimensions : PySem.W.findIn K (.ref C) "_dimensions" = some none)
    (n_modulus : PySem.W.findIn K (.ref C) "_modulus" = some none)
    (n_tables : PySem.W.findIn K (.ref C) "_tables" = some none)
    (z_len : PySem.W.nsIn K mainGlobals "len" = some none)
    (z_all : PySem.W.nsIn K mainGlobals "all" = some none)
    (z_min : PySem.W.nsIn K mainGlobals "min" = some none)
    (z_abs : PySem.W.nsIn K mainGlobals "abs" = some none)
    (z_int : PySem.W.nsIn K mainGlobals "int" = some none)
    (z_list : PySem.W.nsIn K mainGlobals "list" = some none)
    (z_tuple : PySem.W.nsIn K mainGlobals "tuple" = some none)
    (z_range : PySem.W.nsIn K mainGlobals "range" = some none)
    (z_zip : PySem.W.nsIn K mainGlobals "zip" = some none)
    (z_enumerate : PySem.W.nsIn K mainGlobals "enumerate" = some none)
    (z_sorted : PySem.W.nsIn K mainGlobals "sorted" = some none)
    (z_max : PySem.W.nsIn K mainGlobals "max" = some none)
    (z_sum : PySem.W.nsIn K mainGlobals "sum" = some none)
    (z_set : PySem.W.nsIn K mainGlobals "set" = some none)
    (z_dict : PySem.W.nsIn K mainGlobals "dict" = some none)
    (v_MOST_DIMENSIONS : PySem.W.nsIn K mainGlobals "MOST_DIMENSIONS" = some (some (.int 3 t_MOST_DIMENSIONS)))
    (v_MOST_TABLES : PySem.W.nsIn K mainGlobals "MOST_TABLES" = some (some (.int 6 t_MOST_TABLES)))
    (v_MOST_READS : PySem.W.nsIn K mainGlobals "MOST_READS" = some (some (.int 12 t_MOST_READS)))
    (v_MOST_LETTERS : PySem.W.nsIn K mainGlobals "MOST_LETTERS" = some (some (.int 8 t_MOST_LETTERS)))
    (hPt : h.get? Pt = some { cls := .none, data := .fields #[] })
    (nPt : K.lookup Pt = none)
    (hc0 : PySem.W.codeHdIn K c0 Pt = true)
    : LawAtG l w K 11 63 "_law_script" mg fa h := by
  have e := hfa.symm.trans (PySem.W.mg_of X G a27)
  cases e
  have T : Txt mg := ⟨PySem.W.mg_none_of X G z_len, PySem.W.mg_none_of X G z_all, PySem.W.mg_none_of X G z_min, PySem.W.mg_none_of X G z_abs, PySem.W.mg_none_of X G z_int, PySem.W.mg_none_of X G z_list, PySem.W.mg_none_of X G z_tuple, PySem.W.mg_none_of X G z_range, PySem.W.mg_none_of X G z_zip, PySem.W.mg_none_of X G z_enumerate, PySem.W.mg_none_of X G z_sorted, ⟨_, PySem.W.mg_of X G v_MOST_DIMENSIONS, ⟨_, rfl⟩⟩, ⟨_, PySem.W.mg_of X G v_MOST_TABLES, ⟨_, rfl⟩⟩, ⟨_, PySem.W.mg_of X G v_MOST_READS, ⟨_, rfl⟩⟩, ⟨_, PySem.W.mg_of X G v_MOST_LETTERS, ⟨_, rfl⟩⟩⟩
  have zm := PySem.W.mg_none_of X G z_max
  have zs := PySem.W.mg_none_of X G z_sum
  have zset := PySem.W.mg_none_of X G z_set
  have zd := PySem.W.mg_none_of X G z_dict
  have cl : Cls K C := ⟨pg, hd, po, sa⟩
  have TC : TxtC K mg C := ⟨cl, n_dimensions, n_modulus, n_tables, PySem.W.mg_of X G aC⟩
  have F1 := fun_mk (st := s_is_name) l1 e1 k1
  have b1 := F1.binds (ps := ["text"]) fun _ _ _ _ _ _ us hl => match us, hl with | [_], _ => rfl
  have F2 := fun_mk (st := s_is_read) l2 e2 k2
  have b2 := F2.binds (ps := ["read", "dimensions"]) fun _ _ _ _ _ _ us hl => match us, hl with | [_, _], _ => rfl
  have F3 := fun_mk (st := s_check_table) l3 e3 k3
  have b3 := F3.binds (ps := ["system", "name"]) fun _ _ _ _ _ _ us hl => match us, hl with | [_, _], _ => rfl
  have F4 := fun_mk (st := s_check_tables) l4 e4 k4
  have b4 := F4.binds (ps := ["dimensions", "tables"]) fun _ _ _ _ _ _ us hl => match us, hl with | [_, _], _ => rfl
  have F5 := fun_mk (st := s_check_tables_that_are_read) l5 e5 k5
  have b5 := F5.binds (ps := ["tables"]) fun _ _ _ _ _ _ us hl => match us, hl with | [_], _ => rfl
  have F6 := fun_mk (st := s_check_system) l6 e6 k6
  have b6 := F6.binds (ps := ["dimensions", "tables", "modulus"]) fun _ _ _ _ _ _ us hl => match us, hl with | [_, _, _], _ => rfl
  have F7 := fun_mk (st := s_check_shifts) l7 e7 k7
  have b7 := F7.binds (ps := ["system", "shifts"]) fun _ _ _ _ _ _ us hl => match us, hl with | [_, _], _ => rfl
  have F8 := fun_mk (st := s_links_of) l8 e8 k8
  have b8 := F8.binds (ps := ["system"]) fun _ _ _ _ _ _ us hl => match us, hl with | [_], _ => rfl
  have F9 := fun_mk (st := s_falling_walk) l9 e9 k9
  have b9 := F9.binds (ps := ["links", "axis", "name", "most"]) fun _ _ _ _ _ _ us hl => match us, hl with | [_, _, _, _], _ => rfl
  have F10 := fun_mk (st := s_barring_walk) l10 e10 k10
  have b10 := F10.binds (ps := ["system"]) fun _ _ _ _ _ _ us hl => match us, hl with | [_], _ => rfl
  have F11 := fun_mk (st := s_moved) l11 e11 k11
  have b11 := F11.binds (ps := ["vector", "own", "other"]) fun _ _ _ _ _ _ us hl => match us, hl with | [_, _, _], _ => rfl
  have F12 := fun_mk (st := s_lesser) l12 e12 k12
  have b12 := F12.binds (ps := ["one", "other"]) fun _ _ _ _ _ _ us hl => match us, hl with | [_, _], _ => rfl
  have F13 := fun_mk (st := s_shifted) l13 e13 k13
  have b13 := F13.binds (ps := ["system", "shifts"]) fun _ _ _ _ _ _ us hl => match us, hl with | [_, _], _ => rfl
  have F14 := fun_mk (st := s_greatest_shifts) l14 e14 k14
  have b14 := F14.binds (ps := ["system"]) fun _ _ _ _ _ _ us hl => match us, hl with | [_], _ => rfl
  have F15 := fun_mk (st := s_Lpool) l15 e15 k15
  have b15 := F15.binds (ps := ["_law_script", "_law_at"]) fun _ _ _ _ _ _ us hl => match us, hl with | [_, _], _ => rfl
  have F16 := fun_mk (st := s_Ldraw) l16 e16 k16
  have b16 := F16.binds (ps := ["_law_pool_here", "_law_many"]) fun _ _ _ _ _ _ us hl => match us, hl with | [_, _], _ => rfl
  have F17 := fun_mk (st := s_Lvector) l17 e17 k17
  have b17 := F17.binds (ps := ["_law_pool_here", "_law_axes", "_law_rows_here"]) fun _ _ _ _ _ _ us hl => match us, hl with | [_, _, _], _ => rfl
  have F18 := fun_mk (st := s_Ltables) l18 e18 k18
  have b18 := F18.binds (ps := ["_law_pool_here", "_law_axes", "_law_most"]) fun _ _ _ _ _ _ us hl => match us, hl with | [_, _, _], _ => rfl
  have F19 := fun_mk (st := s_Lmade) l19 e19 k19
  have b19 := F19.binds (ps := ["_law_axes", "_law_tables_here"]) fun _ _ _ _ _ _ us hl => match us, hl with | [_, _], _ => rfl
  have F20 := fun_mk (st := s_Ltotal) l20 e20 k20
  have b20 := F20.binds (ps := ["_law_some", "_law_axes"]) fun _ _ _ _ _ _ us hl => match us, hl with | [_, _], _ => rfl
  have F21 := fun_mk (st := s_Lcycles) l21 e21 k21
  have b21 := F21.binds (ps := ["_law_rows_here"]) fun _ _ _ _ _ _ us hl => match us, hl with | [_], _ => rfl
  have F22 := fun_mk (st := s_Lshift) l22 e22 k22
  have b22 := F22.binds (ps := ["_law_pool_here", "_law_titles", "_law_axes"]) fun _ _ _ _ _ _ us hl => match us, hl with | [_, _, _], _ => rfl
  have F23 := fun_mk (st := s_Llows) l23 e23 k23
  have b23 := F23.binds (ps := ["_law_rows_here", "_law_titles", "_law_axis"]) fun _ _ _ _ _ _ us hl => match us, hl with | [_, _, _], _ => rfl
  have F24 := fun_mk (st := s_Lwide) l24 e24 k24
  have b24 := F24.binds (ps := ["_law_pool_here", "_law_axes", "_law_most"]) fun _ _ _ _ _ _ us hl => match us, hl with | [_, _, _], _ => rfl
  have F25 := fun_mk (st := s_Ldrawn) l25 e25 k25
  have b25 := F25.binds (ps := ["_law_pool_here", "_law_axes"]) fun _ _ _ _ _ _ us hl => match us, hl with | [_, _], _ => rfl
  have F26 := fun_mk (st := s_Lright) l26 e26 k26
  have b26 := F26.binds (ps := ["_law_pool_here"]) fun _ _ _ _ _ _ us hl => match us, hl with | [_], _ => rfl
  have F27 := fun_mk (st := s_law) l27 e27 k27
  have FPdimensions := fun_mk (st := s_System_dimensions) lPdimensions ePdimensions kPdimensions
  have bPdimensions := FPdimensions.binds (ps := ["self"]) fun _ _ _ _ _ _ us hl => match us, hl with | [_], _ => rfl
  have FPmodulus := fun_mk (st := s_System_modulus) lPmodulus ePmodulus kPmodulus
  have bPmodulus := FPmodulus.binds (ps := ["self"]) fun _ _ _ _ _ _ us hl => match us, hl with | [_], _ => rfl
  have FPnames := fun_mk (st := s_System_names) lPnames ePnames kPnames
  have bPnames := FPnames.binds (ps := ["self"]) fun _ _ _ _ _ _ us hl => match us, hl with | [_], _ => rfl
  have FMreads := fun_mk (st := s_System_reads) lMreads eMreads kMreads
  have bMreads := FMreads.binds (ps := ["self", "name"]) fun _ _ _ _ _ _ us hl => match us, hl with | [_, _], _ => rfl
  have FMconstant := fun_mk (st := s_System_constant) lMconstant eMconstant kMconstant
  have bMconstant := FMconstant.binds (ps := ["self", "name"]) fun _ _ _ _ _ _ us hl => match us, hl with | [_, _], _ => rfl
  have FMall_reads := fun_mk (st := s_System_all_reads) lMall_reads eMall_reads kMall_reads
  have bMall_reads := FMall_reads.binds (ps := ["self"]) fun _ _ _ _ _ _ us hl => match us, hl with | [_], _ => rfl
  have FMwith_tables := fun_mk (st := s_Systemwith_tables) lMwith_tables eMwith_tables kMwith_tables
  have bMwith_tables := FMwith_tables.binds (ps := ["self", "tables"]) fun _ _ _ _ _ _ us hl => match us, hl with | [_, _], _ => rfl
  have FMwith_table := fun_mk (st := s_System_with_table) lMwith_table eMwith_table kMwith_table
  have bMwith_table := FMwith_table.binds (ps := ["self", "name", "constant", "reads"]) fun _ _ _ _ _ _ us hl => match us, hl with | [_, _, _, _], _ => rfl
  have FMlen := fun_mk (st := s_System_len) lMlen eMlen kMlen
  have bMlen := FMlen.binds (ps := ["self"]) fun _ _ _ _ _ _ us hl => match us, hl with | [_], _ => rfl
  have FI : FunC K "__init__" "System.__init__" s_System_init fI _ c0 := ⟨_, _, _, _, _, _, _, _, _, rfl, lI, eI⟩
  have FID : FunD K "__init__" "System.__init__" (defArgs s_System_init) (defBody s_System_init) (defScope s_System_init) [.int 1000003] [] fI _ := ⟨⟨_, _, _, _, _, _, _, _, _, _, rfl, lI, eI, .inr ⟨by simp, T0, _, _, _, rfl, lT, rfl, .cons ⟨_, rfl⟩ .nil⟩, .inl rfl⟩, kI⟩
  obtain ⟨ds, hds, bI⟩ := FID.binds1 (ps := ["self", "dimensions", "tables", "modulus"]) 3 0 (by simp) rfl fun _ _ _ _ _ _ _ us its h1 h2 => match us, its, h1, h2 with | [_, _, _], [_], _, _ => ⟨_, rfl, rfl⟩
  obtain ⟨ds3, hds3, bI3⟩ := FID.binds1 (ps := ["self", "dimensions", "tables", "modulus"]) 4 1 (by simp) rfl fun _ _ _ _ _ _ _ us its h1 h2 => match us, its, h1, h2 with | [_, _, _, _], [_], _, _ => ⟨_, rfl, rfl⟩
  obtain ⟨TT, hTT⟩ : ∃ TT : List (Addr × Str), TT = [(Pt, ("System.__init__.<locals>.<lambda>" : Str))] := ⟨_, rfl⟩
  have hmT : (Pt, ("System.__init__.<locals>.<lambda>" : Str)) ∈ TT := by rw [hTT]; exact List.mem_singleton.mpr rfl
  have huT : ∀ p ∈ TT, p.1 = Pt → p.2 = ("System.__init__.<locals>.<lambda>" : Str) := fun p hp _ => by rw [hTT] at hp; rw [List.mem_singleton.mp hp]
  refine ⟨PySem.W.fnOf "law" "law" (defArgs s_law) (defBody s_law) (defScope s_law) .none kV27 dc27 pm27 an27 cd27 ct27, [(c0, Pt)], spLaw30 K TT, ⟨?_, ?_, ?_⟩, fun s v => .of_eq rfl, ?_, fun base KB GB TB => ?_⟩
  · intro p hp
    rw [List.mem_singleton.mp hp]
    exact hPt
  · intro p hp
    rw [List.mem_singleton.mp hp]
    exact nPt
  · intro p hp
    rw [List.mem_singleton.mp hp]
    exact PySem.W.codeHd_of_K X hc0
  · intro H a ns hl hT hS
    refine ⟨a, ns, rfl, hS, hl, fun p hp => ?_, fun _ => rfl⟩
    rw [hTT] at hp
    rw [List.mem_singleton.mp hp]
    exact LamX.TabS.nil (hT _ (List.mem_singleton.mpr rfl))
  have TBc := TB _ (List.mem_singleton.mpr rfl)
  have c_is_name : C8.Cal l.prog w K mg base 1 "is_name" spIsName [] := ⟨_, _, _, _, ok_is_name F1 T, PySem.W.mg_of X G a1, k1, b1, .nil⟩
  have c_is_read : C8.Cal l.prog w K mg base 2 "is_read" (spIsRead K) [] := ⟨_, _, _, _, ok_is_read F2 T c_is_name, PySem.W.mg_of X G a2, k2, b2, .nil⟩
  have p_dimensions : Prp l.prog w K mg base 1 C "dimensions" (spDims K C) := ⟨_, _, _, _, cl, ⟨atPdimensions, gePdimensions, taPdimensions, _, rePdimensions⟩, ok_dims FPdimensions TC, bPdimensions⟩
  have p_modulus : Prp l.prog w K mg base 1 C "modulus" (spMod K C) := ⟨_, _, _, _, cl, ⟨atPmodulus, gePmodulus, taPmodulus, _, rePmodulus⟩, ok_mod FPmodulus TC, bPmodulus⟩
  have p_names : Prp l.prog w K mg base 1 C "names" (spNames K C) := ⟨_, _, _, _, cl, ⟨atPnames, gePnames, taPnames, _, rePnames⟩, ok_names FPnames T TC, bPnames⟩
  have c_check_table : C8.Cal l.prog w K mg base 3 "check_table" (spCheckTable K C) [] := ⟨_, _, _, _, ok_check_table F3 T p_names, PySem.W.mg_of X G a3, k3, b3, .nil⟩
  have t_reads : C8.Met l.prog w K mg base 4 C "reads" (spReads K C) [] := ⟨_, _, _, _, cl, ⟨atMreads, isMreads, kMreads⟩, ok_reads FMreads T TC c_check_table, bMreads, .nil⟩
  have t_constant : C8.Met l.prog w K mg base 4 C "constant" (spConst K C) [] := ⟨_, _, _, _, cl, ⟨atMconstant, isMconstant, kMconstant⟩, ok_const FMconstant T TC c_check_table, bMconstant, .nil⟩
  have t_all_reads : C8.Met l.prog w K mg base 1 C "all_reads" (spAll K C) [] := ⟨_, _, _, _, cl, ⟨atMall_reads, isMall_reads, kMall_reads⟩, ok_all FMall_reads T TC, bMall_reads, .nil⟩
  have c_check_tables : C8.Cal l.prog w K mg base 3 "check_tables" (spCheckTables K) [] := ⟨_, _, _, _, ok_check_tables F4 T c_is_name c_is_read, PySem.W.mg_of X G a4, k4, b4, .nil⟩
  have c_check_tables_that_are_read : C8.Cal l.prog w K mg base 3 "check_tables_that_are_read" (spCheckRead K) [] := ⟨_, _, _, _, ok_check_read F5 T, PySem.W.mg_of X G a5, k5, b5, .nil⟩
  have c_check_system : C8.Cal l.prog w K mg base 4 "check_system" (spCheckSystem K) [] := ⟨_, _, _, _, ok_check_system F6 T c_check_tables c_check_tables_that_are_read, PySem.W.mg_of X G a6, k6, b6, .nil⟩
  have m_System3 : C8.Mak l.prog w K mg base 5 "System" C (spInit K C TT) [] := ⟨_, _, _, ds3, ⟨mk, atI, isI, kc⟩, ok_init FI T TC c_check_system TBc hmT huT, PySem.W.mg_of X G aC, bI3, hds3⟩
  have m_System : C8.Mak l.prog w K mg base 5 "System" C (spInit K C TT) [.int 1000003] := ⟨_, _, _, _, ⟨mk, atI, isI, kc⟩, ok_init FI T TC c_check_system TBc hmT huT, PySem.W.mg_of X G aC, bI, hds⟩
  have t__with_tables : C8.Met l.prog w K mg base 7 C "_with_tables" (spWith K C TT) [] := ⟨_, _, _, _, cl, ⟨atMwith_tables, isMwith_tables, kMwith_tables⟩, ok_with FMwith_tables T TC m_System3, bMwith_tables, .nil⟩
  have t_with_table : C8.Met l.prog w K mg base 8 C "with_table" (spWT K C TT) [] := ⟨_, _, _, _, cl, ⟨atMwith_table, isMwith_table, kMwith_table⟩, ok_wt FMwith_table T TC t__with_tables, bMwith_table, .nil⟩
  have len_System : LenM l.prog w K mg base 1 C (spLenS K C) := ⟨_, _, _, cl, atMlen, isMlen, ok_lenS FMlen T TC, bMlen⟩
  have c_check_shifts : C8.Cal l.prog w K mg base 3 "check_shifts" (spCheckSh K C) [] := ⟨_, _, _, _, ok_check_sh F7 T p_names p_dimensions, PySem.W.mg_of X G a7, k7, b7, .nil⟩
  have c_links_of : C8.Cal l.prog w K mg base 5 "links_of" (spLinks K C) [] := ⟨_, _, _, _, ok_links F8 T TC t_reads t_all_reads, PySem.W.mg_of X G a8, k8, b8, .nil⟩
  have c_falling_walk : C8.Cal l.prog w K mg base 1 "falling_walk" (spFall K) [] := ⟨_, _, _, _, ok_fall F9 T, PySem.W.mg_of X G a9, k9, b9, .nil⟩
  have c_barring_walk : C8.Cal l.prog w K mg base 6 "barring_walk" (spBarW K C) [] := ⟨_, _, _, _, ok_barW F10 T c_links_of p_dimensions p_names len_System c_falling_walk, PySem.W.mg_of X G a10, k10, b10, .nil⟩
  have c_moved : C8.Cal l.prog w K mg base 1 "moved" (spMoved K) [] := ⟨_, _, _, _, ok_moved F11 T, PySem.W.mg_of X G a11, k11, b11, .nil⟩
  have c_lesser : C8.Cal l.prog w K mg base 1 "lesser" (spLesser K) [] := ⟨_, _, _, _, ok_lesser F12 T, PySem.W.mg_of X G a12, k12, b12, .nil⟩
  have c_shifted : C8.Cal l.prog w K mg base 9 "shifted" (spShifted K C TT) [] := ⟨_, _, _, _, ok_shifted F13 T TC p_names c_check_shifts t_reads t_constant c_moved t_with_table, PySem.W.mg_of X G a13, k13, b13, .nil⟩
  have c_greatest_shifts : C8.Cal l.prog w K mg base 7 "greatest_shifts" (spGS K C) [] := ⟨_, _, _, _, ok_gs F14 T p_dimensions p_names c_links_of c_barring_walk c_lesser c_moved, PySem.W.mg_of X G a14, k14, b14, .nil⟩
  have k_greatest_shifts : CalK l.prog w K mg base 7 "greatest_shifts" (spGS K C) ["system"] kwS1 := ⟨_, _, _, kwS1, ok_gs F14 T p_dimensions p_names c_links_of c_barring_walk c_lesser c_moved, PySem.W.mg_of X G a14, k14, kb1S fun s v => .of_eq (by rfl)⟩
  have c_Lpool : C8.Cal l.prog w K mg base 1 "_law_pool" (spPool K) [] := ⟨_, _, _, _, ok_pool F15 T zm, PySem.W.mg_of X G a15, k15, b15, .nil⟩
  have c_Ldraw : C8.Cal l.prog w K mg base 1 "_law_draw" spDraw [] := ⟨_, _, _, _, ok_draw F16 T, PySem.W.mg_of X G a16, k16, b16, .nil⟩
  have c_Lvector : C8.Cal l.prog w K mg base 2 "_law_vector" (spVec K) [] := ⟨_, _, _, _, ok_vec F17 T zm c_Ldraw, PySem.W.mg_of X G a17, k17, b17, .nil⟩
  have c_Ltables : C8.Cal l.prog w K mg base 3 "_law_tables" (spTabs K) [] := ⟨_, _, _, _, ok_tabs F18 T c_Ldraw c_Lvector, PySem.W.mg_of X G a18, k18, b18, .nil⟩
  have c_Lmade : C8.Cal l.prog w K mg base 7 "_law_made" (spMade K C TT) [] := ⟨_, _, _, _, ok_made22 F19 m_System3, PySem.W.mg_of X G a19, k19, b19, .nil⟩
  have c_Ltotal : C8.Cal l.prog w K mg base 1 "_law_total" (spTot K) [] := ⟨_, _, _, _, ok_tot F20 T zs, PySem.W.mg_of X G a20, k20, b20, .nil⟩
  have c_Lcycles : C8.Cal l.prog w K mg base 1 "_law_cycles" (spCyc K) [] := ⟨_, _, _, _, ok_cyc F21 T zset, PySem.W.mg_of X G a21, k21, b21, .nil⟩
  have c_Lshift : C8.Cal l.prog w K mg base 2 "_law_shift" (spShift K) [] := ⟨_, _, _, _, ok_shift F22 T c_Ldraw, PySem.W.mg_of X G a22, k22, b22, .nil⟩
  have c_Llows : C8.Cal l.prog w K mg base 1 "_law_lows" (spLows K) [] := ⟨_, _, _, _, ok_lows F23 T, PySem.W.mg_of X G a23, k23, b23, .nil⟩
  have c_Lwide : C8.Cal l.prog w K mg base 3 "_law_wide" (spWide K) [] := ⟨_, _, _, _, ok_wide F24 T c_Ldraw c_Lvector, PySem.W.mg_of X G a24, k24, b24, .nil⟩
  have c_Ldrawn : C8.Cal l.prog w K mg base 4 "_law_drawn" (spDrawn K) [] := ⟨_, _, _, _, ok_drawn F25 T c_Ldraw c_Ltables c_Lwide, PySem.W.mg_of X G a25, k25, b25, .nil⟩
  have c_Lright : C8.Cal l.prog w K mg base 10 "_law_right" (spRight30 K TT) [] := ⟨_, _, _, _, ok_right30 F26 T c_Ldraw c_Ldrawn c_Lmade c_Lshift c_shifted t_reads c_Lcycles c_Ltotal c_Llows c_greatest_shifts k_greatest_shifts, PySem.W.mg_of X G a26, k26, b26, .nil⟩
  exact ok_law30 F27 T zm zd TC c_Lpool c_Lright m_System c_greatest_shifts
end Fr

open PySem PySem.W PyProof.Rows
set_option maxRecDepth 100000 in
set_option maxHeartbeats 0 in
theorem PySem.Challenge.cw_farreads_k30_greatest_shifts_holds : PySem.Challenge.rw_farreads_k30_greatest_shifts.Holds := by
  w_on; o_law; k_head; (case hw => w_witness2)
  k_fill
  refine Fr.walk_ofG (n := 63) (k := 11) (x := "_law_script") (l := PySem.Challenge.rw_farreads_k30_greatest_shifts) rfl (by decide) rfl ⟨rfl, by decide, by decide⟩ (fun w h Y => PySem.W.km_in_of Y) ?F
  case F =>
    intro w mg fa h Y KX G hmg
    have hPt := PySem.W.km_tabs_of Y _ (List.mem_singleton.mpr rfl)
    refine' Fr.all_mk (Pt := _) KX G hmg ?a1 ?l1 ?e1 ?k1 ?a2 ?l2 ?e2 ?k2 ?a3 ?l3 ?e3 ?k3 ?a4 ?l4 ?e4 ?k4 ?a5 ?l5 ?e5 ?k5 ?a6 ?l6 ?e6 ?k6 ?a7 ?l7 ?e7 ?k7 ?a8 ?l8 ?e8 ?k8 ?a9 ?l9 ?e9 ?k9 ?a10 ?l10 ?e10 ?k10 ?a11 ?l11 ?e11 ?k11 ?a12 ?l12 ?e12 ?k12 ?a13 ?l13 ?e13 ?k13 ?a14 ?l14 ?e14 ?k14 ?a15 ?l15 ?e15 ?k15 ?a16 ?l16 ?e16 ?k16 ?a17 ?l17 ?e17 ?k17 ?a18 ?l18 ?e18 ?k18 ?a19 ?l19 ?e19 ?k19 ?a20 ?l20 ?e20 ?k20 ?a21 ?l21 ?e21 ?k21 ?a22 ?l22 ?e22 ?k22 ?a23 ?l23 ?e23 ?k23 ?a24 ?l24 ?e24 ?k24 ?a25 ?l25 ?e25 ?k25 ?a26 ?l26 ?e26 ?k26 ?a27 ?l27 ?e27 ?k27 ?aC ?atPdimensions ?gePdimensions ?taPdimensions ?rePdimensions ?lPdimensions ?ePdimensions ?kPdimensions ?atPmodulus ?gePmodulus ?taPmodulus ?rePmodulus ?lPmodulus ?ePmodulus ?kPmodulus ?atPnames ?gePnames ?taPnames ?rePnames ?lPnames ?ePnames ?kPnames ?atMreads ?isMreads ?lMreads ?eMreads ?kMreads ?atMconstant ?isMconstant ?lMconstant ?eMconstant ?kMconstant ?atMall_reads ?isMall_reads ?lMall_reads ?eMall_reads ?kMall_reads ?atMwith_tables ?isMwith_tables ?lMwith_tables ?eMwith_tables ?kMwith_tables ?atMwith_table ?isMwith_table ?lMwith_table ?eMwith_table ?kMwith_table ?atMlen ?isMlen ?lMlen ?eMlen ?kMlen ?atI ?isI ?lI ?eI ?kI ?lT ?pg ?hd ?po ?sa ?mk ?kc ?n_dimensions ?n_modulus ?n_tables ?z_len ?z_all ?z_min ?z_abs ?z_int ?z_list ?z_tuple ?z_range ?z_zip ?z_enumerate ?z_sorted ?z_max ?z_sum ?z_set ?z_dict ?v_MOST_DIMENSIONS ?v_MOST_TABLES ?v_MOST_READS ?v_MOST_LETTERS hPt ?nPt ?hc0
    (case a1 => k_is)
    (case l1 => k_is)
    (case e1 => k_is)
    (case k1 => k_is)
    (case a2 => k_is)
    (case l2 => k_is)
    (case e2 => k_is)
    (case k2 => k_is)
    (case a3 => k_is)
    (case l3 => k_is)
    (case e3 => k_is)
    (case k3 => k_is)
    (case a4 => k_is)
    (case l4 => k_is)
    (case e4 => k_is)
    (case k4 => k_is)
    (case a5 => k_is)
    (case l5 => k_is)
    (case e5 => k_is)
    (case k5 => k_is)
    (case a6 => k_is)
    (case l6 => k_is)
    (case e6 => k_is)
    (case k6 => k_is)
    (case a7 => k_is)
    (case l7 => k_is)
    (case e7 => k_is)
    (case k7 => k_is)
    (case a8 => k_is)
    (case l8 => k_is)
    (case e8 => k_is)
    (case k8 => k_is)
    (case a9 => k_is)
    (case l9 => k_is)
    (case e9 => k_is)
    (case k9 => k_is)
    (case a10 => k_is)
    (case l10 => k_is)
    (case e10 => k_is)
    (case k10 => k_is)
    (case a11 => k_is)
    (case l11 => k_is)
    (case e11 => k_is)
    (case k11 => k_is)
    (case a12 => k_is)
    (case l12 => k_is)
    (case e12 => k_is)
    (case k12 => k_is)
    (case a13 => k_is)
    (case l13 => k_is)
    (case e13 => k_is)
    (case k13 => k_is)
    (case a14 => k_is)
    (case l14 => k_is)
    (case e14 => k_is)
    (case k14 => k_is)
    (case a15 => k_is)
    (case l15 => k_is)
    (case e15 => k_is)
    (case k15 => k_is)
    (case a16 => k_is)
    (case l16 => k_is)
    (case e16 => k_is)
    (case k16 => k_is)
    (case a17 => k_is)
    (case l17 => k_is)
    (case e17 => k_is)
    (case k17 => k_is)
    (case a18 => k_is)
    (case l18 => k_is)
    (case e18 => k_is)
    (case k18 => k_is)
    (case a19 => k_is)
    (case l19 => k_is)
    (case e19 => k_is)
    (case k19 => k_is)
    (case a20 => k_is)
    (case l20 => k_is)
    (case e20 => k_is)
    (case k20 => k_is)
    (case a21 => k_is)
    (case l21 => k_is)
    (case e21 => k_is)
    (case k21 => k_is)
    (case a22 => k_is)
    (case l22 => k_is)
    (case e22 => k_is)
    (case k22 => k_is)
    (case a23 => k_is)
    (case l23 => k_is)
    (case e23 => k_is)
    (case k23 => k_is)
    (case a24 => k_is)
    (case l24 => k_is)
    (case e24 => k_is)
    (case k24 => k_is)
    (case a25 => k_is)
    (case l25 => k_is)
    (case e25 => k_is)
    (case k25 => k_is)
    (case a26 => k_is)
    (case l26 => k_is)
    (case e26 => k_is)
    (case k26 => k_is)
    (case a27 => k_is)
    (case l27 => k_is)
    (case e27 => k_is)
    (case k27 => k_is)
    (case aC => k_is)
    (case atPdimensions => k_is)
    (case gePdimensions => k_is)
    (case taPdimensions => k_is)
    (case rePdimensions => k_is)
    (case lPdimensions => k_is)
    (case ePdimensions => k_is)
    (case kPdimensions => k_is)
    (case atPmodulus => k_is)
    (case gePmodulus => k_is)
    (case taPmodulus => k_is)
    (case rePmodulus => k_is)
    (case lPmodulus => k_is)
    (case ePmodulus => k_is)
    (case kPmodulus => k_is)
    (case atPnames => k_is)
    (case gePnames => k_is)
    (case taPnames => k_is)
    (case rePnames => k_is)
    (case lPnames => k_is)
    (case ePnames => k_is)
    (case kPnames => k_is)
    (case atMreads => k_is)
    (case isMreads => k_is)
    (case lMreads => k_is)
    (case eMreads => k_is)
    (case kMreads => k_is)
    (case atMconstant => k_is)
    (case isMconstant => k_is)
    (case lMconstant => k_is)
    (case eMconstant => k_is)
    (case kMconstant => k_is)
    (case atMall_reads => k_is)
    (case isMall_reads => k_is)
    (case lMall_reads => k_is)
    (case eMall_reads => k_is)
    (case kMall_reads => k_is)
    (case atMwith_tables => k_is)
    (case isMwith_tables => k_is)
    (case lMwith_tables => k_is)
    (case eMwith_tables => k_is)
    (case kMwith_tables => k_is)
    (case atMwith_table => k_is)
    (case isMwith_table => k_is)
    (case lMwith_table => k_is)
    (case eMwith_table => k_is)
    (case kMwith_table => k_is)
    (case atMlen => k_is)
    (case isMlen => k_is)
    (case lMlen => k_is)
    (case eMlen => k_is)
    (case kMlen => k_is)
    (case atI => k_is)
    (case isI => k_is)
    (case lI => k_is)
    (case eI => k_is)
    (case kI => k_is)
    (case lT => k_is)
    (case pg => k_is)
    (case hd => k_is)
    (case po => k_is)
    (case sa => k_is)
    (case mk => k_is)
    (case kc => k_is)
    (case n_dimensions => k_is)
    (case n_modulus => k_is)
    (case n_tables => k_is)
    (case z_len => k_is)
    (case z_all => k_is)
    (case z_min => k_is)
    (case z_abs => k_is)
    (case z_int => k_is)
    (case z_list => k_is)
    (case z_tuple => k_is)
    (case z_range => k_is)
    (case z_zip => k_is)
    (case z_enumerate => k_is)
    (case z_sorted => k_is)
    (case z_max => k_is)
    (case z_sum => k_is)
    (case z_set => k_is)
    (case z_dict => k_is)
    (case v_MOST_DIMENSIONS => k_is)
    (case v_MOST_TABLES => k_is)
    (case v_MOST_READS => k_is)
    (case v_MOST_LETTERS => k_is)
    (case nPt => kernel_rfl)
    (case hc0 => kernel_rfl)
