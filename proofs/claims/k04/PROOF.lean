import PyProof.Rows.All
import Wide.All
import OpenK.AllK
import Wide.FinOn
import HandS.ForMost
import HandS.Wide
import HandS.ForExc
import HandS.Deep
import HandS.Evl
import HandS.Walk
import HandS.Codes
import HandS.Zip
import HandS.Property
import HandS.Defaults
import HandS.TupAny
import HandS.More
import HandS.Lambda
import HandS.SortKw
import KE.SortKeyHeap
import HandS.DictComp
import PySem.Challenge.RW_farreads_k04_names_and_axes_exchanged
import HandS.DeepEq
import HandS.OwnEq
import KE.GoesEnum
import HandS.EndTab
import PyProof.ReprRoads
import HandS.RaiseMore
import PyProof.ReprLen
import HandS.Rev
import HandS.SortInts
import HandS.Conv
import PyProof.Rows.CountFlat
import KE.KDictZip
import HandS.ExcValue
import PyProof.Rows.ReprOcc
set_option Elab.async false
set_option linter.all false
set_option maxRecDepth 100000
set_option maxHeartbeats 8000000
namespace Fr
open PySem PySem.Spec PyProof.Rows L2
section
variable {K : PySem.W.Frag} {H H' : Hp}
theorem sqt (e : Same H H') {a : Addr} {xs : List V} (h : SqT K H a xs) : SqT K H' a xs := Evl.ex_t e h
theorem sql (e : Same H H') {a : Addr} {xs : List V} (h : SqL K H a xs) : SqL K H' a xs := Evl.ex_l e h
/-- lists, tuples, locked things -/
def dat : HO → Bool
  | .lst _ => true
  | .tup _ => true
  | .frz _ _ => true
  | _ => false
/-- what data is made of stays -/
def SD (H H' : Hp) : Prop := ∀ b o, H b = some o → dat o = true → H' b = some o
theorem SD.of (e : Same H H') : SD H H' := fun b o h _ => e b o h
theorem SD.tr {H'' : Hp} (a : SD H H') (b : SD H' H'') : SD H H'' := fun c o h d => b c o (a c o h d) d
theorem SD.upd {s : Addr} {u o : HO} (e : SD H H') (h : H' s = some u) (n : dat u = false) : SD H (upd H' s o) := fun b x q d => by
  have z := e b x q d
  have ne : b ≠ s := fun y => by
    rw [y, h] at z
    cases z
    rw [n] at d
    cases d
  rw [upd_ne ne]
  exact z
theorem sqtd (e : SD H H') {a : Addr} {xs : List V} (h : SqT K H a xs) : SqT K H' a xs := by
  rcases h with (h | ⟨o, h⟩) | h
  · exact .inl (.inl (e _ _ h rfl))
  · exact .inl (.inr ⟨o, e _ _ h rfl⟩)
  · exact .inr h
theorem sqld (e : SD H H') {a : Addr} {xs : List V} (h : SqL K H a xs) : SqL K H' a xs := by
  rcases h with (h | ⟨o, h⟩) | h
  · exact .inl (.inl (e _ _ h rfl))
  · exact .inl (.inr ⟨o, e _ _ h rfl⟩)
  · exact .inr h
mutual
theorem dpd (e : SD H H') : ∀ (d : PyData) (v : V), Dp K H v d → Dp K H' v d
  | .none, _, h => by cases h; exact .non
  | .bool b, _, h => by cases h; exact .bl b
  | .int i, _, h => by cases h; exact .int i
  | .str x, _, h => by cases h; exact .str x
  | .list ds, _, h => by
    cases h with
    | lst hs ha => exact .lst (sqld e hs) (dpsd e ds _ ha)
  | .tuple ds, _, h => by
    cases h with
    | tup hs ha => exact .tup (sqtd e hs) (dpsd e ds _ ha)
  | .dict _, _, h => by cases h
theorem dpsd (e : SD H H') : ∀ (ds : List PyData) (vs : List V), DpAll K H vs ds → DpAll K H' vs ds
  | [], _, h => by cases h; exact .nil
  | d :: ds, _, h => by
    cases h with
    | cons h1 h2 => exact .cons (dpd e d _ h1) (dpsd e ds _ h2)
end
theorem dpm (e : Same H H') (d : PyData) (v : V) (h : Dp K H v d) : Dp K H' v d := dpd (.of e) d v h
theorem dpsm (e : Same H H') (ds : List PyData) (vs : List V) (h : DpAll K H vs ds) : DpAll K H' vs ds := dpsd (.of e) ds vs h
theorem dps_len : ∀ {ds : List PyData} {vs : List V}, DpAll K H vs ds → vs.length = ds.length
  | [], _, h => by cases h; rfl
  | d :: ds, _, h => by
    cases h with
    | cons h1 h2 => exact congrArg Nat.succ (dps_len h2)
theorem dps_get : ∀ {ds : List PyData} {vs : List V} {i : Nat} {v : V}, DpAll K H vs ds → vs[i]? = some v → ∃ d, ds[i]? = some d ∧ Dp K H v d
  | [], _, _, _, h, e => by cases h; cases e
  | d :: ds, _, 0, v, h, e => by
    cases h with
    | cons h1 h2 => cases e; exact ⟨d, rfl, h1⟩
  | d :: ds, _, i + 1, v, h, e => by
    cases h with
    | cons h1 h2 => exact dps_get (i := i) h2 (by simpa using e)
theorem dps_get' : ∀ {ds : List PyData} {vs : List V} {i : Nat} {d : PyData}, DpAll K H vs ds → ds[i]? = some d → ∃ v, vs[i]? = some v ∧ Dp K H v d
  | [], _, _, _, h, e => by cases e
  | d :: ds, _, 0, v, h, e => by
    cases h with
    | cons h1 h2 => cases e; exact ⟨_, rfl, h1⟩
  | d :: ds, _, i + 1, v, h, e => by
    cases h with
    | cons h1 h2 => simpa using dps_get' (i := i) h2 (by simpa using e)
theorem dps_app : ∀ {ds es : List PyData} {vs us : List V}, DpAll K H vs ds → DpAll K H us es → DpAll K H (vs ++ us) (ds ++ es)
  | [], _, _, _, h, k => by cases h; exact k
  | d :: ds, _, _, _, h, k => by
    cases h with
    | cons h1 h2 => exact .cons h1 (dps_app h2 k)
theorem dps_one {v : V} {d : PyData} (h : Dp K H v d) : DpAll K H [v] [d] := .cons h .nil
theorem dps_snoc {ds : List PyData} {vs : List V} {v : V} {d : PyData} (h : DpAll K H vs ds) (k : Dp K H v d) : DpAll K H (vs ++ [v]) (ds ++ [d]) := dps_app h (dps_one k)
/-- a new object leaves what stands -/
theorem snew {p : Addr} {o : HO} (h : H p = none) : Same H (upd H p o) := fun b x e => by
  rw [upd_ne (ne_of_none e h)]
  exact e
theorem smut {p : Addr} {o : HO} (e : Same H H') (h : H p = none) : Same H (upd H' p o) := fun b x q => by
  rw [upd_ne (ne_of_none q h)]
  exact e b x q
theorem dint {v : V} {i : Int} (h : Dp K H v (.int i)) : v = .int i := by cases h; rfl
theorem dstr {v : V} {x : Str} (h : Dp K H v (.str x)) : v = .str x := by cases h; rfl
theorem dtup {v : V} {ds : List PyData} (h : Dp K H v (.tuple ds)) : ∃ a xs, v = .ref a ∧ SqT K H a xs ∧ DpAll K H xs ds := by
  cases h with
  | tup hs ha => exact ⟨_, _, rfl, hs, ha⟩
theorem dlst {v : V} {ds : List PyData} (h : Dp K H v (.list ds)) : ∃ a xs, v = .ref a ∧ SqL K H a xs ∧ DpAll K H xs ds := by
  cases h with
  | lst hs ha => exact ⟨_, _, rfl, hs, ha⟩
theorem dps_ints : ∀ {ns : List Int} {vs : List V}, DpAll K H vs (ns.map PyData.int) → vs = ns.map V.int
  | [], _, h => by cases h; rfl
  | n :: ns, _, h => by
    cases h with
    | cons h1 h2 => cases h1; rw [dps_ints h2]; rfl
theorem dps3 {a b c : PyData} {vs : List V} (h : DpAll K H vs [a, b, c]) : ∃ x y z, vs = [x, y, z] ∧ Dp K H x a ∧ Dp K H y b ∧ Dp K H z c := by
  cases h with
  | cons h1 h =>
    cases h with
    | cons h2 h =>
      cases h with
      | cons h3 h =>
        cases h
        exact ⟨_, _, _, rfl, h1, h2, h3⟩
theorem dps2 {a b : PyData} {vs : List V} (h : DpAll K H vs [a, b]) : ∃ x y, vs = [x, y] ∧ Dp K H x a ∧ Dp K H y b := by
  cases h with
  | cons h1 h =>
    cases h with
    | cons h2 h =>
      cases h
      exact ⟨_, _, rfl, h1, h2⟩
theorem ints_dps : ∀ (ns : List Int), DpAll K H (ns.map V.int) (ns.map PyData.int)
  | [] => .nil
  | n :: ns => .cons (.int n) (ints_dps ns)
end
/-- ** with a base of any size within the line -/
def CPowW (i j : Int) : Prop := 0 ≤ j ∧ j ≤ 3 ∧ i.natAbs < 2 ^ 1000000
section
variable {X : Cx}
theorem op_powW : OpR X (binaryOp .Pow) (rI CPowW fun i j => .int (i ^ j.toNat)) := opI fun i j _ _ _ _ _ hc q => by
  obtain ⟨h0, h3, hb⟩ := hc
  refine pow_int h0 ?_ q
  have b : Builtin.Int.intBits i ≤ i.natAbs.log2 + 1 := by
    unfold Builtin.Int.intBits
    split <;> omega
  have l : i.natAbs.log2 < 1000000 := PySem.Flt.log2_lt_of (by decide) hb
  have c : (Builtin.Int.intBits i : Int) ≤ 1000000 := by omega
  have c0 : (0 : Int) ≤ (Builtin.Int.intBits i : Int) := Int.natCast_nonneg _
  calc (Builtin.Int.intBits i : Int) * j ≤ 1000000 * 3 := Int.mul_le_mul c h3 h0 (by decide)
    _ ≤ 2 ^ 27 := by decide
end
end Fr

namespace Fr
open PySem PySem.Spec PyProof.Rows L2
theorem same_refl {H : Hp} : Same H H := fun _ _ h => h
theorem same_tr {A B C : Hp} (a : Same A B) (b : Same B C) : Same A C := fun x o h => b x o (a x o h)
theorem yat_same {xs : List V} {i : Nat} {H : Hp} {x : V} {H' : Hp} (y : YAt xs i H x H') : Same H H' := by
  obtain ⟨rfl, _⟩ := y
  exact same_refl
theorem ypair_same {xs ys : Nat → Option V} {i : Nat} {H : Hp} {x : V} {H' : Hp} (y : YPair xs ys i H x H') : Same H H' := by
  obtain ⟨T, _, _, _, n, rfl, _⟩ := y
  exact snew n
theorem free_of {H H' : Hp} {p : Addr} (e : Same H H') (h : H' p = none) : H p = none := Same.free e h
theorem get_range {n i : Nat} (h : i < n) : (List.range n)[i]? = some i := by simp [h]
/-- a comprehension whose elements are told by the turn -/
theorem lc_flat {J : It} {n : Nat} {G : Hp → Prop} {Y : Nat → Hp → V → Hp → Prop} (w : Walk J n G Y) {g : TG} {te : TE} {vs : List Nat} {σ : L2.St} {H1 : Hp} {D : Addr} {Qd : Hp → Prop} (f : Nat → V) (hn : n ≤ 1000000) (hD : H1 D = none) (hG : ∀ H, Same H1 H → G H)
    (hY : ∀ i H x H', Y i H x H' → Same H H')
    (hs : ∀ i x H H', i < n → Same H1 H → Y i H x H' → ∀ R : V → Hp → Prop, (∀ H4, Same H' H4 → R (f i) H4) → g x (wipe σ vs) H' fun σ2 H2 => wipe σ2 vs = wipe σ vs ∧ te σ2 H2 R)
    (hd : ∀ H, Same H1 H → H D = some (.lst ((List.range n).map f)) → Qd H) :
    ∃ W : Nat → Nat → Hp → Prop, (∃ m, W 0 m (upd H1 D (.lst []))) ∧ ∀ i m H, W i m H →
      (J.stop i H ∧ Qd H) ∨ (J.go i H ∧ ∃ Nx : Hp → Prop, (∀ H', Nx H' → ∃ m', m' < m ∧ W (i + 1) m' H') ∧ ∀ x H', J.yld i H x H' → g x (wipe σ vs) H' fun σ2 H2 => wipe σ2 vs = wipe σ vs ∧ tYes σ2 H2 fun b H3 =>
        if b = true then te σ2 H3 fun y H4 => ∃ acc, H4 D = some (.lst acc) ∧ acc.length < sizeLine ∧ Nx (upd H4 D (.lst (acc ++ [y]))) else Nx H3) := by
  refine lc_it w (fun i H => Same H1 H ∧ H D = some (.lst ((List.range i).map f))) ⟨snew hD, upd_same⟩ (fun i H _ p => hG H p.1) (fun i x H H' hi p y => ?_) fun H p => hd H p.1 p.2
  have sm := hY i H x H' y
  refine hs i x H H' hi p.1 y _ fun H4 s4 => ⟨_, s4 _ _ (sm _ _ p.2), ?_, ?_, ?_⟩
  · rw [List.length_map, List.length_range]
    exact Nat.lt_of_lt_of_le (by omega : i < 1000001) (by rw [sizeLine_eq]; decide)
  · exact smut (same_tr p.1 (same_tr sm s4)) hD
  · rw [upd_same, List.range_succ, List.map_append]
    rfl
/-- a property that may be read by its name -/
structure Prp (P : Program) (w : World) (K : PySem.W.Frag) (mg : Str → Option Value) (base : Heap) (k : Nat) (C : Addr) (f : Str) (sp : Sp) : Prop where
  ex : ∃ (p g : Addr) (fd : FuncData) (ps : List Str), Cls K C ∧ PropOf K C f p g ∧ FnOk P w K mg base CX0 k g fd ps sp ∧ Binds K fd ps []
section
variable {X : Cx}
theorem pe_pr {k j : Nat} {C : Addr} {f : Str} {sp : Sp} {e : Expr} {pos : Pos} {ta : TE} (he : PE X e ta) (c : Prp X.prog X.w X.K X.mg X.base k C f sp) (hr : Room j X.A) (hk : k + 1 ≤ j) (hab : attributeBase e f X.env (eval e X.env) = eval e X.env) :
    PE X (.Attribute e f pos) (tProp C sp [] E0 ta) := by
  obtain ⟨p, g, fd, ps, hc, hp, F, hb⟩ := c.ex
  exact pe_prop he hc hp F (hr.mono hk) hb .nil pass0 hab
theorem _root_.L2.Room.units1 {k : Nat} {A : Around} (r : Room k A) : A.units + 65 < cLine := by
  have := r.un
  omega
end
def rTupS (K : PySem.W.Frag) : List V → Hp → VK → Prop := fun xs H Q => ∃ p ys, xs = [.ref p] ∧ ((SqL K H p ys ∧ ∀ l, H l = none → Q (.ref l) (upd H l (.tup ys))) ∨ (SqT K H p ys ∧ Q (.ref p) H))
end Fr

namespace Fr
open PySem PySem.Spec PyProof.Rows L2
theorem vals_each1 {α : Type} : ∀ {bs : List (V × α)} {us : List Value}, Vals (bs.map Prod.fst) us → PySem.W.EachIs (fun (v : Value) (x : V × α) => RelV x.1 v) us bs
  | [], _, h => by cases h; exact .nil
  | b :: bs, _, h => by
    cases h with
    | cons h t => exact .cons h (vals_each1 t)
theorem each_vals1 {α : Type} : ∀ {bs : List (V × α)} {us : List Value}, PySem.W.EachIs (fun (v : Value) (x : V × α) => RelV x.1 v) us bs → Vals (bs.map Prod.fst) us
  | [], _, h => by cases h; exact .nil
  | b :: bs, _, h => by
    cases h with
    | cons h t => exact .cons h (each_vals1 t)
/-- one parameter, nothing captured -/
structure LamP (a : Str) (scope : Scope) : Prop where
  kind : scope.kind = .function
  co : scope.isCoroutine = false
  gen : scope.isGenerator = false
  loc : scope.names.lookup a = some .local
  noc : ∀ y ∈ scope.names, y.2 ≠ .cell
  nof : ∀ y ∈ scope.names, y.2 ≠ .free
section
variable {prog : Program} {w : World} {A : Around} {E : Value → Shared → Prop} {s : Shared}
theorem lam_key0 {a q : Str} {f c' t : Addr} {pm ctv : Value} {params : Arguments} {scope : Scope} {cl : List (Str × Addr)} {p1 p2 p3 : Pos} {kk : Nat} {x : Str} {u : Tok} {items : List Value} (L : LamP a scope) (ha : (a == ("__debug__" : Str)) = false)
    (ho : s.heap.get? f = some (PySem.W.kla_obj "<lambda>" q params (.Subscript (.Name a p1) (.Constant (.int 0) kk p2) p3) scope cl pm c' ctv)) (hcr : s.heap.CodeRec (.ref c') q) (hroom : A.depth < recursionLimit) (hlim : s.heap.NoLimit)
    (hbind : ∀ v, bindArgs (PySem.W.kla_fn "<lambda>" q params (.Subscript (.Name a p1) (.Constant (.int 0) kk p2) p3) scope cl pm (.ref c') ctv) ⟨[v], []⟩ = pure [(a, v)]) (ht : IsTup s.heap t (Value.str x u :: items).toArray) :
    wpAny (model prog w) A (call (.ref f) [.ref t]) (PySem.W.KeyPure (.str x) s) E s := by
  refine wpAny_call (PySem.W.kla_callFunE hroom ho rfl L.co L.gen rfl hcr ?_)
  rw [hbind]
  refine wpAny_pure (wpAny_newFunctionEnv (fun y hy => L.noc y hy) (fun y hy => ?_) (fun h₁ hns hsb => ⟨hlim.fresh _ hsb, ?_⟩) L.kind)
  · have e : y = (a, Value.ref t) := by simpa using hy
    rw [e]
    exact L.loc
  · have kp : ∀ b o, s.heap.get? b = some o → h₁.get? b = some o := fun b o e => hsb.extBut b o (Nat.ne_of_lt (Heap.lt_size e)) (Heap.get?_push_of_some _ e)
    refine PySem.W.kla_codeExpr (Subscript_ (wpAny_Name (wpAny_loadName_local (v := .ref t) L.kind L.loc hns ?_ ?_) ha))
    · show List.lookup a ([(a, Value.ref t)] : List (Str × Value)) = _
      simp [List.lookup]
    · refine wpAny_Constant_int ?_
      refine item_tupleL (j := 0) (x := .str x u) (l := Value.str x u :: items) ?_ (by decide) (by decide) ?_ rfl ?_
      · obtain ⟨o, h1, h2, n, h3⟩ := ht
        exact ⟨o, kp _ _ h1, h2, n, h3⟩
      · show (if (decide ((0 : Int) ≤ (if (0 : Int) < 0 then 0 + ((Value.str x u :: items).length : Int) else 0)) && decide ((if (0 : Int) < 0 then 0 + ((Value.str x u :: items).length : Int) else 0) < ((Value.str x u :: items).length : Int))) = true then some (if (0 : Int) < 0 then 0 + ((Value.str x u :: items).length : Int) else 0).toNat else none) = some 0
        rw [if_neg (by decide : ¬ (0 : Int) < 0)]
        have h : (0 : Int) < ((Value.str x u :: items).length : Int) := by
          rw [List.length_cons]
          omega
        rw [decide_eq_true (Int.le_refl 0), decide_eq_true h]
        rfl
      · exact ⟨h₁, _, rfl, kp, PySem.Reads.str x u⟩
end
/-- by the first text, from the least on -/
def leK {β : Type} (k : β → Str) : β → β → Bool := fun a b => decide ((k a).cps.toList ≤ (k b).cps.toList)
def oneV (R : VK) : List V → Hp → Prop
  | [v], H => R v H
  | _, _ => False
theorem oneV_of {R : VK} {vs : List V} {H : Hp} (h : oneV R vs H) : ∃ v, vs = [v] ∧ R v H := by
  match vs, h with
  | [v], h => exact ⟨v, rfl, h⟩
def tSortKey {α : Type} (kf : α → Str) (K : PySem.W.Frag) (T : List (Addr × Str)) (te : TE) : TE := fun σ H Q => te σ H fun v H1 => ∃ (a : Addr) (bs : List (V × α)), v = .ref a ∧ SqL K H1 a (bs.map Prod.fst) ∧ LamX.Tabs T H1 ∧
  (∀ y ∈ bs, ∃ t zs, y.1 = .ref t ∧ SqT K H1 t (.str (kf y.2) :: zs)) ∧ ∀ H2, LamX.ExtN H1 H2 → LamX.Tabs T H2 → ∀ p, H2 p = none → Q (.ref p) (upd H2 p (.lst ((bs.mergeSort (leK fun y => kf y.2)).map Prod.fst)))
theorem same_of_ext {B H1 H2 : Hp} (e : Same B H1) (n : ∀ b ps, B b ≠ some (.tbl ps)) (x : LamX.ExtN H1 H2) : Same B H2 := fun b o h => x b o (e b o h) fun ps z => n b ps (by rw [h, z])
theorem sqt_ext {K : PySem.W.Frag} {H1 H2 : Hp} {a : Addr} {xs : List V} (x : LamX.ExtN H1 H2) (h : SqT K H1 a xs) : SqT K H2 a xs := by
  rcases h with (h | ⟨o, h⟩) | h
  · exact .inl (.inl (x _ _ h fun ps z => by cases z))
  · exact .inl (.inr ⟨o, x _ _ h fun ps z => by cases z⟩)
  · exact .inr h
theorem sql_ext {K : PySem.W.Frag} {H1 H2 : Hp} {a : Addr} {xs : List V} (x : LamX.ExtN H1 H2) (h : SqL K H1 a xs) : SqL K H2 a xs := by
  rcases h with (h | ⟨o, h⟩) | h
  · exact .inl (.inl (x _ _ h fun ps z => by cases z))
  · exact .inl (.inr ⟨o, x _ _ h fun ps z => by cases z⟩)
  · exact .inr h
section
variable {X : Cx}
theorem pe_sortKey {α : Type} (kf : α → Str) {T : List (Addr × Str)} {c P : Addr} {k : Nat} {a : Str} {e : Expr} {params : Arguments} {scope : Scope} {p p1 p2 p3 lpos kpos pos : Pos} {kk : Nat} {te : TE} (hg : Gl X "sorted") (hm : X.mg "sorted" = none) (ha : PE X e te) (hr : Room (k + 1) X.A)
    (TB : LamX.TabB X.base X.mg c P) (hcode : X.env.code = .ref c) (hmT : (P, X.env.qual ++ "<lambda>") ∈ T) (hu : ∀ p ∈ T, p.1 = P → p.2 = X.env.qual ++ "<lambda>") (hdef : defaultsOf params X.env = ([], [])) (L : LamP a scope) (hda : (a == ("__debug__" : Str)) = false)
    (hbind : ∀ (q : Str) (cl : List (Str × Addr)) (pm cv ctv v : Value), bindArgs (PySem.W.kla_fn "<lambda>" q params (.Subscript (.Name a p1) (.Constant (.int 0) kk p2) p3) scope cl pm cv ctv) ⟨[v], []⟩ = pure [(a, v)])
    (he : backTo pos (starEach [e] X.env) = (false, eval e X.env) :: backTo pos (starEach [] X.env) := by rfl) (hpl : (backTo pos (starEach [e] X.env)).any Prod.fst = false := by rfl) (hes : starEach (e :: []) X.env = (false, eval e X.env) :: starEach [] X.env := by rfl) :
    PE X (.Call (.Name "sorted" p) [e] [⟨some "key", .Lambda params (.Subscript (.Name a p1) (.Constant (.int 0) kk p2) p3) scope lpos, kpos⟩] pos) (tSortKey kf X.K T te) := by
  refine ⟨fun pins s σ H Q I h => ?_⟩
  refine wpAny_Call_Name_kw (ld_blt I hg hm PyProof.Rows.boot_sorted ?_)
  refine PyProof.Rows.callWith_kw (thn ((pa_cons ha pa_nil hes).run pos pins s σ H (oneV fun v H1 => ∃ (a : Addr) (bs : List (V × α)), v = .ref a ∧ SqL X.K H1 a (bs.map Prod.fst) ∧ LamX.Tabs T H1 ∧
    (∀ y ∈ bs, ∃ t zs, y.1 = .ref t ∧ SqT X.K H1 t (.str (kf y.2) :: zs)) ∧ ∀ H2, LamX.ExtN H1 H2 → LamX.Tabs T H2 → ∀ p, H2 p = none → Q (.ref p) (upd H2 p (.lst ((bs.mergeSort (leK fun y => kf y.2)).map Prod.fst)))) I h) fun us s1 hh => ?_) he hpl (by rfl) (by rfl)
  · obtain ⟨vs, H1, I1, r1, hh⟩ := hh
    obtain ⟨v, rfl, hh⟩ := oneV_of hh
    obtain ⟨b, bs, rfl, hS, hT, hK, q⟩ := hh
    obtain ⟨u, rfl, hu1⟩ := r1.one
    obtain rfl : u = Value.ref b := hu1
    show wpAny _ _ (evalAll ((do let v ← eval (.Lambda params (.Subscript (.Name a p1) (.Constant (.int 0) kk p2) p3) scope lpos) X.env; standAt pos; pure v) :: [])) _ _ s1
    refine wpAny_evalAll_cons (wpAny_bind (LamX.lam_make2 I1 TB hcode hmT hu hT hdef (fun y hy e => absurd e (L.nof y hy)) fun f c' pm ctv H2 s2 I2 xN hT2 hf hfn hfr hco => wpAny_bind (wpAny_standAt (wpAny_pure (wpAny_evalAll_nil ?_)))))
    show wpAny _ _ (call (.builtin "sorted") [.ref b] [(Str.ofString "key", .ref f)]) _ _ s2
    have hS2 := sql_ext xN hS
    obtain ⟨its, rv, hl, hz⟩ := I2.list hS2
    obtain ⟨⟨oc, vsc, tc, hoc, hdc, hvc⟩, _, _⟩ := I2.hok c' _ hco
    have hcr : s2.heap.CodeRec (.ref c') (X.env.qual ++ "<lambda>") := ⟨c', oc, vsc, tc, rfl, hoc, hdc, hvc⟩
    refine PySem.W.sorted_key_data (β := V × α) (vs := its) (bs := bs) (R := fun v x => RelV x.1 v) (b := false) (fun y => PyData.str (kf y.2)) hl.isList (vals_each1 rv) ?_ ?_ ?_ ?_ (PyProof.Rows.ksk_s1 _ _) (fun _ => PyProof.Rows.ksk_l1 _ _) (fun x => PyProof.Rows.ksk_t1 f x) ?_ ?_
    · intro d hd d' hd'
      obtain ⟨y, _, rfl⟩ := List.mem_map.mp hd
      obtain ⟨y', _, rfl⟩ := List.mem_map.mp hd'
      rfl
    · refine Or.inr fun d hd => ?_
      obtain ⟨y, _, rfl⟩ := List.mem_map.mp hd
      constructor
      · intro z
        cases z
      · intro xs z
        cases z
    · rw [List.length_map] at hz
      exact hz
    · intro y hy
      have := hr.un
      show X.A.units + 2 + PyData.depth (.str (kf y.2)) < cLine
      have e : PyData.depth (.str (kf y.2)) ≤ 1 := by simp [PyData.depth]
      omega
    · intro v y hv hy h tk kp
      obtain ⟨t, zs, ey, ht⟩ := hK y hy
      rw [ey] at hv
      obtain rfl : v = Value.ref t := hv
      obtain ⟨jts, rj, hjt, _⟩ := I2.tuple (sqt_ext xN ht)
      cases rj with
      | @cons _ u0 _ js r0 rr =>
        obtain ⟨t0, rfl⟩ := r0
        obtain ⟨o, h1, h2, n, h3⟩ := hjt
        refine lam_key0 (s := { s2 with heap := h, toks := tk }) (A := X.A.in1.in1) (u := t0) (items := js) L hda (kp _ _ hf) ⟨c', oc, vsc, tc, rfl, kp _ _ hoc, hdc, hvc⟩ ?_ (I2.nolimit.keeps kp) (fun v => hbind _ _ _ _ _ v) ⟨o, kp _ _ h1, h2, n, h3⟩
        have := hr.dp
        show X.A.depth < recursionLimit
        omega
    · intro out cc h' tk kp fresh hD hlen' hE
      have hv := each_vals1 hE
      have hle : PySem.W.dataLe false (fun y : V × α => PyData.str (kf y.2)) = leK fun y => kf y.2 := PySem.W.dataLe_str _
      rw [hle] at hv
      have hl2 : ((bs.mergeSort (leK fun y => kf y.2)).map Prod.fst).length ≤ sizeLine := by
        rw [List.length_map, List.length_mergeSort]
        rw [List.length_map] at hz
        exact hz
      exact ⟨.ref _, upd H2 (s2.heap.objs.size + 1) (.lst ((bs.mergeSort (leK fun y => kf y.2)).map Prod.fst)), I2.laid (t' := tk) kp (Nat.le_succ _) ⟨hl2, out, cc, hv, hD⟩, rfl, q H2 xN hT2 _ (I2.hok.fresh (Nat.le_succ _))⟩
end
/-- a dict comprehension over a walk -/
theorem dc_it {J : It} {n : Nat} {G : Hp → Prop} {Y : Nat → Hp → V → Hp → Prop} (w : Walk J n G Y) {g : TG} {tt : TT} {tk tv : TE} {vs : List Nat} {σ : L2.St} {H1 : Hp} {D : Addr} {Qd : Hp → Prop} (Pv : Nat → Hp → Prop) (h0 : Pv 0 (upd H1 D (.dK []))) (hG : ∀ i H, i ≤ n → Pv i H → G H)
    (hs : ∀ i x H H', i < n → Pv i H → Y i H x H' → g x (wipe σ vs) H' fun σ2 H2 => wipe σ2 vs = wipe σ vs ∧ tt σ2 H2 fun b H3 =>
      if b = true then tk σ2 H3 fun y H4 => tv σ2 H4 fun z H5 => ∃ kvs k, y = kV k ∧ H5 D = some (.dK kvs) ∧ kvs.length < sizeLine ∧ Pv (i + 1) (upd H5 D (.dK (putK kvs k z))) else Pv (i + 1) H3) (hd : ∀ H, Pv n H → Qd H) :
    ∃ W : Nat → Nat → Hp → Prop, (∃ m, W 0 m (upd H1 D (.dK []))) ∧ ∀ i m H, W i m H →
      (J.stop i H ∧ Qd H) ∨ (J.go i H ∧ ∃ Nx : Hp → Prop, (∀ H', Nx H' → ∃ m', m' < m ∧ W (i + 1) m' H') ∧ ∀ x H', J.yld i H x H' → g x (wipe σ vs) H' fun σ2 H2 => wipe σ2 vs = wipe σ vs ∧ tt σ2 H2 fun b H3 =>
        if b = true then tk σ2 H3 fun y H4 => tv σ2 H4 fun z H5 => ∃ kvs k, y = kV k ∧ H5 D = some (.dK kvs) ∧ kvs.length < sizeLine ∧ Nx (upd H5 D (.dK (putK kvs k z))) else Nx H3) := by
  refine ⟨fun i m H => m = n - i ∧ i ≤ n ∧ Pv i H, ⟨n, by simp, Nat.zero_le _, h0⟩, ?_⟩
  rintro i m H ⟨rfl, hi, p⟩
  have q := hG i H hi p
  by_cases hlt : i < n
  · exact .inr ⟨w.goes i H hlt q, Pv (i + 1), fun H' p' => ⟨n - (i + 1), by omega, rfl, hlt, p'⟩, fun x H' y => hs i x H H' hlt p (w.yields i H x H' hlt q y)⟩
  · have e : i = n := by omega
    subst e
    exact .inl ⟨w.stops H q, hd H p⟩
theorem SD.ext {H H' : Hp} (x : LamX.ExtN H H') : SD H H' := fun b o h d => x b o h fun ps z => by
  rw [z] at d
  cases d
theorem tabs_upd {T : List (Addr × Str)} {H : Hp} {s : Addr} {u o : HO} (hT : LamX.Tabs T H) (h : H s = some u) (n1 : ∀ ps, u ≠ .tbl ps) (n2 : ∀ c q, u ≠ LamX.CodeO c q) : LamX.Tabs T (upd H s o) := by
  intro p hp
  obtain ⟨ps, h1, h2, h3⟩ := hT p hp
  refine ⟨ps, ?_, h2, fun pos cv hc => ?_⟩
  · rw [upd_ne fun z => by
      rw [z, h] at h1
      exact n1 _ (Option.some.inj h1)]
    exact h1
  · obtain ⟨c, e1, e2⟩ := h3 pos cv hc
    refine ⟨c, e1, ?_⟩
    rw [upd_ne fun z => by
      rw [z, h] at e2
      exact n2 _ _ (Option.some.inj e2)]
    exact e2
theorem tabs_ins {T : List (Addr × Str)} {H : Hp} {s C dx : Addr} {fs : List (Str × V)} {o : HO} (hT : LamX.Tabs T H) (h : H s = some (.ins C dx fs)) : LamX.Tabs T (upd H s o) := tabs_upd hT h (fun ps z => by cases z) (fun c q z => by unfold LamX.CodeO at z; cases z)
theorem tabs_lst {T : List (Addr × Str)} {H : Hp} {s : Addr} {xs : List V} {o : HO} (hT : LamX.Tabs T H) (h : H s = some (.lst xs)) : LamX.Tabs T (upd H s o) := tabs_upd hT h (fun ps z => by cases z) (fun c q z => by unfold LamX.CodeO at z; cases z)
end Fr

namespace Fr
open PySem PySem.Spec PyProof.Rows L2
section
variable {prog : Program} {w : World} {A : Around} {E : Value → Shared → Prop} {s : Shared}
theorem min_intTup {l : Addr} {xs : Array (Int × Tok)} {Q : Value → Shared → Prop} (hh : A.handled = none) (hl : s.heap.IsTuple l (intItems xs)) (hne : 0 < xs.size)
    (h : ∀ v h' tk, (intItems xs)[argBest (fun i j => decide (numAt xs i < numAt xs j)) (xs.size - 1)]? = some v → (∀ b o, s.heap.get? b = some o → h'.get? b = some o) → Q v { s with heap := h', toks := tk }) :
    wpAny (model prog w) A (call (.builtin "min") [.ref l]) Q E s := by
  refine call_min_walk (wpAny_pyIter_tuple hl ?_)
  obtain ⟨o, ho, hc, n, hd⟩ := hl
  have hlt : l < s.heap.objs.size := Heap.lt_size ho
  refine ⟨_, [_, l], [_], _, _, _, _, rfl, Walks.tuple (A := A.in1) hh _ l (Nat.ne_of_lt hlt) (intItems xs), ⟨⟨_, Heap.get?_push_size _ rfl, rfl, rfl⟩, ⟨o, Heap.get?_push_of_some _ ho, hc, n, hd⟩⟩, fun d hdm => ?_, by simpa [intItems] using hne, CmpOf.ints_lt (numAt xs) (fun _ _ => intItems_at), fun v h' tk hP hk => ?_⟩
  · show d < (s.heap.push _).objs.size
    rw [Heap.size_push]
    rcases List.mem_cons.mp hdm with rfl | hdm
    · exact Nat.lt_succ_self _
    · rcases List.mem_cons.mp hdm with rfl | hdm
      · exact Nat.lt_succ_of_lt hlt
      · cases hdm
  · refine h v h' tk (by simpa [intItems] using hP) fun d o e => hk d o (fun hm => ?_) (Heap.get?_push_of_some _ e)
    rcases List.mem_cons.mp hm with e1 | hm
    · have := Heap.lt_size e
      rw [e1] at this
      exact Nat.lt_irrefl _ this
    · cases hm
end
def rMinT (K : PySem.W.Frag) : List V → Hp → VK → Prop := fun vs H Q => ∃ (a : Addr) (ns : List Int), vs = [V.ref a] ∧ SqT K H a (ns.map V.int) ∧ 0 < ns.length ∧ ∀ m, m ∈ ns → (∀ y, y ∈ ns → m ≤ y) → Q (.int m) H
theorem cr_minT {X : Cx} (hc : X.calm = true) : CallR X (.builtin "min") (rMinT X.K) := by
  intro pins s σ H vs us Q I r h
  obtain ⟨a, ns, rfl, hs, hne, q⟩ := h
  obtain ⟨its, rv, hl, _⟩ := I.tuple hs
  rw [Vals.ref1 r]
  obtain ⟨xs, e⟩ := rv.ints.allInts.items
  have hn : numsOf (intItems xs).toList = ns := by rw [← e]; exact rv.ints.numsOf
  rw [nums_intItems] at hn
  subst hn
  rw [e] at hl
  have hsz : 0 < xs.size := by simpa using hne
  refine min_intTup (I.ok.hd hc) hl hsz fun v h' tk hv hk => ?_
  obtain ⟨t, rfl⟩ := intItems_at hv
  obtain ⟨h1, h2⟩ := argBest_lt (numAt xs) (xs.size - 1)
  refine ⟨.int _, H, I.kept hk, ⟨_, rfl⟩, q _ ?_ fun a ha => ?_⟩
  · rw [numAt_eq]; exact PySem.getD_mem (by rw [List.length_map, Array.length_toList]; omega)
  · obtain ⟨j, hj, rfl⟩ := mem_getD ha
    rw [List.length_map, Array.length_toList] at hj
    rw [← numAt_eq]; exact h2 j (by omega)
theorem sgrow {B H : Hp} {p : Addr} {o : HO} (e : Same B H) : Same (upd B p o) (upd H p o) := fun c u h => by
  by_cases hc : c = p
  · rw [hc, upd_same] at h ⊢
    exact h
  · rw [upd_ne hc] at h ⊢
    exact e c u h
/-- an object that the base does not know may change -/
theorem swrite {B H : Hp} {p : Addr} {o : HO} (e : Same B H) (n : B p = none) : Same B (upd H p o) := fun c u h => by
  rw [upd_ne (ne_of_none h n)]
  exact e c u h
theorem walk_zipT {K : PySem.W.Frag} {a b : Addr} {xs ys : List V} {n : Nat} (hn : n = min xs.length ys.length) : Walk (RZ.ItzT K a b) n (fun H => SqT K H a xs ∧ SqT K H b ys) (YPair (fun i => xs[i]?) (fun i => ys[i]?)) := by
  subst hn
  refine ⟨fun i _ hi q => ?_, fun _ q => ⟨xs, ys, q.1, q.2, by omega⟩, fun i H v H' _ q y => ?_⟩
  · have h1 : i < xs.length := by omega
    have h2 : i < ys.length := by omega
    exact ⟨xs, ys, xs[i], ys[i], q.1, q.2, by simp [h1], by simp [h2]⟩
  · obtain ⟨T, x, z, h1, h2, h3, h4, h5⟩ := y
    exact ⟨T, x, z, h1, h2, h3, h4 xs q.1, h5 ys q.2⟩
theorem range_map_get' {α : Type} (xs : List α) (f : Nat → α) (h : ∀ i x, xs[i]? = some x → f i = x) : (List.range xs.length).map f = xs := by
  refine List.ext_getElem? fun i => ?_
  by_cases hi : i < xs.length
  · rw [List.getElem?_map, get_range hi, List.getElem?_eq_getElem hi]
    exact congrArg some (h i _ (List.getElem?_eq_getElem hi))
  · rw [List.getElem?_eq_none (by simp; omega), List.getElem?_eq_none (by omega)]
/-- p - v -/
def minus (p v : List Int) : List Int := List.zipWith (fun a b => a - b) p v
theorem minus_at {p v : List Int} {i : Nat} {a b : Int} (h1 : p[i]? = some a) (h2 : v[i]? = some b) : (minus p v).getD i 0 = a - b := by
  unfold minus
  rw [List.getD_eq_getElem?_getD, List.getElem?_zipWith, h1, h2]
  rfl
theorem minus_range (p v : List Int) : (List.range (min p.length v.length)).map (fun i => V.int ((minus p v).getD i 0)) = (minus p v).map V.int := by
  have := range_map_get' ((minus p v).map V.int) (fun i => V.int ((minus p v).getD i 0)) (fun i b hb => by
    rw [List.getElem?_map] at hb
    obtain ⟨c, h1, h2⟩ := Option.map_eq_some_iff.mp hb
    rw [List.getD_eq_getElem?_getD, h1]
    exact h2)
  rw [List.length_map] at this
  unfold minus at this ⊢
  rw [List.length_zipWith] at this
  exact this
end Fr

namespace Fr
open PySem PySem.Spec PyProof.Rows L2
def topS (i : Nat) : Stmt := PySem.Challenge.pw_farreads_k04_names_and_axes_exchanged.main.body.getD i (.Pass ⟨0, 0, 0, 0⟩)
abbrev s_is_name : Stmt := topS 13
theorem sc_is_name : FnScope ["text", "letter"] ["text"] (defScope s_is_name) := ⟨rfl, rfl, rfl, by decide +kernel, rfl, by decide +kernel, by decide +kernel⟩
-- slots: 0 text, 1 letter
abbrev s_is_read : Stmt := topS 14
theorem sc_is_read : FnScope ["read", "dimensions", "table", "vector", "factor"] ["read", "dimensions"] (defScope s_is_read) := ⟨rfl, rfl, rfl, by decide +kernel, rfl, by decide +kernel, by decide +kernel⟩
-- slots: 0 read, 1 dimensions, 2 table, 3 vector, 4 factor
abbrev s_System_dimensions : Stmt := inClass (topS 20) 3
theorem sc_System_dimensions : FnScope ["self"] ["self"] (defScope s_System_dimensions) := ⟨rfl, rfl, rfl, by decide +kernel, rfl, by decide +kernel, by decide +kernel⟩
-- slots: 0 self
abbrev s_System_modulus : Stmt := inClass (topS 20) 4
theorem sc_System_modulus : FnScope ["self"] ["self"] (defScope s_System_modulus) := ⟨rfl, rfl, rfl, by decide +kernel, rfl, by decide +kernel, by decide +kernel⟩
-- slots: 0 self
abbrev s_System_names : Stmt := inClass (topS 20) 5
theorem sc_System_names : FnScope ["self"] ["self"] (defScope s_System_names) := ⟨rfl, rfl, rfl, by decide +kernel, rfl, by decide +kernel, by decide +kernel⟩
-- slots: 0 self
abbrev s_check_table : Stmt := topS 18
theorem sc_check_table : FnScope ["system", "name"] ["system", "name"] (defScope s_check_table) := ⟨rfl, rfl, rfl, by decide +kernel, rfl, by decide +kernel, by decide +kernel⟩
-- slots: 0 system, 1 name
abbrev s_System_reads : Stmt := inClass (topS 20) 7
theorem sc_System_reads : FnScope ["self", "name"] ["self", "name"] (defScope s_System_reads) := ⟨rfl, rfl, rfl, by decide +kernel, rfl, by decide +kernel, by decide +kernel⟩
-- slots: 0 self, 1 name
abbrev s_check_tables : Stmt := topS 16
theorem sc_check_tables : FnScope ["dimensions", "tables", "names", "table", "many", "row", "name", "_", "reads", "read"] ["dimensions", "tables"] (defScope s_check_tables) := ⟨rfl, rfl, rfl, by decide +kernel, rfl, by decide +kernel, by decide +kernel⟩
-- slots: 0 dimensions, 1 tables, 2 names, 3 table, 4 many, 5 row, 6 name, 7 _, 8 reads, 9 read
abbrev s_check_tables_that_are_read : Stmt := topS 17
theorem sc_check_tables_that_are_read : FnScope ["tables", "names", "table", "row", "read"] ["tables"] (defScope s_check_tables_that_are_read) := ⟨rfl, rfl, rfl, by decide +kernel, rfl, by decide +kernel, by decide +kernel⟩
-- slots: 0 tables, 1 names, 2 table, 3 row, 4 read
abbrev s_check_system : Stmt := topS 15
theorem sc_check_system : FnScope ["dimensions", "tables", "modulus"] ["dimensions", "tables", "modulus"] (defScope s_check_system) := ⟨rfl, rfl, rfl, by decide +kernel, rfl, by decide +kernel, by decide +kernel⟩
-- slots: 0 dimensions, 1 tables, 2 modulus
abbrev s_System_init : Stmt := inClass (topS 20) 0
theorem sc_System_init : FnScope ["self", "dimensions", "tables", "modulus", "rows", "name", "constant", "reads"] ["self", "dimensions", "tables", "modulus"] (defScope s_System_init) := ⟨rfl, rfl, rfl, by decide +kernel, rfl, by decide +kernel, by decide +kernel⟩
-- slots: 0 self, 1 dimensions, 2 tables, 3 modulus, 4 rows, 5 name, 6 constant, 7 reads
structure Rd1 where
  t : Str
  v : List Int
  f : Int
structure Tb where
  n : Str
  c : Int
  rs : List Rd1
def Rd1.d (r : Rd1) : PyData := .tuple [.str r.t, .tuple (r.v.map .int), .int r.f]
/-- as a caller hands it in: the reads in a list -/
def Tb.d (t : Tb) : PyData := .tuple [.str t.n, .int t.c, .list (t.rs.map Rd1.d)]
/-- as a system keeps it -/
def Tb.k (t : Tb) : PyData := .tuple [.int t.c, .tuple (t.rs.map Rd1.d)]
def flds (d m : Int) (t : Addr) : List (Str × V) := putF "_tables" (.ref t) (putF "_modulus" (.int m) (putF "_dimensions" (.int d) []))
theorem nDM : ¬ (("_dimensions" : Str) = "_modulus") := by decide +kernel
theorem nDT : ¬ (("_dimensions" : Str) = "_tables") := by decide +kernel
theorem nMT : ¬ (("_modulus" : Str) = "_tables") := by decide +kernel
theorem flds_d (d m : Int) (t : Addr) : (flds d m t).lookup ("_dimensions" : Str) = some (.int d) := by
  unfold flds
  rw [lookup_putF, if_neg nDT, lookup_putF, if_neg nDM, lookup_putF, if_pos rfl]
theorem flds_m (d m : Int) (t : Addr) : (flds d m t).lookup ("_modulus" : Str) = some (.int m) := by
  unfold flds
  rw [lookup_putF, if_neg nMT, lookup_putF, if_pos rfl]
theorem flds_t (d m : Int) (t : Addr) : (flds d m t).lookup ("_tables" : Str) = some (.ref t) := by
  unfold flds
  rw [lookup_putF, if_pos rfl]
theorem flds_no (d m : Int) (t : Addr) {x : Str} (h1 : ¬ x = "_dimensions") (h2 : ¬ x = "_modulus") (h3 : ¬ x = "_tables") : (flds d m t).lookup x = none := by
  unfold flds
  rw [lookup_putF, if_neg h3, lookup_putF, if_neg h2, lookup_putF, if_neg h1]
  rfl
def KvAt (K : PySem.W.Frag) (H : Hp) (kvs : List (Key × V)) (ts : List Tb) : Prop := Paired (fun (kv : Key × V) (t : Tb) => kv.1 = Sum.inr t.n ∧ Dp K H kv.2 t.k) kvs ts
theorem KvAt.mono {K : PySem.W.Frag} {H H' : Hp} (e : Same H H') : ∀ {kvs : List (Key × V)} {ts : List Tb}, KvAt K H kvs ts → KvAt K H' kvs ts
  | [], _, h => by cases h; exact .nil
  | kv :: kvs, _, h => by
    cases h with
    | cons h1 h2 => exact .cons ⟨h1.1, dpm e _ _ h1.2⟩ (KvAt.mono e h2)
theorem KvAt.monoD {K : PySem.W.Frag} {H H' : Hp} (e : SD H H') : ∀ {kvs : List (Key × V)} {ts : List Tb}, KvAt K H kvs ts → KvAt K H' kvs ts
  | [], _, h => by cases h; exact .nil
  | kv :: kvs, _, h => by
    cases h with
    | cons h1 h2 => exact .cons ⟨h1.1, dpd e _ _ h1.2⟩ (KvAt.monoD e h2)
theorem KvAt.app {K : PySem.W.Frag} {H : Hp} : ∀ {kvs ls : List (Key × V)} {ts us : List Tb}, KvAt K H kvs ts → KvAt K H ls us → KvAt K H (kvs ++ ls) (ts ++ us)
  | [], _, _, _, h, k => by cases h; exact k
  | kv :: kvs, _, _, _, h, k => by
    cases h with
    | cons h1 h2 => exact .cons h1 (KvAt.app h2 k)
theorem KvAt.noVal {K : PySem.W.Frag} {H : Hp} {x : Str} : ∀ {kvs : List (Key × V)} {ts : List Tb}, KvAt K H kvs ts → x ∉ ts.map (·.n) → valV kvs (Sum.inr x) = none
  | [], _, h, e => by cases h; rfl
  | (k, v) :: kvs, _, h, e => by
    cases h with
    | @cons _ t' _ ts' h1 h2 =>
      have h1' : k = Sum.inr t'.n := h1.1
      have hx : ¬ t'.n = x := fun z => e (by rw [← z]; exact List.mem_cons_self)
      have e2 := KvAt.noVal (x := x) h2 fun z => e (List.mem_cons_of_mem _ z)
      unfold valV at e2 ⊢
      rw [List.find?_cons_of_neg (by simp [h1', hx])]
      exact e2
theorem KvAt.len {K : PySem.W.Frag} {H : Hp} {kvs : List (Key × V)} {ts : List Tb} (h : KvAt K H kvs ts) : kvs.length = ts.length := Paired.length h
theorem KvAt.keys {K : PySem.W.Frag} {H : Hp} : ∀ {kvs : List (Key × V)} {ts : List Tb}, KvAt K H kvs ts → kvs.map (fun kv => kV kv.1) = ts.map fun t => V.str t.n
  | [], _, h => by cases h; rfl
  | kv :: kvs, _, h => by
    cases h with
    | cons h1 h2 =>
      rw [List.map_cons, List.map_cons, KvAt.keys h2, h1.1]
      rfl
theorem KvAt.get {K : PySem.W.Frag} {H : Hp} {x : Str} : ∀ {kvs : List (Key × V)} {ts : List Tb}, KvAt K H kvs ts → ∀ {t : Tb}, ts.find? (fun t => decide (t.n = x)) = some t → ∃ v, valV kvs (Sum.inr x) = some v ∧ Dp K H v t.k
  | [], _, h, t, e => by cases h; cases e
  | (k, v) :: kvs, _, h, t, e => by
    cases h with
    | @cons _ t' _ ts' h1 h2 =>
      obtain ⟨h1, h3⟩ := h1
      have h1 : k = Sum.inr t'.n := h1
      by_cases hx : t'.n = x
      · rw [List.find?_cons_of_pos (by simpa using hx)] at e
        cases e
        refine ⟨v, ?_, h3⟩
        unfold valV
        rw [List.find?_cons_of_pos (by simp [h1, hx])]
        rfl
      · rw [List.find?_cons_of_neg (by simpa using hx)] at e
        obtain ⟨v', e1, e2⟩ := KvAt.get h2 e
        refine ⟨v', ?_, e2⟩
        unfold valV at e1 ⊢
        rw [List.find?_cons_of_neg (by simp [h1, hx])]
        exact e1
structure SysAt (K : PySem.W.Frag) (C : Addr) (H : Hp) (s : Addr) (d m : Int) (ts : List Tb) : Prop where
  ob : ∃ (dx t : Addr) (kvs : List (Key × V)), H s = some (.ins C dx (flds d m t)) ∧ H t = some (.dK kvs) ∧ KvAt K H kvs ts
theorem SysAt.mono {K : PySem.W.Frag} {C : Addr} {H H' : Hp} {s : Addr} {d m : Int} {ts : List Tb} (e : Same H H') (h : SysAt K C H s d m ts) : SysAt K C H' s d m ts := by
  obtain ⟨dx, t, kvs, h1, h2, h3⟩ := h.ob
  exact ⟨dx, t, kvs, e _ _ h1, e _ _ h2, h3.mono e⟩
structure TxtC (K : PySem.W.Frag) (mg : Str → Option Value) (C : Addr) : Prop where
  cl : Cls K C
  nD : NoAttr K C "_dimensions"
  nM : NoAttr K C "_modulus"
  nT : NoAttr K C "_tables"
  g_System : mg "System" = some (.ref C)
def okSign (c : Nat) : Bool := !decide ([c] < [97]) && !decide ([122] < [c])
def isName (x : Str) : Bool := decide (1 ≤ (x.length : Int)) && decide ((x.length : Int) ≤ 8) && x.cps.toList.all okSign
structure Txt (mg : Str → Option Value) : Prop where
  b_len : mg "len" = none
  b_all : mg "all" = none
  b_min : mg "min" = none
  b_abs : mg "abs" = none
  b_int : mg "int" = none
  b_list : mg "list" = none
  b_tuple : mg "tuple" = none
  b_range : mg "range" = none
  b_zip : mg "zip" = none
  b_enumerate : mg "enumerate" = none
  b_sorted : mg "sorted" = none
  g_MOST_DIMENSIONS : ∃ u, mg "MOST_DIMENSIONS" = some u ∧ RelV (.int 3) u
  g_MOST_TABLES : ∃ u, mg "MOST_TABLES" = some u ∧ RelV (.int 6) u
  g_MOST_READS : ∃ u, mg "MOST_READS" = some u ∧ RelV (.int 12) u
  g_MOST_LETTERS : ∃ u, mg "MOST_LETTERS" = some u ∧ RelV (.int 8) u
theorem range_map_get {α : Type} (xs : List α) (f : Nat → α) (h : ∀ i x, xs[i]? = some x → f i = x) : (List.range xs.length).map f = xs := by
  refine List.ext_getElem? fun i => ?_
  by_cases hi : i < xs.length
  · rw [List.getElem?_map, get_range hi, List.getElem?_eq_getElem hi]
    exact congrArg some (h i _ (List.getElem?_eq_getElem hi))
  · rw [List.getElem?_eq_none (by simp; omega), List.getElem?_eq_none (by omega)]
section
variable {P : Program} {w : World} {K : PySem.W.Frag} {mg : Str → Option Value} {base : Heap}
def spIsName : Sp := fun vs H Q _ => ∃ x : Str, vs = [.str x] ∧ x.length ≤ 100000 ∧ ∀ H', Same H H' → Q (.bl (isName x)) H'
theorem ok_is_name {f : Addr} {fd : FuncData} (F : Fun K "is_name" "is_name" s_is_name f fd) (T : Txt mg) : FnOk P w K mg base CX0 1 f fd ["text"] spIsName := by
  refine F.ok sc_is_name (fun vs H Q E h => ?_) (fun cdv A outer s H vs Q E hr h => ?_)
  · obtain ⟨x, rfl, _⟩ := h
    rfl
  · obtain ⟨x, rfl, hx, q⟩ := h
    refine ⟨_, (pss_one (ps_ret (pe_and (pe_chain op_le op_le pe_int (pe_callB call_len_str (by rfl) T.b_len PySem.boot_len (pa_cons (pv 0) pa_nil)) (C8.pe_gc (by rfl) T.g_MOST_LETTERS)) (pe_one (pe_callB (cr_all rfl) (by rfl) T.b_all (by decide +kernel) (pa_cons (pe_lc (own := [("letter", 1)]) (g := gName 1) (tt := tYes) (by rfl) sc_is_name.nd (pi_str (pv 0)) (blkOk_by (N := ["text", "letter"]) (sc := defScope s_is_name) (by decide +kernel)) (fun _ _ _ _ _ => (pg_name (i := 1) sc_is_name.nd rfl (by first | exact Or.inl rfl | exact Or.inr rfl))) (fun _ _ _ _ _ => pts_nil) (fun _ _ _ _ _ => (pe_chain op_le_str op_le_str pe_str (pv 1) pe_str))) pa_nil)))))), ?_⟩
    have hs : x.length ≤ sizeLine := Nat.le_trans hx (by rw [sizeLine_eq]; decide)
    refine ⟨.str x, rfl, x, rfl, hs, 1, x.length, rfl, rfl, decide (1 ≤ (x.length : Int)), rfl, ?_⟩
    unfold isName at q
    refine ite2 (fun h1 => ?_) (fun h1 => ?_)
    · refine ⟨x.length, 8, rfl, rfl, decide ((x.length : Int) ≤ 8), rfl, ?_⟩
      rw [h1] at q
      refine ite2 (fun h2 => ?_) (fun h2 => ?_)
      · rw [h2] at q
        refine ⟨.str x, rfl, x, rfl, fun D hD => lc_flat walk_str (fun i => .bl (okSign (x.cps.toList.getD i 0))) ?_ hD (fun _ _ => True.intro) (fun i H x H' y => by obtain ⟨rfl, _⟩ := y; exact same_refl) ?_ ?_⟩
        · show x.length ≤ _
          omega
        · rintro i v H1 H2 hi sm ⟨rfl, c, hc, rfl⟩ R hR
          have ec : x.cps.toList.getD i 0 = c := by
            rw [List.getD_eq_getElem?_getD, Array.getElem?_toList, hc]
            rfl
          refine ⟨rfl, .str ⟨#[c]⟩, rfl, ⟨#[97]⟩, ⟨#[c]⟩, rfl, rfl, _, rfl, ?_⟩
          have e2 : okSign (x.cps.toList.getD i 0) = (!decide ([c] < [97]) && !decide ([122] < [c])) := by rw [ec]; rfl
          refine ite2 (fun h3 => ?_) (fun h3 => ?_)
          · refine ⟨⟨#[c]⟩, ⟨#[122]⟩, rfl, rfl, ?_⟩
            have r := hR H2 same_refl
            rw [e2] at r
            have h3' : (!decide ([c] < [97])) = true := h3
            rw [h3'] at r
            exact r
          · have r := hR H2 same_refl
            rw [e2] at r
            have h3' : (!decide ([c] < [97])) = false := by simpa using h3
            rw [h3'] at r
            exact r
        · intro H1 sm hD1
          refine ⟨D, (List.range x.cps.size).map fun i => okSign (x.cps.toList.getD i 0), rfl, Or.inl (Or.inl ?_), ?_⟩
          · rw [hD1, List.map_map]
            rfl
          · have e : (List.range x.cps.size).map (fun i => okSign (x.cps.toList.getD i 0)) = x.cps.toList.map okSign := by
              have := range_map_get (x.cps.toList.map okSign) (fun i => okSign (x.cps.toList.getD i 0)) (fun i b hb => by
                rw [List.getElem?_map] at hb
                obtain ⟨c, h1, h2⟩ := Option.map_eq_some_iff.mp hb
                rw [List.getD_eq_getElem?_getD, h1]
                exact h2)
              rw [List.length_map] at this
              exact this
            rw [e, List.all_map]
            exact q H1 sm
      · have h2' : decide ((x.length : Int) ≤ 8) = false := by simpa using h2
        rw [h2'] at q
        exact q H same_refl
    · have h1' : decide (1 ≤ (x.length : Int)) = false := by simpa using h1
      rw [h1'] at q
      refine ⟨false, rfl, ?_⟩
      exact q H same_refl
def isRead (d : Int) (r : Rd1) : Bool := isName r.t && (decide ((r.v.length : Int) = d) && !decide (r.f = 0))
def spIsRead (K : PySem.W.Frag) : Sp := fun vs H Q _ => ∃ (v : V) (r : Rd1) (d : Int), vs = [v, .int d] ∧ Dp K H v r.d ∧ r.t.length ≤ 100000 ∧ ∀ H', Same H H' → Q (.bl (isRead d r)) H'
theorem ok_is_read {f : Addr} {fd : FuncData} (F : Fun K "is_read" "is_read" s_is_read f fd) (T : Txt mg) (c_is_name : C8.Cal P w K mg base 1 "is_name" spIsName []) : FnOk P w K mg base CX0 2 f fd ["read", "dimensions"] (spIsRead K) := by
  refine F.ok sc_is_read (fun vs H Q E h => ?_) (fun cdv A outer s H vs Q E hr h => ?_)
  · obtain ⟨v, r, d, rfl, _⟩ := h
    rfl
  · obtain ⟨v, r, d, rfl, hv, hz, q⟩ := h
    refine ⟨_, (pss_cons (ps_asg (pv 0) (pg_tup rfl (pgs_cons (pg_name (i := 2) sc_is_read.nd rfl (by first | exact Or.inl rfl | exact Or.inr rfl)) (pgs_cons (pg_name (i := 3) sc_is_read.nd rfl (by first | exact Or.inl rfl | exact Or.inr rfl)) (pgs_cons (pg_name (i := 4) sc_is_read.nd rfl (by first | exact Or.inl rfl | exact Or.inr rfl)) pgs_nil)))))
  (pss_one (ps_ret (pe_and (C8.pe_c c_is_name hr (by decide) (by rfl) (pa_cons (pv 2) pa_nil)) (pe_and (pe_cmpR op_eq (pe_callB call_len_seq (by rfl) T.b_len PySem.boot_len (pa_cons (pv 3) pa_nil)) (pv 1) (nomark _)) (pe_one (pe_cmpR op_ne (pv 4) pe_int (nomark _)))))))), ?_⟩
    obtain ⟨a, xs, rfl, ht, hd⟩ := dtup hv
    obtain ⟨x1, x2, x3, rfl, h1, h2, h3⟩ := dps3 hd
    obtain rfl := dstr h1
    obtain rfl := dint h3
    obtain ⟨b, ys, rfl, ht2, hd2⟩ := dtup h2
    have hl2 := dps_len hd2
    refine ⟨_, rfl, a, _, rfl, ht, rfl, _, _, rfl, _, _, rfl, _, _, rfl, rfl, ?_⟩
    unfold isRead at q
    refine ⟨.str r.t, rfl, r.t, rfl, hz, fun H1 sm => ⟨_, rfl, ?_⟩⟩
    cases hn : isName r.t with
    | false =>
      refine iteF ?_
      have z := q H1 sm
      rw [hn] at z
      exact z
    | true =>
      refine iteT ?_
      refine ⟨_, rfl, b, ys, rfl, Or.inr (sqt sm ht2), _, rfl, rfl, _, rfl, ?_⟩
      have z := q H1 sm
      rw [hn] at z
      have e : decide (V.int (ys.length : Int) = V.int d) = decide ((r.v.length : Int) = d) := by
        rw [hl2, List.length_map]
        exact decide_eq_decide.mpr ⟨fun h => V.int.inj h, fun h => congrArg V.int h⟩
      rw [e]
      cases hq : decide ((r.v.length : Int) = d) with
      | false =>
        refine iteF ?_
        rw [hq] at z
        exact z
      | true =>
        refine iteT ?_
        rw [hq] at z
        refine ⟨_, rfl, rfl, ?_⟩
        have e3 : decide (V.int r.f = V.int 0) = decide (r.f = 0) := decide_eq_decide.mpr ⟨fun h => V.int.inj h, fun h => congrArg V.int h⟩
        rw [e3]
        exact z
def spDims (K : PySem.W.Frag) (C : Addr) : Sp := fun vs H Q _ => ∃ (s : Addr) (d m : Int) (ts : List Tb), vs = [.ref s] ∧ SysAt K C H s d m ts ∧ Q (.int d) H
theorem ok_dims {f C : Addr} {fd : FuncData} (F : Fun K "dimensions" "System.dimensions" s_System_dimensions f fd) (TC : TxtC K mg C) : FnOk P w K mg base CX0 1 f fd ["self"] (spDims K C) := by
  refine F.ok sc_System_dimensions (fun vs H Q E h => ?_) (fun cdv A outer s H vs Q E hr h => ?_)
  · obtain ⟨s, d, m, ts, rfl, _⟩ := h
    rfl
  · obtain ⟨s, d, m, ts, rfl, S, q⟩ := h
    refine ⟨_, (pss_one (ps_ret (pe_fld (pv 0) rfl))), ?_⟩
    obtain ⟨dx, t, kvs, h1, h2, h3⟩ := S.ob
    exact ⟨_, rfl, s, C, dx, _, _, rfl, h1, TC.cl, TC.nD, flds_d _ _ _, q⟩
def spMod (K : PySem.W.Frag) (C : Addr) : Sp := fun vs H Q _ => ∃ (s : Addr) (d m : Int) (ts : List Tb), vs = [.ref s] ∧ SysAt K C H s d m ts ∧ Q (.int m) H
theorem ok_mod {f C : Addr} {fd : FuncData} (F : Fun K "modulus" "System.modulus" s_System_modulus f fd) (TC : TxtC K mg C) : FnOk P w K mg base CX0 1 f fd ["self"] (spMod K C) := by
  refine F.ok sc_System_modulus (fun vs H Q E h => ?_) (fun cdv A outer s H vs Q E hr h => ?_)
  · obtain ⟨s, d, m, ts, rfl, _⟩ := h
    rfl
  · obtain ⟨s, d, m, ts, rfl, S, q⟩ := h
    refine ⟨_, (pss_one (ps_ret (pe_fld (pv 0) rfl))), ?_⟩
    obtain ⟨dx, t, kvs, h1, h2, h3⟩ := S.ob
    exact ⟨_, rfl, s, C, dx, _, _, rfl, h1, TC.cl, TC.nM, flds_m _ _ _, q⟩
def spNames (K : PySem.W.Frag) (C : Addr) : Sp := fun vs H Q _ => ∃ (s : Addr) (d m : Int) (ts : List Tb), vs = [.ref s] ∧ SysAt K C H s d m ts ∧ ∀ p H', H p = none → Same H H' → H' p = some (.lst (ts.map fun t => V.str t.n)) → Q (.ref p) H'
theorem ok_names {f C : Addr} {fd : FuncData} (F : Fun K "names" "System.names" s_System_names f fd) (T : Txt mg) (TC : TxtC K mg C) : FnOk P w K mg base CX0 1 f fd ["self"] (spNames K C) := by
  refine F.ok sc_System_names (fun vs H Q E h => ?_) (fun cdv A outer s H vs Q E hr h => ?_)
  · obtain ⟨s, d, m, ts, rfl, _⟩ := h
    rfl
  · obtain ⟨s, d, m, ts, rfl, S, q⟩ := h
    refine ⟨_, (pss_one (ps_ret (pe_callTy (call_listD rfl) (by rfl) T.b_list (by decide +kernel) (pa_cons (pe_fld (pv 0) rfl) pa_nil)))), ?_⟩
    obtain ⟨dx, t, kvs, h1, h2, h3⟩ := S.ob
    refine ⟨_, rfl, s, C, dx, _, _, rfl, h1, TC.cl, TC.nT, flds_t _ _ _, t, kvs, rfl, Or.inl h2, fun p hp => ?_⟩
    refine q p _ hp (snew hp) ?_
    rw [upd_same, h3.keys]
def okPoint (d : Int) (p : List Int) : Bool := decide ((p.length : Int) = d) && p.all fun i => decide (0 ≤ i)
def spCheckTable (K : PySem.W.Frag) (C : Addr) : Sp := fun vs H Q _ => ∃ (s : Addr) (d m : Int) (ts : List Tb) (x : Str), vs = [.ref s, .str x] ∧ SysAt K C H s d m ts ∧ x ∈ ts.map (·.n) ∧ ∀ H', Same H H' → Q .non H'
theorem inV_str {x : Str} : ∀ {l : List Str}, x ∈ l → inV (.str x) (l.map V.str) = true := by
  intro l h
  unfold inV
  rw [List.any_map, List.any_eq_true]
  refine ⟨x, h, ?_⟩
  first
    | rfl
    | simp [eqV]
theorem flat_strs (l : List Str) : (l.map V.str).all flatV = true := by
  rw [List.all_map, List.all_eq_true]
  intro x _
  rfl
theorem ok_check_table {f C : Addr} {fd : FuncData} (F : Fun K "check_table" "check_table" s_check_table f fd) (T : Txt mg) (p_names : Prp P w K mg base 1 C "names" (spNames K C)) : FnOk P w K mg base CX0 3 f fd ["system", "name"] (spCheckTable K C) := by
  refine F.ok sc_check_table (fun vs H Q E h => ?_) (fun cdv A outer s H vs Q E hr h => ?_)
  · obtain ⟨s, d, m, ts, x, rfl, _⟩ := h
    rfl
  · obtain ⟨s, d, m, ts, x, rfl, S, hx, q⟩ := h
    refine ⟨_, (pss_one (ps_if (pt_cmpR op_notIn_seq (pv 1) (pe_pr (pv 0) p_names hr (by decide) rfl) (by rfl))
    (pss_one ps_never)
    pss_nil)), ?_⟩
    obtain ⟨dx, t, kvs, h1, h2, h3⟩ := S.ob
    refine ⟨_, rfl, _, rfl, s, dx, _, rfl, h1, s, d, m, ts, rfl, S, fun p H' hp sm hl => ?_⟩
    have e : (ts.map fun t => V.str t.n) = (ts.map (·.n)).map V.str := by
      rw [List.map_map]
      rfl
    refine ⟨p, _, rfl, Or.inl (Or.inl (Or.inl hl)), rfl, ?_, ?_⟩
    · rw [e]
      exact flat_strs _
    · rw [e, inV_str hx]
      exact ⟨_, rfl, iteF (q H' sm)⟩
def spReads (K : PySem.W.Frag) (C : Addr) : Sp := fun vs H Q _ => ∃ (B : Hp) (s : Addr) (d m : Int) (ts : List Tb) (x : Str) (tb : Tb), vs = [.ref s, .str x] ∧ Same B H ∧ SysAt K C B s d m ts ∧ x ∈ ts.map (·.n) ∧ ts.find? (fun t => decide (t.n = x)) = some tb ∧
  ∀ p H' xs, H p = none → Same H H' → H' p = some (.lst xs) → DpAll K B xs (tb.rs.map Rd1.d) → Q (.ref p) H'
theorem ok_reads {f C : Addr} {fd : FuncData} (F : Fun K "reads" "System.reads" s_System_reads f fd) (T : Txt mg) (TC : TxtC K mg C) (c_check_table : C8.Cal P w K mg base 3 "check_table" (spCheckTable K C) []) : FnOk P w K mg base CX0 4 f fd ["self", "name"] (spReads K C) := by
  refine F.ok sc_System_reads (fun vs H Q E h => ?_) (fun cdv A outer s H vs Q E hr h => ?_)
  · obtain ⟨B, s, d, m, ts, x, tb, rfl, _⟩ := h
    rfl
  · obtain ⟨B, s, d, m, ts, x, tb, rfl, sB, S, hx, hf, q⟩ := h
    have hu := hu_of hr
    refine ⟨_, (pss_cons (ps_expr (C8.pe_c c_check_table hr (by decide) (by rfl) (pa_cons (pv 0) (pa_cons (pv 1) pa_nil))))
  (pss_one (ps_ret (pe_callTy call_list_of (by rfl) T.b_list (by decide +kernel) (pa_cons (pe_ix ix_tup (pe_dget hu (pe_fld (pv 0) rfl) (pv 1) (fun _ _ => rfl)) pe_int (fun _ _ => rfl)) pa_nil))))), ?_⟩
    refine ⟨_, rfl, _, rfl, s, d, m, ts, x, rfl, S.mono sB, hx, fun H1 sm => ?_⟩
    obtain ⟨dx, t, kvs, h1, h2, h3⟩ := S.ob
    have sB1 := same_tr sB sm
    have h1 := sB1 _ _ h1
    have h2 := sB1 _ _ h2
    obtain ⟨v, e1, e2⟩ := h3.get hf
    obtain ⟨a, ys, rfl, ht, hd⟩ := dtup e2
    obtain ⟨y1, y2, rfl, g1, g2⟩ := dps2 hd
    obtain ⟨b, zs, rfl, ht2, hd2⟩ := dtup g2
    refine ⟨_, rfl, s, C, dx, _, _, rfl, h1, TC.cl, TC.nT, flds_t _ _ _, _, rfl, t, _, rfl, ?_, a, _, 1, _, rfl, rfl, sqt sB1 ht, rfl, b, zs, rfl, Or.inr (sqt sB1 ht2), fun p hp => ?_⟩
    · have g := DGet.k (k := Sum.inr x) h2
      rw [e1] at g
      exact g
    · exact q p _ _ (free_of sm hp) (same_tr sm (snew hp)) upd_same hd2
structure OkT (d : Int) (ts : List Tb) : Prop where
  names : ∀ t ∈ ts, isName t.n = true
  nodup : (ts.map (·.n)).Nodup
  few : (ts.map fun t => t.rs.length).sum ≤ 12
  reads : ∀ t ∈ ts, ∀ r ∈ t.rs, isRead d r = true
  here : ∀ t ∈ ts, ∀ r ∈ t.rs, r.t ∈ ts.map (·.n)
theorem name_len {x : Str} (h : isName x = true) : x.length ≤ 100000 := by
  unfold isName at h
  rw [Bool.and_eq_true, Bool.and_eq_true] at h
  have := of_decide_eq_true h.1.2
  omega
theorem read_len {d : Int} {r : Rd1} (h : isRead d r = true) : r.t.length ≤ 100000 := by
  unfold isRead at h
  rw [Bool.and_eq_true] at h
  exact name_len h.1
def nth (l : List Str) (i : Nat) : Str := l.getD i Str.empty
theorem nth_of {l : List Str} {i : Nat} {x : Str} (h : l[i]? = some x) : nth l i = x := by
  unfold nth
  rw [List.getD_eq_getElem?_getD, h]
  rfl
theorem nths (l : List Str) : (List.range l.length).map (fun i => V.str (nth l i)) = l.map V.str := by
  have := range_map_get (l.map V.str) (fun i => V.str (nth l i)) (fun i b hb => by
    rw [List.getElem?_map] at hb
    obtain ⟨c, h1, h2⟩ := Option.map_eq_some_iff.mp hb
    rw [nth_of h1]
    exact h2)
  rw [List.length_map] at this
  exact this
theorem cut_to (xs : List V) (i : Nat) (h : i ≤ xs.length) : cutV xs none (some (i : Int)) = xs.take i := by
  unfold cutV
  rw [show HT.sIx xs.length xs.length (some (i : Int)) = min i xs.length from HT.sIx_nat xs.length xs.length i, HT.sIx_none, List.drop_zero, Nat.sub_zero, Nat.min_eq_left h]
theorem notin_take {l : List Str} {i : Nat} {x : Str} (hn : l.Nodup) (h : l[i]? = some x) : x ∉ l.take i := by
  intro hm
  obtain ⟨j, hj, e⟩ := List.mem_iff_getElem.mp hm
  rw [List.length_take] at hj
  have e2 : l[j]? = some x := by
    rw [List.getElem_take] at e
    rw [List.getElem?_eq_getElem (by omega), e]
  have := nd_ix hn e2 h
  omega
theorem inV_no {x : Str} : ∀ {l : List Str}, x ∉ l → inV (.str x) (l.map V.str) = false := by
  intro l h
  unfold inV
  rw [List.any_map, List.any_eq_false]
  intro y hy e
  have e' : y = x := by
    first
      | exact of_decide_eq_true e
      | simpa [eqV] using e
  exact h (e' ▸ hy)
/-- what stands at the i-th place of a list of tables -/
theorem tb_at {H : Hp} {xs : List V} {ts : List Tb} {i : Nat} {x : V} (h : DpAll K H xs (ts.map Tb.d)) (e : xs[i]? = some x) : ∃ t a l ys, ts[i]? = some t ∧ x = .ref a ∧ SqT K H a [.str t.n, .int t.c, .ref l] ∧ SqL K H l ys ∧ DpAll K H ys (t.rs.map Rd1.d) := by
  obtain ⟨d, e1, e2⟩ := dps_get h e
  rw [List.getElem?_map] at e1
  obtain ⟨t, e3, rfl⟩ := Option.map_eq_some_iff.mp e1
  obtain ⟨a, zs, rfl, ht, hd⟩ := dtup e2
  obtain ⟨z1, z2, z3, rfl, h1, h2, h3⟩ := dps3 hd
  obtain rfl := dstr h1
  obtain rfl := dint h2
  obtain ⟨l, ys, rfl, hl, hy⟩ := dlst h3
  exact ⟨t, a, l, ys, e3, rfl, ht, hl, hy⟩
theorem rd_at {H : Hp} {xs : List V} {rs : List Rd1} {i : Nat} {x : V} (h : DpAll K H xs (rs.map Rd1.d)) (e : xs[i]? = some x) : ∃ r a b, rs[i]? = some r ∧ x = .ref a ∧ Dp K H x r.d ∧ SqT K H a [.str r.t, .ref b, .int r.f] ∧ SqT K H b (r.v.map V.int) := by
  obtain ⟨d, e1, e2⟩ := dps_get h e
  rw [List.getElem?_map] at e1
  obtain ⟨r, e3, rfl⟩ := Option.map_eq_some_iff.mp e1
  obtain ⟨a, zs, rfl, ht, hd⟩ := dtup e2
  obtain ⟨z1, z2, z3, rfl, h1, h2, h3⟩ := dps3 hd
  obtain rfl := dstr h1
  obtain rfl := dint h3
  obtain ⟨b, ys, rfl, hb, hy⟩ := dtup h2
  obtain rfl := dps_ints hy
  exact ⟨r, a, b, e3, rfl, e2, ht, hb⟩
def cnt (ts : List Tb) : Nat := (ts.map fun t => t.rs.length).sum
theorem cnt_take {ts : List Tb} {i : Nat} {t : Tb} (h : ts[i]? = some t) : cnt (ts.take (i + 1)) = cnt (ts.take i) + t.rs.length := by
  unfold cnt
  rw [List.take_add_one, h, List.map_append, List.sum_append]
  rfl
theorem cnt_le (ts : List Tb) (i : Nat) : cnt (ts.take i) ≤ cnt ts := by
  unfold cnt
  have e := congrArg (fun l : List Tb => (l.map fun t => t.rs.length).sum) (List.take_append_drop i ts)
  simp only [List.map_append, List.sum_append] at e
  omega
def spCheckTables (K : PySem.W.Frag) : Sp := fun vs H Q _ => ∃ (d : Int) (v : V) (ts : List Tb), vs = [.int d, v] ∧ Dp K H v (.list (ts.map Tb.d)) ∧ ts.length ≤ 6 ∧ OkT d ts ∧ ∀ H', Same H H' → Q .non H'
theorem ok_check_tables {f : Addr} {fd : FuncData} (F : Fun K "check_tables" "check_tables" s_check_tables f fd) (T : Txt mg) (c_is_name : C8.Cal P w K mg base 1 "is_name" spIsName []) (c_is_read : C8.Cal P w K mg base 2 "is_read" (spIsRead K) []) : FnOk P w K mg base CX0 3 f fd ["dimensions", "tables"] (spCheckTables K) := by
  refine F.ok sc_check_tables (fun vs H Q E h => ?_) (fun cdv A outer s H vs Q E hr h => ?_)
  · obtain ⟨d, v, ts, rfl, _⟩ := h
    rfl
  · obtain ⟨d, v, ts, rfl, hv, hl6, O, q⟩ := h
    refine ⟨_, (pss_cons (ps_setLc (i := 2) (own := [("table", 3)]) (g := gName 3) (tt := tYes) (by rfl) sc_check_tables.nd rfl rfl (sw_true rfl rfl rfl (by decide +kernel)) (pi_list (pv 1)) (blkOk_by (N := ["dimensions", "tables", "names", "table", "many", "row", "name", "_", "reads", "read"]) (sc := defScope s_check_tables) (by decide +kernel)) (fun _ _ _ _ _ => (pg_name (i := 3) sc_check_tables.nd rfl (by first | exact Or.inl rfl | exact Or.inr rfl))) (fun _ _ _ _ _ => pts_nil) (fun _ _ _ _ _ => (pe_ix (r := rIxT K) ix_tup (pv 3) pe_int (fun _ _ => rfl))))
  (pss_cons (ps_set (i := 4) sc_check_tables.nd rfl (by first | exact Or.inl rfl | exact Or.inr rfl) pe_int)
  (pss_one (ps_for PassesOwn.never rfl (pi_enum (by rfl) T.b_enumerate (pa_cons (pv 1) pa_nil)) (pg_tup rfl (pgs_cons (pg_name (i := 5) sc_check_tables.nd rfl (by first | exact Or.inl rfl | exact Or.inr rfl)) (pgs_cons (pg_tup rfl (pgs_cons (pg_name (i := 6) sc_check_tables.nd rfl (by first | exact Or.inl rfl | exact Or.inr rfl)) (pgs_cons (pg_name (i := 7) sc_check_tables.nd rfl (by first | exact Or.inl rfl | exact Or.inr rfl)) (pgs_cons (pg_name (i := 8) sc_check_tables.nd rfl (by first | exact Or.inl rfl | exact Or.inr rfl)) pgs_nil)))) pgs_nil)))
    (pss_cons (ps_aug (i := 4) sc_check_tables.nd rfl (by first | exact Or.inl rfl | exact Or.inr rfl) (pe_callB call_len_seq (by rfl) T.b_len PySem.boot_len (pa_cons (pv 8) pa_nil)) ip_add)
    (pss_cons (ps_if (PW.pt (pw_or (pt_not (pt_val (C8.pe_c c_is_name hr (by decide) (by rfl) (pa_cons (pv 6) pa_nil)))) (pw_or (pt_cmpR op_in_seq (pv 6) (pe_slice sl_list (pv 2) po_none (po_some (pv 5))) (by rfl)) (pw_or1 (pt_cmpR op_gt (pv 4) (C8.pe_gc (by rfl) T.g_MOST_READS) (nomark _))))))
      (pss_one ps_never)
      pss_nil)
    (pss_one (ps_if (pt_not (pt_val (pe_callB (cr_all rfl) (by rfl) T.b_all (by decide +kernel) (pa_cons (pe_lc (own := [("read", 9)]) (g := gName 9) (tt := tYes) (by rfl) sc_check_tables.nd (pi_list (pv 8)) (blkOk_by (N := ["dimensions", "tables", "names", "table", "many", "row", "name", "_", "reads", "read"]) (sc := defScope s_check_tables) (by decide +kernel)) (fun _ _ _ _ _ => (pg_name (i := 9) sc_check_tables.nd rfl (by first | exact Or.inl rfl | exact Or.inr rfl))) (fun _ _ _ _ _ => pts_nil) (fun _ _ _ _ _ => (C8.pe_c c_is_read hr (by decide) (by rfl) (pa_cons (pv 9) (pa_cons (pv 0) pa_nil))))) pa_nil))))
      (pss_one ps_never)
      pss_nil)))))))), ?_⟩
    obtain ⟨a, xs, rfl, ha, hd⟩ := dlst hv
    have hxl : xs.length = ts.length := by rw [dps_len hd, List.length_map]
    -- names = [table[0] ..]
    refine ⟨_, rfl, a, rfl, ⟨_, ha⟩, fun D hD => lc_flat (walk_list (K := K) (a := a) (xs := xs)) (fun i => .str (nth (ts.map (·.n)) i)) (by omega) hD (fun H' sm => sql sm ha) (fun i H x H' y => yat_same y) ?_ ?_⟩
    · rintro i x H1 H2 hi sm ⟨rfl, hx⟩ R hR
      obtain ⟨t, b, l, ys, e1, rfl, g1, _, _⟩ := tb_at (dpsm sm _ _ hd) hx
      have en : nth (ts.map (·.n)) i = t.n := nth_of (by rw [List.getElem?_map, e1]; rfl)
      refine ⟨rfl, _, rfl, b, _, 0, _, rfl, rfl, g1, rfl, ?_⟩
      have r := hR H2 same_refl
      rw [en] at r
      exact r
    · intro H1 sm hD1
      have hD1 : H1 D = some (.lst ((ts.map (·.n)).map V.str)) := by
        rw [hD1, hxl, ← nths, List.length_map]
      -- many = 0; the loop
      refine ⟨_, rfl, a, xs, rfl, sql sm ha, for_it (walk_enum (K := K) (a := a) (xs := xs)) (fun i σ H2 => ∃ y5 y6 y7 y8, σ = [some (.int d), some (.ref a), some (.ref D), none, some (.int (cnt (ts.take i))), y5, y6, y7, y8, none] ∧ Same H1 H2)
        ⟨none, none, none, none, rfl, same_refl⟩ (fun i σ H2 _ ⟨_, _, _, _, _, s2⟩ => sql (same_tr sm s2) ha) ?_ ?_⟩
      · rintro i x σ H2 H3 hi ⟨y5, y6, y7, y8, rfl, s2⟩ ⟨Tp, z1, z2, rfl, hT, rfl, e1, e2⟩
        cases e1
        have s3 : Same H1 (upd H2 Tp (.tup [.int (i : Nat), z2])) := same_tr s2 (snew hT)
        obtain ⟨t, b, l, ys, f1, rfl, g1, g2, g3⟩ := tb_at (dpsm (same_tr sm s3) _ _ hd) e2
        have htm : t ∈ ts := List.mem_of_getElem? f1
        have hyl : ys.length = t.rs.length := by rw [dps_len g3, List.length_map]
        refine ⟨Tp, _, rfl, Or.inl (Or.inl upd_same), rfl, _, _, rfl, _, _, rfl, b, _, rfl, g1, rfl, _, _, rfl, _, _, rfl, _, _, rfl, rfl, rfl, ?_⟩
        -- many += len(reads)
        refine ⟨_, rfl, _, rfl, l, ys, rfl, Or.inl g2, _, _, rfl, rfl, ?_⟩
        have hc := cnt_take f1
        have hc2 := cnt_le ts (i + 1)
        have h12 : cnt ts ≤ 12 := O.few
        -- the first test
        refine ⟨.str t.n, rfl, t.n, rfl, name_len (O.names t htm), fun H4 s4 => ⟨_, rfl, ?_⟩⟩
        rw [O.names t htm]
        refine iteF ?_
        have hD4 : H4 D = some (.lst ((ts.map (·.n)).map V.str)) := s4 _ _ (s3 _ _ hD1)
        refine ⟨_, rfl, _, rfl, _, rfl, (i : Int), rfl, D, _, rfl, Or.inl (Or.inl hD4), fun p hp => ?_⟩
        have s5 : Same H4 (upd H4 p (.lst (cutV ((ts.map (·.n)).map V.str) none (some (i : Int))))) := snew hp
        rw [cut_to _ _ (by rw [List.length_map, List.length_map]; omega), ← List.map_take]
        refine ⟨p, _, rfl, Or.inl (Or.inl (Or.inl upd_same)), rfl, flat_strs _, false, ?_, iteF ?_⟩
        · rw [inV_no (notin_take O.nodup (by rw [List.getElem?_map, f1]; rfl))]
          rfl
        · refine ⟨_, rfl, _, 12, rfl, rfl, decide (12 < (cnt (ts.take i) : Int) + (ys.length : Int)), rfl, ?_⟩
          rw [decide_eq_false (by omega)]
          refine iteF ?_
          -- the second test
          have s6 : Same H1 (upd H4 p (.lst (((ts.map (·.n)).take i).map V.str))) := same_tr s3 (same_tr s4 (snew hp))
          refine ⟨_, rfl, l, rfl, ⟨ys, sql (same_tr s4 (snew hp)) g2⟩, fun D2 hD2 => lc_flat (walk_list (K := K) (a := l) (xs := ys)) (fun j => .bl true) (by omega) hD2 (fun H' sm' => sql sm' (sql (same_tr s4 (snew hp)) g2)) (fun i H x H' y => yat_same y) ?_ ?_⟩
          · rintro j x H5 H6 hj sm5 ⟨rfl, hx⟩ R hR
            obtain ⟨r, ra, rb, e3, rfl, e4, _, _⟩ := rd_at (dpsm sm5 _ _ (dpsm (same_tr s4 (snew hp)) _ _ g3)) hx
            have hro := O.reads t htm r (List.mem_of_getElem? e3)
            refine ⟨rfl, _, rfl, _, rfl, .ref ra, r, d, rfl, e4, read_len hro, fun H7 s7 => ?_⟩
            rw [hro]
            exact hR H7 s7
          · intro H5 sm5 hD5
            refine ⟨D2, (List.range ys.length).map fun _ => true, rfl, Or.inl (Or.inl ?_), ⟨_, rfl, ?_⟩⟩
            · rw [hD5, List.map_map]
              rfl
            · have e : ((List.range ys.length).map fun _ => true).all id = true := by
                rw [List.all_map, List.all_eq_true]
                intro _ _
                rfl
              rw [e]
              refine iteF ?_
              refine ⟨some (.int (i : Int)), some (.str t.n), some (.int t.c), some (.ref l), ?_, same_tr s6 sm5⟩
              rw [hc]
              have ec : (cnt (ts.take i) : Int) + (ys.length : Int) = ((cnt (ts.take i) + t.rs.length : Nat) : Int) := by omega
              rw [← ec]
              rfl
      · rintro σ H2 ⟨_, _, _, _, rfl, s2⟩
        exact q H2 (same_tr sm s2)
theorem dict_flat_any : True := True.intro
def spCheckRead (K : PySem.W.Frag) : Sp := fun vs H Q _ => ∃ (d : Int) (v : V) (ts : List Tb), vs = [v] ∧ Dp K H v (.list (ts.map Tb.d)) ∧ ts.length ≤ 6 ∧ OkT d ts ∧ ∀ H', Same H H' → Q .non H'
theorem few_reads {d : Int} {ts : List Tb} (O : OkT d ts) {t : Tb} (h : t ∈ ts) : t.rs.length ≤ 12 := by
  obtain ⟨i, hi⟩ := List.mem_iff_getElem?.mp h
  have h1 := cnt_take hi
  have h2 := cnt_le ts (i + 1)
  have h3 : cnt ts ≤ 12 := O.few
  omega
theorem ok_check_read {f : Addr} {fd : FuncData} (F : Fun K "check_tables_that_are_read" "check_tables_that_are_read" s_check_tables_that_are_read f fd) (T : Txt mg) : FnOk P w K mg base CX0 3 f fd ["tables"] (spCheckRead K) := by
  refine F.ok sc_check_tables_that_are_read (fun vs H Q E h => ?_) (fun cdv A outer s H vs Q E hr h => ?_)
  · obtain ⟨d, v, ts, rfl, _⟩ := h
    rfl
  · obtain ⟨d, v, ts, rfl, hv, hl6, O, q⟩ := h
    refine ⟨_, (pss_cons (ps_set (i := 1) sc_check_tables_that_are_read.nd rfl (by first | exact Or.inl rfl | exact Or.inr rfl) (pe_lc (own := [("table", 2)]) (g := gName 2) (tt := tYes) (by rfl) sc_check_tables_that_are_read.nd (pi_list (pv 0)) (blkOk_by (N := ["tables", "names", "table", "row", "read"]) (sc := defScope s_check_tables_that_are_read) (by decide +kernel)) (fun _ _ _ _ _ => (pg_name (i := 2) sc_check_tables_that_are_read.nd rfl (by first | exact Or.inl rfl | exact Or.inr rfl))) (fun _ _ _ _ _ => pts_nil) (fun _ _ _ _ _ => (pe_ix (r := rIxT K) ix_tup (pv 2) pe_int (fun _ _ => rfl)))))
  (pss_one (ps_for PassesOwn.never rfl (pi_enum (by rfl) T.b_enumerate (pa_cons (pv 0) pa_nil)) (pg_tup rfl (pgs_cons (pg_name (i := 3) sc_check_tables_that_are_read.nd rfl (by first | exact Or.inl rfl | exact Or.inr rfl)) (pgs_cons (pg_name (i := 2) sc_check_tables_that_are_read.nd rfl (by first | exact Or.inl rfl | exact Or.inr rfl)) pgs_nil)))
    (pss_one (ps_if (pt_not (pt_val (pe_callB (cr_all rfl) (by rfl) T.b_all (by decide +kernel) (pa_cons (pe_lc (own := [("read", 4)]) (g := gName 4) (tt := tYes) (by rfl) sc_check_tables_that_are_read.nd (pi_list (pe_ix ix_tup (pv 2) pe_int (fun _ _ => rfl))) (blkOk_by (N := ["tables", "names", "table", "row", "read"]) (sc := defScope s_check_tables_that_are_read) (by decide +kernel)) (fun _ _ _ _ _ => (pg_name (i := 4) sc_check_tables_that_are_read.nd rfl (by first | exact Or.inl rfl | exact Or.inr rfl))) (fun _ _ _ _ _ => pts_nil) (fun _ _ _ _ _ => (pe_cmpR (r := rIn K false) op_in_seq (pe_ix (r := rIxT K) ix_tup (pv 4) pe_int (fun _ _ => rfl)) (pv 1) (by rfl)))) pa_nil))))
      (pss_one ps_never)
      pss_nil))))), ?_⟩
    obtain ⟨a, xs, rfl, ha, hd⟩ := dlst hv
    have hxl : xs.length = ts.length := by rw [dps_len hd, List.length_map]
    refine ⟨_, rfl, a, rfl, ⟨_, ha⟩, fun D hD => lc_flat (walk_list (K := K) (a := a) (xs := xs)) (fun i => .str (nth (ts.map (·.n)) i)) (by omega) hD (fun H' sm => sql sm ha) (fun i H x H' y => yat_same y) ?_ ?_⟩
    · rintro i x H1 H2 hi sm ⟨rfl, hx⟩ R hR
      obtain ⟨t, b, l, ys, e1, rfl, g1, _, _⟩ := tb_at (dpsm sm _ _ hd) hx
      have en : nth (ts.map (·.n)) i = t.n := nth_of (by rw [List.getElem?_map, e1]; rfl)
      refine ⟨rfl, _, rfl, b, _, 0, _, rfl, rfl, g1, rfl, ?_⟩
      have r := hR H2 same_refl
      rw [en] at r
      exact r
    · intro H1 sm hD1
      have hD1 : H1 D = some (.lst ((ts.map (·.n)).map V.str)) := by
        rw [hD1, hxl, ← nths, List.length_map]
      refine ⟨_, rfl, a, xs, rfl, sql sm ha, for_it (walk_enum (K := K) (a := a) (xs := xs)) (fun i σ H2 => ∃ y2 y3, σ = [some (.ref a), some (.ref D), y2, y3, none] ∧ Same H1 H2)
        ⟨none, none, rfl, same_refl⟩ (fun i σ H2 _ ⟨_, _, _, s2⟩ => sql (same_tr sm s2) ha) ?_ ?_⟩
      · rintro i x σ H2 H3 hi ⟨y2, y3, rfl, s2⟩ ⟨Tp, z1, z2, rfl, hT, rfl, e1, e2⟩
        cases e1
        have s3 : Same H1 (upd H2 Tp (.tup [.int (i : Nat), z2])) := same_tr s2 (snew hT)
        obtain ⟨t, b, l, ys, f1, rfl, g1, g2, g3⟩ := tb_at (dpsm (same_tr sm s3) _ _ hd) e2
        have htm : t ∈ ts := List.mem_of_getElem? f1
        have hyl : ys.length = t.rs.length := by rw [dps_len g3, List.length_map]
        have h12 := few_reads O htm
        refine ⟨Tp, _, rfl, Or.inl (Or.inl upd_same), rfl, _, _, rfl, _, _, rfl, rfl, ?_⟩
        refine ⟨_, rfl, b, _, 2, _, rfl, rfl, g1, rfl, l, rfl, ⟨ys, g2⟩, fun D2 hD2 => lc_flat (walk_list (K := K) (a := l) (xs := ys)) (fun j => .bl true) (by omega) hD2 (fun H' sm' => sql sm' g2) (fun i H x H' y => yat_same y) ?_ ?_⟩
        · rintro j x H5 H6 hj sm5 ⟨rfl, hx⟩ R hR
          obtain ⟨r, ra, rb, e3, rfl, e4, g5, _⟩ := rd_at (dpsm sm5 _ _ g3) hx
          have hm := O.here t htm r (List.mem_of_getElem? e3)
          refine ⟨rfl, _, rfl, ra, _, 0, _, rfl, rfl, g5, rfl, _, rfl, D, _, rfl, Or.inl (Or.inl (Or.inl (sm5 _ _ (s3 _ _ hD1)))), rfl, flat_strs _, ?_⟩
          rw [inV_str hm]
          exact hR H6 same_refl
        · intro H5 sm5 hD5
          refine ⟨D2, (List.range ys.length).map fun _ => true, rfl, Or.inl (Or.inl ?_), ⟨_, rfl, ?_⟩⟩
          · rw [hD5, List.map_map]
            rfl
          · have e : ((List.range ys.length).map fun _ => true).all id = true := by
              rw [List.all_map, List.all_eq_true]
              intro _ _
              rfl
            rw [e]
            refine iteF ?_
            exact ⟨some (.ref b), some (.int (i : Int)), rfl, same_tr s3 sm5⟩
      · rintro σ H2 ⟨_, _, rfl, s2⟩
        exact q H2 (same_tr sm s2)
def spCheckSystem (K : PySem.W.Frag) : Sp := fun vs H Q _ => ∃ (d m : Int) (v : V) (ts : List Tb), vs = [.int d, v, .int m] ∧ 1 ≤ d ∧ d ≤ 3 ∧ 2 ≤ m ∧ Dp K H v (.list (ts.map Tb.d)) ∧ 1 ≤ ts.length ∧ ts.length ≤ 6 ∧ OkT d ts ∧ ∀ H', Same H H' → Q .non H'
theorem ok_check_system {f : Addr} {fd : FuncData} (F : Fun K "check_system" "check_system" s_check_system f fd) (T : Txt mg) (c_check_tables : C8.Cal P w K mg base 3 "check_tables" (spCheckTables K) []) (c_check_tables_that_are_read : C8.Cal P w K mg base 3 "check_tables_that_are_read" (spCheckRead K) []) :
    FnOk P w K mg base CX0 4 f fd ["dimensions", "tables", "modulus"] (spCheckSystem K) := by
  refine F.ok sc_check_system (fun vs H Q E h => ?_) (fun cdv A outer s H vs Q E hr h => ?_)
  · obtain ⟨d, m, v, ts, rfl, _⟩ := h
    rfl
  · obtain ⟨d, m, v, ts, rfl, hd1, hd3, hm, hv, hl1, hl6, O, q⟩ := h
    refine ⟨_, (pss_cons (ps_if (pt_not (pt_chain op_le op_le pe_int (pv 0) (C8.pe_gc (by rfl) T.g_MOST_DIMENSIONS)))
    (pss_one ps_never)
    pss_nil)
  (pss_cons (ps_if (pt_not (pt_chain op_le op_le pe_int (pe_callB call_len_seq (by rfl) T.b_len PySem.boot_len (pa_cons (pv 1) pa_nil)) (C8.pe_gc (by rfl) T.g_MOST_TABLES)))
    (pss_one ps_never)
    pss_nil)
  (pss_cons (ps_expr (C8.pe_c c_check_tables hr (by decide) (by rfl) (pa_cons (pv 0) (pa_cons (pv 1) pa_nil))))
  (pss_cons (ps_expr (C8.pe_c c_check_tables_that_are_read hr (by decide) (by rfl) (pa_cons (pv 1) pa_nil)))
  (pss_one (ps_if (pt_cmpR op_lt (pv 2) pe_int (nomark _))
    (pss_one ps_never)
    pss_nil)))))), ?_⟩
    obtain ⟨a, xs, rfl, ha, hd⟩ := dlst hv
    have hxl : xs.length = ts.length := by rw [dps_len hd, List.length_map]
    refine ⟨_, rfl, 1, d, rfl, rfl, decide (1 ≤ d), rfl, ?_⟩
    rw [decide_eq_true hd1]
    refine iteT ⟨d, 3, rfl, rfl, decide (d ≤ 3), rfl, ?_⟩
    rw [decide_eq_true hd3]
    refine iteF ?_
    refine ⟨_, rfl, a, xs, rfl, Or.inl ha, 1, _, rfl, rfl, decide (1 ≤ (xs.length : Int)), rfl, ?_⟩
    rw [decide_eq_true (by omega)]
    refine iteT ⟨_, 6, rfl, rfl, decide ((xs.length : Int) ≤ 6), rfl, ?_⟩
    rw [decide_eq_true (by omega)]
    refine iteF ?_
    refine ⟨_, rfl, _, rfl, d, .ref a, ts, rfl, hv, hl6, O, fun H1 s1 => ?_⟩
    refine ⟨_, rfl, d, .ref a, ts, rfl, dpm s1 _ _ hv, hl6, O, fun H2 s2 => ?_⟩
    refine ⟨_, rfl, m, 2, rfl, rfl, decide (m < 2), rfl, ?_⟩
    rw [decide_eq_false (by omega)]
    exact iteF (q H2 (same_tr s1 s2))
/-- a def with a code object that is known -/
structure FunC (K : PySem.W.Frag) (x qual : Str) (st : Stmt) (f : Addr) (fd : FuncData) (c : Addr) : Prop where
  ex : ∃ (oc : Value) (od : Option Addr) (dV kV doc pm : Value) (an : Option Addr) (ct : Value) (osl : Array (Option Value)),
    fd = PySem.W.fnOf x qual (defArgs st) (defBody st) (defScope st) dV kV doc pm an (.ref c) ct ∧ K.lookup f = some ⟨oc, od, .func fd, osl⟩ ∧ PySem.W.codeIn K (.ref c) qual = true
theorem FunC.ok {x qual : Str} {st : Stmt} {f c : Addr} {fd : FuncData} {N ps : List Str} {k : Nat} {sp : Sp} (F : FunC K x qual st f fd c) (S : FnScope N ps (defScope st)) (len : ∀ vs H Q E, sp vs H Q E → vs.length = ps.length)
    (hbody : ∀ (A : Around) (outer : List Env) (s : Shared) (H : Hp) (vs : List V) (Q : VK) (E : XK), Room k (A.deeper (envOfC qual (defScope st) s.heap.objs.size f (.ref c))) → sp vs H Q E →
      ∃ t, PSs (cxOf CX0 P w K mg base N qual (defScope st) f (.ref c) A outer s H E).nox (defBody st) t ∧ t { nx := fun _ H' => Q .non H', rt := Q } (start N vs) H) : FnOk P w K mg base CX0 (k + 1) f fd ps sp := by
  obtain ⟨oc, od, dV, kV, doc, pm, an, ct, osl, rfl, lk, hcd⟩ := F.ex
  refine fn_of lk hcd S len fun A outer s H vs Q E hr hsp => ?_
  obtain ⟨t, h, q⟩ := hbody A outer s H vs Q E hr hsp
  exact ⟨t, h.nox, q⟩
def srt (ts : List Tb) : List Tb := ts.mergeSort (leK Tb.n)
/-- what a system may be made of -/
structure OkSys (d m : Int) (ts : List Tb) : Prop where
  d1 : 1 ≤ d
  d3 : d ≤ 3
  m2 : 2 ≤ m
  l1 : 1 ≤ ts.length
  l6 : ts.length ≤ 6
  ok : OkT d ts
/-- all but the tables of code objects and one object stay -/
def ExtB (s : Addr) (H H' : Hp) : Prop := ∀ b o, H b = some o → b ≠ s → (∀ ps, o ≠ .tbl ps) → H' b = some o
def spInit (K : PySem.W.Frag) (C : Addr) (TT : List (Addr × Str)) : Sp := fun vs H Q _ => ∃ (s dx : Addr) (d m : Int) (v : V) (ts : List Tb), vs = [.ref s, .int d, v, .int m] ∧ H s = some (.ins C dx []) ∧ LamX.Tabs TT H ∧ OkSys d m ts ∧ Dp K H v (.list (ts.map Tb.d)) ∧
  ∀ H', ExtB s H H' → LamX.Tabs TT H' → SysAt K C H' s d m (srt ts) → Q .non H'
theorem ok_init {f C c Pt : Addr} {fd : FuncData} {TT : List (Addr × Str)} (F : FunC K "__init__" "System.__init__" s_System_init f fd c) (T : Txt mg) (TC : TxtC K mg C) (c_check_system : C8.Cal P w K mg base 4 "check_system" (spCheckSystem K) [])
    (TBc : LamX.TabB base mg c Pt) (hmT : (Pt, ("System.__init__.<locals>.<lambda>" : Str)) ∈ TT) (huT : ∀ p ∈ TT, p.1 = Pt → p.2 = ("System.__init__.<locals>.<lambda>" : Str)) : FnOk P w K mg base CX0 5 f fd ["self", "dimensions", "tables", "modulus"] (spInit K C TT) := by
  refine F.ok sc_System_init (fun vs H Q E h => ?_) (fun A outer sh H vs Q E hr h => ?_)
  · obtain ⟨s, dx, d, m, v, ts, rfl, _⟩ := h
    rfl
  · obtain ⟨s, dx, d, m, v, ts, rfl, hs, hT, O, hv, q⟩ := h
    have hu := hu_of hr
    have hcode : (cxOf CX0 P w K mg base ["self", "dimensions", "tables", "modulus", "rows", "name", "constant", "reads"] "System.__init__" (defScope s_System_init) f (.ref c) A outer sh H E).nox.env.code = .ref c := rfl
    refine ⟨_, (pss_cons (ps_expr (C8.pe_c c_check_system hr (by decide) (by rfl) (pa_cons (pv 1) (pa_cons (pv 2) (pa_cons (pv 3) pa_nil)))))
  (pss_cons (ps_fld (pv 0) (pv 1) rfl)
  (pss_cons (ps_fld (pv 0) (pv 3) rfl)
  (pss_cons (ps_set (i := 4) sc_System_init.nd rfl (by first | exact Or.inl rfl | exact Or.inr rfl) (pe_sortKey Tb.n (a := "table") (by rfl) T.b_sorted (pv 2) hr TBc hcode hmT huT rfl ⟨rfl, rfl, rfl, rfl, by decide +kernel, by decide +kernel⟩ (by decide) (fun _ _ _ _ _ _ => rfl)))
  (pss_one (ps_fld (pv 0) (pe_dc (own := [("name", 5), ("constant", 6), ("reads", 7)]) (g := gTup K 3 (gCons (gName 5) (gCons (gName 6) (gCons (gName 7) gNil)))) (tt := tYes) (by rfl) sc_System_init.nd (pi_list (pv 4)) (blkOk_by (N := ["self", "dimensions", "tables", "modulus", "rows", "name", "constant", "reads"]) (sc := defScope s_System_init) (by decide +kernel)) (fun _ _ _ _ _ => (pg_tup rfl (pgs_cons (pg_name (i := 5) sc_System_init.nd rfl (by first | exact Or.inl rfl | exact Or.inr rfl)) (pgs_cons (pg_name (i := 6) sc_System_init.nd rfl (by first | exact Or.inl rfl | exact Or.inr rfl)) (pgs_cons (pg_name (i := 7) sc_System_init.nd rfl (by first | exact Or.inl rfl | exact Or.inr rfl)) pgs_nil))))) (fun _ _ _ _ _ => pts_nil) (fun _ _ _ _ _ => (pv 5)) (fun _ _ _ _ _ => (pe_tup (pa_cons (pv 6) (pa_cons (pe_callTy (r := rTupS K) call_tuple_of (by rfl) T.b_tuple (by decide +kernel) (pa_cons (pv 7) pa_nil)) pa_nil))))) rfl)))))), ?_⟩
    -- check_system(..)
    refine ⟨_, rfl, _, rfl, _, rfl, d, m, v, ts, rfl, O.d1, O.d3, O.m2, hv, O.l1, O.l6, O.ok, fun H1 s1 => ?_⟩
    have hs1 := s1 _ _ hs
    have hT1 := hT.ext s1
    -- self._dimensions, self._modulus
    refine ⟨_, rfl, _, rfl, s, C, dx, _, rfl, hs1, TC.cl, TC.nD, (by show 0 < 1000; decide), ?_⟩
    have hT2 := tabs_ins (o := .ins C dx (putF "_dimensions" (.int d) [])) hT1 hs1
    have d2 : SD H (upd H1 s (.ins C dx (putF "_dimensions" (.int d) []))) := SD.upd (.of s1) hs1 rfl
    have e2 : ExtB s H (upd H1 s (.ins C dx (putF "_dimensions" (.int d) []))) := fun b o h nb _ => by
      rw [upd_ne nb]
      exact s1 b o h
    have hs2 : (upd H1 s (.ins C dx (putF "_dimensions" (.int d) []))) s = some (.ins C dx (putF "_dimensions" (.int d) [])) := upd_same
    generalize upd H1 s (.ins C dx (putF "_dimensions" (.int d) [])) = H2 at hT2 d2 e2 hs2 ⊢
    refine ⟨_, rfl, _, rfl, s, C, dx, _, rfl, hs2, TC.cl, TC.nM, (by show 1 < 1000; decide), ?_⟩
    have hT3 := tabs_ins (o := .ins C dx (putF "_modulus" (.int m) (putF "_dimensions" (.int d) []))) hT2 hs2
    have d3 : SD H (upd H2 s (.ins C dx (putF "_modulus" (.int m) (putF "_dimensions" (.int d) [])))) := SD.upd d2 hs2 rfl
    have e3 : ExtB s H (upd H2 s (.ins C dx (putF "_modulus" (.int m) (putF "_dimensions" (.int d) [])))) := fun b o h nb nt => by
      rw [upd_ne nb]
      exact e2 b o h nb nt
    have hs3 : (upd H2 s (.ins C dx (putF "_modulus" (.int m) (putF "_dimensions" (.int d) [])))) s = some (.ins C dx (putF "_modulus" (.int m) (putF "_dimensions" (.int d) []))) := upd_same
    generalize upd H2 s (.ins C dx (putF "_modulus" (.int m) (putF "_dimensions" (.int d) []))) = H3 at hT3 d3 e3 hs3 ⊢
    -- rows = sorted(..)
    obtain ⟨a, xs, rfl, ha, hd⟩ := dlst hv
    have hxl : xs.length = ts.length := by rw [dps_len hd, List.length_map]
    have hfst : (xs.zip ts).map Prod.fst = xs := by rw [List.map_fst_zip]; omega
    have hsnd : (xs.zip ts).map Prod.snd = ts := by rw [List.map_snd_zip]; omega
    have hbs : ∀ y ∈ xs.zip ts, Dp K H3 y.1 y.2.d := fun y hy => by
      obtain ⟨i, hi⟩ := List.mem_iff_getElem?.mp hy
      obtain ⟨h1, h2⟩ := List.getElem?_zip_eq_some.mp hi
      obtain ⟨t, _, _, _, e1, _⟩ := tb_at hd h1
      obtain ⟨dd, f1, f2⟩ := dps_get hd h1
      rw [List.getElem?_map, h2] at f1
      cases f1
      exact dpd d3 _ _ f2
    refine ⟨_, rfl, a, xs.zip ts, rfl, (by rw [hfst]; exact sqld d3 ha), hT3, fun y hy => ?_, fun H4 x4 hT4 p hp => ?_⟩
    · obtain ⟨b, zs, e1, ht, hz⟩ := dtup (hbs y hy)
      obtain ⟨z1, z2, z3, rfl, g1, g2, g3⟩ := dps3 hz
      obtain rfl := dstr g1
      exact ⟨b, [z2, z3], e1, ht⟩
    · have hsrt : ((xs.zip ts).mergeSort (leK fun y => y.2.n)).map Prod.snd = srt ts := by
        rw [show (leK fun y : V × Tb => y.2.n) = fun a b => leK Tb.n a.2 b.2 from rfl]
        rw [List.map_mergeSort (r := fun a b : V × Tb => leK Tb.n a.2 b.2) (s := leK Tb.n) (f := Prod.snd) (fun _ _ _ _ => rfl), hsnd]
        rfl
      have hmem : ∀ y ∈ (xs.zip ts).mergeSort (leK fun y => y.2.n), Dp K H4 y.1 y.2.d := fun y hy => dpd (.ext x4) _ _ (hbs y (List.mem_mergeSort.mp hy))
      generalize hL : (xs.zip ts).mergeSort (leK fun y => y.2.n) = bs at hsrt hmem ⊢
      have hbl : bs.length = ts.length := by rw [← hL, List.length_mergeSort, List.length_zip]; omega
      have hs4 : H4 s = some (.ins C dx (putF "_modulus" (.int m) (putF "_dimensions" (.int d) []))) := x4 _ _ hs3 fun ps z => by cases z
      have s5 : Same H4 (upd H4 p (.lst (bs.map Prod.fst))) := snew hp
      have hnd : (bs.map fun y => y.2.n).Nodup := by
        have e : (bs.map fun y => y.2.n) = (srt ts).map (·.n) := by
          rw [← hsrt, List.map_map]
          rfl
        rw [e]
        exact ((List.mergeSort_perm ts (leK Tb.n)).map (·.n)).nodup_iff.mpr O.ok.nodup
      -- self._tables = {..}
      refine ⟨_, rfl, p, rfl, ⟨_, Or.inl (Or.inl upd_same)⟩, fun D hD => dc_it (walk_list (K := K) (a := p) (xs := bs.map Prod.fst)) (fun i H' => ∃ (B : Hp) (kvs : List (Key × V)), Same (upd H4 p (.lst (bs.map Prod.fst))) B ∧ B D = none ∧ Same B H' ∧ H' D = some (.dK kvs) ∧ KvAt K B kvs ((srt ts).take i))
        ⟨_, [], same_refl, hD, snew hD, upd_same, .nil⟩ (fun i H' _ ⟨B, kvs, b1, b2, b3, _⟩ => sql b3 (sql b1 (Or.inl (Or.inl upd_same)))) ?_ ?_⟩
      · rintro i x _ Hi hi ⟨B, kvs, b1, b2, b3, b4, b5⟩ ⟨rfl, hx⟩
        rw [List.getElem?_map] at hx
        obtain ⟨y, hy, rfl⟩ := Option.map_eq_some_iff.mp hx
        have hyd := dpm b1 _ _ (dpm s5 _ _ (hmem y (List.mem_of_getElem? hy)))
        obtain ⟨b, zs, e1, ht, hz⟩ := dtup hyd
        obtain ⟨z1, z2, z3, rfl, g1, g2, g3⟩ := dps3 hz
        obtain rfl := dstr g1
        obtain rfl := dint g2
        obtain ⟨l, ys, rfl, hl, hys⟩ := dlst g3
        have hsi : (srt ts)[i]? = some y.2 := by
          rw [← hsrt, List.getElem?_map, hy]
          rfl
        refine ⟨b, _, e1, sqt b3 ht, rfl, _, _, rfl, _, _, rfl, _, _, rfl, rfl, rfl, ?_⟩
        refine ⟨_, rfl, _, rfl, _, rfl, l, ys, rfl, Or.inl ⟨sql b3 hl, fun q1 hq1 => ?_⟩⟩
        refine ⟨(by show 2 ≤ sizeLine; decide), fun q2 hq2 => ?_⟩
        have nq1 : q1 ≠ D := fun z => by
          rw [z, b4] at hq1
          cases hq1
        have nq2 : q2 ≠ D := fun z => by
          rw [z, upd_ne nq1.symm, b4] at hq2
          cases hq2
        have bq1 : B q1 = none := free_of b3 hq1
        have c1 : Same (upd B q1 (.tup ys)) (upd Hi q1 (.tup ys)) := fun c o h => by
          by_cases hc : c = q1
          · rw [hc, upd_same] at h ⊢
            exact h
          · rw [upd_ne hc] at h ⊢
            exact b3 c o h
        have bq2 : (upd B q1 (.tup ys)) q2 = none := free_of c1 hq2
        have c2 : Same (upd (upd B q1 (.tup ys)) q2 (.tup [.int y.2.c, .ref q1])) (upd (upd Hi q1 (.tup ys)) q2 (.tup [.int y.2.c, .ref q1])) := fun c o h => by
          by_cases hc : c = q2
          · rw [hc, upd_same] at h ⊢
            exact h
          · rw [upd_ne hc] at h ⊢
            exact c1 c o h
        have bb : Same B (upd (upd B q1 (.tup ys)) q2 (.tup [.int y.2.c, .ref q1])) := same_tr (snew bq1) (snew bq2)
        have bD : (upd (upd B q1 (.tup ys)) q2 (.tup [.int y.2.c, .ref q1])) D = none := by
          rw [upd_ne nq2.symm, upd_ne nq1.symm]
          exact b2
        have hDv : (upd (upd Hi q1 (.tup ys)) q2 (.tup [.int y.2.c, .ref q1])) D = some (.dK kvs) := by
          rw [upd_ne nq2.symm, upd_ne nq1.symm]
          exact b4
        have hkl : kvs.length ≤ 6 := by
          rw [b5.len, List.length_take]
          have := O.l6
          have : (srt ts).length = ts.length := List.length_mergeSort _
          omega
        refine ⟨kvs, Sum.inr y.2.n, rfl, hDv, small1000 (by omega), ?_⟩
        have hno : valV kvs (Sum.inr y.2.n) = none := b5.noVal (by
          have e : ((srt ts).take i).map (·.n) = (bs.map fun y => y.2.n).take i := by
            rw [← hsrt, List.map_take, List.map_map]
            rfl
          rw [e]
          exact notin_take hnd (by rw [List.getElem?_map, hy]; rfl))
        refine ⟨_, kvs ++ [(Sum.inr y.2.n, .ref q2)], same_tr b1 bb, bD, ?_, ?_, ?_⟩
        · intro c o h
          have hc : c ≠ D := fun z => by
            rw [z, bD] at h
            cases h
          rw [upd_ne hc]
          exact c2 c o h
        · rw [upd_same, putK_new _ hno]
        · rw [List.take_add_one, hsi]
          refine KvAt.app (b5.mono bb) (.cons ⟨rfl, ?_⟩ .nil)
          refine .tup (Or.inl (Or.inl upd_same)) (.cons (.int _) (.cons (.tup (Or.inl (Or.inl ?_)) (dpsm bb _ _ hys)) .nil))
          rw [upd_ne (ne_of_none upd_same bq2)]
          exact upd_same
      · rintro Hf ⟨B, kvs, b1, b2, b3, b4, b5⟩
        have hlen : (bs.map Prod.fst).length = (srt ts).length := by rw [← hsrt, List.length_map, List.length_map]
        rw [hlen, List.take_length] at b5
        have sf : Same H4 Hf := same_tr s5 (same_tr b1 b3)
        have hsf := sf _ _ hs4
        refine ⟨_, rfl, s, C, dx, _, rfl, hsf, TC.cl, TC.nT, (by show 2 < 1000; decide), ?_⟩
        refine q _ (fun b o h nb nt => ?_) (tabs_ins (hT4.ext sf) hsf) ⟨dx, D, kvs, upd_same, ?_, ?_⟩
        · rw [upd_ne nb]
          exact sf _ _ (x4 _ _ (e3 b o h nb nt) nt)
        · rw [upd_ne fun z => by
            rw [z, hsf] at b4
            cases b4]
          exact b4
        · exact b5.monoD (SD.upd (.of b3) hsf rfl)
end
end Fr

namespace Fr
open PySem PySem.Spec PyProof.Rows L2
abbrev s_Lrng : Stmt := topS 22
theorem sc_Lrng : FnScope ["_law_script", "_law_digits", "_law_seed", "_law_number", "_law_far"] ["_law_script"] (defScope s_Lrng) := ⟨rfl, rfl, rfl, by decide +kernel, rfl, by decide +kernel, by decide +kernel⟩
-- slots: 0 _law_script, 1 _law_digits, 2 _law_seed, 3 _law_number, 4 _law_far
abbrev s_Ldraw : Stmt := topS 23
theorem sc_Ldraw : FnScope ["_law_rng_here", "_law_limit", "_law_digit", "_law_blend"] ["_law_rng_here", "_law_limit"] (defScope s_Ldraw) := ⟨rfl, rfl, rfl, by decide +kernel, rfl, by decide +kernel, by decide +kernel⟩
-- slots: 0 _law_rng_here, 1 _law_limit, 2 _law_digit, 3 _law_blend
abbrev s_Lmixed : Stmt := topS 24
theorem sc_Lmixed : FnScope ["_law_rng_here", "_law_some", "_law_left", "_law_turned"] ["_law_rng_here", "_law_some"] (defScope s_Lmixed) := ⟨rfl, rfl, rfl, by decide +kernel, rfl, by decide +kernel, by decide +kernel⟩
-- slots: 0 _law_rng_here, 1 _law_some, 2 _law_left, 3 _law_turned
abbrev s_Lvector : Stmt := topS 25
theorem sc_Lvector : FnScope ["_law_rng_here", "_law_dims", "_law_wide", "_law_some", "_law_axis"] ["_law_rng_here", "_law_dims", "_law_wide"] (defScope s_Lvector) := ⟨rfl, rfl, rfl, by decide +kernel, rfl, by decide +kernel, by decide +kernel⟩
-- slots: 0 _law_rng_here, 1 _law_dims, 2 _law_wide, 3 _law_some, 4 _law_axis
/-- the state of the draws: digits, seed, counter -/
structure RngN (a b c : Int) (m : Nat) : Prop where
  a0 : 0 ≤ a
  a1 : a.natAbs < 2 ^ 20000
  b0 : 0 ≤ b
  b1 : b < 2 ^ 62
  c0 : 0 ≤ c
  c1 : c ≤ m
def RngOk (H : Hp) (r : Addr) (m : Nat) : Prop := ∃ a b c : Int, H r = some (.lst [.int a, .int b, .int c]) ∧ RngN a b c m
theorem RngN.mono {a b c : Int} {m m' : Nat} (h : RngN a b c m) (e : m ≤ m') : RngN a b c m' := ⟨h.a0, h.a1, h.b0, h.b1, h.c0, by have := h.c1; omega⟩
theorem RngOk.mono {H : Hp} {r : Addr} {m m' : Nat} (h : RngOk H r m) (e : m ≤ m') : RngOk H r m' := by
  obtain ⟨a, b, c, h1, h2⟩ := h
  exact ⟨a, b, c, h1, h2.mono e⟩
theorem cut_all (xs : List V) (i : Nat) (h : xs.length ≤ i) : cutV xs none (some (i : Int)) = xs := by
  unfold cutV
  rw [show HT.sIx xs.length xs.length (some (i : Int)) = min i xs.length from HT.sIx_nat xs.length xs.length i, HT.sIx_none, List.drop_zero, Nat.sub_zero, Nat.min_eq_right h, List.take_length]
theorem p1060 : ((10 : Int) ^ ((60 : Int).toNat)).natAbs < 2 ^ 200 := by decide +kernel
theorem p1060' : ((10 : Int) ^ ((60 : Int).toNat)) < 2 ^ 200 := by decide +kernel
theorem pos1 : (0 : Int) < 2305843009213693921 := by decide
theorem pos2 : (0 : Int) < 2305843009213693951 := by decide
theorem p1060p : 0 < ((10 : Int) ^ ((60 : Int).toNat)) := by decide +kernel
section
variable {P : Program} {w : World} {K : PySem.W.Frag} {mg : Str → Option Value} {base : Heap}
def spRng (K : PySem.W.Frag) : Sp := fun vs H Q _ => ∃ (a : Addr) (ns : List Int), vs = [.ref a] ∧ SqL K H a (ns.map V.int) ∧ ns.length ≤ 63 ∧ ∀ p H', H p = none → Same H H' → RngOk H' p 0 → Q (.ref p) H'
theorem dig_step {dg f t : Int} {i : Nat} (h0 : 0 ≤ dg) (h1 : dg < 2 ^ (200 * i)) (hp : 0 < t) (ht : t < 2 ^ 200) : 0 ≤ dg * t + f % t ∧ dg * t + f % t < 2 ^ (200 * (i + 1)) := by
  have e0 := Int.emod_nonneg f (Int.ne_of_gt hp)
  have e1 := Int.emod_lt_of_pos f hp
  have e2 : 0 ≤ dg * t := Int.mul_nonneg h0 (Int.le_of_lt hp)
  refine ⟨by omega, ?_⟩
  have e3 : dg * t + f % t < (dg + 1) * t := by
    rw [Int.add_mul, Int.one_mul]
    omega
  have e4 : (dg + 1) * t ≤ 2 ^ (200 * i) * 2 ^ 200 := Int.mul_le_mul h1 (Int.le_of_lt ht) (Int.le_of_lt hp) (Int.pow_nonneg (by decide))
  have e5 : (2 : Int) ^ (200 * (i + 1)) = 2 ^ (200 * i) * 2 ^ 200 := by
    rw [← Int.pow_add]
    congr 1
  rw [e5]
  exact Int.lt_of_lt_of_le e3 e4
theorem nat_lt_of {x : Int} {n : Nat} (h0 : 0 ≤ x) (h : x < 2 ^ n) : x.natAbs < 2 ^ n := by
  have e : (x.natAbs : Int) = x := Int.natAbs_of_nonneg h0
  have h' : (x.natAbs : Int) < ((2 ^ n : Nat) : Int) := by
    rw [e]
    push_cast
    exact h
  exact Int.ofNat_lt.mp h'
theorem dig_mono {x : Int} {i j : Nat} (h : x < 2 ^ (200 * i)) (e : i ≤ j) : x < 2 ^ (200 * j) := by
  refine Int.lt_of_lt_of_le h ?_
  have z : (2 : Nat) ^ (200 * i) ≤ 2 ^ (200 * j) := Nat.pow_le_pow_right (by decide) (by omega)
  have z' : ((2 ^ (200 * i) : Nat) : Int) ≤ ((2 ^ (200 * j) : Nat) : Int) := Int.ofNat_le.mpr z
  push_cast at z'
  exact z'
theorem ok_rng {f : Addr} {fd : FuncData} (F : Fun K "_law_rng" "_law_rng" s_Lrng f fd) (T : Txt mg) : FnOk P w K mg base CX0 1 f fd ["_law_script"] (spRng K) := by
  refine F.ok sc_Lrng (fun vs H Q E h => ?_) (fun cdv A outer sh H vs Q E hr h => ?_)
  · obtain ⟨a, ns, rfl, _⟩ := h
    rfl
  · obtain ⟨a, ns, rfl, ha, hl, q⟩ := h
    refine ⟨_, (pss_cons (ps_asg (pe_tup (pa_cons pe_int (pa_cons pe_int pa_nil))) (pg_tup rfl (pgs_cons (pg_name (i := 1) sc_Lrng.nd rfl (by first | exact Or.inl rfl | exact Or.inr rfl)) (pgs_cons (pg_name (i := 2) sc_Lrng.nd rfl (by first | exact Or.inl rfl | exact Or.inr rfl)) pgs_nil))))
  (pss_cons (ps_for PassesOwn.never rfl (pi_list (pe_slice sl_list (pv 0) po_none (po_some pe_int))) (pg_name (i := 3) sc_Lrng.nd rfl (by first | exact Or.inl rfl | exact Or.inr rfl))
    (pss_cons (ps_set (i := 4) sc_Lrng.nd rfl (by first | exact Or.inl rfl | exact Or.inr rfl) (pe_callB call_abs (by rfl) T.b_abs (by decide +kernel) (pa_cons (pv 3) pa_nil)))
    (pss_cons (ps_if (pt_cmpR op_ge (pv 4) (pe_op op_pow pe_int pe_int) (nomark _))
      (pss_one (ps_set (i := 1) sc_Lrng.nd rfl (by first | exact Or.inl rfl | exact Or.inr rfl) (pe_op op_add (pe_op op_mulW (pv 1) (pe_op op_pow pe_int pe_int)) (pe_op op_mod (pe_callTy call_int1 (by rfl) T.b_int (by decide +kernel) (pa_cons (pv 4) pa_nil)) (pe_op op_pow pe_int pe_int)))))
      pss_nil)
    (pss_one (ps_set (i := 2) sc_Lrng.nd rfl (by first | exact Or.inl rfl | exact Or.inr rfl) (pe_op op_mod (pe_callTy call_int1 (by rfl) T.b_int (by decide +kernel) (pa_cons (pe_op op_add (pe_op op_add (pe_op op_mulW (pv 2) pe_int) (pe_op op_mod (pe_callTy call_int1 (by rfl) T.b_int (by decide +kernel) (pa_cons (pv 3) pa_nil)) pe_int)) pe_int) pa_nil)) pe_int))))))
  (pss_one (ps_ret (pe_lst (pa_cons (pv 1) (pa_cons (pv 2) (pa_cons pe_int pa_nil)))))))), ?_⟩
    refine ⟨(by show 2 ≤ sizeLine; decide), fun p0 hp0 => ⟨p0, _, rfl, Or.inl (Or.inl upd_same), rfl, _, _, rfl, _, _, rfl, rfl, ?_⟩⟩
    have s0 : Same H (upd H p0 (.tup [.int 0, .int 88675123])) := snew hp0
    have ha := sql s0 ha
    generalize upd H p0 (.tup [.int 0, .int 88675123]) = H0 at s0 ha ⊢
    refine ⟨_, rfl, 63, rfl, a, _, rfl, ha, fun p hp => ?_⟩
    have hc : cutV (ns.map V.int) none (some 63) = ns.map V.int := cut_all _ 63 (by rw [List.length_map]; exact hl)
    rw [hc]
    have s1 : Same H (upd H0 p (.lst (ns.map V.int))) := same_tr s0 (snew hp)
    have hp1 : (upd H0 p (.lst (ns.map V.int))) p = some (.lst (ns.map V.int)) := upd_same
    generalize upd H0 p (.lst (ns.map V.int)) = H1 at s1 hp1 ⊢
    refine ⟨p, rfl, ⟨_, Or.inl (Or.inl hp1)⟩, for_it (walk_list (K := K) (a := p) (xs := ns.map V.int)) (fun i σ H' => ∃ dg sd y3 y4, σ = [some (.ref a), some (.int dg), some (.int sd), y3, y4] ∧ 0 ≤ dg ∧ dg < 2 ^ (200 * i) ∧ 0 ≤ sd ∧ sd < 2 ^ 62 ∧ H' = H1)
      ⟨0, 88675123, none, none, rfl, by decide, by decide, by decide, by decide, rfl⟩ (fun i σ H' _ ⟨_, _, _, _, _, _, _, _, _, e⟩ => by rw [e]; exact Or.inl (Or.inl hp1)) ?_ ?_⟩
    · rintro i y σ _ H2 hi ⟨dg, sd, y3, y4, rfl, d0, d1, sd0, sd1, rfl⟩ ⟨rfl, hy⟩
      rw [List.getElem?_map] at hy
      obtain ⟨n, hn, rfl⟩ := Option.map_eq_some_iff.mp hy
      rw [List.length_map] at hi
      refine ⟨_, rfl, n, rfl, ?_⟩
      refine ⟨_, rfl, 10, 18, rfl, rfl, ⟨by decide, by decide, by decide⟩, _, _, rfl, rfl, _, rfl, ?_⟩
      have wsd : (sd : Int).natAbs < 2 ^ 100000 := nat_lt_of (n := 100000) sd0 (Int.lt_trans sd1 (by decide +kernel))
      refine ite2 (fun hq => ?_) (fun hq => ?_)
      · have wdg : dg.natAbs < 2 ^ 20000 := nat_lt_of (n := 20000) d0 (dig_mono d1 (show i ≤ 100 by omega))
        refine ⟨_, rfl, 10, 60, rfl, rfl, ⟨by decide, by decide, by decide⟩, dg, _, rfl, rfl, wide_mul (a := 20000) (b := 200) wdg p1060 (by decide) (by decide) (by decide), _, rfl, Or.inl ⟨_, rfl, 10, 60, rfl, rfl, ⟨by decide, by decide, by decide⟩, _, _, rfl, rfl, p1060p, _, _, rfl, rfl, ?_⟩⟩
        obtain ⟨e1, e2⟩ := dig_step (f := if n < 0 then -n else n) d0 d1 p1060p p1060'
        refine ⟨_, rfl, sd, 1000003, rfl, rfl, wide_mul (a := 100000) (b := 100) wsd (by decide) (by decide) (by decide) (by decide), _, rfl, Or.inl ⟨n, rfl, n, _, rfl, rfl, pos1, _, _, rfl, rfl, _, _, rfl, rfl, Or.inl ⟨_, rfl, _, _, rfl, rfl, pos2, ?_⟩⟩⟩
        exact ⟨_, _, _, _, rfl, e1, e2, Int.emod_nonneg _ (by decide), Int.lt_trans (Int.emod_lt_of_pos _ (by decide)) (by decide), rfl⟩
      · refine ⟨_, rfl, sd, 1000003, rfl, rfl, wide_mul (a := 100000) (b := 100) wsd (by decide) (by decide) (by decide) (by decide), _, rfl, Or.inl ⟨n, rfl, n, _, rfl, rfl, pos1, _, _, rfl, rfl, _, _, rfl, rfl, Or.inl ⟨_, rfl, _, _, rfl, rfl, pos2, ?_⟩⟩⟩
        exact ⟨_, _, _, _, rfl, d0, dig_mono d1 (by omega), Int.emod_nonneg _ (by decide), Int.lt_trans (Int.emod_lt_of_pos _ (by decide)) (by decide), rfl⟩
    · rintro σ H2 ⟨dg, sd, y3, y4, rfl, d0, d1, sd0, sd1, rfl⟩
      rw [List.length_map] at d1
      refine ⟨_, rfl, _, rfl, (by show 3 ≤ sizeLine; decide), fun r hr' => ?_⟩
      refine q r _ (free_of s1 hr') (same_tr s1 (snew hr')) ⟨dg, sd, 0, upd_same, d0, ?_, sd0, sd1, by decide, by decide⟩
      have := dig_mono d1 (show ns.length ≤ 100 by omega)
      exact nat_lt_of (n := 20000) d0 this
/-- only the state of the draws changed -/
structure Dr (r : Addr) (m : Nat) (H H' : Hp) : Prop where
  ne : ∀ b, b ≠ r → H' b = H b
  ok : RngOk H' r m
structure RS (r : Addr) (m : Nat) (B H : Hp) : Prop where
  s : Same B H
  n : B r = none
  ok : RngOk H r m
theorem RS.dr {r : Addr} {m m' : Nat} {B H H' : Hp} (h : RS r m B H) (d : Dr r m' H H') : RS r m' B H' := ⟨fun b o e => by
  rw [d.ne b (ne_of_none e h.n)]
  exact h.s b o e, h.n, d.ok⟩
theorem RngOk.at {r : Addr} {m : Nat} {H H' : Hp} (h : RngOk H r m) (e : H' r = H r) : RngOk H' r m := by
  obtain ⟨a, b, c, h1, h2⟩ := h
  exact ⟨a, b, c, by rw [e, h1], h2⟩
theorem RngOk.some {r : Addr} {m : Nat} {H : Hp} (h : RngOk H r m) : ∃ o, H r = some o := by
  obtain ⟨a, b, c, h1, h2⟩ := h
  exact ⟨_, h1⟩
theorem RngOk.new {r p : Addr} {m : Nat} {H : Hp} {o : HO} (h : RngOk H r m) (e : H p = none) : RngOk (upd H p o) r m := by
  obtain ⟨o', ho⟩ := h.some
  exact h.at (upd_ne (ne_of_none ho e))
theorem RS.new {r p : Addr} {m : Nat} {B H : Hp} {o : HO} (h : RS r m B H) (e : H p = none) : RS r m B (upd H p o) := ⟨same_tr h.s (snew e), h.n, h.ok.new e⟩
theorem RS.put {r p : Addr} {m : Nat} {B H : Hp} {o : HO} (h : RS r m B H) (e : B p = none) (n : r ≠ p) : RS r m B (upd H p o) := ⟨swrite h.s e, h.n, h.ok.at (upd_ne n)⟩
/-- a new thing that stays -/
theorem RS.keep {r p : Addr} {m : Nat} {B H : Hp} {o : HO} (h : RS r m B H) (e : H p = some o) (k : B p = none) (n : r ≠ p) : RS r m (upd B p o) H := ⟨fun b x q => by
  by_cases hb : b = p
  · rw [hb, upd_same] at q
    rw [hb, e, q]
  · rw [upd_ne hb] at q
    exact h.s b x q, by rw [upd_ne n]; exact h.n, h.ok⟩
theorem RS.ne {r p : Addr} {m : Nat} {B H : Hp} (h : RS r m B H) (e : H p = none) : r ≠ p := by
  obtain ⟨o', ho⟩ := h.ok.some
  exact ne_of_none ho e
theorem RS.mono {r : Addr} {m m' : Nat} {B H : Hp} (h : RS r m B H) (e : m ≤ m') : RS r m' B H := ⟨h.s, h.n, h.ok.mono e⟩
def spDraw : Sp := fun vs H Q _ => ∃ (r : Addr) (lim : Int) (m : Nat), vs = [.ref r, .int lim] ∧ RngOk H r m ∧ m ≤ 2 ^ 60 ∧ 0 < lim ∧ lim.natAbs < 2 ^ 200 ∧ ∀ d H', 0 ≤ d → d < lim → Dr r (m + 1) H H' → Q (.int d) H'
theorem pos3 : (0 : Int) < 162259276829213363391578010288127 := by decide
theorem pos4 : (0 : Int) < 170141183460469231731687303715884105727 := by decide
theorem pos5 : (0 : Int) < 1048576 := by decide
theorem ok_draw {f : Addr} {fd : FuncData} (F : Fun K "_law_draw" "_law_draw" s_Ldraw f fd) (T : Txt mg) : FnOk P w K mg base CX0 1 f fd ["_law_rng_here", "_law_limit"] spDraw := by
  refine F.ok sc_Ldraw (fun vs H Q E h => ?_) (fun cdv A outer sh H vs Q E hr h => ?_)
  · obtain ⟨r, lim, m, rfl, _⟩ := h
    rfl
  · obtain ⟨r, lim, m, rfl, ⟨a, b, c, hR, N⟩, hm, l0, l1, q⟩ := h
    refine ⟨_, (pss_cons (ps_if (pt_cmpR op_gt (pe_ix ix_list (pv 0) pe_int (fun _ _ => rfl)) pe_int (nomark _))
    (pss_cons (ps_set (i := 2) sc_Ldraw.nd rfl (by first | exact Or.inl rfl | exact Or.inr rfl) (pe_op op_mod (pe_callTy call_int1 (by rfl) T.b_int (by decide +kernel) (pa_cons (pe_ix ix_list (pv 0) pe_int (fun _ _ => rfl)) pa_nil)) (pv 1)))
    (pss_cons (ps_asg (pe_op op_fdivW (pe_ix ix_list (pv 0) pe_int (fun _ _ => rfl)) (pv 1)) (pg_sub (pv 0) pe_int set_list))
    (pss_one (ps_ret (pv 2)))))
    pss_nil)
  (pss_cons (ps_asg (pe_op op_add (pe_ix ix_list (pv 0) pe_int (fun _ _ => rfl)) pe_int) (pg_sub (pv 0) pe_int set_list))
  (pss_cons (ps_set (i := 3) sc_Ldraw.nd rfl (by first | exact Or.inl rfl | exact Or.inr rfl) (pe_op op_mod (pe_callTy call_int1 (by rfl) T.b_int (by decide +kernel) (pa_cons (pe_op op_powW (pe_op op_add (pe_ix ix_list (pv 0) pe_int (fun _ _ => rfl)) (pe_op op_mulW pe_int (pe_ix ix_list (pv 0) pe_int (fun _ _ => rfl)))) pe_int) pa_nil)) pe_int))
  (pss_cons (ps_set (i := 3) sc_Ldraw.nd rfl (by first | exact Or.inl rfl | exact Or.inr rfl) (pe_op op_mod (pe_callTy call_int1 (by rfl) T.b_int (by decide +kernel) (pa_cons (pe_op op_powW (pe_op op_add (pv 3) (pe_op op_mulW pe_int (pe_ix ix_list (pv 0) pe_int (fun _ _ => rfl)))) pe_int) pa_nil)) pe_int))
  (pss_one (ps_ret (pe_op op_mod (pe_callTy call_int1 (by rfl) T.b_int (by decide +kernel) (pa_cons (pe_op op_fdivW (pv 3) pe_int) pa_nil)) (pv 1)))))))), ?_⟩
    have sq : SqL K H r [.int a, .int b, .int c] := Or.inl (Or.inl hR)
    refine ⟨_, rfl, r, _, 0, _, rfl, rfl, sq, rfl, a, 0, rfl, rfl, decide (0 < a), rfl, ?_⟩
    refine ite2 (fun h0 => ?_) (fun h0 => ?_)
    · have h0 : 0 < a := of_decide_eq_true h0
      refine ⟨_, rfl, r, _, 0, _, rfl, rfl, sq, rfl, Or.inl ⟨a, rfl, _, rfl, a, lim, rfl, rfl, l0, ?_⟩⟩
      refine ⟨_, rfl, r, _, 0, _, rfl, rfl, sq, rfl, _, rfl, a, lim, rfl, rfl, wide_div l0 l1 (by decide) (by decide), ?_⟩
      · refine ⟨_, rfl, r, _, 0, 0, rfl, rfl, hR, rfl, ?_⟩
        refine ⟨_, rfl, q _ _ (Int.emod_nonneg _ (Int.ne_of_gt l0)) (Int.emod_lt_of_pos _ l0) ⟨fun x hx => upd_ne hx, _, b, c, upd_same, ?_⟩⟩
        refine ⟨Int.ediv_nonneg N.a0 (Int.le_of_lt l0), ?_, N.b0, N.b1, N.c0, by have := N.c1; omega⟩
        refine Nat.lt_of_le_of_lt ?_ N.a1
        have e1 := Int.ediv_le_self lim (a := a) N.a0
        have e0 := Int.ediv_nonneg N.a0 (Int.le_of_lt l0)
        omega
    · have hc : (c + 1).natAbs < 2 ^ 100 := by
        have h1 := N.c0
        have h2 := N.c1
        omega
      have hcc : c + 1 ≤ ((m + 1 : Nat) : Int) := by
        have h2 := N.c1
        omega
      refine ⟨_, rfl, r, _, 2, _, rfl, rfl, sq, rfl, c, 1, rfl, rfl, _, rfl, r, _, 2, 2, rfl, rfl, hR, rfl, ?_⟩
      have dr : Dr r (m + 1) H (upd H r (.lst [.int a, .int b, .int (c + 1)])) := ⟨fun x hx => upd_ne hx, a, b, c + 1, upd_same, ⟨N.a0, N.a1, N.b0, N.b1, by have := N.c0; omega, hcc⟩⟩
      have hR' : (upd H r (.lst [.int a, .int b, .int (c + 1)])) r = some (.lst [.int a, .int b, .int (c + 1)]) := upd_same
      have sq2 : SqL K (upd H r (.lst [.int a, .int b, .int (c + 1)])) r [.int a, .int b, .int (c + 1)] := Or.inl (Or.inl hR')
      have c0 := N.c0
      have b0 := N.b0
      have b1 := N.b1
      have hc9 : c + 1 < 2 ^ 100 := by omega
      have w1 : (b + 998244353 * (c + 1)).natAbs < 2 ^ 1000000 := Nat.lt_of_lt_of_le (m := 2 ^ 200) (by omega) (Nat.pow_le_pow_right (by decide) (by decide))
      refine ⟨_, rfl, r, _, 1, _, rfl, rfl, sq2, rfl, _, rfl, r, _, 2, _, rfl, rfl, sq2, rfl, _, _, rfl, rfl, wide_mul (a := 100) (b := 100) (by decide) hc (by decide) (by decide) (by decide), _, _, rfl, rfl, _, 3, rfl, rfl, ⟨by decide, by decide, w1⟩, Or.inl ⟨_, rfl, _, _, rfl, rfl, pos3, ?_⟩⟩
      have x0 := Int.emod_nonneg ((b + 998244353 * (c + 1)) ^ 3) (Int.ne_of_gt pos3)
      have x1 := Int.emod_lt_of_pos ((b + 998244353 * (c + 1)) ^ 3) pos3
      have w2 : ((b + 998244353 * (c + 1)) ^ 3 % 162259276829213363391578010288127 + 32452843 * (c + 1)).natAbs < 2 ^ 1000000 := Nat.lt_of_lt_of_le (m := 2 ^ 200) (by omega) (Nat.pow_le_pow_right (by decide) (by decide))
      refine ⟨_, rfl, _, rfl, r, _, 2, _, rfl, rfl, sq2, rfl, _, _, rfl, rfl, wide_mul (a := 100) (b := 100) (by decide) hc (by decide) (by decide) (by decide), _, _, rfl, rfl, _, 3, rfl, rfl, ⟨by decide, by decide, w2⟩, Or.inl ⟨_, rfl, _, _, rfl, rfl, pos4, ?_⟩⟩
      refine ⟨_, rfl, _, _, rfl, rfl, wide_div pos5 (b := 100) (by decide) (by decide) (by decide), Or.inl ⟨_, rfl, _, rfl, _, lim, rfl, rfl, l0, ?_⟩⟩
      exact q _ _ (Int.emod_nonneg _ (Int.ne_of_gt l0)) (Int.emod_lt_of_pos _ l0) dr
end
end Fr

namespace Fr
open PySem PySem.Spec PyProof.Rows L2
theorem atI_in {α : Type} {xs : List α} {i : Int} (h0 : 0 ≤ i) (h1 : i < xs.length) : ∃ v, atI xs i = some v ∧ v ∈ xs ∧ xs[i.toNat]? = some v := by
  have h2 : i.toNat < xs.length := by omega
  have e := List.getElem?_eq_getElem h2
  refine ⟨xs[i.toNat], ?_, List.getElem_mem h2, e⟩
  have := atI_nat e
  rw [Int.toNat_of_nonneg h0] at this
  exact this
/-- all but one place -/
def cutr (H : Hp) (r : Addr) : Hp := fun b => if b = r then none else H b
theorem cutr_ne {H : Hp} {r b : Addr} (h : b ≠ r) : cutr H r b = H b := if_neg h
theorem RS.cut {r : Addr} {m : Nat} {H : Hp} (h : RngOk H r m) : RS r m (cutr H r) H := ⟨fun b o e => by
  unfold cutr at e
  split at e
  · cases e
  · exact e, if_pos rfl, h⟩
section
variable {P : Program} {w : World} {K : PySem.W.Frag} {mg : Str → Option Value} {base : Heap}
def Good (d : PyData) : Prop := d.canLay0 = true ∧ d.depth ≤ 30
theorem goods : ∀ {ds : List PyData}, (∀ d ∈ ds, Good d) → PyData.canLayAll0 ds = true ∧ PyData.depthAll ds ≤ 30
  | [], _ => ⟨by simp [PyData.canLayAll0], by simp [PyData.depthAll]⟩
  | d :: ds, h => by
    obtain ⟨h1, h2⟩ := h d List.mem_cons_self
    obtain ⟨h3, h4⟩ := goods fun e he => h e (List.mem_cons_of_mem _ he)
    exact ⟨by simp [PyData.canLayAll0, h1, h3], by simp [PyData.depthAll]; omega⟩
theorem shaped_list {ds : List PyData} (h : ∀ d ∈ ds, Good d) : SeqAt.shaped (.list ds) = true := by
  obtain ⟨h1, h2⟩ := goods h
  unfold SeqAt.shaped
  rw [Bool.and_eq_true]
  refine ⟨by simpa [PyData.canLay0] using h1, decide_eq_true ?_⟩
  simp [PyData.depth]
  omega
theorem eqv_nil (ds : List PyData) : PyData.eqv (.list ds) (.list []) = ds.isEmpty := by
  cases ds <;> simp [PyData.eqv, PyData.eqvAll]
theorem dps_erase : ∀ {H : Hp} {ds : List PyData} {vs : List V} {k : Nat}, DpAll K H vs ds → DpAll K H (vs.eraseIdx k) (ds.eraseIdx k)
  | _, [], _, _, h => by cases h; exact .nil
  | _, d :: ds, _, 0, h => by
    cases h with
    | cons h1 h2 => exact h2
  | _, d :: ds, _, k + 1, h => by
    cases h with
    | cons h1 h2 => exact .cons h1 (dps_erase h2)
theorem perm_erase {α : Type} : ∀ {xs : List α} {k : Nat} {x : α}, xs[k]? = some x → List.Perm xs (x :: xs.eraseIdx k)
  | [], _, _, h => by cases h
  | y :: xs, 0, x, h => by cases h; exact .refl _
  | y :: xs, k + 1, x, h => by
    have := perm_erase (xs := xs) (k := k) (x := x) (by simpa using h)
    exact (this.cons y).trans (.swap _ _ _)
def spMixed (K : PySem.W.Frag) : Sp := fun vs H Q _ => ∃ (r l : Addr) (m : Nat) (B : Hp) (xs : List V) (ds : List PyData), vs = [.ref r, .ref l] ∧ RS r m B H ∧ SqL K B l xs ∧ DpAll K B xs ds ∧ (∀ d ∈ ds, Good d) ∧ ds.length ≤ 1000 ∧ m ≤ 2 ^ 59 ∧
  ∀ p H' ys es, B p = none → r ≠ p → List.Perm ds es → DpAll K B ys es → RS r (m + ds.length) (upd B p (.lst ys)) H' → Q (.ref p) H'
theorem ok_mixed {f : Addr} {fd : FuncData} (F : Fun K "_law_mixed" "_law_mixed" s_Lmixed f fd) (T : Txt mg) (c_Ldraw : C8.Cal P w K mg base 1 "_law_draw" spDraw []) : FnOk P w K mg base CX0 2 f fd ["_law_rng_here", "_law_some"] (spMixed K) := by
  refine F.ok sc_Lmixed (fun vs H Q E h => ?_) (fun cdv A outer sh H vs Q E hr h => ?_)
  · obtain ⟨r, l, m, B, xs, ds, rfl, _⟩ := h
    rfl
  · obtain ⟨r, l, m, B, xs, ds, rfl, R, hl, hd, hg, hlen, hm, q⟩ := h
    have hxl := dps_len hd
    refine ⟨_, (pss_cons (ps_par (i := 2) (j := 3) (by rfl) sc_Lmixed.nd rfl rfl (by decide) rfl rfl (pa_cons (pe_callTy call_list_of (by rfl) T.b_list (by decide +kernel) (pa_cons (pv 1) pa_nil)) (pa_cons (pe_lst pa_nil) pa_nil)) (by rfl))
  (pss_cons (ps_while PassesOwn.never (pt_cmpR (op_neD hr.units) (pv 2) (pe_lst pa_nil) (nomark _))
    (pss_one (ps_expr (pe_bm PySem.F.plainAttrs_list PySem.F.slot_list_append PySem.F.type_list_append mt_append (pv 3) (pa_cons (pe_bm PySem.F.plainAttrs_list PySem.F.slot_list_pop PySem.F.type_list_pop mt_popAt (pv 2) (pa_cons (C8.pe_c c_Ldraw hr (by decide) (by rfl) (pa_cons (pv 0) (pa_cons (pe_callB call_len_seq (by rfl) T.b_len PySem.boot_len (pa_cons (pv 2) pa_nil)) pa_nil))) pa_nil)) pa_nil)))))
  (pss_one (ps_ret (pv 3))))), ?_⟩
    refine ⟨_, rfl, l, xs, rfl, Or.inl (sql R.s hl), fun L hL => ?_⟩
    have R1 : RS r m B (upd H L (.lst xs)) := R.new hL
    have L1 : (upd H L (.lst xs)) L = some (.lst xs) := upd_same
    have bL : B L = none := free_of R.s hL
    have rL := R.ne hL
    generalize upd H L (.lst xs) = H1 at R1 L1 ⊢
    refine ⟨Nat.zero_le _, fun U hU => ⟨_, _, rfl, ?_⟩⟩
    have R2 : RS r m B (upd H1 U (.lst [])) := R1.new hU
    have U2 : (upd H1 U (.lst [])) U = some (.lst []) := upd_same
    have bU : B U = none := free_of R1.s hU
    have rU := R1.ne hU
    have LU : L ≠ U := ne_of_none L1 hU
    have L2 : (upd H1 U (.lst [])) L = some (.lst xs) := by rw [upd_ne LU]; exact L1
    generalize upd H1 U (.lst []) = H2 at R2 L2 U2 ⊢
    refine ⟨fun n σ H' => ∃ lv ld tv td, σ = [some (.ref r), some (.ref l), some (.ref L), some (.ref U)] ∧ H' L = some (.lst lv) ∧ H' U = some (.lst tv) ∧ DpAll K B lv ld ∧ DpAll K B tv td ∧ List.Perm ds (td ++ ld) ∧ n = ld.length ∧ RS r (m + td.length) B H',
      ⟨_, xs, ds, [], [], rfl, L2, U2, hd, .nil, .refl _, rfl, R2⟩, ?_⟩
    rintro n σ H3 ⟨lv, ld, tv, td, rfl, L3, U3, dl, dt, pm, rfl, R3⟩
    have hpl := pm.length_eq
    rw [List.length_append] at hpl
    have lvl := dps_len dl
    have tvl := dps_len dt
    have gl : ∀ d ∈ ld, Good d := fun d h => hg d (pm.mem_iff.mpr (List.mem_append.mpr (.inr h)))
    refine ⟨_, rfl, Nat.zero_le _, fun p hp => ⟨.list ld, .list [], .lst (Or.inl (Or.inl ?_)) (dpsm (same_tr R3.s (snew hp)) _ _ dl), .lst (Or.inl (Or.inl upd_same)) .nil, shaped_list gl, shaped_list (by intro d h; cases h), _, rfl, ?_⟩⟩
    · rw [upd_ne (ne_of_none L3 hp)]
      exact L3
    rw [eqv_nil]
    have L4 : (upd H3 p (.lst [])) L = some (.lst lv) := by rw [upd_ne (ne_of_none L3 hp)]; exact L3
    have U4 : (upd H3 p (.lst [])) U = some (.lst tv) := by rw [upd_ne (ne_of_none U3 hp)]; exact U3
    have R4 : RS r (m + td.length) B (upd H3 p (.lst [])) := R3.new hp
    generalize upd H3 p (.lst []) = H4 at L4 U4 R4 ⊢
    cases hld : ld with
    | nil =>
      subst hld
      refine iteF ?_
      refine ⟨_, rfl, ?_⟩
      rw [List.append_nil] at pm
      refine q U H4 tv td bU rU pm dt ?_
      have e : ds.length = td.length := pm.length_eq
      rw [e]
      exact R4.keep U4 bU rU
    | cons d0 ld0 =>
      rw [← hld]
      have hpos : 0 < ld.length := by rw [hld]; exact Nat.succ_pos _
      have hne : ld.isEmpty = false := by rw [hld]; rfl
      rw [hne]
      refine iteT ⟨fun σ' H' => ∃ m', m' < ld.length ∧ ∃ lv ld tv td, σ' = [some (.ref r), some (.ref l), some (.ref L), some (.ref U)] ∧ H' L = some (.lst lv) ∧ H' U = some (.lst tv) ∧ DpAll K B lv ld ∧ DpAll K B tv td ∧ List.Perm ds (td ++ ld) ∧ m' = ld.length ∧ RS r (m + td.length) B H', fun _ _ h => h, ?_⟩
      refine ⟨_, rfl, Or.inl ⟨rfl, _, Or.inl (Or.inl U4)⟩, _, rfl, Or.inl ⟨rfl, _, Or.inl (Or.inl L4)⟩, _, rfl, _, rfl, L, lv, rfl, Or.inl (Or.inl (Or.inl L4)), r, _, _, rfl, R4.ok, by omega, by omega, by omega, fun d H5 d1 d2 D => ?_⟩
      have L5 : H5 L = some (.lst lv) := by rw [D.ne _ rL.symm]; exact L4
      have U5 : H5 U = some (.lst tv) := by rw [D.ne _ rU.symm]; exact U4
      have R5 := R4.dr D
      have d3 : d < (lv.length : Int) := d2
      obtain ⟨y, a1, a2, a3⟩ := atI_in d1 d3
      obtain ⟨j, b1, b2, b3, b4, b5⟩ := atI_get a1
      obtain ⟨e, e1, e2⟩ := dps_get dl b2
      have lj : (lv.eraseIdx j).length + 1 = lv.length := by
        rw [List.length_eraseIdx_of_lt b3]
        omega
      refine ⟨L, lv, d, j, y, rfl, rfl, L5, by omega, by omega, b1, b2, U, tv, y, rfl, rfl, ?_, small1000 (by omega), ?_⟩
      · rw [upd_ne LU.symm]
        exact U5
      · have dl' := dps_erase (k := j) dl
        have ll' := dps_len dl'
        refine ⟨(ld.eraseIdx j).length, by omega, lv.eraseIdx j, ld.eraseIdx j, tv ++ [y], td ++ [e], rfl, ?_, upd_same, dl', dps_snoc dt e2, ?_, rfl, ?_⟩
        · rw [upd_ne LU]
          exact upd_same
        · refine pm.trans ?_
          rw [List.append_assoc]
          exact .append_left _ (perm_erase e1)
        · have := (R5.put (o := .lst (lv.eraseIdx j)) bL rL).put (o := .lst (tv ++ [y])) bU rU
          rw [List.length_append]
          exact this
def spVector (K : PySem.W.Frag) : Sp := fun vs H Q _ => ∃ (r : Addr) (dims wide : Int) (m : Nat) (B : Hp), vs = [.ref r, .int dims, .int wide] ∧ RS r m B H ∧ 0 ≤ dims ∧ dims ≤ 3 ∧ 0 ≤ wide ∧ wide ≤ 1000 ∧ m ≤ 2 ^ 59 ∧
  ∀ p H' (v : List Int), B p = none → r ≠ p → (v.length : Int) = dims → (∀ x ∈ v, -1000 ≤ x ∧ x ≤ 1000) → RS r (m + 9) (upd B p (.tup (v.map V.int))) H' → Q (.ref p) H'
theorem ok_vector {f : Addr} {fd : FuncData} (F : Fun K "_law_vector" "_law_vector" s_Lvector f fd) (T : Txt mg) (c_Ldraw : C8.Cal P w K mg base 1 "_law_draw" spDraw []) : FnOk P w K mg base CX0 2 f fd ["_law_rng_here", "_law_dims", "_law_wide"] (spVector K) := by
  refine F.ok sc_Lvector (fun vs H Q E h => ?_) (fun cdv A outer sh H vs Q E hr h => ?_)
  · obtain ⟨r, dims, wide, m, B, rfl, _⟩ := h
    rfl
  · obtain ⟨r, dims, wide, m, B, rfl, R, hd0, hd3, hw0, hw1, hm, q⟩ := h
    refine ⟨_, (pss_cons (ps_set (i := 3) sc_Lvector.nd rfl (by first | exact Or.inl rfl | exact Or.inr rfl) (pe_lst pa_nil))
  (pss_cons (ps_for PassesOwn.never rfl (pi_range1 (by rfl) T.b_range (pa_cons (pv 1) pa_nil)) (pg_name (i := 4) sc_Lvector.nd rfl (by first | exact Or.inl rfl | exact Or.inr rfl))
    (pss_one (ps_expr (pe_bm PySem.F.plainAttrs_list PySem.F.slot_list_append PySem.F.type_list_append mt_append (pv 3) (pa_cons (pe_ix ix_list (pe_lst (pa_cons pe_int (pa_cons pe_int (pa_cons (C8.pe_c c_Ldraw hr (by decide) (by rfl) (pa_cons (pv 0) (pa_cons (pe_op op_add (pv 2) pe_int) pa_nil))) (pa_cons (pe_op op_sub pe_int (C8.pe_c c_Ldraw hr (by decide) (by rfl) (pa_cons (pv 0) (pa_cons (pe_op op_add (pv 2) pe_int) pa_nil)))) pa_nil))))) (C8.pe_c c_Ldraw hr (by decide) (by rfl) (pa_cons (pv 0) (pa_cons pe_int pa_nil))) (fun _ _ => rfl)) pa_nil)))))
  (pss_one (ps_ret (pe_callTy call_tuple_of (by rfl) T.b_tuple (by decide +kernel) (pa_cons (pv 3) pa_nil)))))), ?_⟩
    refine ⟨Nat.zero_le _, fun L hL => ?_⟩
    have R1 : RS r m B (upd H L (.lst [])) := R.new hL
    have L1 : (upd H L (.lst [])) L = some (.lst []) := upd_same
    have bL : B L = none := free_of R.s hL
    have rL := R.ne hL
    generalize upd H L (.lst []) = H1 at R1 L1 ⊢
    refine ⟨_, rfl, dims, rfl, by omega, by omega, for_range (fun i σ H' => ∃ (y4 : Option V) (xs : List Int), σ = [some (.ref r), some (.int dims), some (.int wide), some (.ref L), y4] ∧ xs.length = i ∧ (∀ x ∈ xs, -1000 ≤ x ∧ x ≤ 1000) ∧ H' L = some (.lst (xs.map V.int)) ∧ RS r (m + 3 * i) B H')
      ⟨none, [], rfl, rfl, (by intro x hx; cases hx), L1, R1⟩ ?_ ?_⟩
    · rintro i σ H2 hi ⟨y4, xs, rfl, hx, hb, L2, R2⟩
      have hi3 : i < 3 := by omega
      refine ⟨_, rfl, Or.inl ⟨rfl, _, Or.inl (Or.inl L2)⟩, _, rfl, _, rfl, _, _, rfl, rfl, r, _, _, rfl, R2.ok, by omega, by omega, by omega, fun d1 H3 a0 a1 D1 => ?_⟩
      have R3 := R2.dr D1
      have L3 : H3 L = some (.lst (xs.map V.int)) := by rw [D1.ne _ rL.symm]; exact L2
      refine ⟨_, rfl, _, rfl, _, _, rfl, rfl, r, _, _, rfl, R3.ok, by omega, by omega, by omega, fun d2 H4 b0 b1 D2 => ⟨_, _, rfl, rfl, ?_⟩⟩
      have R4 := R3.dr D2
      have L4 : H4 L = some (.lst (xs.map V.int)) := by rw [D2.ne _ rL.symm]; exact L3
      refine ⟨(by show 4 ≤ sizeLine; decide), fun p hp => ?_⟩
      have R5 : RS r (m + 3 * i + 1 + 1) B (upd H4 p (.lst [.int 0, .int 1, .int d1, .int (0 - d2)])) := R4.new hp
      have L5 : (upd H4 p (.lst [.int 0, .int 1, .int d1, .int (0 - d2)])) L = some (.lst (xs.map V.int)) := by rw [upd_ne (ne_of_none L4 hp)]; exact L4
      have p5 : (upd H4 p (.lst [.int 0, .int 1, .int d1, .int (0 - d2)])) p = some (.lst ([0, 1, d1, 0 - d2].map V.int)) := upd_same
      refine ⟨_, rfl, r, 4, m + 3 * i + 1 + 1, rfl, R5.ok, by omega, by omega, by decide, fun d3 H6 c0 c1 D3 => ?_⟩
      have R6 := R5.dr D3
      have L6 : H6 L = some (.lst (xs.map V.int)) := by rw [D3.ne _ rL.symm]; exact L5
      have p6 : H6 p = some (.lst ([0, 1, d1, 0 - d2].map V.int)) := by rw [D3.ne _ (R4.ne hp).symm]; exact p5
      obtain ⟨y, e1, e2, _⟩ := atI_in (xs := [0, 1, d1, 0 - d2].map V.int) c0 c1
      obtain ⟨n, hn, rfl⟩ := List.mem_map.mp e2
      have hnb : -1000 ≤ n ∧ n ≤ 1000 := by
        simp only [List.mem_cons, List.not_mem_nil, or_false] at hn
        omega
      refine ⟨p, _, d3, .int n, rfl, rfl, Or.inl (Or.inl p6), e1, L, _, .int n, rfl, rfl, L6, small1000 (by rw [List.length_map]; omega), ?_⟩
      refine ⟨_, xs ++ [n], rfl, by rw [List.length_append, hx]; rfl, ?_, ?_, (R6.put bL rL).mono (by omega)⟩
      · intro x h
        rcases List.mem_append.mp h with h | h
        · exact hb x h
        · rw [List.mem_singleton.mp h]
          exact hnb
      · rw [upd_same, List.map_append]
        rfl
    · rintro σ H2 ⟨y4, xs, rfl, hx, hb, L2, R2⟩
      refine ⟨_, rfl, L, _, rfl, Or.inl ⟨Or.inl (Or.inl L2), fun l hl => ?_⟩⟩
      have R3 : RS r (m + 9) B (upd H2 l (.tup (xs.map V.int))) := (R2.new hl).mono (by omega)
      exact q l _ xs (free_of R2.s hl) (R2.ne hl) (by omega) hb (R3.keep upd_same (free_of R2.s hl) (R2.ne hl))
end
end Fr

namespace Fr
open PySem PySem.Spec PyProof.Rows L2
/-- a statement, up to what holds behind it -/
def tCsq (t : TS) : TS := fun D σ H => ∃ N : L2.St → Hp → Prop, (∀ σ H, N σ H → D.nx σ H) ∧ t { D with nx := N } σ H
theorem ps_csq {X : Cx} {st : Stmt} {t : TS} (h : PS X st t) : PS X st (tCsq t) := ⟨fun pins s σ H D I ⟨N, hN, q⟩ => thn (h.run pins s σ H _ I q) fun f s2 q2 => by
  cases f with
  | next =>
    obtain ⟨σ3, H3, I3, n3⟩ := q2
    exact ⟨σ3, H3, I3, hN _ _ n3⟩
  | cont => exact q2
  | brk => exact q2
  | ret v => exact q2⟩
abbrev s_Lmade_rows : Stmt := topS 26
theorem sc_Lmade_rows : FnScope ["_law_rng_here", "_law_dims", "_law_many", "_law_most", "_law_wide", "_law_words", "_law_word", "_law_rows", "_law_turn", "_law_number", "_law_some", "_law_factor"] ["_law_rng_here", "_law_dims", "_law_many", "_law_most", "_law_wide"] (defScope s_Lmade_rows) := ⟨rfl, rfl, rfl, by decide +kernel, rfl, by decide +kernel, by decide +kernel⟩
-- slots: 0 _law_rng_here, 1 _law_dims, 2 _law_many, 3 _law_most, 4 _law_wide, 5 _law_words, 6 _law_word, 7 _law_rows, 8 _law_turn, 9 _law_number, 10 _law_some, 11 _law_factor
def W0 : List Str := ["a", "b", "c", "ab", "zz", "readhere"]
def row5 (x : Str) : Str := "row" ++ cutS x none (some 5)
theorem W0_names : ∀ x ∈ W0, isName x = true ∧ isName (row5 x) = true ∧ x.length ≤ 8 ∧ PyData.strOk x = true ∧ PyData.strOk (row5 x) = true ∧ (cutS x none (some 5)).length ≤ 5 := by decide +kernel
theorem W0_nodup : W0.Nodup := by decide +kernel
theorem W0_nodup5 : (W0.map row5).Nodup := by decide +kernel
/-- what words may be -/
structure Words (ws : List Str) (n : Nat) : Prop where
  len : ws.length = n
  nodup : ws.Nodup
  names : ∀ x ∈ ws, isName x = true
  oks : ∀ x ∈ ws, PyData.strOk x = true
  src : (∀ x ∈ ws, x ∈ W0) ∨ ∀ x ∈ ws, x ∈ W0.map row5
def unstr : PyData → Str
  | .str x => x
  | _ => Str.empty
theorem perm_words {es : List PyData} (h : List.Perm (W0.map PyData.str) es) : ∃ ws, es = ws.map PyData.str ∧ List.Perm W0 ws := by
  refine ⟨es.map unstr, ?_, ?_⟩
  · rw [List.map_map]
    refine (List.map_id es).symm.trans (List.map_congr_left fun e he => ?_)
    obtain ⟨x, _, rfl⟩ := List.mem_map.mp (h.mem_iff.mpr he)
    rfl
  · have := h.map unstr
    rw [List.map_map] at this
    have e : W0.map (unstr ∘ PyData.str) = W0 := by
      refine (List.map_congr_left fun e he => ?_).trans (List.map_id W0)
      rfl
    rw [e] at this
    exact this
theorem nthsf (l : List Str) (g : Str → Str) : (List.range l.length).map (fun i => V.str (g (nth l i))) = (l.map g).map V.str := by
  have := range_map_get ((l.map g).map V.str) (fun i => V.str (g (nth l i))) (fun i b hb => by
    rw [List.getElem?_map, List.getElem?_map] at hb
    obtain ⟨c, h1, h2⟩ := Option.map_eq_some_iff.mp hb
    obtain ⟨c', h3, h4⟩ := Option.map_eq_some_iff.mp h1
    rw [nth_of h3, h4]
    exact h2)
  rw [List.length_map, List.length_map] at this
  exact this
theorem RS.grow {r : Addr} {m : Nat} {B H H' : Hp} (h : RS r m B H) (e : Same H H') : RS r m B H' := ⟨same_tr h.s e, h.n, by
  obtain ⟨o, ho⟩ := h.ok.some
  exact h.ok.at (by rw [ho, e _ _ ho])⟩
section
variable {P : Program} {w : World} {K : PySem.W.Frag} {mg : Str → Option Value} {base : Heap}
theorem strs_dps {H : Hp} : ∀ (xs : List Str), DpAll K H (xs.map V.str) (xs.map PyData.str)
  | [] => .nil
  | x :: xs => .cons (.str x) (strs_dps xs)
theorem dps_strs {H : Hp} : ∀ {xs : List Str} {vs : List V}, DpAll K H vs (xs.map PyData.str) → vs = xs.map V.str
  | [], _, h => by cases h; rfl
  | n :: ns, _, h => by
    cases h with
    | cons h1 h2 => cases h1; rw [dps_strs h2]; rfl
structure Row1 where
  t : Addr
  w : Str
  c : Int
  l : Addr
  rs : List Rd1
def Row1.tb (y : Row1) : Tb := ⟨y.w, y.c, y.rs⟩
structure RowsAt (K : PySem.W.Frag) (B H : Hp) (r : Addr) (rows : List Row1) : Prop where
  at_ : ∀ (i : Nat) (y : Row1), rows[i]? = some y → SqT K B y.t [.str y.w, .int y.c, .ref y.l] ∧ B y.l = none ∧ r ≠ y.l ∧ ∃ xs, H y.l = some (.lst xs) ∧ DpAll K B xs (y.rs.map Rd1.d)
  inj : ∀ (i j : Nat) (y z : Row1), rows[i]? = some y → rows[j]? = some z → y.l = z.l → i = j
theorem RowsAt.step {B B' H H' : Hp} {r : Addr} {rows : List Row1} (h : RowsAt K B H r rows) (e : Same B B') (f : ∀ (i : Nat) (y : Row1), rows[i]? = some y → B' y.l = none ∧ H' y.l = H y.l) : RowsAt K B' H' r rows :=
  ⟨fun i y hy => by
    obtain ⟨a1, a2, a3, xs, a4, a5⟩ := h.at_ i y hy
    obtain ⟨b1, b2⟩ := f i y hy
    exact ⟨sqt e a1, b1, a3, xs, by rw [b2, a4], dpsm e _ _ a5⟩, h.inj⟩
theorem get_snoc {α : Type} {xs : List α} {x y : α} {i : Nat} (h : (xs ++ [x])[i]? = some y) : (xs[i]? = some y ∧ i < xs.length) ∨ (i = xs.length ∧ y = x) := by
  by_cases hi : i < xs.length
  · rw [List.getElem?_append_left hi] at h
    exact .inl ⟨h, hi⟩
  · rw [List.getElem?_append_right (by omega)] at h
    have : i - xs.length = 0 := by
      by_cases h0 : i - xs.length = 0
      · exact h0
      · rw [List.getElem?_eq_none (by simp; omega)] at h
        cases h
    rw [this] at h
    cases h
    exact .inr ⟨by omega, rfl⟩
theorem RowsAt.snoc {B H : Hp} {r : Addr} {rows : List Row1} {y : Row1} (h : RowsAt K B H r rows) (a : SqT K B y.t [.str y.w, .int y.c, .ref y.l]) (b : B y.l = none) (c : r ≠ y.l) (d : H y.l = some (.lst [])) (e : y.rs = []) (n : ∀ (i : Nat) (z : Row1), rows[i]? = some z → z.l ≠ y.l) : RowsAt K B H r (rows ++ [y]) :=
  ⟨fun i z hz => by
    rcases get_snoc hz with ⟨h1, _⟩ | ⟨_, rfl⟩
    · exact h.at_ i z h1
    · exact ⟨a, b, c, [], d, by rw [e]; exact .nil⟩, fun i j y' z hy hz hl => by
    rcases get_snoc hy with ⟨h1, k1⟩ | ⟨k1, rfl⟩ <;> rcases get_snoc hz with ⟨h2, k2⟩ | ⟨k2, rfl⟩
    · exact h.inj i j _ _ h1 h2 hl
    · exact absurd hl (n _ _ h1)
    · exact absurd hl.symm (n _ _ h2)
    · omega⟩
theorem get_set {α : Type} {xs : List α} {x y : α} {i j : Nat} (h : (xs.set j x)[i]? = some y) : (i = j ∧ y = x) ∨ (i ≠ j ∧ xs[i]? = some y) := by
  by_cases hi : j = i
  · subst hi
    rw [List.getElem?_set_self'] at h
    cases hx : xs[j]? with
    | none =>
      rw [hx] at h
      cases h
    | some z =>
      rw [hx] at h
      cases h
      exact .inl ⟨rfl, rfl⟩
  · rw [List.getElem?_set_ne hi] at h
    exact .inr ⟨fun e => hi e.symm, h⟩
theorem map_set_same {α β : Type} {xs : List α} {x y : α} {j : Nat} {f : α → β} (h : xs[j]? = some y) (e : f x = f y) : (xs.set j x).map f = xs.map f := by
  rw [List.map_set, e]
  refine List.ext_getElem? fun i => ?_
  by_cases hi : j = i
  · subst hi
    rw [List.getElem?_set_self', List.getElem?_map, h]
    rfl
  · rw [List.getElem?_set_ne hi]
theorem sum_set {α : Type} {f : α → Nat} : ∀ {xs : List α} {x y : α} {j : Nat}, xs[j]? = some y → f x = f y + 1 → ((xs.set j x).map f).sum = (xs.map f).sum + 1
  | [], _, _, _, h, _ => by cases h
  | z :: xs, x, y, 0, h, e => by
    cases h
    simp [e]
    omega
  | z :: xs, x, y, j + 1, h, e => by
    have := sum_set (xs := xs) (x := x) (y := y) (j := j) (by simpa using h) e
    rw [List.set_cons_succ, List.map_cons, List.map_cons, List.sum_cons, List.sum_cons, this]
    omega
/-- a read more at the j-th row -/
theorem RowsAt.put {B H : Hp} {r : Addr} {rows : List Row1} {y : Row1} {j : Nat} {rd : Rd1} {v : V} {xs : List V} (h : RowsAt K B H r rows) (e : rows[j]? = some y) (hx : H y.l = some (.lst xs)) (hv : Dp K B v rd.d) :
    RowsAt K B (upd H y.l (.lst (xs ++ [v]))) r (rows.set j { y with rs := y.rs ++ [rd] }) :=
  ⟨fun i z hz => by
    rcases get_set hz with ⟨rfl, rfl⟩ | ⟨ne, hz⟩
    · obtain ⟨a1, a2, a3, xs', a4, a5⟩ := h.at_ _ y e
      rw [hx] at a4
      cases a4
      refine ⟨a1, a2, a3, xs ++ [v], upd_same, ?_⟩
      show DpAll K B (xs ++ [v]) ((y.rs ++ [rd]).map Rd1.d)
      rw [List.map_append]
      exact dps_snoc a5 hv
    · obtain ⟨a1, a2, a3, xs', a4, a5⟩ := h.at_ _ z hz
      refine ⟨a1, a2, a3, xs', ?_, a5⟩
      rw [upd_ne fun hl => ne (h.inj i j z y hz e hl)]
      exact a4, fun i i' z z' hz hz' hl => by
    rcases get_set hz with ⟨rfl, rfl⟩ | ⟨ne, hz1⟩ <;> rcases get_set hz' with ⟨rfl, rfl⟩ | ⟨ne', hz2⟩
    · rfl
    · exact h.inj _ _ y z' e hz2 hl
    · exact h.inj _ _ z y hz1 e hl
    · exact h.inj _ _ z z' hz1 hz2 hl⟩
theorem RowsAt.dr {B H H' : Hp} {r : Addr} {m : Nat} {rows : List Row1} (h : RowsAt K B H r rows) (d : Dr r m H H') : RowsAt K B H' r rows := h.step same_refl fun j y hy => ⟨(h.at_ j y hy).2.1, d.ne _ (h.at_ j y hy).2.2.1.symm⟩
theorem RowsAt.new {B H : Hp} {r p : Addr} {o : HO} {rows : List Row1} (h : RowsAt K B H r rows) (e : H p = none) : RowsAt K B (upd H p o) r rows := h.step same_refl fun j y hy => by
  obtain ⟨a1, a2, a3, xs, a4, a5⟩ := h.at_ j y hy
  exact ⟨a2, upd_ne (ne_of_none a4 e)⟩
theorem dps_of {α : Type} {H : Hp} {f : α → V} {g : α → PyData} : ∀ {xs : List α}, (∀ x ∈ xs, Dp K H (f x) (g x)) → DpAll K H (xs.map f) (xs.map g)
  | [], _ => .nil
  | x :: xs, h => .cons (h x List.mem_cons_self) (dps_of fun y hy => h y (List.mem_cons_of_mem _ hy))
theorem yes_if {σ : L2.St} {H : Hp} {A B : Hp → Prop} (h : A H) : tYes σ H (fun b H3 => if b = true then A H3 else B H3) := by
  show (if true = true then A H else B H)
  rw [if_pos rfl]
  exact h
theorem mem_le_sum {α : Type} {f : α → Nat} : ∀ {xs : List α} {x : α}, x ∈ xs → f x ≤ (xs.map f).sum
  | [], _, h => by cases h
  | y :: xs, x, h => by
    rw [List.map_cons, List.sum_cons]
    rcases List.mem_cons.mp h with rfl | h
    · omega
    · have := mem_le_sum (f := f) h
      omega
theorem sum_zero {α : Type} {f : α → Nat} : ∀ {xs : List α}, (∀ x ∈ xs, f x = 0) → (xs.map f).sum = 0
  | [], _ => rfl
  | x :: xs, h => by
    rw [List.map_cons, List.sum_cons, h x List.mem_cons_self, sum_zero fun y hy => h y (List.mem_cons_of_mem _ hy)]
theorem RS.vec {r q : Addr} {m m' : Nat} {B H H' : Hp} {o : HO} (h : RS r m B H) (e : RS r m' (upd (cutr H r) q o) H') (n : cutr H r q = none) (k : r ≠ q) : RS r m' (upd B q o) H' ∧ B q = none ∧ H q = none ∧ ∀ b, b ≠ r → H b ≠ none → H' b = H b := by
  have hq : H q = none := by
    rw [cutr_ne k.symm] at n
    exact n
  have keep : ∀ b, b ≠ r → H b ≠ none → H' b = H b := fun b nb hb => by
    cases ho : H b with
    | none => exact absurd ho hb
    | some o' =>
      refine e.s b o' ?_
      rw [upd_ne (ne_of_none ho hq), cutr_ne nb]
      exact ho
  refine ⟨⟨fun b x hx => ?_, by rw [upd_ne k]; exact h.n, e.ok⟩, free_of h.s hq, hq, keep⟩
  by_cases hb : b = q
  · rw [hb, upd_same] at hx
    rw [hb]
    exact e.s q x (by rw [upd_same]; exact hx)
  · rw [upd_ne hb] at hx
    have hH := h.s b x hx
    rw [keep b (ne_of_none hx h.n) (by rw [hH]; exact fun z => by cases z)]
    exact hH
/-- a list of data that may still be changed -/
def LD (K : PySem.W.Frag) (H : Hp) (l : Addr) (ds : List PyData) : Prop := ∃ xs, H l = some (.lst xs) ∧ DpAll K H xs ds
theorem LD.dp {H : Hp} {l : Addr} {ds : List PyData} (h : LD K H l ds) : Dp K H (.ref l) (.list ds) := by
  obtain ⟨xs, h1, h2⟩ := h
  exact .lst (Or.inl (Or.inl h1)) h2
theorem LD.grow {H H' : Hp} {l : Addr} {ds : List PyData} (h : LD K H l ds) (e : Same H H') : LD K H' l ds := by
  obtain ⟨xs, h1, h2⟩ := h
  exact ⟨xs, e _ _ h1, dpsm e _ _ h2⟩
/-- numbers within bounds -/
structure SmT (t : Tb) : Prop where
  c : -99 ≤ t.c ∧ t.c ≤ 99
  f : ∀ rd ∈ t.rs, -10 ≤ rd.f ∧ rd.f ≤ 10
  v : ∀ rd ∈ t.rs, ∀ x ∈ rd.v, -1000 ≤ x ∧ x ≤ 1000
def spRows (K : PySem.W.Frag) : Sp := fun vs H Q _ => ∃ (r : Addr) (dims many most wide : Int) (m : Nat) (B : Hp), vs = [.ref r, .int dims, .int many, .int most, .int wide] ∧ RS r m B H ∧ 1 ≤ dims ∧ dims ≤ 3 ∧ 1 ≤ many ∧ many ≤ 6 ∧ 0 ≤ most ∧ most ≤ 12 ∧ 0 ≤ wide ∧ wide ≤ 1000 ∧ m ≤ 2 ^ 58 ∧
  ∀ p B' H' (ts : List Tb), Same B B' → RS r (m + 1000) B' H' → LD K B' p (ts.map Tb.d) → (ts.length : Int) = many → OkT dims ts → (∀ t ∈ ts, PyData.strOk t.n = true) → (∀ t ∈ ts, SmT t) → ((∀ t ∈ ts, t.n ∈ W0) ∨ ∀ t ∈ ts, t.n ∈ W0.map row5) → (((ts.map fun t => t.rs.length).sum : Nat) : Int) ≤ most → Q (.ref p) H'
theorem ok_made_rows {f : Addr} {fd : FuncData} (F : Fun K "_law_made_rows" "_law_made_rows" s_Lmade_rows f fd) (T : Txt mg) (c_Ldraw : C8.Cal P w K mg base 1 "_law_draw" spDraw []) (c_Lmixed : C8.Cal P w K mg base 2 "_law_mixed" (spMixed K) []) (c_Lvector : C8.Cal P w K mg base 2 "_law_vector" (spVector K) []) : FnOk P w K mg base CX0 3 f fd ["_law_rng_here", "_law_dims", "_law_many", "_law_most", "_law_wide"] (spRows K) := by
  refine F.ok sc_Lmade_rows (fun vs H Q E h => ?_) (fun cdv A outer sh H vs Q E hr h => ?_)
  · obtain ⟨r, dims, many, most, wide, m, B, rfl, _⟩ := h
    rfl
  · obtain ⟨r, dims, many, most, wide, m, B, rfl, R, hd1, hd3, hn1, hn6, hm0, hm12, hw0, hw1, hm, q⟩ := h
    refine ⟨_, (pss_cons (ps_set (i := 5) sc_Lmade_rows.nd rfl (by first | exact Or.inl rfl | exact Or.inr rfl) (pe_slice sl_list (C8.pe_c c_Lmixed hr (by decide) (by rfl) (pa_cons (pv 0) (pa_cons (pe_lst (pa_cons pe_str (pa_cons pe_str (pa_cons pe_str (pa_cons pe_str (pa_cons pe_str (pa_cons pe_str pa_nil))))))) pa_nil))) po_none (po_some (pv 2))))
  (pss_cons (ps_csq (ps_if (pt_cmpR op_eq (C8.pe_c c_Ldraw hr (by decide) (by rfl) (pa_cons (pv 0) (pa_cons pe_int pa_nil))) pe_int (nomark _))
    (pss_one (ps_setLc (i := 5) (own := [("_law_word", 6)]) (g := gName 6) (tt := tYes) (by rfl) sc_Lmade_rows.nd rfl rfl (sw_true rfl rfl rfl (by decide +kernel)) (pi_list (pv 5)) (blkOk_by (N := ["_law_rng_here", "_law_dims", "_law_many", "_law_most", "_law_wide", "_law_words", "_law_word", "_law_rows", "_law_turn", "_law_number", "_law_some", "_law_factor"]) (sc := defScope s_Lmade_rows) (by decide +kernel)) (fun _ _ _ _ _ => (pg_name (i := 6) sc_Lmade_rows.nd rfl (by first | exact Or.inl rfl | exact Or.inr rfl))) (fun _ _ _ _ _ => pts_nil) (fun _ _ _ _ _ => (pe_op op_add_str pe_str (pe_slice sl_str (pv 6) po_none (po_some pe_int))))))
    pss_nil))
  (pss_cons (ps_setLc (i := 7) (own := [("_law_word", 6)]) (g := gName 6) (tt := tYes) (by rfl) sc_Lmade_rows.nd rfl rfl (sw_true rfl rfl rfl (by decide +kernel)) (pi_list (pv 5)) (blkOk_by (N := ["_law_rng_here", "_law_dims", "_law_many", "_law_most", "_law_wide", "_law_words", "_law_word", "_law_rows", "_law_turn", "_law_number", "_law_some", "_law_factor"]) (sc := defScope s_Lmade_rows) (by decide +kernel)) (fun _ _ _ _ _ => (pg_name (i := 6) sc_Lmade_rows.nd rfl (by first | exact Or.inl rfl | exact Or.inr rfl))) (fun _ _ _ _ _ => pts_nil) (fun _ _ _ _ _ => (pe_tup (pa_cons (pv 6) (pa_cons (pe_op op_sub (C8.pe_c c_Ldraw hr (by decide) (by rfl) (pa_cons (pv 0) (pa_cons pe_int pa_nil))) pe_int) (pa_cons (pe_lst pa_nil) pa_nil))))))
  (pss_cons (ps_for PassesOwn.never rfl (pi_range1 (by rfl) T.b_range (pa_cons (C8.pe_c c_Ldraw hr (by decide) (by rfl) (pa_cons (pv 0) (pa_cons (pe_op op_add (pv 3) pe_int) pa_nil))) pa_nil)) (pg_name (i := 8) sc_Lmade_rows.nd rfl (by first | exact Or.inl rfl | exact Or.inr rfl))
    (pss_cons (ps_asg (pe_ix ix_list (pv 7) (C8.pe_c c_Ldraw hr (by decide) (by rfl) (pa_cons (pv 0) (pa_cons (pv 2) pa_nil))) (fun _ _ => rfl)) (pg_tup rfl (pgs_cons (pg_name (i := 6) sc_Lmade_rows.nd rfl (by first | exact Or.inl rfl | exact Or.inr rfl)) (pgs_cons (pg_name (i := 9) sc_Lmade_rows.nd rfl (by first | exact Or.inl rfl | exact Or.inr rfl)) (pgs_cons (pg_name (i := 10) sc_Lmade_rows.nd rfl (by first | exact Or.inl rfl | exact Or.inr rfl)) pgs_nil)))))
    (pss_cons (ps_set (i := 11) sc_Lmade_rows.nd rfl (by first | exact Or.inl rfl | exact Or.inr rfl) (pe_ix ix_list (pe_lst (pa_cons pe_int (pa_cons (pe_un un_neg pe_int) (pa_cons (pe_op op_add pe_int (C8.pe_c c_Ldraw hr (by decide) (by rfl) (pa_cons (pv 0) (pa_cons pe_int pa_nil)))) (pa_cons (pe_op op_sub (pe_op op_sub pe_int pe_int) (C8.pe_c c_Ldraw hr (by decide) (by rfl) (pa_cons (pv 0) (pa_cons pe_int pa_nil)))) pa_nil))))) (C8.pe_c c_Ldraw hr (by decide) (by rfl) (pa_cons (pv 0) (pa_cons pe_int pa_nil))) (fun _ _ => rfl)))
    (pss_one (ps_expr (pe_bm PySem.F.plainAttrs_list PySem.F.slot_list_append PySem.F.type_list_append mt_append (pv 10) (pa_cons (pe_tup (pa_cons (pe_ix ix_list (pv 5) (C8.pe_c c_Ldraw hr (by decide) (by rfl) (pa_cons (pv 0) (pa_cons (pv 2) pa_nil))) (fun _ _ => rfl)) (pa_cons (C8.pe_c c_Lvector hr (by decide) (by rfl) (pa_cons (pv 0) (pa_cons (pv 1) (pa_cons (pv 4) pa_nil)))) (pa_cons (pv 11) pa_nil)))) pa_nil)))))))
  (pss_one (ps_ret (pv 7))))))), ?_⟩
    -- the words
    refine ⟨_, rfl, (by show 6 ≤ sizeLine; decide), fun p0 hp0 => ?_⟩
    have bp0 := free_of R.s hp0
    have rp0 := R.ne hp0
    have R0 : RS r m (upd B p0 (.lst (W0.map V.str))) (upd H p0 (.lst (W0.map V.str))) := (R.new hp0).keep upd_same bp0 rp0
    refine ⟨r, p0, m, _, W0.map V.str, W0.map PyData.str, rfl, R0, Or.inl (Or.inl upd_same), strs_dps _, ?_, by decide, by omega, fun p1 H1 ys es b1 r1 pm dys R1 => ?_⟩
    · intro d hd
      obtain ⟨x, _, rfl⟩ := List.mem_map.mp hd
      exact ⟨by simp only [PyData.canLay0]; exact (W0_names x (by assumption)).2.2.2.1, by simp [PyData.depth]⟩
    have s01 : Same B (upd (upd B p0 (.lst (W0.map V.str))) p1 (.lst ys)) := same_tr (snew bp0) (snew b1)
    have b1at : (upd (upd B p0 (.lst (W0.map V.str))) p1 (.lst ys)) p1 = some (.lst ys) := upd_same
    obtain ⟨ws0, rfl, pw⟩ := perm_words pm
    obtain rfl := dps_strs dys
    generalize upd (upd B p0 (.lst (W0.map V.str))) p1 (.lst (ws0.map V.str)) = B1 at R1 s01 b1at
    have hwl : ws0.length = 6 := pw.length_eq.symm
    refine ⟨_, rfl, many, rfl, p1, _, rfl, Or.inl (Or.inl (R1.s _ _ b1at)), fun p2 hp2 => ?_⟩
    have ecut : cutV (ws0.map V.str) none (some many) = (ws0.take many.toNat).map V.str := by
      have h := cut_to (ws0.map V.str) many.toNat (by rw [List.length_map]; omega)
      rw [Int.toNat_of_nonneg (by omega)] at h
      rw [h, List.map_take]
    rw [ecut]
    have R2 := (R1.new (o := .lst ((ws0.take many.toNat).map V.str)) hp2).keep upd_same (free_of R1.s hp2) (R1.ne hp2)
    have s02 : Same B (upd B1 p2 (.lst ((ws0.take many.toNat).map V.str))) := same_tr s01 (snew (free_of R1.s hp2))
    have b2at : (upd B1 p2 (.lst ((ws0.take many.toNat).map V.str))) p2 = some (.lst ((ws0.take many.toNat).map V.str)) := upd_same
    generalize upd B1 p2 (.lst ((ws0.take many.toNat).map V.str)) = B2 at R2 s02 b2at
    generalize upd H1 p2 (.lst ((ws0.take many.toNat).map V.str)) = H2 at R2
    -- the if
    refine ⟨fun σ H' => ∃ (wl : Addr) (B' : Hp) (ws : List Str), σ = [some (.ref r), some (.int dims), some (.int many), some (.int most), some (.int wide), some (.ref wl), none, none, none, none, none, none] ∧ RS r (m + 7) B' H' ∧ Same B B' ∧ B' wl = some (.lst (ws.map V.str)) ∧ Words ws many.toNat, ?_, ?_⟩
    · rintro σ H3 ⟨wl, B', ws, rfl, R3, s3, hws, W⟩
      have wlen : ws.length ≤ 6 := by
        have := W.len
        omega
      refine ⟨_, rfl, wl, rfl, ⟨_, Or.inl (Or.inl (R3.s _ _ hws))⟩, fun D hD => lc_it (walk_list (K := K) (a := wl) (xs := ws.map V.str)) (fun i H' => ∃ (B2 : Hp) (rows : List Row1), Same B' B2 ∧ RS r (m + 7 + i) B2 H' ∧ RowsAt K B2 H' r rows ∧ rows.map (·.w) = ws.take i ∧ (∀ y ∈ rows, y.rs = [] ∧ -99 ≤ y.c ∧ y.c ≤ 99) ∧ H' D = some (.lst (rows.map fun y => V.ref y.t)) ∧ B2 D = none ∧ (∀ y ∈ rows, y.l ≠ D))
        ⟨B', [], same_refl, R3.new hD, ⟨fun i y h => (by cases h), fun i j y z h => (by cases h)⟩, rfl, (by intro y h; cases h), upd_same, free_of R3.s hD, (by intro y h; cases h)⟩ (fun i H' _ ⟨B2, rows, b1, b2, _⟩ => Or.inl (Or.inl (b2.s _ _ (b1 _ _ hws)))) ?_ ?_⟩
      · rintro i x _ H4 hi ⟨B2, rows, b1, b2, b3, b4, b5, b6, b7, b8⟩ ⟨rfl, hx⟩
        rw [List.length_map] at hi
        rw [List.getElem?_map] at hx
        obtain ⟨wd, hwd, rfl⟩ := Option.map_eq_some_iff.mp hx
        have hrl : rows.length = i := by
          have := congrArg List.length b4
          rw [List.length_map, List.length_take] at this
          omega
        have rD := R3.ne hD
        refine ⟨rfl, yes_if ?_⟩
        refine ⟨_, rfl, _, rfl, r, _, _, rfl, b2.ok, by omega, by decide, by decide, fun d H6 d0 d1 D6 => ⟨_, _, rfl, rfl, Nat.zero_le _, fun l hl => ⟨(by show 3 ≤ sizeLine; decide), fun t ht => ?_⟩⟩⟩
        have R6 := b2.dr D6
        have R7 := R6.new (o := .lst []) hl
        have D7 : (upd H6 l (.lst [])) D = some (.lst (rows.map fun y => V.ref y.t)) := by
          have h6 : H6 D = some (.lst (rows.map fun y => V.ref y.t)) := by rw [D6.ne _ rD.symm]; exact b6
          rw [upd_ne (ne_of_none h6 hl)]
          exact h6
        have lD : l ≠ D := fun z => by
          rw [z, D6.ne _ rD.symm, b6] at hl
          cases hl
        have tD : t ≠ D := fun z => by
          rw [z, D7] at ht
          cases ht
        have tl : t ≠ l := fun z => by
          rw [z, upd_same] at ht
          cases ht
        have bt : B2 t = none := free_of R7.s ht
        have bl : B2 l = none := free_of R6.s hl
        have R8 := (R7.new (o := .tup [.str wd, .int (d - 99), .ref l]) ht).keep upd_same bt (R7.ne ht)
        have b8D : (upd B2 t (.tup [.str wd, .int (d - 99), .ref l])) D = none := by rw [upd_ne tD.symm]; exact b7
        refine ⟨_, by rw [upd_ne tD.symm]; exact D7, small1000 (by rw [List.length_map]; omega), ?_⟩
        have hold : ∀ (j : Nat) (y : Row1), rows[j]? = some y → y.l ≠ D ∧ y.l ≠ l ∧ y.l ≠ t ∧ H6 y.l = H4 y.l := fun j y hy => by
          obtain ⟨a1, a2, a3, xs, a4, a5⟩ := b3.at_ j y hy
          have e6 : H6 y.l = H4 y.l := D6.ne _ a3.symm
          have h6 : H6 y.l = some (.lst xs) := by rw [e6]; exact a4
          have n1 := ne_of_none h6 hl
          refine ⟨b8 y (List.mem_of_getElem? hy), n1, ?_, e6⟩
          exact ne_of_none (by rw [upd_ne n1]; exact h6) ht
        refine ⟨upd B2 t (.tup [.str wd, .int (d - 99), .ref l]), rows ++ [⟨t, wd, d - 99, l, []⟩], same_tr b1 (snew bt), (R8.put b8D rD), ?_, ?_, ?_, ?_, b8D, ?_⟩
        · refine RowsAt.snoc (b3.step (snew bt) fun j y hy => ?_) (Or.inl (Or.inl upd_same)) ?_ (R6.ne hl) ?_ rfl fun j z hz => (hold j z hz).2.1
          · obtain ⟨n1, n2, n3, n4⟩ := hold j y hy
            refine ⟨?_, ?_⟩
            · rw [upd_ne n3]
              exact (b3.at_ j y hy).2.1
            · rw [upd_ne n1, upd_ne n3, upd_ne n2]
              exact n4
          · show (upd B2 t _) l = none
            rw [upd_ne tl.symm]
            exact bl
          · show (upd (upd (upd H6 l (.lst [])) t _) D _) l = _
            rw [upd_ne lD, upd_ne tl.symm, upd_same]
        · rw [List.map_append, b4, List.take_add_one, hwd]
          rfl
        · intro y hy
          rcases List.mem_append.mp hy with h | h
          · exact b5 y h
          · rw [List.mem_singleton.mp h]
            exact ⟨rfl, (by show -99 ≤ d - 99; omega), (by show d - 99 ≤ 99; omega)⟩
        · rw [upd_same, List.map_append]
          rfl
        · intro y hy
          rcases List.mem_append.mp hy with h | h
          · exact b8 y h
          · rw [List.mem_singleton.mp h]
            exact lD
      · rintro H4 ⟨B2, rows, b1, b2, b3, b4, b5, b6, b7, b8⟩
        rw [List.length_map, List.take_length] at b4
        rw [List.length_map] at b2
        have rD := R3.ne hD
        have R4 := b2.keep b6 b7 rD
        have M4 := b3.step (B' := upd B2 D (.lst (rows.map fun y => V.ref y.t))) (H' := H4) (snew b7) fun j y hy => ⟨by rw [upd_ne (b8 y (List.mem_of_getElem? hy))]; exact (b3.at_ j y hy).2.1, rfl⟩
        have B4D : (upd B2 D (.lst (rows.map fun y => V.ref y.t))) D = some (.lst (rows.map fun y => V.ref y.t)) := upd_same
        have s4 : Same B' (upd B2 D (.lst (rows.map fun y => V.ref y.t))) := same_tr b1 (snew b7)
        generalize upd B2 D (.lst (rows.map fun y => V.ref y.t)) = B4 at R4 M4 B4D s4
        have hrl : rows.length = ws.length := by
          have := congrArg List.length b4
          rw [List.length_map] at this
          exact this
        have s0 : (rows.map fun y => y.rs.length).sum = 0 := sum_zero fun y hy => by rw [(b5 y hy).1]; rfl
        have wmany : (ws.length : Int) = many := by
          have := W.len
          omega
        refine ⟨_, rfl, _, rfl, _, _, rfl, rfl, r, _, _, rfl, R4.ok, by omega, by omega, by omega, fun d H5 d0 d1 D5 => ⟨d, rfl, by omega, by omega, ?_⟩⟩
        refine for_range (fun i σ H' => ∃ (B5 : Hp) (rows' : List Row1) (y6 y8 y9 y10 y11 : Option V), σ = [some (.ref r), some (.int dims), some (.int many), some (.int most), some (.int wide), some (.ref wl), y6, some (.ref D), y8, y9, y10, y11] ∧ RS r (m + 20 + 20 * i) B5 H' ∧ RowsAt K B5 H' r rows' ∧ Same B4 B5 ∧ rows'.map (·.w) = ws ∧ rows'.map (fun y => V.ref y.t) = rows.map (fun y => V.ref y.t) ∧ (rows'.map fun y => y.rs.length).sum = i ∧ ∀ y ∈ rows', (-99 ≤ y.c ∧ y.c ≤ 99) ∧ ∀ rd ∈ y.rs, isRead dims rd = true ∧ rd.t ∈ ws ∧ (-10 ≤ rd.f ∧ rd.f ≤ 10) ∧ ∀ x ∈ rd.v, -1000 ≤ x ∧ x ≤ 1000)
          ⟨B4, rows, none, none, none, none, none, rfl, (R4.dr D5).mono (by omega), M4.step same_refl fun j y hy => ⟨(M4.at_ j y hy).2.1, D5.ne _ (M4.at_ j y hy).2.2.1.symm⟩, same_refl, b4, rfl, s0, fun y hy => ⟨(b5 y hy).2, fun rd hrd => by
            rw [(b5 y hy).1] at hrd
            cases hrd⟩⟩ ?_ ?_
        · rintro i σ H6 hi ⟨B5, rows', y6, y8, y9, y10, y11, rfl, R5, M5, s5, e1, e2, e3, e4⟩
          have hi12 : i < 12 := by omega
          have hrl' : rows'.length = ws.length := by
            have := congrArg List.length e1
            rw [List.length_map] at this
            exact this
          -- the row
          refine ⟨_, rfl, _, rfl, _, rfl, r, many, _, rfl, R5.ok, by omega, by omega, by omega, fun k1 H7 k10 k11 D7 => ?_⟩
          have R7 := R5.dr D7
          have M7 := M5.step (H' := H7) same_refl fun j y hy => ⟨(M5.at_ j y hy).2.1, D7.ne _ (M5.at_ j y hy).2.2.1.symm⟩
          obtain ⟨v, a1, _, a3⟩ := atI_in (xs := rows'.map fun y => V.ref y.t) k10 (by rw [List.length_map]; omega)
          rw [List.getElem?_map] at a3
          obtain ⟨y, hy, rfl⟩ := Option.map_eq_some_iff.mp a3
          obtain ⟨c1, c2, c3, xs, c4, c5⟩ := M7.at_ _ y hy
          refine ⟨D, _, k1, _, rfl, rfl, Or.inl (Or.inl (R7.s _ _ (s5 _ _ B4D))), by rw [← e2]; exact a1, y.t, _, rfl, sqt R7.s c1, rfl, _, _, rfl, _, _, rfl, _, _, rfl, rfl, ?_⟩
          -- the factor
          refine ⟨1, rfl, _, rfl, r, 9, _, rfl, R7.ok, by omega, by decide, by decide, fun k2 H8 k20 k21 D8 => ⟨_, _, rfl, rfl, _, _, rfl, rfl, ?_⟩⟩
          have R8 := R7.dr D8
          have M8 := M7.dr D8
          refine ⟨_, rfl, r, 9, _, rfl, R8.ok, by omega, by decide, by decide, fun k3 H9 k30 k31 D9 => ⟨_, _, rfl, rfl, (by show 4 ≤ sizeLine; decide), fun p hp => ?_⟩⟩
          have R9 := R8.dr D9
          have M9 := M8.dr D9
          have p10 : (upd H9 p (.lst [.int 1, .int (-1), .int (1 + k2), .int (0 - 1 - k3)])) p = some (.lst ([1, -1, 1 + k2, 0 - 1 - k3].map V.int)) := upd_same
          have R10 := R9.new (o := .lst [.int 1, .int (-1), .int (1 + k2), .int (0 - 1 - k3)]) hp
          have M10 := M9.new (o := .lst [.int 1, .int (-1), .int (1 + k2), .int (0 - 1 - k3)]) hp
          have rp := R9.ne hp
          refine ⟨_, rfl, r, 4, _, rfl, R10.ok, by omega, by decide, by decide, fun k4 H11 k40 k41 D11 => ?_⟩
          have R11 := R10.dr D11
          have M11 := M10.dr D11
          have p11 : H11 p = some (.lst ([1, -1, 1 + k2, 0 - 1 - k3].map V.int)) := by rw [D11.ne _ rp.symm]; exact p10
          obtain ⟨fv, f1, f2, _⟩ := atI_in (xs := [1, -1, 1 + k2, 0 - 1 - k3].map V.int) k40 k41
          obtain ⟨fc, f3, rfl⟩ := List.mem_map.mp f2
          have hfc : fc ≠ 0 ∧ -10 ≤ fc ∧ fc ≤ 10 := by
            simp only [List.mem_cons, List.not_mem_nil, or_false] at f3
            omega
          refine ⟨p, _, k4, _, rfl, rfl, Or.inl (Or.inl p11), f1, ?_⟩
          -- the append
          obtain ⟨g1, g2, g3, xs2, g4, g5⟩ := M11.at_ _ y hy
          refine ⟨_, rfl, Or.inl ⟨rfl, _, Or.inl (Or.inl g4)⟩, _, rfl, _, rfl, _, rfl, r, many, _, rfl, R11.ok, by omega, by omega, by omega, fun k5 H12 k50 k51 D12 => ?_⟩
          have R12 := R11.dr D12
          have M12 := M11.dr D12
          obtain ⟨tv, t1, _, t3⟩ := atI_in (xs := ws.map V.str) k50 (by rw [List.length_map]; omega)
          rw [List.getElem?_map] at t3
          obtain ⟨tw, htw, rfl⟩ := Option.map_eq_some_iff.mp t3
          refine ⟨wl, _, k5, _, rfl, rfl, Or.inl (Or.inl (R12.s _ _ (s5 _ _ (s4 _ _ hws)))), t1, ?_⟩
          refine ⟨_, rfl, _, rfl, _, rfl, r, dims, wide, _, cutr H12 r, rfl, RS.cut R12.ok, by omega, by omega, by omega, by omega, by omega, fun q1 H13 vec hq1 rq1 hvl hvb R13 => ?_⟩
          obtain ⟨R13', bq, hq12, keep⟩ := R12.vec R13 hq1 rq1
          have M13 := M12.step (B' := upd B5 q1 (.tup (vec.map V.int))) (H' := H13) (snew bq) fun j z hz => by
            obtain ⟨a1, a2, a3, xs, a4, a5⟩ := M12.at_ j z hz
            refine ⟨?_, keep _ a3.symm (by rw [a4]; exact fun z => by cases z)⟩
            rw [upd_ne (ne_of_none a4 hq12)]
            exact a2
          refine ⟨_, rfl, (by show 3 ≤ sizeLine; decide), fun u hu => ?_⟩
          have bu := free_of R13'.s hu
          have R14 := (R13'.new (o := .tup [.str tw, .ref q1, .int fc]) hu).keep upd_same bu (R13'.ne hu)
          have M14 := M13.step (B' := upd (upd B5 q1 (.tup (vec.map V.int))) u (.tup [.str tw, .ref q1, .int fc])) (H' := upd H13 u (.tup [.str tw, .ref q1, .int fc])) (snew bu) fun j z hz => by
            obtain ⟨a1, a2, a3, xs, a4, a5⟩ := M13.at_ j z hz
            have n := ne_of_none a4 hu
            exact ⟨by rw [upd_ne n]; exact a2, upd_ne n⟩
          obtain ⟨m1, m2, m3, xs4, m4, m5⟩ := M14.at_ _ y hy
          have lsm : xs4.length ≤ 12 := by
            have h1 := dps_len m5
            rw [List.length_map] at h1
            have h2 : y.rs.length ≤ (rows'.map fun y => y.rs.length).sum := mem_le_sum (f := fun y : Row1 => y.rs.length) (List.mem_of_getElem? hy)
            omega
          have nqu : q1 ≠ u := fun z => by
            rw [z, upd_same] at bu
            cases bu
          refine ⟨y.l, xs4, _, rfl, rfl, m4, small1000 (by omega), ?_⟩
          have hdp : Dp K (upd (upd B5 q1 (.tup (vec.map V.int))) u (.tup [.str tw, .ref q1, .int fc])) (.ref u) (Rd1.d ⟨tw, vec, fc⟩) := .tup (Or.inl (Or.inl upd_same)) (.cons (.str _) (.cons (.tup (Or.inl (Or.inl (by rw [upd_ne nqu]; exact upd_same))) (ints_dps _)) (.cons (.int _) .nil)))
          refine ⟨_, rows'.set k1.toNat { y with rs := y.rs ++ [⟨tw, vec, fc⟩] }, _, _, _, _, _, rfl, (R14.put m2 m3).mono (by omega), M14.put hy m4 hdp, same_tr s5 (same_tr (snew bq) (snew bu)), ?_, ?_, ?_, ?_⟩
          · exact (map_set_same hy (by rfl)).trans e1
          · exact (map_set_same hy (by rfl)).trans e2
          · exact (sum_set hy (by show (y.rs ++ [_]).length = _; rw [List.length_append]; rfl)).trans (by rw [e3])
          · intro z hz
            rcases List.mem_or_eq_of_mem_set hz with h | rfl
            · exact e4 z h
            · refine ⟨(e4 y (List.mem_of_getElem? hy)).1, fun rd hrd => ?_⟩
              rcases List.mem_append.mp hrd with h | h
              · exact (e4 y (List.mem_of_getElem? hy)).2 rd h
              · rw [List.mem_singleton.mp h]
                have hm := List.mem_of_getElem? htw
                refine ⟨?_, hm, hfc.2, hvb⟩
                unfold isRead
                rw [Bool.and_eq_true, Bool.and_eq_true]
                exact ⟨W.names _ hm, decide_eq_true hvl, by rw [decide_eq_false hfc.1]; rfl⟩
        · rintro σ H6 ⟨B5, rows', y6, y8, y9, y10, y11, rfl, R5, M5, s5, e1, e2, e3, e4⟩
          have hrl' : rows'.length = ws.length := by
            have := congrArg List.length e1
            rw [List.length_map] at this
            exact this
          have sc : ∀ {X : Hp}, Same X H6 → X r = none → Same X (cutr H6 r) := fun {X} e n b o h => by
            rw [cutr_ne (ne_of_none h n)]
            exact e b o h
          have s6 := sc R5.s R5.n
          refine ⟨_, rfl, q D (cutr H6 r) H6 (rows'.map Row1.tb) (same_tr s3 (same_tr s4 (same_tr s5 s6))) ((RS.cut R5.ok).mono (by omega)) ⟨_, s6 _ _ (s5 _ _ B4D), ?_⟩ (by rw [List.length_map]; omega) ?_ ?_ ?_ ?_ ?_⟩
          · rw [← e2, List.map_map]
            refine dps_of fun y hy => ?_
            obtain ⟨j, hj⟩ := List.mem_iff_getElem?.mp hy
            obtain ⟨a1, a2, a3, xs, a4, a5⟩ := M5.at_ j y hj
            exact .tup (sqt s6 a1) (.cons (.str _) (.cons (.int _) (.cons (.lst (Or.inl (Or.inl (by rw [cutr_ne a3.symm]; exact a4))) (dpsm s6 _ _ a5)) .nil)))
          · have en : (rows'.map Row1.tb).map (·.n) = ws := by
              rw [List.map_map]
              exact e1
            refine ⟨?_, by rw [en]; exact W.nodup, ?_, ?_, ?_⟩
            · intro t ht
              exact W.names _ (by rw [← en]; exact List.mem_map.mpr ⟨t, ht, rfl⟩)
            · rw [List.map_map]
              have : (rows'.map fun y => y.rs.length).sum ≤ 12 := by omega
              exact this
            · intro t ht rd hrd
              obtain ⟨y, hy, rfl⟩ := List.mem_map.mp ht
              exact ((e4 y hy).2 rd hrd).1
            · intro t ht rd hrd
              obtain ⟨y, hy, rfl⟩ := List.mem_map.mp ht
              rw [en]
              exact ((e4 y hy).2 rd hrd).2.1
          · intro t ht
            obtain ⟨y, hy, rfl⟩ := List.mem_map.mp ht
            exact W.oks _ (by rw [← e1]; exact List.mem_map.mpr ⟨y, hy, rfl⟩)
          · intro t ht
            obtain ⟨y, hy, rfl⟩ := List.mem_map.mp ht
            exact ⟨(e4 y hy).1, fun rd hrd => ((e4 y hy).2 rd hrd).2.2.1, fun rd hrd => ((e4 y hy).2 rd hrd).2.2.2⟩
          · have hm : ∀ t ∈ rows'.map Row1.tb, t.n ∈ ws := fun t ht => by
              obtain ⟨y, hy, rfl⟩ := List.mem_map.mp ht
              rw [← e1]
              exact List.mem_map.mpr ⟨y, hy, rfl⟩
            exact W.src.imp (fun h t ht => h _ (hm t ht)) fun h t ht => h _ (hm t ht)
          · rw [List.map_map]
            have : (((rows'.map fun y => y.rs.length).sum : Nat) : Int) ≤ most := by omega
            exact this
    · refine ⟨_, rfl, r, 3, _, rfl, R2.ok, by rw [List.length_map]; show m + 6 ≤ _; omega, by decide, by decide, fun d H3 d0 d1 D => ⟨rfl, _, rfl, ?_⟩⟩
      have R3 : RS r (m + 7) B2 H3 := (R2.dr D).mono (by rw [List.length_map]; show m + 6 + 1 ≤ _; omega)
      have hmem : ∀ x ∈ ws0.take many.toNat, x ∈ W0 := fun x hx => pw.mem_iff.mpr (List.mem_of_mem_take hx)
      have htl : (ws0.take many.toNat).length = many.toNat := by
        rw [List.length_take]
        omega
      refine ite2 (fun _ => ?_) (fun _ => ?_)
      · refine ⟨_, rfl, p2, rfl, ⟨_, Or.inl (Or.inl (R3.s _ _ b2at))⟩, fun D hD => lc_flat (walk_list (K := K) (a := p2) (xs := (ws0.take many.toNat).map V.str)) (fun i => .str (row5 (nth (ws0.take many.toNat) i))) (by rw [List.length_map, htl]; omega) hD (fun H' sm => Or.inl (Or.inl (sm _ _ (R3.s _ _ b2at)))) (fun i H x H' y => yat_same y) ?_ ?_⟩
        · rintro i x H4 H5 hi sm ⟨rfl, hx⟩ R hR
          rw [List.getElem?_map] at hx
          obtain ⟨z, hz, rfl⟩ := Option.map_eq_some_iff.mp hx
          have zz := W0_names z (hmem z (List.mem_of_getElem? hz))
          refine ⟨rfl, _, rfl, 5, rfl, z, rfl, Nat.le_trans zz.2.2.1 (by rw [sizeLine_eq]; decide), _, _, rfl, rfl, Nat.le_trans (Nat.add_le_add_left zz.2.2.2.2.2 _) (by rw [sizeLine_eq]; decide +kernel), ?_⟩
          have r := hR H5 same_refl
          rw [nth_of hz] at r
          exact r
        · intro H4 sm hD4
          rw [List.length_map, nthsf] at hD4
          have R4 := (R3.grow sm).keep hD4 (free_of R3.s hD) (R3.ne hD)
          refine ⟨D, _, (ws0.take many.toNat).map row5, rfl, R4, same_tr s02 (snew (free_of R3.s hD)), upd_same, ⟨by rw [List.length_map, htl], ?_, ?_, ?_, Or.inr fun x hx => ?_⟩⟩
          · rw [List.map_take]
            exact ((pw.map row5).nodup_iff.mp W0_nodup5).sublist (List.take_sublist _ _)
          · intro x hx
            obtain ⟨z, hz, rfl⟩ := List.mem_map.mp hx
            exact (W0_names z (hmem z hz)).2.1
          · intro x hx
            obtain ⟨z, hz, rfl⟩ := List.mem_map.mp hx
            exact (W0_names z (hmem z hz)).2.2.2.2.1
          · obtain ⟨z, hz, rfl⟩ := List.mem_map.mp hx
            exact List.mem_map.mpr ⟨z, hmem z hz, rfl⟩
      · exact ⟨p2, B2, _, rfl, R3, s02, b2at, htl, (pw.nodup_iff.mp W0_nodup).sublist (List.take_sublist _ _), fun x hx => (W0_names x (hmem x hx)).1, fun x hx => (W0_names x (hmem x hx)).2.2.2.1, Or.inl hmem⟩
end
end Fr

namespace Fr
open PySem PySem.Spec PyProof.Rows L2
def kw2 {α : Type} : List α → List α → List α
  | [], [c, s] => [s, c]
  | _, _ => []
structure CalK (P : Program) (w : World) (K : PySem.W.Frag) (mg : Str → Option Value) (base : Heap) (k : Nat) (x : Str) (sp : Sp) (ks : List Str) (gV : List V → List V → List V) : Prop where
  ex : ∃ (f : Addr) (fd : FuncData) (ps : List Str) (g : List Value → List Value → List Value), FnOk P w K mg base CX0 k f fd ps sp ∧ mg x = some (.ref f) ∧ PySem.W.keepIn K (.ref f) = true ∧ KBinds K fd ps ks g gV
theorem pe_ck {X : Cx} {k j : Nat} {x : Str} {sp : Sp} {ks : List Str} {gV : List V → List V → List V} {kws : List Keyword} {tk : TA} {p pos : Pos} (c : CalK X.prog X.w X.K X.mg X.base k x sp ks gV) (hr : Room j X.A) (hk : k ≤ j) (hg : Gl X x) (hkw : PK X kws tk)
    (hall : (backToKw pos (keywordEach kws X.env)).all (·.1.isSome) = true := by rfl) (hks : (backToKw pos (keywordEach kws X.env)).filterMap (·.1) = ks := by rfl) (hdb : (x == ("__debug__" : Str)) = false := by decide)
    (hpl : ((backTo pos (starEach [] X.env)).any (·.1) || (backToKw pos (keywordEach kws X.env)).any (·.1.isNone)) = false := by rfl) :
    PE X (.Call (.Name x p) [] kws pos) (tCallK sp gV C8.E0 tNil tk) := by
  obtain ⟨f, fd, ps, g, F, hm, kp, hb⟩ := c.ex
  refine ⟨fun pins s σ H Q I h => ?_⟩
  refine wpAny_Call_Name_kw (ld_glob I hg hm ?_ hdb)
  refine PySem.W.callWith_KW0 (h₀ := X.base) I.ok.mod.kin kp hall (thn (hkw.run pos pins s σ H _ I h) fun ws s2 ⟨zs, H2, I2, rz, q2⟩ => ⟨I2.kIn, ?_⟩) hpl
  rw [hks]
  exact run_fnk (us := []) (vs := []) F (hr.mono hk) hb pass0 I2 .nil rz q2
def bs (H : Hp) (r : Addr) : Hp := fun b => if b = r then none else match H b with
  | some (.tbl _) => none
  | o => o
theorem bs_of {H : Hp} {r b : Addr} {o : HO} (h : H b = some o) (n : b ≠ r) (t : ∀ ps, o ≠ .tbl ps) : bs H r b = some o := by
  unfold bs
  rw [if_neg n, h]
  cases o <;> first | rfl | exact absurd rfl (t _)
theorem of_bs {H : Hp} {r b : Addr} {o : HO} (h : bs H r b = some o) : H b = some o ∧ b ≠ r ∧ ∀ ps, o ≠ .tbl ps := by
  unfold bs at h
  by_cases n : b = r
  · rw [if_pos n] at h
    cases h
  · rw [if_neg n] at h
    cases e : H b with
    | none =>
      rw [e] at h
      cases h
    | some u =>
      rw [e] at h
      cases u <;> first | (cases h; exact ⟨rfl, n, fun ps z => by cases z⟩) | cases h
structure LS (TT : List (Addr × Str)) (r : Addr) (m : Nat) (B H : Hp) : Prop where
  rs : RS r m B H
  tb : LamX.Tabs TT H
  nt : ∀ b ps, B b ≠ some (.tbl ps)
theorem tabs_dr {TT : List (Addr × Str)} {r : Addr} {m m' : Nat} {H H' : Hp} (hT : LamX.Tabs TT H) (h : RngOk H r m) (d : Dr r m' H H') : LamX.Tabs TT H' := by
  obtain ⟨a, b, c, h1, _⟩ := h
  obtain ⟨a', b', c', h2, _⟩ := d.ok
  have e : H' = upd H r (.lst [.int a', .int b', .int c']) := funext fun x => by
    by_cases hx : x = r
    · rw [hx, h2, upd_same]
    · rw [upd_ne hx, d.ne x hx]
  rw [e]
  exact tabs_lst hT h1
theorem LS.dr {TT : List (Addr × Str)} {r : Addr} {m m' : Nat} {B H H' : Hp} (h : LS TT r m B H) (d : Dr r m' H H') : LS TT r m' B H' := ⟨h.rs.dr d, tabs_dr h.tb h.rs.ok d, h.nt⟩
theorem LS.new {TT : List (Addr × Str)} {r p : Addr} {m : Nat} {B H : Hp} {o : HO} (h : LS TT r m B H) (e : H p = none) : LS TT r m B (upd H p o) := ⟨h.rs.new e, h.tb.ext (snew e), h.nt⟩
theorem LS.grow {TT : List (Addr × Str)} {r : Addr} {m : Nat} {B H H' : Hp} (h : LS TT r m B H) (e : Same H H') : LS TT r m B H' := ⟨h.rs.grow e, h.tb.ext e, h.nt⟩
theorem LS.put {TT : List (Addr × Str)} {r p : Addr} {m : Nat} {B H : Hp} {o : HO} {xs : List V} (h : LS TT r m B H) (e : B p = none) (n : r ≠ p) (l : H p = some (.lst xs)) : LS TT r m B (upd H p o) := ⟨h.rs.put e n, tabs_lst h.tb l, h.nt⟩
theorem LS.mono {TT : List (Addr × Str)} {r : Addr} {m m' : Nat} {B H : Hp} (h : LS TT r m B H) (e : m ≤ m') : LS TT r m' B H := ⟨h.rs.mono e, h.tb, h.nt⟩
/-- a base of its own -/
theorem LS.own {TT : List (Addr × Str)} {r : Addr} {m : Nat} {H : Hp} (h : RngOk H r m) (t : LamX.Tabs TT H) : LS TT r m (bs H r) H := ⟨⟨fun b o e => (of_bs e).1, by
  cases e : bs H r r with
  | none => rfl
  | some o => exact absurd rfl (of_bs e).2.1, h⟩, t, fun b ps e => (of_bs e).2.2 ps rfl⟩
theorem tabs_cut {TT : List (Addr × Str)} {r : Addr} {m : Nat} {H H' : Hp} (hT : LamX.Tabs TT H) (h : RngOk H r m) (s : Same (cutr H r) H') : LamX.Tabs TT H' := by
  obtain ⟨a, b, c, h1, _⟩ := h
  intro p hp
  obtain ⟨ps, e1, e2, e3⟩ := hT p hp
  refine ⟨ps, s _ _ ?_, e2, fun pos cv hc => ?_⟩
  · rw [cutr_ne fun z => by rw [z, h1] at e1; cases e1]
    exact e1
  · obtain ⟨c', f1, f2⟩ := e3 pos cv hc
    refine ⟨c', f1, s _ _ ?_⟩
    rw [cutr_ne fun z => by rw [z, h1] at f2; unfold LamX.CodeO at f2; cases f2]
    exact f2
def tupo : HO → Bool
  | .tup _ => true
  | .frz _ (.tup _) => true
  | _ => false
def ST (H H' : Hp) : Prop := ∀ b o, H b = some o → tupo o = true → H' b = some o
theorem ST.of {H H' : Hp} (e : Same H H') : ST H H' := fun b o h _ => e b o h
theorem ST.tr {A B C : Hp} (a : ST A B) (b : ST B C) : ST A C := fun x o h d => b x o (a x o h d) d
theorem ST.put {H : Hp} {l : Addr} {xs : List V} {o : HO} (h : H l = some (.lst xs)) : ST H (upd H l o) := fun b u e d => by
  rw [upd_ne fun z => by rw [z, h] at e; cases e; cases d]
  exact e
theorem ST.dr {H H' : Hp} {r : Addr} {m m' : Nat} (h : RngOk H r m) (d : Dr r m' H H') : ST H H' := fun b u e t => by
  obtain ⟨x, y, z, h1, _⟩ := h
  rw [d.ne b fun q => by rw [q, h1] at e; cases e; cases t]
  exact e
theorem ST.bs {H : Hp} {r : Addr} {m : Nat} (h : RngOk H r m) : ST H (Fr.bs H r) := fun b u e t => by
  obtain ⟨x, y, z, h1, _⟩ := h
  refine bs_of e (fun q => ?_) fun ps q => ?_
  · rw [q, h1] at e
    cases e
    cases t
  · rw [q] at t
    cases t
mutual
def noL : PyData → Bool
  | .list _ => false
  | .tuple ds => noLs ds
  | .dict _ => false
  | .none => true
  | .bool _ => true
  | .int _ => true
  | .str _ => true
def noLs : List PyData → Bool
  | [] => true
  | d :: ds => noL d && noLs ds
end
theorem noLs_map {α : Type} {g : α → PyData} (h : ∀ x, noL (g x) = true) : ∀ xs : List α, noLs (xs.map g) = true
  | [] => rfl
  | x :: xs => by
    show (noL (g x) && noLs (xs.map g)) = true
    rw [h x, noLs_map h xs]
    rfl
theorem noL_ints (ns : List Int) : noLs (ns.map PyData.int) = true := noLs_map (fun _ => rfl) ns
theorem noL_rd (r : Rd1) : noL r.d = true := by
  show (true && (noLs (r.v.map PyData.int) && (true && true))) = true
  rw [noL_ints]
  rfl
theorem noL_k (t : Tb) : noL t.k = true := by
  show (true && (noLs (t.rs.map Rd1.d) && true)) = true
  rw [noLs_map noL_rd]
  rfl
section
variable {K : PySem.W.Frag}
theorem sqtt {H H' : Hp} (e : ST H H') {a : Addr} {xs : List V} (h : SqT K H a xs) : SqT K H' a xs := by
  rcases h with (h | ⟨o, h⟩) | h
  · exact .inl (.inl (e _ _ h rfl))
  · exact .inl (.inr ⟨o, e _ _ h rfl⟩)
  · exact .inr h
mutual
theorem dpt {H H' : Hp} (e : ST H H') : ∀ (d : PyData) (v : V), noL d = true → Dp K H v d → Dp K H' v d
  | .none, _, _, h => by cases h; exact .non
  | .bool b, _, _, h => by cases h; exact .bl b
  | .int i, _, _, h => by cases h; exact .int i
  | .str x, _, _, h => by cases h; exact .str x
  | .list ds, _, n, h => by cases n
  | .tuple ds, _, n, h => by
    cases h with
    | tup hs ha => exact .tup (sqtt e hs) (dpst e ds _ n ha)
  | .dict _, _, _, h => by cases h
theorem dpst {H H' : Hp} (e : ST H H') : ∀ (ds : List PyData) (vs : List V), noLs ds = true → DpAll K H vs ds → DpAll K H' vs ds
  | [], _, _, h => by cases h; exact .nil
  | d :: ds, _, n, h => by
    have n' : (noL d && noLs ds) = true := n
    rw [Bool.and_eq_true] at n'
    cases h with
    | cons h1 h2 => exact .cons (dpt e d _ n'.1 h1) (dpst e ds _ n'.2 h2)
end
theorem kvt {H H' : Hp} (e : ST H H') : ∀ {kvs : List (Key × V)} {ts : List Tb}, KvAt K H kvs ts → KvAt K H' kvs ts
  | [], _, h => by cases h; exact .nil
  | kv :: kvs, _, h => by
    cases h with
    | cons h1 h2 => exact .cons ⟨h1.1, dpt e _ _ (noL_k _) h1.2⟩ (kvt e h2)
end
section
variable {P : Program} {w : World} {K : PySem.W.Frag} {mg : Str → Option Value} {base : Heap}
theorem sd_bs {B H : Hp} {r : Addr} (s : Same B H) (n : B r = none) : SD B (bs H r) := fun b o h d => bs_of (s b o h) (ne_of_none h n) fun ps z => by
  rw [z] at d
  cases d
theorem SysAt.bs {C : Addr} {H : Hp} {r s : Addr} {m : Nat} {d md : Int} {ts : List Tb} (h : SysAt K C H s d md ts) (hr : RngOk H r m) (e : ∀ kvs, KvAt K H kvs ts → KvAt K (Fr.bs H r) kvs ts) : SysAt K C (Fr.bs H r) s d md ts := by
  obtain ⟨dx, t, kvs, h1, h2, h3⟩ := h.ob
  obtain ⟨a, b, c, h4, _⟩ := hr
  refine ⟨dx, t, kvs, bs_of h1 (fun z => ?_) (fun ps z => by cases z), bs_of h2 (fun z => ?_) (fun ps z => by cases z), e _ h3⟩
  · rw [z, h4] at h1
    cases h1
  · rw [z, h4] at h2
    cases h2
theorem find_nodup {x : Str} : ∀ {ts : List Tb} {tb : Tb}, (ts.map (·.n)).Nodup → tb ∈ ts → tb.n = x → ts.find? (fun t => decide (t.n = x)) = some tb
  | [], _, _, h, _ => by cases h
  | t :: ts, tb, n, h, e => by
    rw [List.map_cons, List.nodup_cons] at n
    rcases List.mem_cons.mp h with rfl | h
    · exact List.find?_cons_of_pos (by simpa using e)
    · rw [List.find?_cons_of_neg fun z => n.1 (by
        have : t.n = x := of_decide_eq_true z
        rw [this, ← e]
        exact List.mem_map.mpr ⟨tb, h, rfl⟩)]
      exact find_nodup n.2 h e
end
end Fr

namespace Fr
open PySem PySem.Spec PyProof.Rows L2
inductive KvEq (K : PySem.W.Frag) (H : Hp) (ls : List (Key × V)) : List (Key × V) → Bool → Prop
  | nil : KvEq K H ls [] true
  | miss {k : Key} {v : V} {r : List (Key × V)} : valV ls k = none → KvEq K H ls ((k, v) :: r) false
  | hit {k : Key} {v u : V} {r : List (Key × V)} {d e : PyData} {b : Bool} : valV ls k = some u → Dp K H v d → Dp K H u e → SeqAt.shaped d = true → SeqAt.shaped e = true → KvEq K H ls r b → KvEq K H ls ((k, v) :: r) (PyData.eqv d e && b)
def rEqKv (K : PySem.W.Frag) : R2 := fun x y H Q => ∃ (a b : Addr) (ks ls : List (Key × V)) (r : Bool), x = .ref a ∧ y = .ref b ∧ H a = some (.dK ks) ∧ H b = some (.dK ls) ∧ (ks.length = ls.length → KvEq K H ls ks r) ∧ Q (.bl (ks.length == ls.length && r)) H
section
variable {X : Cx} {pins : List (Addr × Obj)} {σ : L2.St} {H : Hp} {s : Shared}
theorem kvHits (I : Inv X pins σ H s) {A : Around} (hu : A.units + 64 < cLine) {ls : List (Key × V)} {vb : List (Key × Value)} (rb : KV ls vb) {ks : List (Key × V)} {r : Bool} (h : KvEq X.K H ls ks r) :
    ∀ {va : List (Key × Value)}, KV ks va → PySem.W.KeqHitsP X.prog X.w A s vb va r := by
  induction h with
  | nil =>
    intro va ra
    cases ra
    exact .nil
  | @miss k v t hv =>
    intro va ra
    cases ra with
    | @cons _ q _ qs h1 h2 =>
      obtain ⟨key, u⟩ := q
      obtain ⟨h1, h3⟩ := h1
      have h1' : k = key := h1
      subst h1'
      exact .miss (RelO.none_of (by rw [← hv]; exact rb.val k))
  | @hit k v u t d e b hv hd he sd se _ ih =>
    intro va ra
    cases ra with
    | @cons _ q _ qs h1 h2 =>
      obtain ⟨key, w⟩ := q
      obtain ⟨h1, h3⟩ := h1
      have h1' : k = key := h1
      subst h1'
      have rr : RelO (some u) (valueAt vb k) := by rw [← hv]; exact rb.val k
      obtain ⟨y, hy, ry⟩ := rr.some_of
      obtain ⟨as, q1⟩ := Dp.reads I d _ _ hd h3
      obtain ⟨bs, q2⟩ := Dp.reads I e _ _ he ry
      exact .hit hy (SeqAt.eqAt_reads d e A s _ _ as bs q1 q2 (SeqAt.canLay_of_shaped sd) (SeqAt.canLay_of_shaped se) (SeqAt.room_of_shaped sd hu)).eqP (ih h2)
theorem op_eqKv (hu : X.A.units + 65 < cLine) : OpR X (compareOp .Eq) (rEqKv X.K) := by
  intro pins s σ H x y v u Q I rx ry h
  obtain ⟨a, b, ks, ls, r, rfl, rfl, ha, hb, hr, q⟩ := h
  cases (show v = Value.ref a from rx)
  cases (show u = Value.ref b from ry)
  obtain ⟨_, ya, va, ra, da⟩ := (show ObjOk X.prog X.w H s.heap a (.dK ks) from I.hok a _ ha)
  obtain ⟨_, yb, vb, rb, db⟩ := (show ObjOk X.prog X.w H s.heap b (.dK ls) from I.hok b _ hb)
  have e1 : va.length = ks.length := ra.length.symm
  have e2 : vb.length = ls.length := rb.length.symm
  refine PySem.W.rcP_dicts (knd := mixKind X.prog X.w) (r := r) ya yb da db (by omega) (fun e => kvHits I (by show X.A.units + 1 + 64 < cLine; omega) rb (hr (by omega)) ra) _ _ ?_
  rw [e1, e2]
  exact ⟨.bl _, H, I, rfl, q⟩
end
structure EqM (P : Program) (w : World) (K : PySem.W.Frag) (mg : Str → Option Value) (base : Heap) (k : Nat) (C : Addr) (sp : Sp) : Prop where
  ex : ∃ (f : Addr) (fd : FuncData) (ps : List Str), Cls K C ∧ PySem.W.findIn K (.ref C) "__eq__" = some (some (.ref f)) ∧ PySem.W.isFn K (.ref f) = true ∧ FnOk P w K mg base CX0 k f fd ps sp ∧ Binds K fd ps []
def rEqOwn (C : Addr) (sp : Sp) : R2 := fun x y H Q => ∃ (a b dx dy : Addr) (fs gs : List (Str × V)), x = .ref a ∧ y = .ref b ∧ H a = some (.ins C dx fs) ∧ H b = some (.ins C dy gs) ∧ sp [.ref a, .ref b] H (fun v H' => ∃ r, v = .bl r ∧ Q (.bl r) H') C8.E0
theorem op_eqOwn {X : Cx} {k j : Nat} {C : Addr} {sp : Sp} (c : EqM X.prog X.w X.K X.mg X.base k C sp) (hr : Room j X.A) (hk : k ≤ j) : OpR X (compareOp .Eq) (rEqOwn C sp) := by
  intro pins s σ H x y v u Q I rx ry h
  obtain ⟨a, b, dx, dy, fs, gs, rfl, rfl, ha, hb, h⟩ := h
  cases (show v = Value.ref a from rx)
  cases (show u = Value.ref b from ry)
  obtain ⟨f, fd, ps, hc, hs, hf, F, hbd⟩ := c.ex
  obtain ⟨mA, J, _⟩ := ins_get I.hok ha
  obtain ⟨mB, J', _⟩ := ins_get I.hok hb
  obtain ⟨od, J, _⟩ := J.look
  obtain ⟨od', J', _⟩ := J'.look
  obtain ⟨m, hF⟩ := I.fr
  have hu : X.A.units < cLine := (hr.mono hk).units0
  refine PySem.W.cmp_K (op := .Eq) (tb := .ref C) hu hF I.ok.mod.kin J J'.type (by simp [PySem.W.notFirst]) hs hf ?_
  refine wpAny_mono (run_fn (us := [.ref a, .ref b]) (vs := [.ref a, .ref b]) F (hr.mono hk) hbd .nil pass0 I (.cons rfl (.cons rfl .nil)) h) (fun r s' q => ?_) fun _ _ x => x
  obtain ⟨z, H', I', rz, t, rfl, q⟩ := q
  obtain rfl : r = Value.bool t := rz
  exact ⟨.bl t, H', I', rfl, q⟩
structure MetK (P : Program) (w : World) (K : PySem.W.Frag) (mg : Str → Option Value) (base : Heap) (k : Nat) (C : Addr) (m : Str) (sp : Sp) (ks : List Str) (gV : List V → List V → List V) : Prop where
  ex : ∃ (f : Addr) (fd : FuncData) (ps : List Str) (g : List Value → List Value → List Value), Cls K C ∧ Meth K C m f ∧ FnOk P w K mg base CX0 k f fd ps sp ∧ KBinds K fd ps ks g gV
def tMethK (C : Addr) (m : Str) (sp : Sp) (gV : List V → List V → List V) (E : XK) (ta : TE) (tk : TA) : TE := fun σ H Q => ta σ H fun x H1 => ∃ a dx fs, x = .ref a ∧ H1 a = some (.ins C dx fs) ∧ fs.lookup m = none ∧
  tk σ H1 fun zs H2 => sp (gV [x] zs) H2 Q E
theorem pe_mtk {X : Cx} {k j : Nat} {C : Addr} {m : Str} {sp : Sp} {ks : List Str} {gV : List V → List V → List V} {o : Expr} {kws : List Keyword} {ta : TE} {tk : TA} {apos pos : Pos} {pl : Sem Bool} (c : MetK X.prog X.w X.K X.mg X.base k C m sp ks gV) (hr : Room j X.A) (hk : k ≤ j) (he : PE X o ta) (hkw : PK X kws tk)
    (hall : (backToKw pos (keywordEach kws X.env)).all (·.1.isSome) = true := by rfl) (hks : (backToKw pos (keywordEach kws X.env)).filterMap (·.1) = ks := by rfl)
    (hpl : ((backTo pos (starEach [] X.env)).any (·.1) || (backToKw pos (keywordEach kws X.env)).any (·.1.isNone)) = false := by rfl)
    (ht : eval (.Call (.Attribute o m apos) [] kws pos) X.env = (do
      let ov ← eval o X.env
      standAt apos.atName
      let (f, first) ← holding [ov] (getMethod ov m pl)
      callWith pos f first (backTo pos (starEach [] X.env)) (backToKw pos (keywordEach kws X.env))) := by rfl) :
    PE X (.Call (.Attribute o m apos) [] kws pos) (tMethK C m sp gV C8.E0 ta tk) := by
  obtain ⟨f, fd, ps, g, hc, hm, F, hb⟩ := c.ex
  refine ⟨fun pins s σ H Q I h => ?_⟩
  refine PySem.W.methodCall_KW (pl := pl) (thn (he.run pins s σ H _ I h) fun u s1 ⟨x, H1, I1, rx, a, dx, fs, ex, ea, l, q⟩ => ?_) ht
  subst ex
  obtain rfl : u = Value.ref a := rx
  refine getmeth_ok I1 ea hc hm l ?_
  refine PySem.W.callWith_KW0 (first := [.ref a]) (h₀ := X.base) I.ok.mod.kin hm.kp hall (thn (hkw.run pos pins s1 σ H1 _ I1 q) fun ws s2 ⟨zs, H2, I2, rz, q2⟩ => ⟨I2.kIn, ?_⟩) hpl
  rw [hks]
  exact run_fnk (us := [.ref a]) (vs := [.ref a]) F (hr.mono hk) hb pass0 I2 (.cons rfl .nil) rz q2
def kw1 {α : Type} : List α → List α → List α
  | [s], [c] => [s, c]
  | _, _ => []
end Fr

namespace Fr
open PySem PySem.Spec PyProof.Rows L2
theorem iter_dict : typeLookup (.type "dict") "__iter__" = pure (some (.builtin "dict.__iter__")) := by rw [typeLookup_type, builtinLookup_eq_fast]; kernel_rfl
section
variable {prog : Program} {w : World} {A : Around} {E : Value → Shared → Prop} {s : Shared}
theorem wp_putNew {d : Addr} {kvs : List (Key × Value)} {k : Key} {x v : Value} {Q : Unit → Shared → Prop} (hx : (mixKind prog w).is k x = true) (hm : s.heap.DictOf (mixKind prog w) d kvs) (hno : k ∉ kvs.map (·.1))
    (hQ : ∀ h', h'.DictOf (mixKind prog w) d (kvs ++ [(k, v)]) → Heap.SameBut d s.heap h' → Q () { s with heap := h' }) (hsz : kvs.length ≤ sizeLine) :
    wpAny (model prog w) A (dictPut d ((mixKind prog w).hash k) x v) Q E s := by
  obtain ⟨o, es, ep, ho, hc, hd, hk, hp, hn⟩ := hm
  have hes : es.size ≤ sizeLine := by
    have e1 := hp.length
    rw [Array.length_toList] at e1
    omega
  unfold dictPut
  refine wpAny_bind (wpAny_dictFind_of hx ho hd hk ?_)
  have hidx : (es.findIdx? fun e => (mixKind prog w).is k e.key) = none := by
    have z : (es.findIdx? fun e => (mixKind prog w).is k e.key) = kvs.findIdx? fun kv => decide (kv.1 = k) := by
      rw [← hp.findIdx k]
      obtain ⟨l⟩ := es
      simp
    rw [z, List.findIdx?_eq_none_iff]
    intro kv hkv
    exact decide_eq_false fun e => hno (List.mem_map.mpr ⟨kv, hkv, e⟩)
  rw [hidx]
  refine wpAny_updateDictKeys (hz := hes) ho hd (hQ _ ⟨_, _, ep + 1, Heap.get?_update_self _ ho (Obj.isFreed_of_dict (Obj.data_mapDictKeys hd _)), hc.mapDictKeys _, Obj.data_mapDictKeys hd _, hk.push hx _, ?_, ?_⟩ (Heap.SameBut.update ..))
  · have z := hp.append hx ((mixKind prog w).hash k) v
    obtain ⟨l⟩ := es
    simpa using z
  · rw [List.map_append, List.nodup_append]
    refine ⟨hn, by simp, ?_⟩
    intro a ha b hb
    rw [List.mem_singleton.mp hb]
    exact fun e => hno (by rw [e] at ha; exact ha)
theorem wp_mergeMap {d o : Addr} {kvs more : List (Key × Value)} {Q : Unit → Shared → Prop} (hdo : d ≠ o) (hoS : (o == sysModules) = false) (hd : s.heap.DictOf (mixKind prog w) d kvs) (ho : s.heap.DictOf (mixKind prog w) o more)
    (hnd : ((kvs ++ more).map (·.1)).Nodup) (hsz : kvs.length + more.length ≤ sizeLine) (hQ : ∀ h', h'.DictOf (mixKind prog w) d (kvs ++ more) → Heap.SameBut d s.heap h' → Q () { s with heap := h' }) :
    wpAny (model prog w) A (mergeMapping d (.ref o) false) Q E s := by
  obtain ⟨od, esd, epd, hod, hcd, hdd, hkd, hpd, hnd'⟩ := id hd
  obtain ⟨oo, eso, epo, hoo, hco, hdo', hko, hpo, hno⟩ := id ho
  have hlen : more.length = eso.size := by
    rw [← hpo.length]
    simp
  unfold mergeMapping
  refine wpAny_bind (wpAny_isInstance (T := "dict") ho.typeIs PySem.F.sub_dict_dict ?_)
  rw [if_pos rfl]
  refine wpAny_bind (wpAny_specialOf ho.typeIs iter_dict ?_)
  refine wpAny_bind (wpAny_pure ?_)
  have hb : ((some (Value.builtin "dict.__iter__") : Option Value) == some (Value.builtin "dict.__iter__")) = true := by rfl
  rw [hb]
  dsimp only
  rw [if_neg (by rw [hoS]; exact Bool.false_ne_true)]
  have tail : ∀ {T : Sem Unit}, T = (do
      let l ← dictEntries o
      let epoch ← dictEpoch o
      forIn (List.range l.size) PUnit.unit fun i (_ : PUnit) => (do
        let l' ← dictEntries o
        match l'[i]? with
          | some e => do
            holding [e.key, e.val] (dictPut d e.hash e.key e.val)
            let ep' ← dictEpoch o
            if (ep' != epoch) = true then do
                (unsupported "dict.changed-during-merge" : Sem PUnit)
                pure (ForInStep.yield PUnit.unit)
              else pure (ForInStep.yield PUnit.unit)
          | _ => do
            (unsupported "dict.changed-during-merge" : Sem PUnit)
            pure (ForInStep.yield PUnit.unit) : Sem (ForInStep PUnit))
      pure ()) → wpAny (model prog w) A T Q E s := by
    intro T hT
    rw [hT]
    refine wpAny_bind (wpAny_dictEntries hoo hdo' ?_)
    refine wpAny_bind (wpAny_dictEpoch hoo hdo' ?_)
    refine wpAny_bind ?_
    refine wpAny_forIn_list _ (fun rest _ s' => ∃ h' i, s' = { s with heap := h' } ∧ rest = (List.range eso.size).drop i ∧ i ≤ eso.size ∧ h'.DictOf (mixKind prog w) d (kvs ++ more.take i) ∧ h'.get? o = some oo ∧ Heap.SameBut d s.heap h') _ ?_ ?_ _ _
      ⟨s.heap, 0, rfl, rfl, Nat.zero_le _, by rw [List.take_zero, List.append_nil]; exact hd, hoo, Heap.SameBut.refl _ _⟩
    · rintro x rest b s' ⟨h', i, rfl, hr, hi, hd', hoo', hs'⟩
      have hlt : i < eso.size := by
        rcases Nat.lt_or_ge i eso.size with h | h
        · exact h
        · rw [List.drop_of_length_le (by simpa using h)] at hr
          cases hr
      rw [List.drop_eq_getElem_cons (by simpa using hlt)] at hr
      injection hr with h1 h2
      rw [List.getElem_range] at h1
      subst h1
      refine wpAny_bind (wpAny_dictEntries hoo' hdo' ?_)
      rw [Array.getElem?_eq_getElem hlt]
      obtain ⟨⟨k, v⟩, hkv⟩ : ∃ kv, more[x]? = some kv := ⟨more[x]'(by omega), List.getElem?_eq_getElem _⟩
      obtain ⟨hkey, hval⟩ := hpo.get? (e := eso[x]) (by simp [hlt]) hkv
      obtain ⟨k', hkey', hhash⟩ := hko eso[x] (Array.getElem_mem hlt)
      obtain rfl : k' = k := (mixKind prog w).inj _ _ _ hkey' hkey
      have hlm : x < more.length := by omega
      have hno' : k' ∉ (kvs ++ more.take x).map (·.1) := fun hm => by
        have z : ((kvs ++ more).map (·.1)).Nodup := hnd
        have e2 : kvs ++ more = (kvs ++ more.take x) ++ ((k', v) :: more.drop (x + 1)) := by
          rw [List.append_assoc]
          congr 1
          have g : more[x] = (k', v) := by
            rw [List.getElem?_eq_getElem hlm] at hkv
            exact Option.some.inj hkv
          rw [← g, ← List.drop_eq_getElem_cons hlm, List.take_append_drop]
        rw [e2, List.map_append, List.nodup_append] at z
        exact z.2.2 k' hm k' (by rw [List.map_cons]; exact List.mem_cons_self) rfl
      show wpAny _ _ (holding [eso[x].key, eso[x].val] (dictPut d eso[x].hash eso[x].key eso[x].val) >>= _) _ _ _
      rw [hhash, hval]
      refine wpAny_bind (wpAny_holding (wp_putNew hkey hd' hno' (fun h'' hd'' hs'' => ?_) (by rw [List.length_append, List.length_take]; omega)))
      have hoo'' : h''.get? o = some oo := (hs''.2 o (Ne.symm hdo)).trans hoo'
      refine wpAny_bind (wpAny_dictEpoch hoo'' hdo' ?_)
      rw [if_neg (by simp)]
      exact wpAny_pure ⟨h'', x + 1, rfl, h2, hlt, by rw [List.take_add_one, hkv, ← List.append_assoc]; exact hd'', hoo'', hs'.trans hs''⟩
    · rintro b s' ⟨h', i, rfl, hr, hi, hd', hoo', hs'⟩
      have hin : i = eso.size := by
        rcases Nat.lt_or_ge i eso.size with h | h
        · rw [List.drop_eq_getElem_cons (by simpa using h)] at hr
          cases hr
        · exact Nat.le_antisymm hi h
      refine wpAny_pure (hQ h' ?_ hs')
      rw [hin, ← hlen, List.take_length] at hd'
      exact hd'
  refine wpAny_bind (wpAny_dictEntries hod hdd ?_)
  split
  · refine wpAny_bind (wpAny_dictEntries hoo hdo' ?_)
    refine wpAny_bind ?_
    rw [← Array.forIn_toList]
    refine wpAny_forIn_list _ (fun rest _ s' => s' = s ∧ ∀ e ∈ rest, e ∈ eso.toList) _ ?_ ?_ _ _ ⟨rfl, fun e he => he⟩
    · rintro x rest b s' ⟨rfl, hm⟩
      obtain ⟨k, hk, _⟩ := hko x (by simpa using hm x List.mem_cons_self)
      have hk : keyIs k x.key = true := hk
      rcases keyIs_shape hk with ⟨i, t, _, e⟩ | ⟨z, t, _, e⟩
      · rw [e]
        exact wpAny_pure ⟨rfl, fun y hy => hm y (List.mem_cons_of_mem _ hy)⟩
      · rw [e]
        exact wpAny_pure ⟨rfl, fun y hy => hm y (List.mem_cons_of_mem _ hy)⟩
    · rintro b s' ⟨rfl, _⟩
      exact tail rfl
  · exact tail rfl
end
end Fr

namespace Fr
open PySem PySem.Spec PyProof.Rows L2
theorem kv_keys : ∀ {kvs : List (Key × V)} {vs : List (Key × Value)}, KV kvs vs → vs.map (·.1) = kvs.map (·.1)
  | [], _, h => by cases h; rfl
  | p :: kvs, _, h => by
    cases h with
    | cons h1 h2 =>
      rw [List.map_cons, List.map_cons, kv_keys h2, h1.1]
theorem kv_app : ∀ {kvs ls : List (Key × V)} {vs us : List (Key × Value)}, KV kvs vs → KV ls us → KV (kvs ++ ls) (vs ++ us)
  | [], _, _, _, h, k => by cases h; exact k
  | p :: kvs, _, _, _, h, k => by
    cases h with
    | cons h1 h2 => exact .cons h1 (kv_app h2 k)
def tMrg (t1 t2 : TE) : TE := fun σ H Q => ∀ p, H p = none → t1 σ (upd H p (.dK [])) fun x H1 => ∃ (a : Addr) (ks : List (Key × V)), x = .ref a ∧ H1 a = some (.dK ks) ∧ a ≠ p ∧ H1 p = some (.dK []) ∧ (ks.map (·.1)).Nodup ∧
  t2 σ (upd H1 p (.dK ks)) fun y H2 => ∃ (b : Addr) (ls : List (Key × V)), y = .ref b ∧ H2 b = some (.dK ls) ∧ b ≠ p ∧ H2 p = some (.dK ks) ∧ ((ks ++ ls).map (·.1)).Nodup ∧ ks.length + ls.length ≤ sizeLine ∧ Q (.ref p) (upd H2 p (.dK (ks ++ ls)))
theorem pe_mrg {X : Cx} {e1 e2 : Expr} {t1 t2 : TE} {pos : Pos} (he1 : PE X e1 t1) (he2 : PE X e2 t2) : PE X (.Dict [none, none] [e1, e2] pos) (tMrg t1 t2) := by
  refine ⟨fun pins s σ H Q I q => ?_⟩
  rw [arm_eval_Dict]
  refine wpAny_bind (wpAny_standAt ?_)
  show wpAny _ _ (dictDisplay [(none, do let x ← eval e1 X.env; standAt pos; pure x), (none, do let x ← eval e2 X.env; standAt pos; pure x)]) _ _ s
  unfold dictDisplay
  dsimp only
  simp only [List.forIn_cons, List.forIn_nil]
  have hn := I.hok.fresh (Nat.le_refl s.heap.objs.size)
  have I1 := I.laid (a := s.heap.objs.size) (o := .dK []) (h' := s.heap.push { cls := .type "dict", data := .dict #[] }) (t' := s.toks) (fun _ _ q => Heap.get?_push_of_some _ q) (Nat.le_refl _) (dk_empty s.heap I.big)
  refine wpAny_bind (wpAny_bind (wpAny_bind ?_))
  show wpAny _ _ (pure none) _ _ _
  refine wpAny_pure ?_
  dsimp only
  refine wpAny_bind (wpAny_alloc ?_)
  refine wpAny_bind (wpAny_holding (wpAny_bind (thn (he1.run pins _ σ _ _ I1 (q s.heap.objs.size hn)) fun u s1 ⟨x, H1, I2, rx, a, ks, ex, ha, nap, hp, nd, q2⟩ => wpAny_bind (wpAny_standAt (wpAny_pure ?_)))))
  subst ex
  obtain rfl : u = Value.ref a := rx
  obtain ⟨zp, hdp, vs0, r0, ddp⟩ := dk_of I2.hok hp
  cases r0
  obtain ⟨za, hda, va, ra, dda⟩ := dk_of I2.hok ha
  have nva : (va.map (·.1)).Nodup := by
    have e : va.map (·.1) = ks.map (·.1) := kv_keys ra
    rw [e]
    exact nd
  refine wpAny_bind (wpAny_onRaise (wpAny_tryCatch (wpAny_onRaise (wpAny_holding (wp_mergeMap (Ne.symm nap) hda ddp dda (by simpa using nva) (by simpa using (by rw [← ra.length]; exact za)) fun h2 dd2 sb2 => ?_)))))
  have I3 : Inv X pins σ (upd H1 s.heap.objs.size (.dK ks)) { s1 with heap := h2, toks := s1.toks } := d_write I2 (by rw [hp]; exact True.intro) sb2 (let ⟨q, _, _, hq, _⟩ := dd2; ⟨q, hq⟩) (dk_new za hdp ra (by simpa using dd2))
  refine wpAny_pure ?_
  dsimp only
  refine wpAny_bind (wpAny_bind ?_)
  show wpAny _ _ (pure (some s.heap.objs.size)) _ _ _
  refine wpAny_pure ?_
  dsimp only
  refine wpAny_bind (wpAny_pure ?_)
  refine wpAny_bind (wpAny_holding (wpAny_bind (thn (he2.run pins _ σ _ _ I3 q2) fun u2 s3 ⟨y, H2, I4, ry, b, ls, ey, hb, nbp, hp2, nd2, hz2, q3⟩ => wpAny_bind (wpAny_standAt (wpAny_pure ?_)))))
  subst ey
  obtain rfl : u2 = Value.ref b := ry
  obtain ⟨zp2, hdp2, vs2, r2, ddp2⟩ := dk_of I4.hok hp2
  obtain ⟨zb, hdb, vb, rb, ddb⟩ := dk_of I4.hok hb
  have nvb : ((vs2 ++ vb).map (·.1)).Nodup := by
    have e : (vs2 ++ vb).map (·.1) = (ks ++ ls).map (·.1) := by
      rw [List.map_append, List.map_append, kv_keys r2, kv_keys rb]
    rw [e]
    exact nd2
  refine wpAny_bind (wpAny_onRaise (wpAny_tryCatch (wpAny_onRaise (wpAny_holding (wp_mergeMap (Ne.symm nbp) hdb ddp2 ddb nvb (by rw [← r2.length, ← rb.length]; exact hz2) fun h3 dd3 sb3 => ?_)))))
  have I5 : Inv X pins σ (upd H2 s.heap.objs.size (.dK (ks ++ ls))) { s3 with heap := h3, toks := s3.toks } := d_write I4 (by rw [hp2]; exact True.intro) sb3 (let ⟨q, _, _, hq, _⟩ := dd3; ⟨q, hq⟩) (dk_new (by rw [List.length_append]; exact hz2) hdp2 (kv_app r2 rb) dd3)
  refine wpAny_pure ?_
  dsimp only
  refine wpAny_pure ?_
  refine wpAny_bind ?_
  show wpAny _ _ (pure (some s.heap.objs.size)) _ _ _
  refine wpAny_pure ?_
  exact wpAny_pure ⟨.ref _, _, I5, rfl, q3⟩
end Fr

namespace Fr
open PySem PySem.Spec PyProof.Rows L2
theorem enum_newT {v : Value} {o : Obj} {G : Heap → Prop} (B : Begins v o G) :
    Meets (Builtin.«enumerate.__new__» ⟨[.type "enumerate", v], []⟩) (fun _ R s => G s.heap ∧
      R (.ok (.ret (.ref (s.heap.push o).objs.size))) { s with heap := (s.heap.push o).push { cls := .type "enumerate", data := .fields #[.none, .bool false, .ref s.heap.objs.size, rawInt 0, .none, .none] } }) :=
  .of_wp fun prog w A R s h => by
    obtain ⟨hp, g, d, tk, os⟩ := s
    obtain ⟨h1, h⟩ := h
    have hsub := sub_enumerate
    have it : ∀ {A' : Around} {E : Value → Shared → Prop} {Q : Value → Shared → Prop}, Q (.ref hp.objs.size) ⟨hp.push o, g, d, tk, os⟩ → wpAny (model prog w) A' (pyIter v) Q E ⟨hp, g, d, tk, os⟩ := fun q => B.iter prog w _ _ ⟨hp, g, d, tk, os⟩ _ h1 q
    wp_walk using it
    refine wpAny_stack_any fun st => wpAny_pure ?_
    split
    · rename_i c _ _ _ _ _
      cases (c == Value.type "enumerate") <;> (wp_walk using it; exact ⟨_, rfl, h⟩)
    · wp_walk using it
      exact ⟨_, rfl, h⟩
section
variable {prog : Program} {w : World} {A : Around} {E : Value → Shared → Prop} {s : Shared}
theorem call_enumT {v : Value} {o : Obj} {G : Heap → Prop} {Q : Value → Shared → Prop} (B : Begins v o G) (h1 : G s.heap)
    (h : ∀ h', IsEnum h' (s.heap.objs.size + 1) s.heap.objs.size 0 .none → h'.get? s.heap.objs.size = some o → (∀ b u, s.heap.get? b = some u → h'.get? b = some u) → Q (.ref (s.heap.objs.size + 1)) { s with heap := h' }) :
    wpAny (model prog w) A (call (.type "enumerate") [v]) Q E s := by
  refine callType_new PySem.F.called_enumerate (by decide) (PySem.F.typeCall_enumerate_1 _) (PySem.F.newCall_enumerate_1 _) (fun obj => PySem.F.args_object_init_2 obj _) PySem.F.entry_enumerate_new (enum_newT B) ⟨h1, ?_⟩
  have hz : (s.heap.push o).objs.size = s.heap.objs.size + 1 := Heap.size_push ..
  show _ ∧ _
  rw [hz]
  have he : IsEnum ((s.heap.push o).push { cls := .type "enumerate", data := .fields #[.none, .bool false, .ref s.heap.objs.size, rawInt 0, .none, .none] }) (s.heap.objs.size + 1) s.heap.objs.size 0 .none := by
    have z := Heap.get?_push_size (s.heap.push o) (o := { cls := .type "enumerate", data := .fields #[.none, .bool false, .ref s.heap.objs.size, rawInt 0, .none, .none] }) rfl
    rw [hz] at z
    exact z
  exact ⟨⟨_, he, rfl⟩, h _ he (Heap.get?_push_of_some _ (Heap.get?_push_size _ B.free)) fun b u e => Heap.get?_push_of_some _ (Heap.get?_push_of_some _ e)⟩
end
section
variable {prog : Program} {w : World} {A : Around} {E : Value → Shared → Prop} {s : Shared}
theorem enumT_end {e it a : Addr} {i : Nat} {items : Array Value} {old : Value} {Q : Option Value → Shared → Prop} (hh : A.in1.handled = none) (he : IsEnum s.heap e it i old) (hit : s.heap.IsTupleIter it a i) (ht : s.heap.IsTuple a items) (hne : a ≠ it) (hx : items[i]? = none)
    (hQ : ∀ h', Heap.ExtBut it s.heap h' → Q none { s with heap := h' }) : wpAny (model prog w) A (pyNext (.ref e)) Q E s := by
  have hT : s.TypeIs (.ref e) "enumerate" := ⟨_, he, rfl⟩
  unfold pyNext
  refine wpAny_bind (wpAny_attempt (wpAny_callSpecial?_slot (name := Str.ofString "__next__") hT PySem.F.slot_enumerate_next (wpAny_call_entry PySem.F.slot_enumerate_next hT PySem.F.entry_enumerate_next ?_ (PySem.F.args_enumerate_next_1 _))))
  show wpAny _ _ (field (.ref e) 2 >>= _) _ _ _
  refine wpAny_bind (wpAny_field he rfl (x := .ref it) rfl ?_)
  refine wpAny_bind (wpAny_nextOf_tuple_end hh hit ht hx fun h' x he' hx' => ?_)
  obtain ⟨o, ho, hc⟩ := hx'
  exact wpAny_bind (wpAny_isInstance (T := "StopIteration") (b := true) ⟨o, ho, hc⟩ isSubtype_stop (wpAny_pure (hQ _ he')))
end
/-- the tuple at a as it stands, each item in a new pair -/
def IteT (K : PySem.W.Frag) (a : Addr) : It :=
  ⟨fun i H => ∃ (xs : List V) (x : V), SqT K H a xs ∧ xs[i]? = some x, fun i H v H' => ∃ T x, v = .ref T ∧ H T = none ∧ H' = upd H T (.tup [.int (i : Nat), x]) ∧ ∀ xs, SqT K H a xs → xs[i]? = some x, fun i H => ∃ xs : List V, SqT K H a xs ∧ xs.length ≤ i⟩
theorem turn_enumT {P : Program} {w : World} {K : PySem.W.Frag} {elts : List Expr} {kk : Nat} {tpos : Pos} (a e it : Addr) :
    Turn P w K (.Tuple elts kk tpos) (IteT K a) [e, it] e (fun i h => (∃ old, IsEnum h e it ((i : Nat) : Int) old) ∧ h.IsTupleIter it a i ∧ e ≠ it ∧ a ≠ e ∧ a ≠ it) where
  mem := by simp
  obj := fun i h st b hb => by
    obtain ⟨⟨old, he⟩, ⟨o, ho, hc, hd⟩, _⟩ := st
    rcases (show b = e ∨ b = it by simpa using hb) with z | z <;> rw [z]
    · exact ⟨_, he, fun v q => nomatch q⟩
    · exact ⟨o, ho, fun v q => by rw [hd] at q; cases q⟩
  keep := fun i h h' st k => let ⟨⟨old, he⟩, hi, ne⟩ := st; ⟨⟨old, k e (by simp) _ he⟩, hi.at fun o q => k it (by simp) o q, ne⟩
  item := by
    intro X hP hw hK hc i pins s σ H E I hf st hg
    subst hP hw hK
    obtain ⟨⟨old, he⟩, hit, hne, hae, hai⟩ := st
    obtain ⟨xs, x, hq, hx⟩ := hg
    obtain ⟨its, rv, p, hz⟩ := I.tuple hq
    obtain ⟨u, hu, ru⟩ := rv.get hx
    have hel : e < s.heap.objs.size := Heap.lt_size he
    have hil : it < s.heap.objs.size := by
      obtain ⟨_, q, _⟩ := hit
      exact Heap.lt_size q
    have hlt : i < its.toArray.size := by
      rw [List.size_toArray]
      exact (List.getElem?_eq_some_iff.mp hu).1
    refine wpAny_pyNext_enum_itemD (Draws.tuple (show X.A.in1.handled = none from I.ok.hd hc) it a hai its.toArray) he ⟨hit, p⟩ hlt hne (by simp [hne, Ne.symm hae]) fun u' h' tk hP ho hst hT hsz hk => ?_
    obtain rfl : u' = u := by
      have z : its.toArray[i]? = some u' := hP
      rw [List.getElem?_toArray, hu] at z
      exact (Option.some.inj z).symm
    refine ⟨_, rfl, wpAny_letOwnedTupleGo_enum (s := { s with heap := h', toks := tk + 1 }) ho fun h'' he' sb => ?_⟩
    have hT2 : h''.get? s.heap.objs.size = some { cls := .type "tuple", data := .seq #[.int i tk, u'] } := (sb.2 _ (Nat.ne_of_gt hel)).trans hT
    have nw : ObjOk X.prog X.w (upd H s.heap.objs.size (.tup [.int (i : Nat), x])) h'' s.heap.objs.size (.tup [.int (i : Nat), x]) :=
      ⟨by show 2 ≤ sizeLine; decide, [.int i tk, u'], .cons ⟨_, rfl⟩ (.cons ru .nil), ⟨_, hT2, rfl, _, rfl⟩⟩
    have I1 : Inv X pins σ (upd H s.heap.objs.size (.tup [.int (i : Nat), x])) { s with heap := h'', toks := tk + 1 } :=
      I.turnedNew (ch := [e, it]) (fun b ob nb q => (sb.2 b (fun z => nb (by simp [z]))).trans (hk b ob (fun z => nb (by simp [z])) (fun z => nb (by simp [z])) q)) hf (Nat.le_refl _) nw
    refine ⟨.ref s.heap.objs.size, _, I1, rfl, ⟨_, x, rfl, I.hok.fresh (Nat.le_refl _), rfl, fun ys hy => by rw [I.tuple_inj hy hq]; exact hx⟩, ⟨⟨u', ?_⟩, hst.1.at fun o q => (sb.2 it (Ne.symm hne)).trans q, hne, hae, hai⟩, fun b hb => ?_⟩
    · rw [show ((i + 1 : Nat) : Int) = (i : Int) + 1 by omega]
      exact he'
    · have hb' : b < s.heap.objs.size := by
        rcases (show b = e ∨ b = it by simpa using hb) with z | z <;> rw [z]
        · exact hel
        · exact hil
      rw [upd_ne (Nat.ne_of_lt hb')]
      exact (hf b hb).1
  done := by
    intro X hP hw hK hc i pins s σ H E I hf st hg
    subst hP hw hK
    obtain ⟨⟨old, he⟩, hit, hne, hae, hai⟩ := st
    obtain ⟨xs, hq, hx⟩ := hg
    obtain ⟨its, rv, p, hz⟩ := I.tuple hq
    obtain ⟨f0, f1, f2, f3, f4, f5⟩ := hf it (by simp)
    have hl := rv.length
    exact enumT_end (show X.A.in1.handled = none from I.ok.hd hc) he hit p hai (by simp; omega) fun h' eb => ⟨rfl, I.turned (t' := s.toks) (fun b o hb q => eb b o hb q) f0 f1 f3 f4 f5⟩
  self := fun A i s Q E st h => let ⟨⟨_, he⟩, _⟩ := st; wpAny_pyIter_enum he h
def iEnumT (K : PySem.W.Frag) (ta : TA) : TI := fun σ H R => ta σ H fun vs H1 => ∃ a xs, vs = [.ref a] ∧ SqT K H1 a xs ∧ R (IteT K a) H1
theorem pi_enumT {X : Cx} {e : Expr} {ta : TA} {p pos tpos : Pos} {elts : List Expr} {kk : Nat} (hg : Gl X "enumerate") (hm : X.mg "enumerate" = none) (ha : PA X [e] ta) (hs : starEach [e] X.env = [(false, eval e X.env)] := by rfl) :
    PI X (.Tuple elts kk tpos) (.Call (.Name "enumerate" p) [e] [] pos) (iEnumT X.K ta) := by
  refine ⟨fun pins s σ H R I h => ?_⟩
  refine Call_ (ld_blt I hg hm boot_enumerate (PyProof.Rows.callWith_type1 (thn (ha.run pos pins s σ H _ I h) fun us s1 ⟨vs, H1, I1, r1, a, xs, ex, hq, q⟩ => ?_) hs rfl))
  subst ex
  obtain rfl := Vals.ref1 r1
  obtain ⟨its, rv, p', hz⟩ := I1.tuple hq
  have hal : a < s1.heap.objs.size := by
    obtain ⟨o, ho, _⟩ := id p'
    exact Heap.lt_size ho
  refine call_enumT (begins_tuple a its.toArray) p' fun h' he hit hk => wpAny_pyIter_enum he ?_
  have I2 : Inv X pins σ H1 { s1 with heap := h' } := I1.kept (t' := s1.toks) hk
  refine ⟨s1.heap.objs.size + 1, [s1.heap.objs.size + 1, s1.heap.objs.size], _, _, H1, rfl, I2, turn_enumT a (s1.heap.objs.size + 1) s1.heap.objs.size,
    ⟨⟨.none, he⟩, ⟨_, hit, rfl, rfl⟩, Nat.succ_ne_self _, Nat.ne_of_lt (Nat.lt_succ_of_lt hal), Nat.ne_of_lt hal⟩, fun b hb => ?_, q⟩
  have hle : s1.heap.objs.size ≤ b := by
    rcases (show b = s1.heap.objs.size + 1 ∨ b = s1.heap.objs.size by simpa using hb) with z | z <;> rw [z]
    · exact Nat.le_add_right _ _
    · exact Nat.le_refl _
  exact I1.fpOk hle (I1.hok.fresh hle)
theorem walk_enumT {K : PySem.W.Frag} {a : Addr} {xs : List V} : Walk (IteT K a) xs.length (fun H => SqT K H a xs) (YPair (fun i => some (.int (i : Nat))) (fun i => xs[i]?)) := by
  refine ⟨fun i _ hi q => ⟨xs, xs[i], q, by simp [hi]⟩, fun _ q => ⟨xs, q, Nat.le_refl _⟩, fun i H v H' _ q y => ?_⟩
  obtain ⟨T, x, y1, y2, y3, y4⟩ := y
  exact ⟨T, .int (i : Nat), x, y1, y2, y3, rfl, y4 xs q⟩
end Fr

namespace Fr
open PySem PySem.Spec PyProof.Rows L2
/-- o.f in a comprehension's block -/
theorem pe_fldK {X : Cx} {K' : PySem.W.Frag} {e : Expr} {f : Str} {pos : Pos} {ta : TE} (he : PE X e ta) (hb : attributeBase e f X.env (eval e X.env) = eval e X.env := by rfl) (hK : X.K = K' := by rfl) : PE X (.Attribute e f pos) (tFld K' ta f) := by
  subst hK
  exact pe_fld he hb
structure LenM (P : Program) (w : World) (K : PySem.W.Frag) (mg : Str → Option Value) (base : Heap) (k : Nat) (C : Addr) (sp : Sp) : Prop where
  ex : ∃ (f : Addr) (fd : FuncData) (ps : List Str), Cls K C ∧ PySem.W.findIn K (.ref C) "__len__" = some (some (.ref f)) ∧ PySem.W.isFn K (.ref f) = true ∧ FnOk P w K mg base CX0 k f fd ps sp ∧ Binds K fd ps []
def rLenOwn (C : Addr) (sp : Sp) : List V → Hp → VK → Prop := fun xs H Q => ∃ (a dx : Addr) (fs : List (Str × V)), xs = [.ref a] ∧ H a = some (.ins C dx fs) ∧ sp [.ref a] H (fun v H' => ∃ n : Nat, v = .int n ∧ n < 1000000 ∧ Q (.int n) H') C8.E0
theorem call_lenOwn {X : Cx} {k j : Nat} {C : Addr} {sp : Sp} (c : LenM X.prog X.w X.K X.mg X.base k C sp) (hr : Room j X.A) (hk : k + 1 ≤ j) : CallR X (.builtin "len") (rLenOwn C sp) := by
  intro pins s σ H xs us Q I r h
  obtain ⟨a, dx, fs, rfl, ha, h⟩ := h
  obtain ⟨u, rfl, ru⟩ := vals1 r
  obtain rfl : u = Value.ref a := ru
  obtain ⟨f, fd, ps, hc, hs, hf, F, hb⟩ := c.ex
  obtain ⟨mA, J, _⟩ := ins_get I.hok ha
  obtain ⟨od, J, _⟩ := J.look
  have sp1 : PySem.W.Looks (model X.prog X.w) s.heap (specialOf (.ref a) "__len__") (some (.ref f)) := J.type.andThen (PySem.W.looks_findIn I.kIn hs)
  refine Calls.call_function_entry kind_len plain_len entry_len (args_len1 _) ?_
  unfold Builtin.«len»
  refine wpAny_bind (m := oneArg "len" _) (wpAny_pure ?_)
  refine wpAny_bind (m := callSpecial? (.ref a) (Str.ofString "__len__")) ?_
  unfold callSpecial?
  refine wpAny_bind (sp1.here ?_)
  refine wpAny_holding (wpAny_bind ((PySem.W.bind_fn I.kIn _ (beq_iff_eq.mp hf)).here ?_))
  have hrk : Room (k + 1) X.A := hr.mono hk
  have r2 : Vals [V.ref a] [Value.ref a] := .cons rfl .nil
  have hl := F.len _ _ _ _ h
  have bt := hb s [.ref a] I.kIn (by simpa using hl)
  refine wpAny_bind (wpAny_call (codeAny_mono (F.run X.A.in1 X.stack s H ⟨[.ref a], []⟩ [.ref a] [.ref a] _ C8.E0 hrk.in1 I.env0.in1 (by simpa using bt) r2 h) fun rs s2 z => ?_))
  match rs, z with
  | .error er, z => exact pass0 (X := X) pins σ H s er s2 I z
  | .ok (.ret v), z =>
    obtain ⟨y, H', I', ry, n, rfl, hn, q⟩ := I.after z
    obtain ⟨t, rfl⟩ : ∃ t, v = Value.int n t := ry
    refine wpAny_pure ?_
    refine wpAny_bind (wpAny_holding (wpAny_pure ?_))
    refine wpAny_bind (wpAny_letGo ?_)
    show wpAny _ _ (if ((n : Nat) : Int) < 0 then _ else _) _ _ _
    rw [if_neg (by omega)]
    show wpAny _ _ (if ((n : Nat) : Int) ≥ 2 ^ 63 then _ else _) _ _ _
    rw [if_neg (by omega)]
    exact wpAny_bind (wpAny_mkInt (wpAny_pure ⟨_, rfl, .int n, H', I'.tok _, ⟨_, rfl⟩, q⟩))
  | .ok .next, z => exact z.elim
  | .ok .brk, z => exact z.elim
  | .ok .cont, z => exact z.elim
end Fr

namespace Fr
open PySem PySem.Spec PyProof.Rows L2
/-- room, and nothing under repr -/
structure RoomG (k : Nat) (A : Around) : Prop where
  room : Room k A
  free : A.guards = some []
structure FnG (P : Program) (w : World) (K : PySem.W.Frag) (mg : Str → Option Value) (base : Heap) (k : Nat) (f : Addr) (fd : FuncData) (ps : List Str) (sp : Sp) : Prop where
  len : ∀ vs H Q E, sp vs H Q E → vs.length = ps.length
  go : ∀ (A : Around) (outer : List Env) (s : Shared) (H : Hp) (args : Args) (us : List Value) (vs : List V) (Q : VK) (E : XK), RoomG k A → Env0 P w K mg base A outer s H → BindsTo s fd args (ps.zip us) → Vals vs us → sp vs H Q E → codeAny (model P w) A (.call (.ref f) args) (CR CX0 outer P w H s Q E) s
section
variable {P : Program} {w : World} {K : PySem.W.Frag} {mg : Str → Option Value} {base : Heap}
/-- a def by its body -/
theorem fnG_of {k : Nat} {f : Addr} {x qual : Str} {pa : Arguments} {body : List Stmt} {sc : Scope} {dV kV doc pm cd ct oc : Value} {an od : Option Addr} {osl : Array (Option Value)} {N ps : List Str} {sp : Sp}
    (lk : K.lookup f = some ⟨oc, od, .func (PySem.W.fnOf x qual pa body sc dV kV doc pm an cd ct), osl⟩) (hcd : PySem.W.codeIn K cd qual = true) (S : FnScope N ps sc) (len : ∀ vs H Q E, sp vs H Q E → vs.length = ps.length)
    (hb : ∀ (A : Around) (outer : List Env) (s : Shared) (H : Hp) (vs : List V) (Q : VK) (E : XK), RoomG k (A.deeper (envOfC qual sc s.heap.objs.size f cd)) → sp vs H Q E → ∃ t, PSs (cxOf CX0 P w K mg base N qual sc f cd A outer s H E) body t ∧ t { nx := fun _ H' => Q .non H', rt := Q } (start N vs) H) :
    FnG P w K mg base (k + 1) f (PySem.W.fnOf x qual pa body sc dV kV doc pm an cd ct) ps sp where
  len := len
  go A outer s H args us vs Q E hr e0 bt rv hq := by
    have h1 : vs.length = ps.length := len _ _ _ _ hq
    have inK : K.In s.heap := e0.mod.kin.keeps fun b o z => (e0.bs b o z).1
    have noL : s.heap.NoLimit := e0.mod.nolimit.keeps fun b o z => (e0.bs b o z).1
    have kinds : ∀ y ∈ ps.zip us, sc.names.lookup y.1 = some .local ∨ (sc.names.lookup y.1 = some .cell ∧ ((cellsFrom (s.heap.objs.size + 1) sc.names []).lookup y.1).isSome = true) := by
      intro y hy
      obtain ⟨n, v⟩ := y
      cases S.par n (List.of_mem_zip hy).1 with
      | inl z => exact Or.inl z
      | inr z => exact Or.inr ⟨z, PySem.W.cellsFrom_some _ _ _ (Or.inl z)⟩
    refine codeAny_call_function hr.room.depth (inK _ _ lk) rfl S.co S.gen rfl (PySem.W.codeRec_of inK hcd) (bt _ _ _ _ (wpAny_newFunctionEnv_cells S.kind kinds ?_))
    rintro _ rfl s1 ic
    refine ⟨noL.keeps ic.toInCall.keep, codeAny_func ?_⟩
    obtain ⟨t, pt, ht⟩ := hb A outer s H vs Q E ⟨hr.room.deeper _, hr.free⟩ hq
    have I0 := inv_start (CX := CX0) (E := E) S hr.room.hd e0 h1 rv ic
    refine wpAny_mono (pt.run [] s1 (start N vs) H _ I0 ht) (fun fl s2 z => ?_) fun _ _ z => z
    cases fl with
    | next =>
      obtain ⟨_, H2, J, q⟩ := z
      exact ⟨V.non, H2, J.os, J.bare, J.base, J.hok, rfl, q⟩
    | ret u =>
      obtain ⟨v, _, H2, J, ru, q⟩ := z
      exact ⟨v, H2, J.os, J.bare, J.base, J.hok, ru, q⟩
    | brk => exact z.elim fun _ z => z.elim fun _ z => z.2.elim
    | cont => exact z.elim fun _ z => z.elim fun _ z => z.2.elim
theorem Fun_okG {x qual : Str} {st : Stmt} {f : Addr} {fd : FuncData} {N ps : List Str} {k : Nat} {sp : Sp} (F : Fun K x qual st f fd) (S : FnScope N ps (defScope st)) (len : ∀ vs H Q E, sp vs H Q E → vs.length = ps.length)
    (hb : ∀ (cd : Value) (A : Around) (outer : List Env) (s : Shared) (H : Hp) (vs : List V) (Q : VK) (E : XK), RoomG k (A.deeper (envOfC qual (defScope st) s.heap.objs.size f cd)) → sp vs H Q E →
      ∃ t, PSs (cxOf CX0 P w K mg base N qual (defScope st) f cd A outer s H E).nox (defBody st) t ∧ t { nx := fun _ H' => Q .non H', rt := Q } (start N vs) H) : FnG P w K mg base (k + 1) f fd ps sp := by
  obtain ⟨oc, od, kV, doc, pm, an, cd, ct, osl, rfl, lk, hcd⟩ := F.ex
  refine fnG_of lk hcd S len fun A outer s H vs Q E hr hq => ?_
  obtain ⟨t, pt, ht⟩ := hb cd A outer s H vs Q E hr hq
  exact ⟨t, pt.nox, ht⟩
/-- a def of this kind that may be called by its name -/
structure CalG (P : Program) (w : World) (K : PySem.W.Frag) (mg : Str → Option Value) (base : Heap) (k : Nat) (x : Str) (sp : Sp) : Prop where
  ex : ∃ (f : Addr) (fd : FuncData) (ps : List Str), FnG P w K mg base k f fd ps sp ∧ mg x = some (.ref f) ∧ PySem.W.keepIn K (.ref f) = true ∧ Binds K fd ps []
end
section
variable {X : Cx} {k j : Nat} {x : Str} {sp : Sp} {p pos : Pos} {e : Expr} {es : List Expr} {t : TA}
theorem pe_cG (c : CalG X.prog X.w X.K X.mg X.base k x sp) (hr : RoomG j X.A) (hk : k ≤ j) (hg : Gl X x) (ha : PA X (e :: es) t) (hdb : (x == ("__debug__" : Str)) = false := by decide)
    (he : starEach (e :: es) X.env = (false, eval e X.env) :: starEach es X.env := by rfl) (hpl : (backTo pos (starEach es X.env)).any (·.1) = false := by rfl) : PE X (.Call (.Name x p) (e :: es) [] pos) (tCall sp [] C8.E0 t) := by
  obtain ⟨f, fd, ps, F, hm, kp, hb⟩ := c.ex
  constructor
  intro pins s σ H Q I h
  refine wpAny_Call_Name_kw (ld_glob I hg hm (PySem.W.callWith_K (h₀ := X.base) I.ok.mod.kin kp (thn (ha.run pos pins s σ H _ I h) ?_) he hpl) hdb)
  rintro us s1 ⟨vs, H1, I1, r, q⟩
  refine ⟨I1.kIn, wpAny_call ?_⟩
  have r2 : Vals (vs ++ []) (us ++ []) := r.append .nil
  have hl : (us ++ ([] : List Value)).length = ps.length := r2.length.symm.trans (F.len _ _ _ _ q)
  refine codeAny_mono (F.go X.A X.stack s1 H1 ⟨us, []⟩ (us ++ []) (vs ++ []) Q C8.E0 ⟨hr.room.mono hk, hr.free⟩ I1.env0 (hb s1 us I1.kIn hl) r2 q) fun rs s2 z => ?_
  match rs, z with
  | .error er, z => exact pass0 (X := X) pins σ H1 s1 er s2 I1 z
  | .ok (.ret u), z => exact I1.after z
  | .ok .next, z => exact z.elim
  | .ok .brk, z => exact z.elim
  | .ok .cont, z => exact z.elim
/-- repr(e), e plain data -/
def rReprD (K : PySem.W.Frag) : List V → Hp → VK → Prop := fun xs H Q => ∃ (v : V) (d : PyData), xs = [v] ∧ Dp K H v d ∧ d.canLay0 = true ∧ d.showable = true ∧ d.depth ≤ 60 ∧ ((∃ i, d = .int i) ∨ d.shown.length ≤ sizeLine) ∧ Q (.str d.shown) H
theorem call_reprD (hg : X.A.guards = some []) (hu : X.A.units + 65 < cLine) : CallR X (.builtin "repr") (rReprD X.K) := by
  intro pins s σ H xs us Q I r h
  obtain ⟨v, d, rfl, hd, hc, hs, h6, hz, q⟩ := h
  obtain ⟨u, rfl, ru⟩ := vals1 r
  obtain ⟨as, rd⟩ := Dp.reads I d v u hd ru
  cases hd with
  | non =>
    cases (show u = Value.none from ru)
    simp only [PyData.shown] at q hz
    exact P.repr_of_none ⟨.str _, H, I.tok _, ⟨_, rfl⟩, q⟩
  | bl b =>
    cases (show u = Value.bool b from ru)
    simp only [PyData.shown] at q hz
    refine P.repr_of_bool ⟨.str _, H, I.tok _, ⟨_, rfl⟩, ?_⟩
    cases b <;> exact q
  | int i =>
    obtain ⟨t, rfl⟩ := (show ∃ t, u = Value.int i t from ru)
    simp only [PyData.shown] at q hz
    simp only [PyData.showable] at hs
    exact P.repr_of_int (of_decide_eq_true hs) ⟨.str _, H, I.tok _, ⟨_, rfl⟩, q⟩
  | str y =>
    obtain ⟨t, rfl⟩ := (show ∃ t, u = Value.str y t from ru)
    simp only [PyData.shown] at q hz
    exact P.repr_of_str ⟨.str _, H, I.tok _, ⟨_, rfl⟩, q⟩ (hz.resolve_left fun ⟨_, z⟩ => by cases z)
  | lst hq ha =>
    cases (show u = Value.ref _ from ru)
    exact repr_of_reads' rd hs (PyData.noDict_hsm (PyData.hasDict_of_canLay _ hc)) hg (by omega) (fun _ _ z => z) (fun h' t tk k => ⟨.str _, H, I.kept k, ⟨_, rfl⟩, q⟩) (hz.resolve_left fun ⟨_, z⟩ => by cases z)
  | tup hq ha =>
    cases (show u = Value.ref _ from ru)
    exact repr_of_reads' rd hs (PyData.noDict_hsm (PyData.hasDict_of_canLay _ hc)) hg (by omega) (fun _ _ z => z) (fun h' t tk k => ⟨.str _, H, I.kept k, ⟨_, rfl⟩, q⟩) (hz.resolve_left fun ⟨_, z⟩ => by cases z)
end
end Fr

namespace Fr
open PySem PySem.Spec PyProof.Rows L2
structure Shw (d : PyData) (k w : Nat) : Prop where
  lay : d.canLay0 = true
  sho : d.showable = true
  dep : d.depth ≤ k
  int : d.intsShort 13 = true
  wt : d.weight ≤ w
structure ShwA (ds : List PyData) (k w : Nat) : Prop where
  lay : PyData.canLayAll0 ds = true
  sho : PyData.showableAll ds = true
  dep : PyData.depthAll ds ≤ k
  int : PyData.intsShortAll 13 ds = true
  wt : PyData.weightAll ds ≤ w
theorem ShwA.nil {k : Nat} : ShwA [] k 0 := ⟨by simp [PyData.canLayAll0], by simp [PyData.showableAll], by simp [PyData.depthAll], by simp [PyData.intsShortAll], by simp [PyData.weightAll]⟩
theorem ShwA.cons {d : PyData} {ds : List PyData} {k w v u : Nat} (h : Shw d k w) (t : ShwA ds k v) (e : w + 1 + v ≤ u) : ShwA (d :: ds) k u :=
  ⟨by simp [PyData.canLayAll0, h.lay, t.lay], by simp [PyData.showableAll, h.sho, t.sho], by simp only [PyData.depthAll]; have := h.dep; have := t.dep; omega, by simp [PyData.intsShortAll, h.int, t.int],
    by simp only [PyData.weightAll]; have := h.wt; have := t.wt; omega⟩
theorem ShwA.c {d : PyData} {ds : List PyData} {k w v : Nat} (h : Shw d k w) (t : ShwA ds k v) : ShwA (d :: ds) k (w + 1 + v) := .cons h t (Nat.le_refl _)
theorem Shw.list {ds : List PyData} {k w : Nat} (h : ShwA ds k w) : Shw (.list ds) (k + 1) w :=
  ⟨by simp [PyData.canLay0, h.lay], by simp [PyData.showable, h.sho], by simp only [PyData.depth]; have := h.dep; omega, by simp [PyData.intsShort, h.int], by simp only [PyData.weight]; exact h.wt⟩
theorem Shw.tup {ds : List PyData} {k w : Nat} (h : ShwA ds k w) : Shw (.tuple ds) (k + 1) w :=
  ⟨by simp [PyData.canLay0, h.lay], by simp [PyData.showable, h.sho], by simp only [PyData.depth]; have := h.dep; omega, by simp [PyData.intsShort, h.int], by simp only [PyData.weight]; exact h.wt⟩
theorem Shw.one {i : Int} {k : Nat} (h : i.natAbs < 10 ^ 12) : Shw (.int i) k 40 := by
  have z := PyData.intsShortAll_ints [i] (by intro n hn; rw [List.mem_singleton.mp hn]; exact h)
  have hl : i.natAbs.log2 < 40 := by
    by_cases h0 : i.natAbs = 0
    · rw [h0]; decide
    · exact (Nat.log2_lt h0).mpr (Nat.lt_trans h (by decide))
  refine ⟨by simp [PyData.canLay0], by simp only [PyData.showable]; exact decide_eq_true (by omega), by simp [PyData.depth], ?_, ?_⟩
  · simp only [List.map_cons, List.map_nil, PyData.intsShortAll, Bool.and_eq_true] at z
    exact z.1
  · simp only [PyData.weight]
    split <;> omega
theorem Shw.str {x : Str} {k w : Nat} (h : PyData.strOk x = true) (e : x.length ≤ w) : Shw (.str x) k w :=
  ⟨by simpa [PyData.canLay0] using h, by simp [PyData.showable], by simp [PyData.depth], by simp [PyData.intsShort], by simp only [PyData.weight]; exact e⟩
theorem ShwA.map {α : Type} {f : α → PyData} {k w : Nat} : ∀ {xs : List α}, (∀ x ∈ xs, Shw (f x) k w) → ShwA (xs.map f) k (xs.length * (w + 1))
  | [], _ => by simpa using ShwA.nil
  | x :: xs, h => .cons (h x List.mem_cons_self) (ShwA.map fun y hy => h y (List.mem_cons_of_mem _ hy)) (by rw [List.length_cons, Nat.succ_mul]; omega)
theorem Shw.mono {d : PyData} {k w j v : Nat} (h : Shw d k w) (e : k ≤ j) (f : w ≤ v) : Shw d j v := ⟨h.lay, h.sho, Nat.le_trans h.dep e, h.int, Nat.le_trans h.wt f⟩
theorem ShwA.mono {d : List PyData} {k w j v : Nat} (h : ShwA d k w) (e : k ≤ j) (f : w ≤ v) : ShwA d j v := ⟨h.lay, h.sho, Nat.le_trans h.dep e, h.int, Nat.le_trans h.wt f⟩
/-- what repr asks -/
theorem Shw.asks {d : PyData} {k w : Nat} (h : Shw d k w) (e : k ≤ 60) (f : w ≤ 1000000) : d.canLay0 = true ∧ d.showable = true ∧ d.depth ≤ 60 ∧ ((∃ i, d = .int i) ∨ d.shown.length ≤ sizeLine) :=
  ⟨h.lay, h.sho, Nat.le_trans h.dep e, .inr (PyData.shown_fits (by decide) (by decide) (PyData.leavesShort_of_canLay0 13 d h.lay h.int) (Nat.le_trans h.wt (Nat.le_trans f (by decide))))⟩
theorem Shw.shaped {d : PyData} {k w : Nat} (h : Shw d k w) (e : k ≤ 60) : SeqAt.shaped d = true := by
  unfold SeqAt.shaped
  rw [h.lay, decide_eq_true (Nat.le_trans h.dep (Nat.le_trans e (by decide)))]
  rfl
end Fr

namespace Fr
open PySem PySem.Spec PyProof.Rows L2
def In2 (J1 : It) (g1 : TG) (tt1 : TT) (te : TE) (vs1 : List Nat) (D : Addr) (σ2 : L2.St) (H4 : Hp) (Nx : Hp → Prop) : Prop := ∃ W1 : Nat → Nat → Hp → Prop, (∃ m, W1 0 m H4) ∧ ∀ j k H, W1 j k H →
  (J1.stop j H ∧ Nx H) ∨ (J1.go j H ∧ ∃ Nx1 : Hp → Prop, (∀ H', Nx1 H' → ∃ k', k' < k ∧ W1 (j + 1) k' H') ∧ ∀ x H', J1.yld j H x H' → g1 x (wipe σ2 vs1) H' fun σ3 H5 => wipe σ3 vs1 = wipe σ2 vs1 ∧ tt1 σ3 H5 fun b H6 =>
    if b = true then te σ3 H6 fun y H7 => ∃ acc, H7 D = some (.lst acc) ∧ acc.length < sizeLine ∧ Nx1 (upd H7 D (.lst (acc ++ [y]))) else Nx1 H6)
theorem in2_mono {J1 : It} {g1 : TG} {tt1 : TT} {te : TE} {vs1 : List Nat} {D : Addr} {σ2 : L2.St} {H4 : Hp} {Nx Nx' : Hp → Prop} (h : In2 J1 g1 tt1 te vs1 D σ2 H4 Nx) (e : ∀ H, Nx H → Nx' H) : In2 J1 g1 tt1 te vs1 D σ2 H4 Nx' := by
  obtain ⟨W1, w0, st⟩ := h
  refine ⟨W1, w0, fun j k H w => ?_⟩
  rcases st j k H w with ⟨a, b⟩ | ⟨a, Nx1, b, c⟩
  · exact .inl ⟨a, e H b⟩
  · exact .inr ⟨a, Nx1, b, c⟩
theorem lc2_it {J : It} {n : Nat} {G : Hp → Prop} {Y : Nat → Hp → V → Hp → Prop} (w : Walk J n G Y) {g g1 : TG} {tt tt1 : TT} {wi1 : TI} {te : TE} {vs vs1 : List Nat} {σ : L2.St} {H1 : Hp} {D : Addr} {Qd : Hp → Prop} (Pv : Nat → Hp → Prop) (h0 : Pv 0 (upd H1 D (.lst []))) (hG : ∀ i H, i ≤ n → Pv i H → G H)
    (hs : ∀ i x H H', i < n → Pv i H → Y i H x H' → ∀ Nx : Hp → Prop, (∀ H, Pv (i + 1) H → Nx H) → g x (wipe σ vs) H' fun σ2 H2 => wipe σ2 vs = wipe σ vs ∧ tt σ2 H2 fun b H3 =>
      if b = true then wi1 σ2 H3 fun J1 H4 => In2 J1 g1 tt1 te vs1 D σ2 H4 Nx else Nx H3) (hd : ∀ H, Pv n H → Qd H) :
    ∃ W : Nat → Nat → Hp → Prop, (∃ m, W 0 m (upd H1 D (.lst []))) ∧ ∀ i m H, W i m H →
      (J.stop i H ∧ Qd H) ∨ (J.go i H ∧ ∃ Nx : Hp → Prop, (∀ H', Nx H' → ∃ m', m' < m ∧ W (i + 1) m' H') ∧ ∀ x H', J.yld i H x H' → g x (wipe σ vs) H' fun σ2 H2 => wipe σ2 vs = wipe σ vs ∧ tt σ2 H2 fun b H3 =>
        if b = true then wi1 σ2 H3 fun J1 H4 => In2 J1 g1 tt1 te vs1 D σ2 H4 Nx else Nx H3) := by
  refine ⟨fun i m H => m = n - i ∧ i ≤ n ∧ Pv i H, ⟨n, by simp, Nat.zero_le _, h0⟩, ?_⟩
  rintro i m H ⟨rfl, hi, p⟩
  have q := hG i H hi p
  by_cases hlt : i < n
  · exact .inr ⟨w.goes i H hlt q, Pv (i + 1), fun H' p' => ⟨n - (i + 1), by omega, rfl, hlt, p'⟩, fun x H' y => hs i x H H' hlt p (w.yields i H x H' hlt q y) _ fun _ h => h⟩
  · have e : i = n := by omega
    subst e
    exact .inl ⟨w.stops H q, hd H p⟩
theorem in2_it {J1 : It} {n : Nat} {G : Hp → Prop} {Y : Nat → Hp → V → Hp → Prop} (w : Walk J1 n G Y) {g1 : TG} {tt1 : TT} {te : TE} {vs1 : List Nat} {D : Addr} {σ2 : L2.St} {H4 : Hp} {Nx : Hp → Prop} (Pv : Nat → Hp → Prop) (h0 : Pv 0 H4) (hG : ∀ i H, i ≤ n → Pv i H → G H)
    (hs : ∀ i x H H', i < n → Pv i H → Y i H x H' → g1 x (wipe σ2 vs1) H' fun σ3 H5 => wipe σ3 vs1 = wipe σ2 vs1 ∧ tt1 σ3 H5 fun b H6 =>
      if b = true then te σ3 H6 fun y H7 => ∃ acc, H7 D = some (.lst acc) ∧ acc.length < sizeLine ∧ Pv (i + 1) (upd H7 D (.lst (acc ++ [y]))) else Pv (i + 1) H6) (hd : ∀ H, Pv n H → Nx H) : In2 J1 g1 tt1 te vs1 D σ2 H4 Nx := by
  refine ⟨fun i m H => m = n - i ∧ i ≤ n ∧ Pv i H, ⟨n, by simp, Nat.zero_le _, h0⟩, ?_⟩
  rintro i m H ⟨rfl, hi, p⟩
  have q := hG i H hi p
  by_cases hlt : i < n
  · exact .inr ⟨w.goes i H hlt q, Pv (i + 1), fun H' p' => ⟨n - (i + 1), by omega, rfl, hlt, p'⟩, fun x H' y => hs i x H H' hlt p (w.yields i H x H' hlt q y)⟩
  · have e : i = n := by omega
    subst e
    exact .inl ⟨w.stops H q, hd H p⟩
theorem unlock {H H' : Hp} {t : Addr} {od : PySem.Obj} {u : HO} (h : H t = some u) (s : Same (upd H t (.frz od u)) H') : Same H (upd H' t u) := fun b o e => by
  by_cases hb : b = t
  · rw [hb, upd_same]
    rw [hb, h] at e
    exact e
  · rw [upd_ne hb]
    exact s b o (by rw [upd_ne hb]; exact e)
theorem st_unlock {B H' : Hp} {t : Addr} {u v : HO} (s : Same B H') (h : B t = some u) (n : tupo u = false) : ST B (upd H' t v) := fun b o e d => by
  have hb : b ≠ t := fun z => by
    rw [z, h] at e
    cases e
    rw [n] at d
    cases d
  rw [upd_ne hb]
  exact s b o e
def nrD (x : Str × Nat) : PyData := .tuple [.str x.1, .int (x.2 : Nat)]
def nam1 (t : Tb) : List (Str × Nat) := (List.range t.rs.length).map fun i => (t.n, i)
def named (ts : List Tb) : List (Str × Nat) := ts.flatMap nam1
theorem named_take {ts : List Tb} {i : Nat} {t : Tb} (h : ts[i]? = some t) : named (ts.take (i + 1)) = named (ts.take i) ++ nam1 t := by
  unfold named
  rw [List.take_add_one, h, List.flatMap_append]
  simp
theorem named_len (ts : List Tb) : (named ts).length = (ts.map fun t => t.rs.length).sum := by
  unfold named
  rw [List.length_flatMap]
  congr 1
  refine List.map_congr_left fun t _ => ?_
  unfold nam1
  rw [List.length_map, List.length_range]
theorem mem_named {ts : List Tb} {x : Str} {i : Nat} : (x, i) ∈ named ts ↔ ∃ t ∈ ts, t.n = x ∧ i < t.rs.length := by
  unfold named nam1
  rw [List.mem_flatMap]
  constructor
  · rintro ⟨t, ht, h⟩
    obtain ⟨j, hj, e⟩ := List.mem_map.mp h
    cases e
    exact ⟨t, ht, rfl, List.mem_range.mp hj⟩
  · rintro ⟨t, ht, rfl, h⟩
    exact ⟨t, ht, List.mem_map.mpr ⟨i, List.mem_range.mpr h, rfl⟩⟩
theorem noL_nr (x : Str × Nat) : noL (nrD x) = true := rfl
theorem noL_tb_k (t : Tb) : noL t.k = true := noL_k t
theorem LD.ext {K : PySem.W.Frag} {H H' : Hp} {l : Addr} {ds : List PyData} (h : LD K H l ds) (e : LamX.ExtN H H') : LD K H' l ds := by
  obtain ⟨xs, h1, h2⟩ := h
  exact ⟨xs, e _ _ h1 (fun ps z => by cases z), dpsd (SD.ext e) _ _ h2⟩
theorem LD.st {K : PySem.W.Frag} {H H' : Hp} {l : Addr} {ds : List PyData} (h : LD K H l ds) (e : ST H H') (n : noLs ds = true) (f : H' l = H l) : LD K H' l ds := by
  obtain ⟨xs, h1, h2⟩ := h
  exact ⟨xs, by rw [f, h1], dpst e _ _ n h2⟩
theorem name_ok {x : Str} (h : isName x = true) : PyData.strOk x = true ∧ x.length ≤ 8 := by
  unfold isName at h
  rw [Bool.and_eq_true, Bool.and_eq_true] at h
  refine ⟨?_, by have := of_decide_eq_true h.1.2; omega⟩
  unfold PyData.strOk
  rw [Array.all_eq_true_iff_forall_mem]
  intro c hc
  have z := List.all_eq_true.mp h.2 c (Array.mem_toList_iff.mpr hc)
  unfold okSign at z
  rw [Bool.and_eq_true] at z
  have z2 : ¬ ([122] < [c]) := by simpa using z.2
  have : ¬ (122 < c) := fun q => z2 (by rw [List.cons_lt_cons_iff]; exact Or.inl q)
  exact decide_eq_true (by omega)
structure Lay (d : PyData) (k : Nat) : Prop where
  lay : d.canLay0 = true
  dep : d.depth ≤ k
structure LayA (ds : List PyData) (k : Nat) : Prop where
  lay : PyData.canLayAll0 ds = true
  dep : PyData.depthAll ds ≤ k
theorem LayA.nil {k : Nat} : LayA [] k := ⟨by simp [PyData.canLayAll0], by simp [PyData.depthAll]⟩
theorem LayA.cons {d : PyData} {ds : List PyData} {k : Nat} (h : Lay d k) (t : LayA ds k) : LayA (d :: ds) k := ⟨by simp [PyData.canLayAll0, h.lay, t.lay], by simp only [PyData.depthAll]; have := h.dep; have := t.dep; omega⟩
theorem LayA.map {α : Type} {f : α → PyData} {k : Nat} : ∀ {xs : List α}, (∀ x ∈ xs, Lay (f x) k) → LayA (xs.map f) k
  | [], _ => .nil
  | x :: xs, h => .cons (h x List.mem_cons_self) (LayA.map fun y hy => h y (List.mem_cons_of_mem _ hy))
theorem Lay.int {i : Int} {k : Nat} : Lay (.int i) k := ⟨by simp [PyData.canLay0], by simp [PyData.depth]⟩
theorem Lay.str {x : Str} {k : Nat} (h : PyData.strOk x = true) : Lay (.str x) k := ⟨by simpa [PyData.canLay0] using h, by simp [PyData.depth]⟩
theorem Lay.list {ds : List PyData} {k : Nat} (h : LayA ds k) : Lay (.list ds) (k + 1) := ⟨by simp [PyData.canLay0, h.lay], by simp only [PyData.depth]; have := h.dep; omega⟩
theorem Lay.tup {ds : List PyData} {k : Nat} (h : LayA ds k) : Lay (.tuple ds) (k + 1) := ⟨by simp [PyData.canLay0, h.lay], by simp only [PyData.depth]; have := h.dep; omega⟩
theorem Lay.shaped {d : PyData} {k : Nat} (h : Lay d k) (e : k ≤ 60) : SeqAt.shaped d = true := by
  unfold SeqAt.shaped
  rw [h.lay, decide_eq_true (Nat.le_trans h.dep (Nat.le_trans e (by decide)))]
  rfl
theorem lay_rd {d : Int} {r : Rd1} (h : isRead d r = true) : Lay r.d 2 := by
  unfold isRead at h
  rw [Bool.and_eq_true] at h
  exact .tup (.cons (.str (name_ok h.1).1) (.cons (.tup (.map fun _ _ => .int)) (.cons .int .nil)))
theorem lay_k {d : Int} {ts : List Tb} (O : OkT d ts) {t : Tb} (h : t ∈ ts) : Lay t.k 4 := .tup (.cons .int (.cons (.tup (.map fun r hr => lay_rd (O.reads t h r hr))) .nil))
theorem lay_tb {d : Int} {ts : List Tb} (O : OkT d ts) {t : Tb} (h : t ∈ ts) : Lay t.d 4 := .tup (.cons (.str (name_ok (O.names t h)).1) (.cons .int (.cons (.list (.map fun r hr => lay_rd (O.reads t h r hr))) .nil)))
theorem lay_nr {x : Str × Nat} (h : isName x.1 = true) : Lay (nrD x) 1 := .tup (.cons (.str (name_ok h).1) (.cons .int .nil))
theorem lay_named {d : Int} {ts : List Tb} (O : OkT d ts) {x : Str × Nat} (h : x ∈ named ts) : Lay (nrD x) 1 := by
  obtain ⟨t, ht, e, _⟩ := mem_named.mp (show (x.1, x.2) ∈ named ts from h)
  exact lay_nr (by rw [← e]; exact O.names t ht)
theorem eqv_nr (a b : Str × Nat) : PyData.eqv (nrD a) (nrD b) = decide (a = b) := by
  obtain ⟨x, i⟩ := a
  obtain ⟨y, j⟩ := b
  unfold nrD
  simp only [PyData.eqv, PyData.eqvAll, Bool.and_true]
  by_cases h1 : x = y
  · by_cases h2 : i = j
    · subst h1 h2
      simp
    · have : ¬ ((i : Int) = (j : Int)) := by omega
      simp [h2, this]
  · simp [h1]
theorem KvAt.ext {K : PySem.W.Frag} {H H' : Hp} (e : LamX.ExtN H H') {kvs : List (Key × V)} {ts : List Tb} (h : KvAt K H kvs ts) : KvAt K H' kvs ts := h.monoD (SD.ext e)
theorem SysAt.ext {K : PySem.W.Frag} {C : Addr} {H H' : Hp} {s : Addr} {d m : Int} {ts : List Tb} (e : LamX.ExtN H H') (h : SysAt K C H s d m ts) : SysAt K C H' s d m ts := by
  obtain ⟨dx, t, kvs, h1, h2, h3⟩ := h.ob
  exact ⟨dx, t, kvs, e _ _ h1 (fun ps z => by cases z), e _ _ h2 (fun ps z => by cases z), h3.ext e⟩
def tabEq (ts us : List Tb) : Bool := ts.length == us.length && ts.all fun t => match us.find? (fun u => decide (u.n = t.n)) with
  | none => false
  | some u => PyData.eqv t.k u.k
theorem kvEq_of {K : PySem.W.Frag} {H : Hp} {ls : List (Key × V)} {us : List Tb} (hl : KvAt K H ls us) (su : ∀ u ∈ us, SeqAt.shaped u.k = true) : ∀ {ks : List (Key × V)} {ts : List Tb}, KvAt K H ks ts → (∀ t ∈ ts, SeqAt.shaped t.k = true) →
    KvEq K H ls ks (ts.all fun t => match us.find? (fun u => decide (u.n = t.n)) with
      | none => false
      | some u => PyData.eqv t.k u.k)
  | [], _, h, _ => by
    cases h
    exact .nil
  | (k, v) :: ks, _, h, st => by
    cases h with
    | @cons _ t _ ts h1 h2 =>
      obtain ⟨e1, e2⟩ := h1
      have e1 : k = Sum.inr t.n := e1
      subst e1
      have ih := kvEq_of hl su h2 fun t ht => st t (List.mem_cons_of_mem _ ht)
      rw [List.all_cons]
      cases hf : us.find? (fun u => decide (u.n = t.n)) with
      | none =>
        refine .miss (hl.noVal fun hm => ?_)
        obtain ⟨u, hu, e⟩ := List.mem_map.mp hm
        have z := List.find?_eq_none.mp hf u hu
        exact z (decide_eq_true e)
      | some u =>
        obtain ⟨y, y1, y2⟩ := hl.get hf
        exact .hit y1 e2 y2 (st t List.mem_cons_self) (su u (List.mem_of_find?_eq_some hf)) ih
theorem find_nodup' {ts : List Tb} (hn : (ts.map (·.n)).Nodup) {t : Tb} (h : t ∈ ts) : ts.find? (fun u => decide (u.n = t.n)) = some t := find_nodup hn h rfl
theorem tabEq_refl {ts : List Tb} (hn : (ts.map (·.n)).Nodup) (st : ∀ t ∈ ts, SeqAt.shaped t.k = true) : tabEq ts ts = true := by
  unfold tabEq
  rw [Bool.and_eq_true]
  refine ⟨by simp, List.all_eq_true.mpr fun t ht => ?_⟩
  rw [find_nodup' hn ht]
  exact SeqAt.eqv_refl _ (SeqAt.canLay_of_shaped (st t ht))
end Fr

namespace Fr
open PySem PySem.Spec PyProof.Rows L2
theorem ltCps_iff : ∀ a b : List Nat, ltCps a b = true ↔ a < b
  | [], [] => by simp [ltCps]
  | [], b :: t => by simp [ltCps]
  | a :: r, [] => by simp [ltCps]
  | a :: r, b :: t => by
    rw [List.cons_lt_cons_iff, ← ltCps_iff r t]
    simp [ltCps]
theorem rising_pw : ∀ (l : List Str) (p : Str), risingS p l = true → (p :: l).Pairwise fun a b => a.cps.toList ≤ b.cps.toList
  | [], p, _ => by simp
  | x :: r, p, h => by
    unfold risingS at h
    rw [Bool.and_eq_true] at h
    have ih := rising_pw r x h.2
    have hx : p.cps.toList ≤ x.cps.toList := fun z => by
      have := (ltCps_iff x.cps.toList p.cps.toList).mpr z
      rw [this] at h
      exact Bool.noConfusion h.1
    rw [List.pairwise_cons]
    refine ⟨fun y hy => ?_, ih⟩
    rcases List.mem_cons.mp hy with rfl | hy
    · exact hx
    · exact List.le_trans hx ((List.pairwise_cons.mp ih).1 y hy)
theorem sorted_pw {l : List Str} (h : sortedS l = true) : l.Pairwise fun a b => a.cps.toList ≤ b.cps.toList := by
  cases l with
  | nil => exact .nil
  | cons x r => exact rising_pw r x h
theorem str_antisymm {a b : Str} (h : a.cps.toList ≤ b.cps.toList) (k : b.cps.toList ≤ a.cps.toList) : a = b := by
  have e := List.le_antisymm h k
  obtain ⟨a⟩ := a
  obtain ⟨b⟩ := b
  have e : a.toList = b.toList := e
  rw [Array.toList_inj.mp e]
theorem srt_pw (ts : List Tb) : ((srt ts).map (·.n)).Pairwise fun a b => a.cps.toList ≤ b.cps.toList := by
  rw [List.pairwise_map]
  have h := List.pairwise_mergeSort (le := leK Tb.n) (fun a b c h1 h2 => decide_eq_true (List.le_trans (of_decide_eq_true h1) (of_decide_eq_true h2))) (fun a b => by
    unfold leK
    rw [Bool.or_eq_true, decide_eq_true_eq, decide_eq_true_eq]
    exact List.le_total _ _) ts
  exact h.imp fun h => of_decide_eq_true h
theorem srt_perm (ts : List Tb) : (srt ts).Perm ts := List.mergeSort_perm ts (leK Tb.n)
theorem sorted_names {ys : List Str} {ts : List Tb} (p : ys.Perm (ts.map (·.n))) (h : sortedS ys = true) : ys = (srt ts).map (·.n) :=
  List.Perm.eq_of_pairwise (fun _ _ _ _ h k => str_antisymm h k) (sorted_pw h) (srt_pw ts) (p.trans ((srt_perm ts).map (·.n)).symm)
/-- one order alone -/
theorem srt_same {ts us : List Tb} (p : ts.Perm us) (n : (ts.map (·.n)).Nodup) : srt ts = srt us := by
  have e : (srt ts).map (·.n) = (srt us).map (·.n) := List.Perm.eq_of_pairwise (fun _ _ _ _ h k => str_antisymm h k) (srt_pw ts) (srt_pw us) ((((srt_perm ts).trans p).trans (srt_perm us).symm).map (·.n))
  have hp : (srt ts).Perm (srt us) := ((srt_perm ts).trans p).trans (srt_perm us).symm
  have hl : (srt ts).length = (srt us).length := hp.length_eq
  refine List.ext_getElem? fun i => ?_
  cases h : (srt ts)[i]? with
  | none =>
    rw [List.getElem?_eq_none_iff] at h
    rw [List.getElem?_eq_none (by omega)]
  | some t =>
    have hi : i < (srt us).length := by
      have := (List.getElem?_eq_some_iff.mp h).1
      omega
    rw [List.getElem?_eq_getElem hi]
    have h1 : ((srt us).map (·.n))[i]? = some t.n := by rw [← e, List.getElem?_map, h]; rfl
    rw [List.getElem?_map, List.getElem?_eq_getElem hi] at h1
    have h2 : ((srt us)[i]).n = t.n := Option.some.inj h1
    have m1 : t ∈ srt us := hp.mem_iff.mp (List.mem_of_getElem? h)
    have m2 : (srt us)[i] ∈ srt us := List.getElem_mem hi
    have nn : ((srt us).map (·.n)).Nodup := (((srt_perm us).trans p.symm).map (·.n)).nodup_iff.mpr n
    have f1 := find_nodup (x := t.n) nn m1 rfl
    have f2 := find_nodup (x := t.n) nn m2 h2
    rw [f1] at f2
    exact f2
end Fr

namespace Fr
open PySem PySem.Spec PyProof.Rows L2
abbrev s_System_len : Stmt := inClass (topS 20) 1
theorem sc_System_len : FnScope ["self"] ["self"] (defScope s_System_len) := ⟨rfl, rfl, rfl, by decide +kernel, rfl, by decide +kernel, by decide +kernel⟩
-- slots: 0 self
abbrev s_System_eq : Stmt := inClass (topS 20) 2
theorem sc_System_eq : FnScope ["self", "other"] ["self", "other"] (defScope s_System_eq) := ⟨rfl, rfl, rfl, by decide +kernel, rfl, by decide +kernel, by decide +kernel⟩
-- slots: 0 self, 1 other
abbrev s_System_constant : Stmt := inClass (topS 20) 6
theorem sc_System_constant : FnScope ["self", "name"] ["self", "name"] (defScope s_System_constant) := ⟨rfl, rfl, rfl, by decide +kernel, rfl, by decide +kernel, by decide +kernel⟩
-- slots: 0 self, 1 name
abbrev s_System_all_reads : Stmt := inClass (topS 20) 8
theorem sc_System_all_reads : FnScope ["self", "name", "number"] ["self"] (defScope s_System_all_reads) := ⟨rfl, rfl, rfl, by decide +kernel, rfl, by decide +kernel, by decide +kernel⟩
-- slots: 0 self, 1 name, 2 number
abbrev s_Systemwith_tables : Stmt := inClass (topS 20) 15
theorem sc_Systemwith_tables : FnScope ["self", "tables", "made", "name"] ["self", "tables"] (defScope s_Systemwith_tables) := ⟨rfl, rfl, rfl, by decide +kernel, rfl, by decide +kernel, by decide +kernel⟩
-- slots: 0 self, 1 tables, 2 made, 3 name
section
variable {P : Program} {w : World} {K : PySem.W.Frag} {mg : Str → Option Value} {base : Heap}
def spLenS (K : PySem.W.Frag) (C : Addr) : Sp := fun vs H Q _ => ∃ (s : Addr) (d m : Int) (ts : List Tb), vs = [.ref s] ∧ SysAt K C H s d m ts ∧ Q (.int (ts.length : Nat)) H
theorem ok_lenS {f C : Addr} {fd : FuncData} (F : Fun K "__len__" "System.__len__" s_System_len f fd) (T : Txt mg) (TC : TxtC K mg C) : FnOk P w K mg base CX0 1 f fd ["self"] (spLenS K C) := by
  refine F.ok sc_System_len (fun vs H Q E h => ?_) (fun cdv A outer s H vs Q E hr h => ?_)
  · obtain ⟨s, d, m, ts, rfl, _⟩ := h
    rfl
  · obtain ⟨s, d, m, ts, rfl, S, q⟩ := h
    refine ⟨_, (pss_one (ps_ret (pe_callB call_lenD (by rfl) T.b_len PySem.boot_len (pa_cons (pe_fld (pv 0) rfl) pa_nil)))), ?_⟩
    obtain ⟨dx, t, kvs, h1, h2, h3⟩ := S.ob
    refine ⟨_, rfl, s, C, dx, _, _, rfl, h1, TC.cl, TC.nT, flds_t _ _ _, t, kvs, rfl, h2, ?_⟩
    rw [h3.len]
    exact q
def spSysEq (K : PySem.W.Frag) (C : Addr) : Sp := fun vs H Q _ => ∃ (a b : Addr) (d m d' m' : Int) (ts us : List Tb), vs = [.ref a, .ref b] ∧ SysAt K C H a d m ts ∧ SysAt K C H b d' m' us ∧ (∀ t ∈ ts, SeqAt.shaped t.k = true) ∧ (∀ t ∈ us, SeqAt.shaped t.k = true) ∧
  Q (.bl (decide (d = d') && (decide (m = m') && tabEq ts us))) H
theorem dec_int (a b : Int) : decide (V.int a = V.int b) = decide (a = b) := decide_eq_decide.mpr ⟨fun h => V.int.inj h, fun h => congrArg V.int h⟩
theorem ok_eqS {f C : Addr} {fd : FuncData} (F : Fun K "__eq__" "System.__eq__" s_System_eq f fd) (T : Txt mg) (TC : TxtC K mg C) (zi : mg "isinstance" = none) (isC : C8.InsC K C) : FnOk P w K mg base CX0 1 f fd ["self", "other"] (spSysEq K C) := by
  refine F.ok sc_System_eq (fun vs H Q E h => ?_) (fun cdv A outer s H vs Q E hr h => ?_)
  · obtain ⟨a, b, d, m, d', m', ts, us, rfl, _⟩ := h
    rfl
  · obtain ⟨a, b, d, m, d', m', ts, us, rfl, S, S', st, su, q⟩ := h
    refine ⟨_, (pss_one (ps_ret (pe_and (pe_callB (C8.call_isC isC) (by rfl) zi (by decide +kernel) (pa_cons (pv 1) (pa_cons (pe_glob (v := .ref C) (by rfl) TC.g_System rfl) pa_nil))) (pe_and (pe_cmpR op_eq (pe_fld (pv 0) rfl) (pe_fld (pv 1) rfl) (nomark _)) (pe_and (pe_cmpR op_eq (pe_fld (pv 0) rfl) (pe_fld (pv 1) rfl) (nomark _)) (pe_one (pe_cmpR (op_eqKv hr.units1) (pe_fld (pv 0) rfl) (pe_fld (pv 1) rfl) (nomark _)))))))), ?_⟩
    obtain ⟨dx, t, kvs, h1, h2, h3⟩ := S.ob
    obtain ⟨dx', t', kvs', h1', h2', h3'⟩ := S'.ob
    refine ⟨_, rfl, b, dx', _, rfl, h1', _, rfl, iteT ?_⟩
    refine ⟨_, rfl, a, C, dx, _, _, rfl, h1, TC.cl, TC.nD, flds_d _ _ _, _, rfl, b, C, dx', _, _, rfl, h1', TC.cl, TC.nD, flds_d _ _ _, rfl, _, rfl, ?_⟩
    rw [dec_int]
    cases e1 : decide (d = d') with
    | false =>
      rw [e1] at q
      exact iteF q
    | true =>
      rw [e1, Bool.true_and] at q
      refine iteT ?_
      refine ⟨_, rfl, a, C, dx, _, _, rfl, h1, TC.cl, TC.nM, flds_m _ _ _, _, rfl, b, C, dx', _, _, rfl, h1', TC.cl, TC.nM, flds_m _ _ _, rfl, _, rfl, ?_⟩
      rw [dec_int]
      cases e2 : decide (m = m') with
      | false =>
        rw [e2] at q
        exact iteF q
      | true =>
        rw [e2, Bool.true_and] at q
        refine iteT ?_
        refine ⟨_, rfl, a, C, dx, _, _, rfl, h1, TC.cl, TC.nT, flds_t _ _ _, _, rfl, b, C, dx', _, _, rfl, h1', TC.cl, TC.nT, flds_t _ _ _, t, t', kvs, kvs', _, rfl, rfl, h2, h2', fun _ => kvEq_of h3' su h3 st, ?_⟩
        unfold tabEq at q
        rw [h3.len, h3'.len]
        exact q
def spConst (K : PySem.W.Frag) (C : Addr) : Sp := fun vs H Q _ => ∃ (s : Addr) (d m : Int) (ts : List Tb) (x : Str) (tb : Tb), vs = [.ref s, .str x] ∧ SysAt K C H s d m ts ∧ x ∈ ts.map (·.n) ∧ ts.find? (fun t => decide (t.n = x)) = some tb ∧ ∀ H', Same H H' → Q (.int tb.c) H'
theorem ok_const {f C : Addr} {fd : FuncData} (F : Fun K "constant" "System.constant" s_System_constant f fd) (T : Txt mg) (TC : TxtC K mg C) (c_check_table : C8.Cal P w K mg base 3 "check_table" (spCheckTable K C) []) : FnOk P w K mg base CX0 4 f fd ["self", "name"] (spConst K C) := by
  refine F.ok sc_System_constant (fun vs H Q E h => ?_) (fun cdv A outer s H vs Q E hr h => ?_)
  · obtain ⟨s, d, m, ts, x, tb, rfl, _⟩ := h
    rfl
  · obtain ⟨s, d, m, ts, x, tb, rfl, S, hx, hf, q⟩ := h
    have hu := hu_of hr
    refine ⟨_, (pss_cons (ps_expr (C8.pe_c c_check_table hr (by decide) (by rfl) (pa_cons (pv 0) (pa_cons (pv 1) pa_nil))))
  (pss_one (ps_ret (pe_ix ix_tup (pe_dget hu (pe_fld (pv 0) rfl) (pv 1) (fun _ _ => rfl)) pe_int (fun _ _ => rfl))))), ?_⟩
    refine ⟨_, rfl, _, rfl, s, d, m, ts, x, rfl, S, hx, fun H1 sm => ?_⟩
    obtain ⟨dx, t, kvs, h1, h2, h3⟩ := (S.mono sm).ob
    obtain ⟨v, e1, e2⟩ := h3.get hf
    obtain ⟨a, ys, rfl, ht, hd⟩ := dtup e2
    obtain ⟨y1, y2, rfl, g1, g2⟩ := dps2 hd
    obtain rfl := dint g1
    refine ⟨_, rfl, s, C, dx, _, _, rfl, h1, TC.cl, TC.nT, flds_t _ _ _, _, rfl, t, _, rfl, ?_, a, _, 0, _, rfl, rfl, ht, rfl, q H1 sm⟩
    have g := DGet.k (k := Sum.inr x) h2
    rw [e1] at g
    exact g
def spAll (K : PySem.W.Frag) (C : Addr) : Sp := fun vs H Q _ => ∃ (s : Addr) (d m : Int) (ts : List Tb), vs = [.ref s] ∧ SysAt K C H s d m ts ∧ (ts.map (·.n)).Nodup ∧ (ts.map fun t => t.rs.length).sum ≤ 1000 ∧ ∀ p H', H p = none → Same H H' → LD K H' p ((named ts).map nrD) → Q (.ref p) H'
theorem DGet.frz {H : Hp} {a : Addr} {o : PySem.Obj} {kvs : List (Key × V)} {k : Key} (e : H a = some (.frz o (.dK kvs))) : DGet H a (kV k) (valV kvs k) := .inl ⟨kvs, k, .inr ⟨o, e⟩, rfl, rfl⟩
theorem kv_at {H : Hp} : ∀ {kvs : List (Key × V)} {ts : List Tb} {i : Nat} {k : Key} {v : V}, KvAt K H kvs ts → kvs[i]? = some (k, v) → ∃ t, ts[i]? = some t ∧ k = Sum.inr t.n ∧ Dp K H v t.k
  | [], _, _, _, _, h, e => by cases e
  | p :: kvs, _, 0, k, v, h, e => by
    cases h with
    | cons h1 h2 =>
      cases e
      exact ⟨_, rfl, h1⟩
  | p :: kvs, _, i + 1, k, v, h, e => by
    cases h with
    | cons h1 h2 => exact kv_at (i := i) h2 (by simpa using e)
theorem st_upd {H : Hp} {t : Addr} {u v : HO} (h : H t = some u) (n : tupo u = false) : ST H (upd H t v) := fun b o e d => by
  have hb : b ≠ t := fun z => by
    rw [z, h] at e
    cases e
    rw [n] at d
    cases d
  rw [upd_ne hb]
  exact e
theorem ok_all {f C : Addr} {fd : FuncData} (F : Fun K "all_reads" "System.all_reads" s_System_all_reads f fd) (T : Txt mg) (TC : TxtC K mg C) : FnOk P w K mg base CX0 1 f fd ["self"] (spAll K C) := by
  refine F.ok sc_System_all_reads (fun vs H Q E h => ?_) (fun cdv A outer sh H vs Q E hr h => ?_)
  · obtain ⟨s, d, m, ts, rfl, _⟩ := h
    rfl
  · obtain ⟨s, d, m, ts, rfl, S, hn, hfew, q⟩ := h
    have hu := hu_of hr
    refine ⟨_, (pss_one (ps_ret (pe_lock (pe_lc2 (own := [("name", 1), ("number", 2)]) (vs1 := [2]) (g := gName 1) (g1 := gName 2) (tt := tYes) (tt1 := tYes) (by rfl) sc_System_all_reads.nd (pi_keys (pe_fld (pv 0) rfl)) (blkOk_by (N := ["self", "name", "number"]) (sc := defScope s_System_all_reads) (by decide +kernel)) (by decide) (fun _ _ _ _ _ => (pg_name (i := 1) sc_System_all_reads.nd rfl (by first | exact Or.inl rfl | exact Or.inr rfl))) (fun _ _ _ _ _ => pts_nil) (fun _ _ _ _ _ => (pi_range1 (by rfl) T.b_range (pa_cons (pe_callB (r := Evl.rLenS K) call_len_seq (by rfl) T.b_len PySem.boot_len (pa_cons (pe_ix (r := rIxT K) ix_tup (pe_dget hu (pe_fldK (K' := K) (pv 0)) (pv 1) (fun _ _ => rfl)) pe_int (fun _ _ => rfl)) pa_nil)) pa_nil))) (fun _ _ _ _ _ => (pg_name (i := 2) sc_System_all_reads.nd rfl (by first | exact Or.inl rfl | exact Or.inr rfl))) (fun _ _ _ _ _ => pts_nil) (fun _ _ _ _ _ => (pe_tup (pa_cons (pv 1) (pa_cons (pv 2) pa_nil)))))))), ?_⟩
    obtain ⟨dx, t, kvs, h1, h2, h3⟩ := S.ob
    have nst : s ≠ t := fun z => by
      rw [z, h2] at h1
      cases h1
    refine ⟨t, .dK kvs, h2, True.intro, fun od => ?_⟩
    have l1 : (upd H t (.frz od (.dK kvs))) s = some (.ins C dx (flds d m t)) := by rw [upd_ne nst]; exact h1
    have l2 : (upd H t (.frz od (.dK kvs))) t = some (.frz od (.dK kvs)) := upd_same
    have l3 : KvAt K (upd H t (.frz od (.dK kvs))) kvs ts := kvt (st_upd h2 rfl) h3
    have back : ∀ H', Same (upd H t (.frz od (.dK kvs))) H' → Same H (upd H' t (.dK kvs)) := fun H' e => unlock h2 e
    generalize hL : upd H t (.frz od (.dK kvs)) = HL at l1 l2 l3 back
    refine ⟨_, rfl, s, C, dx, _, _, rfl, l1, TC.cl, TC.nT, flds_t _ _ _, t, od, rfl, Or.inl ⟨kvs, l2, fun D hD => ?_⟩⟩
    refine lc2_it (walk_keys (o := od) (d := t) (kvs := kvs)) (fun i H' => ∃ (B : Hp) (xs : List V), Same HL B ∧ B D = none ∧ Same B H' ∧ H' D = some (.lst xs) ∧ DpAll K B xs ((named (ts.take i)).map nrD))
      ⟨HL, [], same_refl, hD, snew hD, upd_same, .nil⟩ (fun i H' _ ⟨B, xs, b1, _, b3, _⟩ => b3 _ _ (b1 _ _ l2)) ?_ ?_
    · rintro i x Hi _ hi ⟨B, xs, b1, b2, b3, b4, b5⟩ ⟨rfl, k, v, hk, rfl⟩ Nx hNx
      obtain ⟨tb, ht, rfl, hv⟩ := kv_at l3 hk
      have hf := find_nodup' hn (List.mem_of_getElem? ht)
      obtain ⟨v', e1, e2⟩ := l3.get hf
      have sBi := same_tr b1 b3
      refine ⟨rfl, yes_if ?_⟩
      obtain ⟨a, ys, rfl, hta, hda⟩ := dtup (dpm sBi _ _ e2)
      obtain ⟨y1, y2, rfl, g1, g2⟩ := dps2 hda
      obtain ⟨b, zs, rfl, htb, hdb⟩ := dtup g2
      have hzl : zs.length = tb.rs.length := by rw [dps_len hdb, List.length_map]
      have hrl : tb.rs.length ≤ 1000 := Nat.le_trans (mem_le_sum (f := fun t : Tb => t.rs.length) (List.mem_of_getElem? ht)) hfew
      refine ⟨_, rfl, s, C, dx, _, _, rfl, sBi _ _ l1, TC.cl, TC.nT, flds_t _ _ _, _, rfl, t, _, rfl, ?_, a, _, 1, _, rfl, rfl, hta, rfl, b, zs, rfl, Or.inr htb, (zs.length : Int), rfl, by omega, by omega, ?_⟩
      · have g := DGet.frz (k := Sum.inr tb.n) (sBi _ _ l2)
        rw [e1] at g
        exact g
      · have htn : ((zs.length : Int)).toNat = tb.rs.length := by omega
        rw [htn]
        refine in2_it walk_range (fun j H' => ∃ (B : Hp) (xs : List V), Same HL B ∧ B D = none ∧ Same B H' ∧ H' D = some (.lst xs) ∧ DpAll K B xs ((named (ts.take i) ++ (List.range j).map fun n => (tb.n, n)).map nrD))
          ⟨B, xs, b1, b2, b3, b4, by rw [List.range_zero, List.map_nil, List.append_nil]; exact b5⟩ (fun _ _ _ _ => True.intro) ?_ ?_
        · rintro j y _ Hj hj ⟨B2, xs2, c1, c2, c3, c4, c5⟩ ⟨rfl, rfl⟩
          refine ⟨rfl, yes_if ?_⟩
          refine ⟨_, rfl, _, rfl, (by show 2 ≤ sizeLine; decide), fun u hu2 => ?_⟩
          have nu : u ≠ D := fun z => by
            rw [z, c4] at hu2
            cases hu2
          have bu := free_of c3 hu2
          have c3' : Same (upd B2 u (.tup [.str tb.n, .int (0 + (j : Int))])) (upd Hj u (.tup [.str tb.n, .int (0 + (j : Int))])) := sgrow c3
          have bD : (upd B2 u (.tup [.str tb.n, .int (0 + (j : Int))])) D = none := by
            rw [upd_ne nu.symm]
            exact c2
          have hxl : xs2.length ≤ 2000 := by
            rw [dps_len c5, List.length_map, List.length_append, named_len, List.length_map, List.length_range]
            have e := congrArg (fun l : List Tb => (l.map fun t => t.rs.length).sum) (List.take_append_drop i ts)
            simp only [List.map_append, List.sum_append] at e
            omega
          refine ⟨xs2, by rw [upd_ne nu.symm]; exact c4, Nat.lt_of_le_of_lt hxl (by rw [sizeLine_eq]; decide), _, xs2 ++ [.ref u], same_tr c1 (snew bu), bD, swrite c3' bD, upd_same, ?_⟩
          have e : named (ts.take i) ++ (List.range (j + 1)).map (fun n => (tb.n, n)) = (named (ts.take i) ++ (List.range j).map fun n => (tb.n, n)) ++ [(tb.n, j)] := by
            rw [List.range_succ, List.map_append, List.append_assoc]
            rfl
          rw [e, List.map_append]
          refine dps_snoc (dpsm (snew bu) _ _ c5) (.tup (Or.inl (Or.inl upd_same)) (.cons (.str _) (.cons ?_ .nil)))
          rw [Int.zero_add]
          exact .int _
        · rintro H' ⟨B2, xs2, c1, c2, c3, c4, c5⟩
          refine hNx _ ⟨B2, xs2, c1, c2, c3, c4, ?_⟩
          rw [named_take ht]
          exact c5
    · rintro H' ⟨B, xs, b1, b2, b3, b4, b5⟩
      have hlt : kvs.length = ts.length := h3.len
      rw [hlt, List.take_length] at b5
      have tD : D ≠ t := fun z => by
        rw [z, l2] at hD
        cases hD
      refine ⟨b3 _ _ (b1 _ _ l2), q D _ ?_ (back _ (same_tr b1 b3)) ⟨xs, by rw [upd_ne tD]; exact b4, dpst (st_unlock b3 (b1 _ _ l2) rfl) _ _ (noLs_map noL_nr _) b5⟩⟩
      rw [← hL, upd_ne tD] at hD
      exact hD
end
end Fr

namespace Fr
open PySem PySem.Spec PyProof.Rows L2
theorem putF_flds (d m : Int) (t t' : Addr) : putF "_tables" (.ref t') (flds d m t) = flds d m t' := by
  unfold flds
  simp only [putF, if_neg nDM, if_neg nDT, if_neg nMT, if_true]
def bare : Tb := ⟨"a", 0, []⟩
theorem bare_ok {d m : Int} (h1 : 1 ≤ d) (h3 : d ≤ 3) (hm : 2 ≤ m) : OkSys d m [bare] :=
  ⟨h1, h3, hm, by decide, by decide, ⟨(by intro t ht; rw [List.mem_singleton.mp ht]; decide +kernel), (by simp), (by decide), (by intro t ht r hr; rw [List.mem_singleton.mp ht] at hr; cases hr), (by intro t ht r hr; rw [List.mem_singleton.mp ht] at hr; cases hr)⟩⟩
theorem keys_kv {K : PySem.W.Frag} {H : Hp} : ∀ {kvs : List (Key × V)} {ts : List Tb}, KvAt K H kvs ts → kvs.map (·.1) = (ts.map (·.n)).map Sum.inr
  | [], _, h => by cases h; rfl
  | p :: kvs, _, h => by
    cases h with
    | cons h1 h2 =>
      rw [List.map_cons, List.map_cons, List.map_cons, keys_kv h2, h1.1]
section
variable {P : Program} {w : World} {K : PySem.W.Frag} {mg : Str → Option Value} {base : Heap}
def spWith (K : PySem.W.Frag) (C : Addr) (TT : List (Addr × Str)) : Sp := fun vs H Q _ => ∃ (s t : Addr) (d m : Int) (ts us : List Tb) (kvs : List (Key × V)), vs = [.ref s, .ref t] ∧ SysAt K C H s d m ts ∧ 1 ≤ d ∧ d ≤ 3 ∧ 2 ≤ m ∧ H t = some (.dK kvs) ∧ KvAt K H kvs us ∧ (us.map (·.n)).Nodup ∧ us.length ≤ 60 ∧ LamX.Tabs TT H ∧
  ∀ x H', H x = none → LamX.ExtN H H' → LamX.Tabs TT H' → SysAt K C H' x d m (srt us) → Q (.ref x) H'
theorem ok_with {f C : Addr} {fd : FuncData} {TT : List (Addr × Str)} (F : Fun K "_with_tables" "System._with_tables" s_Systemwith_tables f fd) (T : Txt mg) (TC : TxtC K mg C) (m_System3 : C8.Mak P w K mg base 5 "System" C (spInit K C TT) []) : FnOk P w K mg base CX0 7 f fd ["self", "tables"] (spWith K C TT) := by
  refine F.ok sc_Systemwith_tables (fun vs H Q E h => ?_) (fun cdv A outer sh H vs Q E hr h => ?_)
  · obtain ⟨s, t, d, m, ts, us, kvs, rfl, _⟩ := h
    rfl
  · obtain ⟨s, t, d, m, ts, us, kvs, rfl, S, hd1, hd3, hm2, ht, hkv, hnd, hlen, hT, q⟩ := h
    have hu := hu_of hr
    refine ⟨_, (pss_cons (ps_set (i := 2) sc_Systemwith_tables.nd rfl (by first | exact Or.inl rfl | exact Or.inr rfl) (C8.pe_mk m_System3 hr (by decide) (by rfl) (pa_cons (pe_fld (pv 0) rfl) (pa_cons (pe_lst (pa_cons (pe_tup (pa_cons pe_str (pa_cons pe_int (pa_cons (pe_lst pa_nil) pa_nil)))) pa_nil)) (pa_cons (pe_fld (pv 0) rfl) pa_nil)))))
  (pss_cons (ps_fld (pv 2) (pe_dc (own := [("name", 3)]) (g := gName 3) (tt := tYes) (by rfl) sc_Systemwith_tables.nd (pi_list (pe_callB (call_sortedD rfl) (by rfl) T.b_sorted (by decide +kernel) (pa_cons (pv 1) pa_nil))) (blkOk_by (N := ["self", "tables", "made", "name"]) (sc := defScope s_Systemwith_tables) (by decide +kernel)) (fun _ _ _ _ _ => (pg_name (i := 3) sc_Systemwith_tables.nd rfl (by first | exact Or.inl rfl | exact Or.inr rfl))) (fun _ _ _ _ _ => pts_nil) (fun _ _ _ _ _ => (pv 3)) (fun _ _ _ _ _ => (pe_dget hu (pv 1) (pv 3) (fun _ _ => rfl)))) rfl)
  (pss_one (ps_ret (pv 2))))), ?_⟩
    obtain ⟨dx, tt, kvs0, h1, h2, h3⟩ := S.ob
    -- made = System(..)
    refine ⟨_, rfl, s, C, dx, _, _, rfl, h1, TC.cl, TC.nD, flds_d _ _ _, Nat.zero_le _, fun l0 hl0 => ⟨(by show 3 ≤ sizeLine; decide), fun t0 ht0 => ⟨(by show 1 ≤ sizeLine; decide), fun l1 hl1 => ?_⟩⟩⟩
    have s1 : Same H (upd (upd (upd H l0 (.lst [])) t0 (.tup [.str "a", .int 0, .ref l0])) l1 (.lst [.ref t0])) := same_tr (snew hl0) (same_tr (snew ht0) (snew hl1))
    have D1 : Dp K (upd (upd (upd H l0 (.lst [])) t0 (.tup [.str "a", .int 0, .ref l0])) l1 (.lst [.ref t0])) (.ref l1) (.list ([bare].map Tb.d)) := by
      refine .lst (Or.inl (Or.inl upd_same)) (.cons (.tup (Or.inl (Or.inl (snew hl1 _ _ upd_same))) (.cons (.str _) (.cons (.int _) (.cons (.lst (Or.inl (Or.inl (snew hl1 _ _ (snew ht0 _ _ upd_same)))) .nil) .nil)))) .nil)
    generalize upd (upd (upd H l0 (.lst [])) t0 (.tup [.str "a", .int 0, .ref l0])) l1 (.lst [.ref t0]) = H1 at s1 D1
    refine ⟨_, rfl, s, C, dx, _, _, rfl, s1 _ _ h1, TC.cl, TC.nM, flds_m _ _ _, fun x dx2 nx ndx nex => ?_⟩
    have sx : Same H1 (upd (upd H1 dx2 (.own x)) x (.ins C dx2 [])) := same_tr (snew ndx) (snew (by rw [upd_ne nex.symm]; exact nx))
    refine ⟨x, dx2, d, m, .ref l1, [bare], rfl, upd_same, (hT.ext s1).ext sx, bare_ok hd1 hd3 hm2, dpm sx _ _ D1, fun H2 E2 hT2 S2 => ⟨rfl, ?_⟩⟩
    have xH : H x = none := free_of s1 nx
    have e2 : LamX.ExtN H H2 := fun b o e n => E2 b o (sx b o (s1 b o e)) (ne_of_none (s1 b o e) nx) n
    obtain ⟨dx3, t3, kvs3, o1, o2, o3⟩ := S2.ob
    have ht2 := e2 _ _ ht (fun ps z => by cases z)
    have hk2 := hkv.ext e2
    -- sorted(tables)
    refine ⟨_, rfl, t, kvs, us.map (·.n), rfl, Or.inl ht2, keys_kv hk2, by rw [List.length_map]; omega, fun ys p perm so hp => ?_⟩
    have ey := sorted_names perm so
    have sl : (srt us).length = us.length := List.length_mergeSort _
    have nds : ((srt us).map (·.n)).Nodup := ((srt_perm us).map (·.n)).nodup_iff.mpr hnd
    have s3 : Same H2 (upd H2 p (.lst (ys.map V.str))) := snew hp
    have hyl : (ys.map V.str).length = us.length := by rw [List.length_map, ey, List.length_map, sl]
    refine ⟨p, rfl, ⟨_, Or.inl (Or.inl upd_same)⟩, fun D hD => dc_it (walk_list (K := K) (a := p) (xs := ys.map V.str)) (fun i H' => ∃ kvs', Same (upd H2 p (.lst (ys.map V.str))) (upd H' D (.dK kvs')) ∧ H' D = some (.dK kvs') ∧ KvAt K H2 kvs' ((srt us).take i) ∧ ∀ b, b ≠ D → (upd H2 p (.lst (ys.map V.str))) b = H' b)
      ⟨[], fun b o e => by rw [upd_ne (ne_of_none e hD), upd_ne (ne_of_none e hD)]; exact e, upd_same, .nil, fun b hb => (upd_ne hb).symm⟩ (fun i H' _ ⟨kvs', b1, b2, _, b4⟩ => Or.inl (Or.inl (by rw [← b4 p fun z => by rw [← z, upd_same] at hD; cases hD]; exact upd_same))) ?_ ?_⟩
    · rintro i y _ Hi hi ⟨kvs', b1, b2, b3, b4⟩ ⟨rfl, hy⟩
      rw [List.getElem?_map, ey, List.getElem?_map] at hy
      obtain ⟨z, hz, rfl⟩ := Option.map_eq_some_iff.mp hy
      obtain ⟨u, hu1, rfl⟩ := Option.map_eq_some_iff.mp hz
      have humem : u ∈ us := (srt_perm us).mem_iff.mp (List.mem_of_getElem? hu1)
      have hf := find_nodup' hnd humem
      obtain ⟨v, e1, e3⟩ := hk2.get hf
      have tD : t ≠ D := ne_of_none (s3 _ _ ht2) hD
      have htI : Hi t = some (.dK kvs) := by rw [← b4 t tD]; exact s3 _ _ ht2
      refine ⟨rfl, yes_if ?_⟩
      refine ⟨_, rfl, _, rfl, _, rfl, t, v, rfl, ?_, kvs', Sum.inr u.n, rfl, b2, ?_, ?_⟩
      · have g := DGet.k (k := Sum.inr u.n) htI
        rw [e1] at g
        exact g
      · have : kvs'.length ≤ 60 := by
          rw [b3.len, List.length_take]
          omega
        exact Nat.lt_of_le_of_lt this (by rw [sizeLine_eq]; decide)
      · have hno : valV kvs' (Sum.inr u.n) = none := b3.noVal (by
          rw [List.map_take]
          exact notin_take nds (by rw [List.getElem?_map, hu1]; rfl))
        rw [putK_new _ hno]
        refine ⟨kvs' ++ [(Sum.inr u.n, v)], fun b o e => ?_, upd_same, ?_, fun b hb => by rw [upd_ne hb]; exact b4 b hb⟩
        · have hb : b ≠ D := ne_of_none e hD
          rw [upd_ne hb, upd_ne hb, ← b4 b hb]
          exact e
        · rw [List.take_add_one, hu1]
          exact b3.app (.cons ⟨rfl, e3⟩ .nil)
    · rintro Hf ⟨kvs', b1, b2, b3, b4⟩
      rw [hyl, ← sl, List.take_length] at b3
      have xD : x ≠ D := ne_of_none (s3 _ _ o1) hD
      have hxf : Hf x = some (.ins C dx3 (flds d m t3)) := by rw [← b4 x xD]; exact s3 _ _ o1
      refine ⟨_, rfl, x, C, dx3, _, rfl, hxf, TC.cl, TC.nT, (by show 3 < 1000; decide), _, rfl, ?_⟩
      rw [putF_flds]
      have sf : Same H2 Hf := fun b o e => by
        have hb : b ≠ D := ne_of_none (s3 _ _ e) hD
        rw [← b4 b hb]
        exact s3 _ _ e
      refine q x _ xH (fun b o e n => ?_) (tabs_ins (hT2.ext sf) hxf) ⟨dx3, D, kvs', upd_same, by rw [upd_ne xD.symm]; exact b2, b3.monoD (SD.upd (.of sf) hxf rfl)⟩
      rw [upd_ne (ne_of_none e xH)]
      exact sf _ _ (e2 _ _ e n)
end
end Fr

namespace Fr
open PySem PySem.Spec PyProof.Rows L2
abbrev s_Lshown : Stmt := topS 27
theorem sc_Lshown : FnScope ["_law_made", "_law_rows", "_law_word"] ["_law_made"] (defScope s_Lshown) := ⟨rfl, rfl, rfl, by decide +kernel, rfl, by decide +kernel, by decide +kernel⟩
-- slots: 0 _law_made, 1 _law_rows, 2 _law_word
/-- a system of the laws -/
structure Sys1 (d m : Int) (ts : List Tb) : Prop where
  d1 : 1 ≤ d
  d3 : d ≤ 3
  m2 : 2 ≤ m
  mx : m ≤ 1000000000
  l1 : 1 ≤ ts.length
  l6 : ts.length ≤ 6
  ok : OkT d ts
  sm : ∀ t ∈ ts, SmT t
theorem Sys1.sys {d m : Int} {ts : List Tb} (h : Sys1 d m ts) : OkSys d m ts := ⟨h.d1, h.d3, h.m2, h.l1, h.l6, h.ok⟩
theorem OkT.perm {d : Int} {ts us : List Tb} (p : ts.Perm us) (O : OkT d ts) : OkT d us := by
  refine ⟨fun t ht => O.names t (p.mem_iff.mpr ht), (p.map (·.n)).nodup_iff.mp O.nodup, ?_, fun t ht => O.reads t (p.mem_iff.mpr ht), fun t ht r hr => (p.map (·.n)).mem_iff.mp (O.here t (p.mem_iff.mpr ht) r hr)⟩
  rw [← (p.map fun t => t.rs.length).sum_nat]
  exact O.few
theorem Sys1.srt {d m : Int} {ts : List Tb} (h : Sys1 d m ts) : Sys1 d m (srt ts) := by
  have p := (srt_perm ts).symm
  have e := p.length_eq
  exact ⟨h.d1, h.d3, h.m2, h.mx, by have := h.l1; omega, by have := h.l6; omega, h.ok.perm p, fun t ht => h.sm t (p.mem_iff.mpr ht)⟩
def sysD (d m : Int) (ts : List Tb) : PyData := .list [.int d, .int m, .list (ts.map Tb.d), .list ((named ts).map nrD), .int (ts.length : Nat)]
def sysS (d m : Int) (ts : List Tb) : Str := (sysD d m ts).shown
theorem shw_rd {d : Int} {r : Rd1} (h : isRead d r = true) (hd : d ≤ 3) (f : -10 ≤ r.f ∧ r.f ≤ 10) (v : ∀ x ∈ r.v, -1000 ≤ x ∧ x ≤ 1000) : Shw r.d 3 174 := by
  unfold isRead at h
  rw [Bool.and_eq_true, Bool.and_eq_true] at h
  have hl : r.v.length ≤ 3 := by
    have := of_decide_eq_true h.2.1
    omega
  have hv : ShwA (r.v.map .int) 1 123 := (ShwA.map fun x hx => Shw.one (by have := v x hx; omega)).mono (Nat.le_refl _) (by omega)
  exact (Shw.tup (ShwA.c (Shw.str (k := 2) (name_ok h.1).1 (name_ok h.1).2) (ShwA.c (Shw.tup hv) (ShwA.c (Shw.one (k := 2) (i := r.f) (by omega)) ShwA.nil)))).mono (j := 3) (by decide) (by decide)
theorem shw_tb {d m : Int} {ts : List Tb} (h : Sys1 d m ts) {t : Tb} (ht : t ∈ ts) : Shw t.d 5 2200 := by
  have h12 := few_reads h.ok ht
  have hr : ShwA (t.rs.map Rd1.d) 3 2100 := (ShwA.map fun r hr => shw_rd (h.ok.reads t ht r hr) h.d3 ((h.sm t ht).f r hr) ((h.sm t ht).v r hr)).mono (Nat.le_refl _) (by omega)
  have hn := name_ok (h.ok.names t ht)
  have hc := (h.sm t ht).c
  exact (Shw.tup (ShwA.c (Shw.str (k := 4) hn.1 hn.2) (ShwA.c (Shw.one (i := t.c) (by omega)) (ShwA.c (Shw.list hr) ShwA.nil)))).mono (by decide) (by decide)
theorem shw_nr {x : Str × Nat} (h : isName x.1 = true) (hi : x.2 ≤ 1000) : Shw (nrD x) 1 50 := by
  have hn := name_ok h
  exact (Shw.tup (ShwA.c (Shw.str (k := 0) hn.1 hn.2) (ShwA.c (Shw.one (i := (x.2 : Nat)) (by omega)) ShwA.nil))).mono (by decide) (by decide)
theorem shw_named {d m : Int} {ts : List Tb} (h : Sys1 d m ts) {x : Str × Nat} (hx : x ∈ named ts) : Shw (nrD x) 1 50 := by
  obtain ⟨t, ht, e, hi⟩ := mem_named.mp (show (x.1, x.2) ∈ named ts from hx)
  have h12 := few_reads h.ok ht
  exact shw_nr (by rw [← e]; exact h.ok.names t ht) (by omega)
theorem sysD_ok {d m : Int} {ts : List Tb} (h : Sys1 d m ts) : Shw (sysD d m ts) 7 30000 := by
  have hts : ShwA (ts.map Tb.d) 5 13206 := (ShwA.map fun t ht => shw_tb h ht).mono (Nat.le_refl _) (by have := h.l6; omega)
  have hnl : (named ts).length ≤ 12 := by rw [named_len]; exact h.ok.few
  have hnm : ShwA ((named ts).map nrD) 5 700 := (ShwA.map (w := 50) fun x hx => shw_named h hx).mono (by decide) (by omega)
  have h1 := h.d1
  have h3 := h.d3
  have h2 := h.m2
  have hx := h.mx
  have h6 := h.l6
  exact (Shw.list (ShwA.c (Shw.one (k := 6) (i := d) (by omega)) (ShwA.c (Shw.one (i := m) (by omega)) (ShwA.c (Shw.list hts) (ShwA.c (Shw.list hnm) (ShwA.c (Shw.one (i := (ts.length : Nat)) (by omega)) ShwA.nil)))))).mono (by decide) (by decide)
section
variable {P : Program} {w : World} {K : PySem.W.Frag} {mg : Str → Option Value} {base : Heap}
def spShown (K : PySem.W.Frag) (C : Addr) : Sp := fun vs H Q _ => ∃ (s : Addr) (d m : Int) (ts : List Tb), vs = [.ref s] ∧ SysAt K C H s d m ts ∧ Sys1 d m ts ∧ ∀ H', Same H H' → Q (.str (sysS d m ts)) H'
theorem ok_shown {f C : Addr} {fd : FuncData} (F : Fun K "_law_shown" "_law_shown" s_Lshown f fd) (T : Txt mg) (zr : mg "repr" = none) (TC : TxtC K mg C) (p_names : Prp P w K mg base 1 C "names" (spNames K C)) (p_dimensions : Prp P w K mg base 1 C "dimensions" (spDims K C)) (p_modulus : Prp P w K mg base 1 C "modulus" (spMod K C))
    (t_constant : C8.Met P w K mg base 4 C "constant" (spConst K C) []) (t_reads : C8.Met P w K mg base 4 C "reads" (spReads K C) []) (t_all_reads : C8.Met P w K mg base 1 C "all_reads" (spAll K C) []) (len_System : LenM P w K mg base 1 C (spLenS K C)) : FnG P w K mg base 5 f fd ["_law_made"] (spShown K C) := by
  refine Fun_okG F sc_Lshown (fun vs H Q E h => ?_) (fun cdv A outer sh H vs Q E hr h => ?_)
  · obtain ⟨s, d, m, ts, rfl, _⟩ := h
    rfl
  · obtain ⟨s, d, m, ts, rfl, S, O, q⟩ := h
    refine ⟨_, (pss_cons (ps_setLc (i := 1) (own := [("_law_word", 2)]) (g := gName 2) (tt := tYes) (by rfl) sc_Lshown.nd rfl rfl (sw_true rfl rfl rfl (by decide +kernel)) (pi_list (pe_pr (pv 0) p_names hr.room (by decide) rfl)) (blkOk_by (N := ["_law_made", "_law_rows", "_law_word"]) (sc := defScope s_Lshown) (by decide +kernel)) (fun _ _ _ _ _ => (pg_name (i := 2) sc_Lshown.nd rfl (by first | exact Or.inl rfl | exact Or.inr rfl))) (fun _ _ _ _ _ => pts_nil) (fun _ _ _ _ _ => (pe_tup (pa_cons (pv 2) (pa_cons (C8.pe_mt t_constant hr.room (by decide) (pv 0) (pa_cons (pv 2) pa_nil)) (pa_cons (C8.pe_mt t_reads hr.room (by decide) (pv 0) (pa_cons (pv 2) pa_nil)) pa_nil))))))
  (pss_one (ps_ret (pe_callB (call_reprD hr.free hr.room.units1) (by rfl) zr (by decide +kernel) (pa_cons (pe_lst (pa_cons (pe_pr (pv 0) p_dimensions hr.room (by decide) rfl) (pa_cons (pe_pr (pv 0) p_modulus hr.room (by decide) rfl) (pa_cons (pv 1) (pa_cons (C8.pe_mt0 t_all_reads hr.room (by decide) (pv 0)) (pa_cons (pe_callB (call_lenOwn len_System hr.room (by decide)) (by rfl) T.b_len PySem.boot_len (pa_cons (pv 0) pa_nil)) pa_nil)))))) pa_nil))))), ?_⟩
    obtain ⟨dx, tt, kvs, h1, h2, h3⟩ := id S.ob
    have nf : ∀ {x : Str}, ¬ x = "_dimensions" → ¬ x = "_modulus" → ¬ x = "_tables" → (flds d m tt).lookup x = none := fun a b c => flds_no _ _ _ a b c
    refine ⟨_, rfl, s, dx, _, rfl, h1, s, d, m, ts, rfl, S, fun p H0 hp s0 hp0 => ⟨p, rfl, ⟨_, Or.inl (Or.inl hp0)⟩, fun D hD => ?_⟩⟩
    refine lc_it (walk_list (K := K) (a := p) (xs := ts.map fun t => V.str t.n)) (fun i H' => ∃ (B : Hp) (xs : List V), Same H0 B ∧ B D = none ∧ Same B H' ∧ H' D = some (.lst xs) ∧ DpAll K B xs ((ts.take i).map Tb.d))
      ⟨H0, [], same_refl, hD, snew hD, upd_same, .nil⟩ (fun i H' _ ⟨B, xs, b1, _, b3, _⟩ => Or.inl (Or.inl (b3 _ _ (b1 _ _ hp0)))) ?_ ?_
    · rintro i y Hi _ hi ⟨B, xs, b1, b2, b3, b4, b5⟩ ⟨rfl, hy⟩
      rw [List.getElem?_map] at hy
      obtain ⟨tb, ht, rfl⟩ := Option.map_eq_some_iff.mp hy
      have htm := List.mem_of_getElem? ht
      have hmem : tb.n ∈ ts.map (·.n) := List.mem_map.mpr ⟨tb, htm, rfl⟩
      have hf := find_nodup' O.ok.nodup htm
      have sB := same_tr s0 b1
      have si := same_tr sB b3
      refine ⟨rfl, yes_if ?_⟩
      refine ⟨_, rfl, _, rfl, s, dx, _, rfl, si _ _ h1, nf (by decide +kernel) (by decide +kernel) (by decide +kernel), _, rfl, s, d, m, ts, tb.n, tb, rfl, S.mono si, hmem, hf, fun H2 s2 => ?_⟩
      have si2 := same_tr si s2
      have b32 := same_tr b3 s2
      have D2 := s2 _ _ b4
      refine ⟨_, rfl, s, dx, _, rfl, si2 _ _ h1, nf (by decide +kernel) (by decide +kernel) (by decide +kernel), _, rfl, B, s, d, m, ts, tb.n, tb, rfl, b32, S.mono sB, hmem, hf, fun l H3 rs hl s3 hl3 hrs => ⟨(by show 3 ≤ sizeLine; decide), fun u hu2 => ?_⟩⟩
      have b33 := same_tr b32 s3
      have D3 := s3 _ _ D2
      have bl : B l = none := free_of b32 hl
      have c1 : Same (upd B l (.lst rs)) H3 := fun b o e => by
        by_cases hb : b = l
        · rw [hb, upd_same] at e
          rw [hb, ← e]
          exact hl3
        · rw [upd_ne hb] at e
          exact b33 _ _ e
      have bu : (upd B l (.lst rs)) u = none := free_of c1 hu2
      have c2 : Same (upd (upd B l (.lst rs)) u (.tup [.str tb.n, .int tb.c, .ref l])) (upd H3 u (.tup [.str tb.n, .int tb.c, .ref l])) := sgrow c1
      have sBB : Same B (upd (upd B l (.lst rs)) u (.tup [.str tb.n, .int tb.c, .ref l])) := same_tr (snew bl) (snew bu)
      have nuD : D ≠ u := ne_of_none D3 hu2
      have nlD : D ≠ l := ne_of_none D2 hl
      have bD : (upd (upd B l (.lst rs)) u (.tup [.str tb.n, .int tb.c, .ref l])) D = none := by rw [upd_ne nuD, upd_ne nlD]; exact b2
      have ul : (upd (upd B l (.lst rs)) u (.tup [.str tb.n, .int tb.c, .ref l])) l = some (.lst rs) := by
        rw [upd_ne (ne_of_none (upd_same (H := B) (o := HO.lst rs)) bu)]
        exact upd_same
      have hl6 := O.l6
      refine ⟨xs, by rw [upd_ne nuD]; exact D3, small1000 (by rw [dps_len b5, List.length_map, List.length_take]; omega), _, xs ++ [.ref u], same_tr b1 sBB, bD, swrite c2 bD, upd_same, ?_⟩
      rw [List.take_add_one, ht, List.map_append]
      exact dps_snoc (dpsm sBB _ _ b5) (.tup (Or.inl (Or.inl upd_same)) (.cons (.str _) (.cons (.int _) (.cons (.lst (Or.inl (Or.inl ul)) (dpsm sBB _ _ hrs)) .nil))))
    · rintro H1 ⟨B, xs, b1, b2, b3, b4, b5⟩
      rw [List.length_map, List.take_length] at b5
      have s1 := same_tr s0 (same_tr b1 b3)
      have S1 := S.mono s1
      refine ⟨_, rfl, s, dx, _, rfl, s1 _ _ h1, s, d, m, ts, rfl, S1, ?_⟩
      refine ⟨_, rfl, s, dx, _, rfl, s1 _ _ h1, s, d, m, ts, rfl, S1, ?_⟩
      refine ⟨_, rfl, ?_⟩
      refine ⟨_, rfl, s, dx, _, rfl, s1 _ _ h1, nf (by decide +kernel) (by decide +kernel) (by decide +kernel), s, d, m, ts, rfl, S1, O.ok.nodup, Nat.le_trans O.ok.few (by decide), fun p2 H2 hp2 s2 L2 => ?_⟩
      have S2 := S1.mono s2
      refine ⟨_, rfl, s, dx, _, rfl, s2 _ _ (s1 _ _ h1), s, d, m, ts, rfl, S2, ts.length, rfl, by have := O.l6; omega, (by show 5 ≤ sizeLine; decide), fun q1 hq1 => ?_⟩
      have s3 := snew (o := .lst [.int d, .int m, .ref D, .ref p2, .int (ts.length : Nat)]) hq1
      obtain ⟨w1, w2, w3, w4⟩ := (sysD_ok O).asks (by decide) (by decide)
      refine ⟨.ref q1, sysD d m ts, rfl, ?_, w1, w2, w3, w4, q _ (same_tr s1 (same_tr s2 s3))⟩
      refine .lst (Or.inl (Or.inl upd_same)) (.cons (.int _) (.cons (.int _) (.cons ?_ (.cons ?_ (.cons (.int _) .nil)))))
      · exact .lst (Or.inl (Or.inl (s3 _ _ (s2 _ _ b4)))) (dpsm (same_tr b3 (same_tr s2 s3)) _ _ b5)
      · exact dpm s3 _ _ L2.dp
end
end Fr

namespace Fr
open PySem PySem.Spec PyProof.Rows L2
theorem countIn_strs (k : Str) : ∀ ks : List Str, countIn (.str k) (ks.map PyData.str) = ((ks.count k : Nat) : Int)
  | [] => rfl
  | x :: ks => by
    rw [List.map_cons, countIn, countIn_strs k ks, List.count_cons]
    show (if (x == k) = true then 1 else 0) + _ = _
    by_cases h : x = k
    · rw [h]
      simp
      omega
    · have h' : (x == k) = false := beq_eq_false_iff_ne.mpr h
      rw [h']
      simp
section
variable {X : Cx}
def rCountS (K : PySem.W.Frag) : V → List V → Hp → VK → Prop := fun x xs H Q => ∃ (a : Addr) (ks : List Str) (k : Str), x = .ref a ∧ xs = [.str k] ∧ SqL K H a (ks.map V.str) ∧ Q (.int (ks.count k : Nat)) H
theorem mt_count : MtR X "list.count" (rCountS X.K) := by
  intro pins s σ H x xs v us Q I rx rxs h
  obtain ⟨a, ks, k, rfl, rfl, hl, q⟩ := h
  cases rx
  obtain ⟨u, rfl, t, rfl⟩ := vals1 rxs
  obtain ⟨its, r, hp, hz⟩ := I.list hl
  refine count_list_strs (vs := its) hp.isList r.strs ?_
  rw [countIn_strs]
  exact ⟨.int (ks.count k : Nat), H, I.tok _, ⟨_, rfl⟩, q⟩
/-- sorted(t), t a tuple of ints -/
def rSortedIT (K : PySem.W.Frag) : List V → Hp → VK → Prop := fun vs H Q => ∃ (a : Addr) (ns : List Int), vs = [V.ref a] ∧ SqT K H a (ns.map V.int) ∧
  ∀ (ns' : List Int) (p : Addr), ns'.Perm ns → ns'.Pairwise (· ≤ ·) → H p = none → Q (.ref p) (upd H p (.lst (ns'.map V.int)))
theorem cr_sortedIT : CallR X (.builtin "sorted") (rSortedIT X.K) := by
  intro pins s σ H vs us Q I r h
  obtain ⟨a, ns, rfl, hs, q⟩ := h
  obtain ⟨its, rv, ⟨o, ho, hc, n, hd⟩, hz⟩ := I.tuple hs
  rw [Vals.ref1 r]
  have hi := rv.ints
  have hlz : its.length ≤ sizeLine := by rw [← rv.length]; exact hz
  refine Calls.call_function_entry kind_sorted plain_sorted entry_sorted (args_sorted1 _) ?_
  unfold Builtin.«sorted»
  refine wpAny_bind (m := checkCount "sorted" 1 1 _) (wpAny_pure ?_)
  refine wpAny_bind (wpAny_collect_seq a (.inr rfl) ho hc hd (fun h1 keep => ?_) (by rw [List.size_toArray]; exact hlz))
  have I1 : Inv X pins σ H { s with heap := h1 } := I.kept (t' := s.toks) keep
  refine wpAny_bind (wpAny_newList ?_ hlz)
  have hL : (h1.push (seqObj "list" its.toArray 0)).get? h1.objs.size = some (seqObj "list" its.toArray 0) := Heap.get?_push_size _ rfl
  refine wpAny_bind (wpAny_holding (wpAny_call_entry slot_list_sort ⟨_, hL, rfl⟩ entry_list_sort (SrtO.list_sort_ord SrtO.swo_int hL hlz (fun h2 => SrtO.ints_sortable hi h2) fun out so sb => ⟨_, rfl, ?_⟩) (args_list_sort _)))
  obtain ⟨k1, k2, k3⟩ := SrtO.ints_out hi so sb
  obtain ⟨ep, he'⟩ := PyProof.Rows.sortedHeap_at (vs := its) (out := out.toArray) hL
  have hlen : ((out.map SrtO.iv).map V.int).length ≤ sizeLine := by
    rw [List.length_map, k2.length_eq]
    rw [List.length_map] at hz
    exact hz
  refine wpAny_pure ⟨_, rfl, .ref h1.objs.size, upd H h1.objs.size (.lst ((out.map SrtO.iv).map V.int)), ?_, rfl, q _ _ k2 k3 (I1.hok.fresh (Nat.le_refl _))⟩
  refine I1.laid (t' := s.toks) (fun b ob hb => ?_) (Nat.le_refl _) ⟨hlen, out, ep, vals_of_ints k1, by simpa using he'⟩
  have hlt : b < h1.objs.size := Heap.lt_size hb
  have hlt2 : b < (h1.push (seqObj "list" its.toArray 0)).objs.size := by rw [Heap.size_push]; exact Nat.lt_succ_of_lt hlt
  rw [PyProof.Rows.sortedHeap_old (Nat.ne_of_lt hlt) hlt2]
  exact Heap.get?_push_of_some _ hb
/-- walked in a comprehension's block -/
theorem pi_tupK {K' : PySem.W.Frag} {tg l : Expr} {tl : TE} (hl : PE X l tl) (hK : X.K = K' := by rfl) : PI X tg l (iTup K' tl) := by
  subst hK
  exact pi_tup hl
theorem pi_listK {K' : PySem.W.Frag} {tg l : Expr} {tl : TE} (hl : PE X l tl) (hK : X.K = K' := by rfl) : PI X tg l (iList K' tl) := by
  subst hK
  exact pi_list hl
/-- list(d.values()) -/
def tLstVals (te : TE) : TE := fun σ H Q => te σ H fun x H1 => ∃ (d : Addr) (kvs : List (Key × V)), x = .ref d ∧ H1 d = some (.dK kvs) ∧ ∀ q, H1 q = none → Q (.ref q) (upd H1 q (.lst (kvs.map (·.2))))
theorem pe_listVals {e : Expr} {te : TE} {p apos cpos pos : Pos} (hc : X.calm = true) (hg : Gl X "list") (hm : X.mg "list" = none) (he : PE X e te) (hbase : attributeBase e "values" X.env (eval e X.env) = eval e X.env := by rfl) (hline : (apos.endLine == cpos.line) = true := by rfl)
    (na : starEach [.Call (.Attribute e "values" apos) [] [] cpos] X.env = (false, eval (.Call (.Attribute e "values" apos) [] [] cpos) X.env) :: starEach [] X.env := by rfl) : PE X (.Call (.Name "list" p) [.Call (.Attribute e "values" apos) [] [] cpos] [] pos) (tLstVals te) := by
  refine ⟨fun pins s σ H Q I h => ?_⟩
  refine Call_ (ld_blt I hg hm boot_list (PyProof.Rows.callWith_type1 (args_cons ?_ na) na))
  refine wpAny_Call_method (T := "dict") (id := "dict.values") hbase rfl hline PySem.F.plainAttrs_dict PySem.F.slot_dict_values PySem.F.type_dict_values (thn (he.run pins s σ H _ I h) fun u s1 ⟨x, H1, I1, rx, d, kvs, ex, hd, q⟩ => ?_)
  subst ex
  obtain rfl : u = Value.ref d := rx
  obtain ⟨z, lo, vs, rk, hdd⟩ := (show ObjOk X.prog X.w H1 s1.heap d (.dK kvs) from I1.hok d _ hd)
  obtain ⟨ep, hat⟩ := hdd.dictAt
  have hl : kvs.length = vs.length := Paired.length rk
  refine ⟨hdd.typeIs, hdd.mapOf.noDict, ?_⟩
  have I2 : Inv X pins σ H1 { s1 with heap := s1.heap.push { cls := .type "dict_values", data := .fields #[.ref d] } } := I1.kept (t' := s1.toks) fun b ob q => Heap.get?_push_of_some _ q
  have fin : wpAny (model X.prog X.w) X.A (call (.type "list") [.ref s1.heap.objs.size]) (EP X pins σ Q) X.xe { s1 with heap := s1.heap.push { cls := .type "dict_values", data := .fields #[.ref d] } } := by
    refine PySem.W.kdl_call (PySem.W.kdl_values (knd := mixKind X.prog X.w) (r := s1.heap.objs.size) (d := d) (kvs := vs) (ep := ep)) (I2.ok.hd hc) ⟨⟨_, Heap.get?_push_size _ rfl, rfl, rfl⟩, hat.push _⟩ (by rw [← hl]; exact z) fun h' tk acc' c' hkeep hS hacc => ?_
    refine ⟨.ref _, upd H1 _ (.lst (kvs.map (·.2))), I2.laid hkeep (Nat.le_refl _) (show ObjOk X.prog X.w _ _ _ (.lst (kvs.map (·.2))) from ⟨?_, acc'.toList, c', ?_, ?_⟩), rfl, q _ (I2.hok.fresh (Nat.le_refl _))⟩
    · rw [List.length_map]; exact z
    · have el : acc'.toList.length = acc'.size := by simp
      refine vals_of_at (by rw [List.length_map, el, hacc.1, hl]) fun j x w h1 h2 => ?_
      obtain ⟨k, hky⟩ := hacc.2 j w (by rw [← Array.getElem?_toList]; exact h2)
      rw [List.getElem?_map] at h1
      obtain ⟨kv, h3, rfl⟩ := Option.map_eq_some_iff.mp h1
      obtain ⟨y, h4, h5⟩ := KV.at' rk hky
      rw [h3] at h4
      cases h4
      exact h5
    · rw [Array.toArray_toList]; exact hS
  show wpAny _ _ (callWith cpos (.builtin "dict.values") [.ref d] [] []) _ X.xe s1
  exact method_meetsIn PySem.F.slot_dict_values PySem.F.entry_dict_values rfl (PySem.evalArgs_none ⟨rfl, hdd.typeIs, PySem.F.args_dict_values_1 _, _, meets_dict_values (mixKind X.prog X.w) d lo, ⟨vs, hdd⟩, args_nil fin⟩)
end
end Fr

namespace Fr
open PySem PySem.Spec PyProof.Rows L2
abbrev s_System_exchanged : Stmt := inClass (topS 20) 12
theorem sc_System_exchanged : FnScope ["self", "axes", "tables", "name", "constant", "own", "reads", "axis", "table", "vector", "factor"] ["self", "axes"] (defScope s_System_exchanged) := ⟨rfl, rfl, rfl, by decide +kernel, rfl, by decide +kernel, by decide +kernel⟩
-- slots: 0 self, 1 axes, 2 tables, 3 name, 4 constant, 5 own, 6 reads, 7 axis, 8 table, 9 vector, 10 factor
/-- a vector with its coordinates in the sequence ax -/
def axV (ax : List Nat) (v : List Int) : List Int := ax.map fun a => v.getD a 0
def axR (ax : List Nat) (r : Rd1) : Rd1 := ⟨r.t, axV ax r.v, r.f⟩
def axT (ax : List Nat) (t : Tb) : Tb := ⟨t.n, t.c, t.rs.map (axR ax)⟩
def AxOk (d : Int) (ax : List Nat) : Prop := ax.Perm (List.range d.toNat)
theorem rg_map {l : List Int} {n : Nat} (h : n = l.length) : (List.range n).map (fun j => V.int (l.getD j 0)) = l.map V.int := by
  subst h
  refine List.ext_getElem (by simp) fun i h1 h2 => ?_
  simp only [List.length_map, List.length_range] at h1
  simp [List.getD_eq_getElem?_getD, h1]
theorem AxOk.len {d : Int} {ax : List Nat} (h : AxOk d ax) : ax.length = d.toNat := by
  rw [h.length_eq, List.length_range]
theorem AxOk.lt {d : Int} {ax : List Nat} (h : AxOk d ax) {a : Nat} (m : a ∈ ax) : a < d.toNat := List.mem_range.mp (h.mem_iff.mp m)
theorem AxOk.sorted {d : Int} {ax : List Nat} {ns : List Int} (h : AxOk d ax) (p : ns.Perm (ax.map fun a : Nat => (a : Int))) (so : ns.Pairwise (· ≤ ·)) : ns = (List.range d.toNat).map fun a : Nat => (a : Int) :=
  List.Perm.eq_of_pairwise (fun _ _ _ _ h k => Int.le_antisymm h k) so (List.pairwise_map.mpr (List.pairwise_lt_range.imp fun h => by omega)) (p.trans (h.map _))
theorem rgV0 (d : Int) : rgV 0 d = ((List.range d.toNat).map fun a : Nat => (a : Int)).map V.int := by
  unfold rgV
  rw [List.map_map, Int.sub_zero]
  refine List.map_congr_left fun a _ => ?_
  show V.int (0 + (a : Int)) = V.int a
  rw [Int.zero_add]
theorem sqt_st {K : PySem.W.Frag} {H H' : Hp} {g : Addr} {xs : List V} (s : ST H H') (h : SqT K H g xs) : SqT K H' g xs := by
  rcases h with (h | ⟨o, h⟩) | h
  · exact .inl (.inl (s _ _ h rfl))
  · exact .inl (.inr ⟨o, s _ _ h rfl⟩)
  · exact .inr h
section
variable {P : Program} {w : World} {K : PySem.W.Frag} {mg : Str → Option Value} {base : Heap}
def spExch (K : PySem.W.Frag) (C : Addr) (TT : List (Addr × Str)) : Sp := fun vs H Q _ => ∃ (s g : Addr) (d m : Int) (ts : List Tb) (ax : List Nat), vs = [.ref s, .ref g] ∧ SysAt K C H s d m ts ∧ 1 ≤ d ∧ d ≤ 3 ∧ 2 ≤ m ∧ OkT d ts ∧ ts.length ≤ 12 ∧ SqT K H g ((ax.map fun a : Nat => (a : Int)).map V.int) ∧ AxOk d ax ∧ LamX.Tabs TT H ∧
  ∀ x H', H x = none → LamX.ExtN H H' → LamX.Tabs TT H' → SysAt K C H' x d m (srt (ts.map (axT ax))) → Q (.ref x) H'
theorem ok_exch {f C : Addr} {fd : FuncData} {TT : List (Addr × Str)} (F : Fun K "exchanged" "System.exchanged" s_System_exchanged f fd) (T : Txt mg) (TC : TxtC K mg C) (t__with_tables : C8.Met P w K mg base 7 C "_with_tables" (spWith K C TT) []) : FnOk P w K mg base CX0 8 f fd ["self", "axes"] (spExch K C TT) := by
  refine F.ok sc_System_exchanged (fun vs H Q E h => ?_) (fun cdv A outer sh H vs Q E hr h => ?_)
  · obtain ⟨s, g, d, m, ts, ax, rfl, _⟩ := h
    rfl
  · obtain ⟨s, g, d, m, ts, ax, rfl, S, hd1, hd3, hm2, O, hlen, hg, hax, hT, q⟩ := h
    have hu := hu_of hr
    refine ⟨_, (pss_cons (ps_if (pt_cmpR (op_neD hr.units) (pe_callB cr_sortedIT (by rfl) T.b_sorted (by decide +kernel) (pa_cons (pv 1) pa_nil)) (pe_listRg rfl (by rfl) T.b_list (prg_1 (by rfl) T.b_range (pe_fld (pv 0) rfl))) (nomark _))
    (pss_one ps_never)
    pss_nil)
  (pss_cons (ps_set (i := 2) sc_System_exchanged.nd rfl (by first | exact Or.inl rfl | exact Or.inr rfl) pe_dnewK)
  (pss_cons (ps_lock (ps_for PassesOwn.never rfl (pi_items (pe_fld (pv 0) rfl)) (pg_tup rfl (pgs_cons (pg_name (i := 3) sc_System_exchanged.nd rfl (by first | exact Or.inl rfl | exact Or.inr rfl)) (pgs_cons (pg_tup rfl (pgs_cons (pg_name (i := 4) sc_System_exchanged.nd rfl (by first | exact Or.inl rfl | exact Or.inr rfl)) (pgs_cons (pg_name (i := 5) sc_System_exchanged.nd rfl (by first | exact Or.inl rfl | exact Or.inr rfl)) pgs_nil))) pgs_nil)))
    (pss_cons (ps_setLc (i := 6) (own := [("table", 8), ("vector", 9), ("factor", 10)]) (g := gTup K 3 (gCons (gName 8) (gCons (gName 9) (gCons (gName 10) gNil)))) (tt := tYes) (by rfl) sc_System_exchanged.nd rfl rfl (sw_true rfl rfl rfl (by decide +kernel)) (pi_tup (pv 5)) (blkOk_by (N := ["self", "axes", "tables", "name", "constant", "own", "reads", "axis", "table", "vector", "factor"]) (sc := defScope s_System_exchanged) (by decide +kernel)) (fun _ _ _ _ _ => (pg_tup rfl (pgs_cons (pg_name (i := 8) sc_System_exchanged.nd rfl (by first | exact Or.inl rfl | exact Or.inr rfl)) (pgs_cons (pg_name (i := 9) sc_System_exchanged.nd rfl (by first | exact Or.inl rfl | exact Or.inr rfl)) (pgs_cons (pg_name (i := 10) sc_System_exchanged.nd rfl (by first | exact Or.inl rfl | exact Or.inr rfl)) pgs_nil))))) (fun _ _ _ _ _ => pts_nil) (fun _ _ _ _ _ => (pe_tup (pa_cons (pv 8) (pa_cons (pe_callTy (r := rTupS K) call_tuple_of (by rfl) T.b_tuple (by decide +kernel) (pa_cons (pe_lc (own := [("axis", 7)]) (g := gName 7) (tt := tYes) (by rfl) sc_System_exchanged.nd (pi_tupK (K' := K) (pv 1)) (blkOk_by (N := ["self", "axes", "tables", "name", "constant", "own", "reads", "axis", "table", "vector", "factor"]) (sc := { kind := .function, names := [(".0", .local), ("table", .local), ("vector", .cell), ("factor", .local), ("tuple", .globalImplicit), ("axes", .cell)], isGenerator := false, isCoroutine := false }) (by decide +kernel)) (fun _ _ _ _ _ => (pg_name (i := 7) sc_System_exchanged.nd rfl (by first | exact Or.inl rfl | exact Or.inr rfl))) (fun _ _ _ _ _ => pts_nil) (fun _ _ _ _ _ => (pe_ix (r := rIxT K) ix_tup (pv 9) (pv 7) (fun _ _ => rfl)))) pa_nil)) (pa_cons (pv 10) pa_nil))))))
    (pss_one (ps_dput hu (pv 2) (pv 3) (pe_tup (pa_cons (pv 4) (pa_cons (pe_callTy call_tuple_of (by rfl) T.b_tuple (by decide +kernel) (pa_cons (pv 6) pa_nil)) pa_nil))) rfl)))))
  (pss_one (ps_ret (C8.pe_mt t__with_tables hr (by decide) (pv 0) (pa_cons (pv 2) pa_nil))))))), ?_⟩
    obtain ⟨dx, tt, kvs, h1, h2, h3⟩ := S.ob
    have hal := hax.len
    -- the test
    refine ⟨_, rfl, g, _, rfl, hg, fun ns p perm so hp => ?_⟩
    have ens := hax.sorted perm so
    have sp1 : Same H (upd H p (.lst (ns.map V.int))) := snew hp
    refine ⟨_, rfl, s, C, dx, _, _, rfl, sp1 _ _ h1, TC.cl, TC.nD, flds_d _ _ _, d, rfl, RgOk.of_le (by omega) (by omega) (by omega) (by omega), fun q2 hq2 => ?_⟩
    have sp2 := same_tr sp1 (snew (o := .lst (rgV 0 d)) hq2)
    have shp : SeqAt.shaped (.list (ns.map PyData.int)) = true := (Lay.list (k := 0) (.map fun x _ => Lay.int)).shaped (by decide)
    refine ⟨.list (ns.map .int), .list (ns.map .int), .lst (Or.inl (Or.inl (snew hq2 _ _ upd_same))) (ints_dps ns), .lst (Or.inl (Or.inl (by rw [rgV0, ← ens]; exact upd_same))) (ints_dps ns), shp, shp, _, rfl, ?_⟩
    rw [SeqAt.eqv_refl _ (SeqAt.canLay_of_shaped shp)]
    refine iteF ?_
    have b1 := sp2
    generalize upd (upd H p (.lst (ns.map V.int))) q2 (.lst (rgV 0 d)) = H1 at b1 ⊢
    have S1 := S.mono b1
    have hg1 := sqt b1 hg
    clear sp1 sp2 h1 h2 h3
    obtain ⟨dx, tt, kvs, h1, h2, h3⟩ := S1.ob
    -- tables = {}
    intro Tt hTt
    have nst : s ≠ tt := fun z => by
      rw [z, h2] at h1
      cases h1
    have ntT : tt ≠ Tt := ne_of_none h2 hTt
    refine ⟨tt, .dK kvs, by rw [upd_ne ntT]; exact h2, True.intro, fun od => ?_⟩
    have swap : upd (upd H1 Tt (.dK [])) tt (.frz od (.dK kvs)) = upd (upd H1 tt (.frz od (.dK kvs))) Tt (.dK []) := by
      funext b
      by_cases hb : b = tt
      · rw [hb, upd_same, upd_ne ntT, upd_same]
      · by_cases hb2 : b = Tt
        · rw [hb2, upd_ne ntT.symm, upd_same, upd_same]
        · rw [upd_ne hb, upd_ne hb2, upd_ne hb2, upd_ne hb]
    rw [swap]
    have l1 : (upd H1 tt (.frz od (.dK kvs))) s = some (.ins C dx (flds d m tt)) := by rw [upd_ne nst]; exact h1
    have l2 : (upd H1 tt (.frz od (.dK kvs))) tt = some (.frz od (.dK kvs)) := upd_same
    have lT : (upd H1 tt (.frz od (.dK kvs))) Tt = none := by rw [upd_ne ntT.symm]; exact hTt
    have l3 : KvAt K (upd H1 tt (.frz od (.dK kvs))) kvs ts := kvt (st_upd h2 rfl) h3
    have lg : SqT K (upd H1 tt (.frz od (.dK kvs))) g ((ax.map fun a : Nat => (a : Int)).map V.int) := sqt_st (st_upd h2 rfl) hg1
    have back : ∀ H', Same (upd H1 tt (.frz od (.dK kvs))) H' → Same H1 (upd H' tt (.dK kvs)) := fun H' e => unlock h2 e
    generalize upd H1 tt (.frz od (.dK kvs)) = HL at l1 l2 l3 lT lg back ⊢
    refine ⟨_, rfl, s, C, dx, _, _, rfl, by rw [upd_ne (ne_of_none l1 lT)]; exact l1, TC.cl, TC.nT, flds_t _ _ _, tt, od, kvs, rfl, by rw [upd_ne ntT]; exact l2, ?_⟩
    refine for_it (walk_items (o := od) (d := tt) (kvs := kvs)) (fun i σ H' => ∃ y3 y4 y5 y6, σ = [some (.ref s), some (.ref g), some (.ref Tt), y3, y4, y5, y6, none, none, none, none] ∧ ∃ (B : Hp) (kvs' : List (Key × V)), Same HL B ∧ B Tt = none ∧ Same B H' ∧ H' Tt = some (.dK kvs') ∧ KvAt K B kvs' ((ts.take i).map (axT ax)))
      ⟨none, none, none, none, rfl, HL, [], same_refl, lT, snew lT, upd_same, .nil⟩ (fun i σ H' _ ⟨_, _, _, _, _, B, _, c1, _, c3, _⟩ => c3 _ _ (c1 _ _ l2)) ?_ ?_
    · rintro i x σ Hi _ hi ⟨y3, y4, y5, y6, rfl, B, kvs', c1, c2, c3, c4, c5⟩ ⟨Tp, k1, v1, rfl, hTp, rfl, e1, e2⟩
      obtain ⟨⟨k, v⟩, hk, rfl⟩ := Option.map_eq_some_iff.mp e1
      obtain ⟨⟨k', v'⟩, hk', rfl⟩ := Option.map_eq_some_iff.mp e2
      rw [hk] at hk'
      cases hk'
      obtain ⟨tb, ht, rfl, hv⟩ := kv_at l3 hk
      have htm := List.mem_of_getElem? ht
      have h12 := few_reads O htm
      have hnames : ∀ l : List Tb, (l.map (axT ax)).map (·.n) = l.map (·.n) := fun l => by
        rw [List.map_map]
        rfl
      have hno : valV kvs' (Sum.inr tb.n) = none := c5.noVal (by
        rw [hnames, List.map_take]
        exact notin_take O.nodup (by rw [List.getElem?_map, ht]; rfl))
      have hkl : kvs'.length ≤ 12 := by
        rw [c5.len, List.length_map, List.length_take]
        omega
      have sTp : Same Hi (upd Hi Tp (.tup [kV (Sum.inr tb.n), v])) := snew hTp
      have c3' := same_tr c3 sTp
      have nTp : Tt ≠ Tp := ne_of_none c4 hTp
      have c4' : (upd Hi Tp (.tup [kV (Sum.inr tb.n), v])) Tt = some (.dK kvs') := by rw [upd_ne nTp]; exact c4
      have tpat : (upd Hi Tp (.tup [kV (Sum.inr tb.n), v])) Tp = some (.tup [.str tb.n, v]) := upd_same
      generalize upd Hi Tp (.tup [kV (Sum.inr tb.n), v]) = H3 at c3' c4' tpat
      obtain ⟨a, ys, rfl, hta, hda⟩ := dtup (dpm c1 _ _ hv)
      obtain ⟨z1, z2, rfl, g1, g2⟩ := dps2 hda
      obtain rfl := dint g1
      obtain ⟨ow, os, rfl, hto, hdo⟩ := dtup g2
      have hol : os.length = tb.rs.length := by rw [dps_len hdo, List.length_map]
      refine ⟨Tp, _, rfl, Or.inl (Or.inl tpat), rfl, _, _, rfl, _, _, rfl, a, _, rfl, sqt c3' hta, rfl, _, _, rfl, _, _, rfl, rfl, rfl, ?_⟩
      -- reads = [..]
      refine ⟨_, rfl, ow, rfl, ⟨os, sqt c3' hto⟩, fun D hD => ?_⟩
      have bD : B D = none := free_of c3' hD
      have nDT : Tt ≠ D := ne_of_none c4' hD
      refine lc_it (walk_tup (K := K) (a := ow) (xs := os)) (fun j H' => ∃ (B2 : Hp) (zs : List V), Same B B2 ∧ B2 D = none ∧ B2 Tt = none ∧ Same B2 H' ∧ H' Tt = some (.dK kvs') ∧ H' D = some (.lst zs) ∧ DpAll K B2 zs (((tb.rs.take j).map (axR ax)).map Rd1.d))
        ⟨B, [], same_refl, bD, c2, same_tr c3' (snew hD), by rw [upd_ne nDT]; exact c4', upd_same, .nil⟩ (fun j H' _ ⟨B2, zs, d1, _, _, d4, _⟩ => sqt d4 (sqt d1 hto)) ?_ ?_
      · rintro j y _ Hj hj ⟨B2, zs, d1, d2, d3, d4, d5, d6, d7⟩ ⟨rfl, hy⟩
        obtain ⟨r, ra, rb, e3, rfl, _, f3, f4⟩ := rd_at (dpsm d1 _ _ hdo) hy
        have hrm := List.mem_of_getElem? e3
        have hrv : r.v.length = d.toNat := by
          have := O.reads tb htm r hrm
          unfold isRead at this
          rw [Bool.and_eq_true, Bool.and_eq_true] at this
          have := of_decide_eq_true this.2.1
          omega
        have hgj : SqT K Hj g ((ax.map fun a : Nat => (a : Int)).map V.int) := sqt d4 (sqt d1 (sqt c1 lg))
        refine ⟨ra, _, rfl, sqt d4 f3, rfl, _, _, rfl, _, _, rfl, _, _, rfl, rfl, rfl, yes_if ?_⟩
        refine ⟨_, rfl, _, rfl, g, rfl, ⟨_, hgj⟩, fun D2 hD2 => lc_flat (walk_tup (K := K) (a := g) (xs := (ax.map fun a : Nat => (a : Int)).map V.int)) (fun j => .int ((axV ax r.v).getD j 0)) (by rw [List.length_map, List.length_map]; omega) hD2 (fun H' sm => sqt sm hgj) (fun i H x H' y => yat_same y) ?_ ?_⟩
        · rintro j2 z Ha _ hj2 sm ⟨rfl, hz⟩ R hR
          rw [List.getElem?_map, List.getElem?_map] at hz
          obtain ⟨_, hz2, rfl⟩ := Option.map_eq_some_iff.mp hz
          obtain ⟨c, hc, rfl⟩ := Option.map_eq_some_iff.mp hz2
          have hcl : c < r.v.length := by rw [hrv]; exact hax.lt (List.mem_of_getElem? hc)
          have ev : (axV ax r.v).getD j2 0 = r.v.getD c 0 := by
            unfold axV
            simp [List.getD_eq_getElem?_getD, hc]
          have eg : (r.v.map V.int)[c]? = some (.int (r.v.getD c 0)) := by
            simp [List.getD_eq_getElem?_getD, hcl]
          have r' := hR _ same_refl
          rw [ev] at r'
          exact ⟨rfl, _, rfl, _, rfl, rb, r.v.map V.int, (c : Int), _, rfl, rfl, sqt sm (sqt d4 f4), atI_nat eg, r'⟩
        · intro H4 s4 hD4
          rw [rg_map (l := axV ax r.v) (by unfold axV; simp)] at hD4
          refine ⟨D2, _, rfl, Or.inl ⟨Or.inl (Or.inl hD4), fun t ht => ?_⟩⟩
          have d4' := same_tr d4 s4
          have bt := free_of d4' ht
          have s5 : Same (upd B2 t (.tup ((axV ax r.v).map V.int))) (upd H4 t (.tup ((axV ax r.v).map V.int))) := sgrow d4'
          have d5' := s4 _ _ d5
          have d6' := s4 _ _ d6
          have ntT2 : Tt ≠ t := ne_of_none d5' ht
          have ntD : D ≠ t := ne_of_none d6' ht
          have d5'' : (upd H4 t (.tup ((axV ax r.v).map V.int))) Tt = some (.dK kvs') := by rw [upd_ne ntT2]; exact d5'
          have d6'' : (upd H4 t (.tup ((axV ax r.v).map V.int))) D = some (.lst zs) := by rw [upd_ne ntD]; exact d6'
          refine ⟨_, rfl, (by show 3 ≤ sizeLine; decide), fun u hu2 => ?_⟩
          have bu := free_of s5 hu2
          have nuD : D ≠ u := ne_of_none d6'' hu2
          have nuT : Tt ≠ u := ne_of_none d5'' hu2
          have s6 : Same (upd (upd B2 t (.tup ((axV ax r.v).map V.int))) u (.tup [.str r.t, .ref t, .int r.f])) (upd (upd H4 t (.tup ((axV ax r.v).map V.int))) u (.tup [.str r.t, .ref t, .int r.f])) := sgrow s5
          have sB : Same B2 (upd (upd B2 t (.tup ((axV ax r.v).map V.int))) u (.tup [.str r.t, .ref t, .int r.f])) := same_tr (snew bt) (snew bu)
          have cD : (upd (upd B2 t (.tup ((axV ax r.v).map V.int))) u (.tup [.str r.t, .ref t, .int r.f])) D = none := by rw [upd_ne nuD, upd_ne ntD]; exact d2
          have cT : (upd (upd B2 t (.tup ((axV ax r.v).map V.int))) u (.tup [.str r.t, .ref t, .int r.f])) Tt = none := by rw [upd_ne nuT, upd_ne ntT2]; exact d3
          have ut : (upd (upd B2 t (.tup ((axV ax r.v).map V.int))) u (.tup [.str r.t, .ref t, .int r.f])) t = some (.tup ((axV ax r.v).map V.int)) := by rw [upd_ne (ne_of_none upd_same bu)]; exact upd_same
          refine ⟨zs, by rw [upd_ne nuD]; exact d6'', small1000 (by rw [dps_len d7, List.length_map, List.length_map, List.length_take]; omega), _, zs ++ [.ref u], same_tr d1 sB, cD, cT, swrite s6 cD, by rw [upd_ne nDT, upd_ne nuT]; exact d5'', upd_same, ?_⟩
          rw [List.take_add_one, e3, List.map_append, List.map_append]
          exact dps_snoc (dpsm sB _ _ d7) (.tup (Or.inl (Or.inl upd_same)) (.cons (.str _) (.cons (.tup (Or.inl (Or.inl ut)) (ints_dps _)) (.cons (.int _) .nil))))
      · rintro H4 ⟨B2, zs, d1, d2, d3, d4, d5, d6, d7⟩
        rw [hol, List.take_length] at d7
        refine ⟨_, rfl, _, rfl, D, zs, rfl, Or.inl ⟨Or.inl (Or.inl d6), fun l hl => ⟨(by show 2 ≤ sizeLine; decide), fun u hu2 => ⟨_, rfl, _, rfl, ?_⟩⟩⟩⟩
        have bl : B2 l = none := free_of d4 hl
        have s6 : Same (upd B2 l (.tup zs)) (upd H4 l (.tup zs)) := sgrow d4
        have bu : (upd B2 l (.tup zs)) u = none := free_of s6 hu2
        have s7 : Same (upd (upd B2 l (.tup zs)) u (.tup [.int tb.c, .ref l])) (upd (upd H4 l (.tup zs)) u (.tup [.int tb.c, .ref l])) := sgrow s6
        have sB2 : Same B2 (upd (upd B2 l (.tup zs)) u (.tup [.int tb.c, .ref l])) := same_tr (snew bl) (snew bu)
        have sB := same_tr d1 sB2
        have nlT : Tt ≠ l := ne_of_none d5 hl
        have d2' : (upd H4 l (.tup zs)) Tt = some (.dK kvs') := by rw [upd_ne nlT]; exact d5
        have nuT : Tt ≠ u := ne_of_none d2' hu2
        have d2'' : (upd (upd H4 l (.tup zs)) u (.tup [.int tb.c, .ref l])) Tt = some (.dK kvs') := by rw [upd_ne nuT]; exact d2'
        have bT : (upd (upd B2 l (.tup zs)) u (.tup [.int tb.c, .ref l])) Tt = none := by rw [upd_ne nuT, upd_ne nlT]; exact d3
        have ul : (upd (upd B2 l (.tup zs)) u (.tup [.int tb.c, .ref l])) l = some (.tup zs) := by
          rw [upd_ne (ne_of_none (upd_same (H := B2) (o := HO.tup zs)) bu)]
          exact upd_same
        refine ⟨Tt, _, rfl, DPut.k (k := Sum.inr tb.n) d2'' (Nat.lt_of_le_of_lt hkl (by rw [sizeLine_eq]; decide)), ?_⟩
        refine ⟨_, _, _, _, rfl, _, kvs' ++ [(Sum.inr tb.n, .ref u)], same_tr c1 sB, bT, swrite s7 bT, by rw [upd_same, putK_new _ hno], ?_⟩
        rw [List.take_add_one, ht, List.map_append]
        exact (c5.mono sB).app (.cons ⟨rfl, .tup (Or.inl (Or.inl upd_same)) (.cons (.int _) (.cons (.tup (Or.inl (Or.inl ul)) (dpsm sB2 _ _ d7)) .nil))⟩ .nil)
    · rintro σ H' ⟨y3, y4, y5, y6, rfl, B, kvs', c1, c2, c3, c4, c5⟩
      have hlt : kvs.length = ts.length := h3.len
      rw [hlt, List.take_length] at c5
      have sb := back H' (same_tr c1 c3)
      have ntt : Tt ≠ tt := ntT.symm
      refine ⟨c3 _ _ (c1 _ _ l2), _, rfl, s, dx, _, rfl, sb _ _ h1, flds_no _ _ _ (by decide +kernel) (by decide +kernel) (by decide +kernel), _, rfl, ?_⟩
      refine ⟨s, Tt, d, m, ts, ts.map (axT ax), kvs', rfl, S1.mono sb, hd1, hd3, hm2, by rw [upd_ne ntt]; exact c4, kvt (st_unlock c3 (c1 _ _ l2) rfl) c5, ?_, by rw [List.length_map]; omega, hT.ext (same_tr b1 sb), fun x H2 hx e2 hT2 S2 => q x H2 (free_of (same_tr b1 sb) hx) (fun b o e n => e2 _ _ (sb _ _ (b1 _ _ e)) n) hT2 S2⟩
      rw [List.map_map]
      exact O.nodup
end
end Fr

namespace Fr
open PySem PySem.Spec PyProof.Rows L2
abbrev s_Systemcheck_new_names : Stmt := inClass (topS 20) 14
theorem sc_Systemcheck_new_names : FnScope ["self", "changed", "new_names", "all_names", "name"] ["self", "changed", "new_names"] (defScope s_Systemcheck_new_names) := ⟨rfl, rfl, rfl, by decide +kernel, rfl, by decide +kernel, by decide +kernel⟩
-- slots: 0 self, 1 changed, 2 new_names, 3 all_names, 4 name
abbrev s_System_renamed : Stmt := inClass (topS 20) 11
theorem sc_System_renamed : FnScope ["self", "names", "name", "new_names", "tables", "constant", "own", "reads", "table", "vector", "factor"] ["self", "names"] (defScope s_System_renamed) := ⟨rfl, rfl, rfl, by decide +kernel, rfl, by decide +kernel, by decide +kernel⟩
-- slots: 0 self, 1 names, 2 name, 3 new_names, 4 tables, 5 constant, 6 own, 7 reads, 8 table, 9 vector, 10 factor
/-- a dict from names to names -/
def dictS (nn : List (Str × Str)) : List (Key × V) := nn.map fun p => (Sum.inr p.1, V.str p.2)
theorem valS (k : Str) : ∀ nn : List (Str × Str), valV (dictS nn) (Sum.inr k) = (nn.lookup k).map V.str
  | [] => rfl
  | (a, b) :: nn => by
    show ((((Sum.inr a : Key), V.str b) :: dictS nn).find? fun kv => decide (kv.1 = Sum.inr k)).map (·.2) = _
    by_cases h : a = k
    · subst h
      rw [List.find?_cons_of_pos (by simp), List.lookup_cons_self]
      rfl
    · rw [List.find?_cons_of_neg (by simpa using h), List.lookup_cons, beq_eq_false_iff_ne.mpr fun z => h z.symm]
      exact valS k nn
theorem look_mem {k : Str} : ∀ {nn : List (Str × Str)}, k ∈ nn.map (·.1) → ∃ b, nn.lookup k = some b ∧ (k, b) ∈ nn
  | [], h => by cases h
  | (a, b) :: nn, h => by
    rw [List.lookup_cons]
    by_cases e : k = a
    · subst e
      rw [beq_self_eq_true]
      exact ⟨b, rfl, List.mem_cons_self⟩
    · rw [beq_eq_false_iff_ne.mpr e]
      rw [List.map_cons, List.mem_cons] at h
      obtain ⟨c, h1, h2⟩ := look_mem (h.resolve_left e)
      exact ⟨c, h1, List.mem_cons_of_mem _ h2⟩
section
variable {P : Program} {w : World} {K : PySem.W.Frag} {mg : Str → Option Value} {base : Heap}
def spNewNames (K : PySem.W.Frag) : Sp := fun vs H Q _ => ∃ (s l dd : Addr) (ks : List Str) (nn : List (Str × Str)), vs = [.ref s, .ref l, .ref dd] ∧ SqL K H l (ks.map V.str) ∧ H dd = some (.dK (dictS nn)) ∧ (∀ k ∈ ks, k ∈ nn.map (·.1)) ∧ (nn.map (·.2)).Nodup ∧ (∀ p ∈ nn, isName p.2 = true) ∧ ∀ H', Same H H' → Q .non H'
theorem ok_newnames {f : Addr} {fd : FuncData} (F : Fun K "_check_new_names" "System._check_new_names" s_Systemcheck_new_names f fd) (T : Txt mg) (c_is_name : C8.Cal P w K mg base 1 "is_name" spIsName []) : FnOk P w K mg base CX0 2 f fd ["self", "changed", "new_names"] (spNewNames K) := by
  refine F.ok sc_Systemcheck_new_names (fun vs H Q E h => ?_) (fun cdv A outer sh H vs Q E hr h => ?_)
  · obtain ⟨s, l, dd, ks, nn, rfl, _⟩ := h
    rfl
  · obtain ⟨s, l, dd, ks, nn, rfl, hl, hd, hk, hn2, hnm, q⟩ := h
    have hu := hu_of hr
    refine ⟨_, (pss_cons (ps_set (i := 3) sc_Systemcheck_new_names.nd rfl (by first | exact Or.inl rfl | exact Or.inr rfl) (pe_listVals rfl (by rfl) T.b_list (pv 2)))
  (pss_one (ps_for PassesOwn.never rfl (pi_list (pv 1)) (pg_name (i := 4) sc_Systemcheck_new_names.nd rfl (by first | exact Or.inl rfl | exact Or.inr rfl))
    (pss_one (ps_if (PW.pt (pw_or (pt_not (pt_val (C8.pe_c c_is_name hr (by decide) (by rfl) (pa_cons (pe_dget hu (pv 2) (pv 4) (fun _ _ => rfl)) pa_nil)))) (pw_or1 (pt_cmpR op_gt (pe_bm PySem.F.plainAttrs_list PySem.F.slot_list_count PySem.F.type_list_count mt_count (pv 3) (pa_cons (pe_dget hu (pv 2) (pv 4) (fun _ _ => rfl)) pa_nil)) pe_int (nomark _)))))
      (pss_one ps_never)
      pss_nil))))), ?_⟩
    have ev : (dictS nn).map (·.2) = (nn.map (·.2)).map V.str := by
      unfold dictS
      rw [List.map_map, List.map_map]
      rfl
    refine ⟨_, rfl, dd, _, rfl, hd, fun p hp => ?_⟩
    rw [ev]
    have s1 : Same H (upd H p (.lst ((nn.map (·.2)).map V.str))) := snew hp
    have hp1 : (upd H p (.lst ((nn.map (·.2)).map V.str))) p = some (.lst ((nn.map (·.2)).map V.str)) := upd_same
    generalize upd H p (.lst ((nn.map (·.2)).map V.str)) = H1 at s1 hp1
    refine ⟨_, rfl, l, rfl, ⟨_, sql s1 hl⟩, for_it (walk_list (K := K) (a := l) (xs := ks.map V.str)) (fun i σ H' => ∃ y4, σ = [some (.ref s), some (.ref l), some (.ref dd), some (.ref p), y4] ∧ Same H1 H') ⟨none, rfl, same_refl⟩ (fun i σ H' _ ⟨_, _, b⟩ => sql b (sql s1 hl)) ?_ ?_⟩
    · rintro i y σ _ H2 hi ⟨y4, rfl, b⟩ ⟨rfl, hy⟩
      rw [List.getElem?_map] at hy
      obtain ⟨k, hki, rfl⟩ := Option.map_eq_some_iff.mp hy
      obtain ⟨nw, hlk, hmem⟩ := look_mem (hk k (List.mem_of_getElem? hki))
      have hdg : ∀ {H' : Hp}, Same H2 H' → DGet H' dd (.str k) (some (.str nw)) := fun sm => by
        have g := DGet.k (k := Sum.inr k) (sm _ _ (b _ _ (s1 _ _ hd)))
        rw [valS, hlk] at g
        exact g
      have hok := hnm _ hmem
      have hc : (nn.map (·.2)).count nw ≤ 1 := List.nodup_iff_count.mp hn2 nw
      refine ⟨_, rfl, _, rfl, dd, _, rfl, hdg same_refl, nw, rfl, name_len hok, fun H3 s3 => ⟨_, rfl, ?_⟩⟩
      rw [show isName nw = true from hok]
      refine iteF ?_
      have hp3 := s3 _ _ (b _ _ hp1)
      refine ⟨_, rfl, Or.inl ⟨rfl, _, Or.inl (Or.inl hp3)⟩, _, rfl, _, rfl, dd, _, rfl, hdg s3, p, _, nw, rfl, rfl, Or.inl (Or.inl hp3), _, _, rfl, rfl, _, rfl, ?_⟩
      rw [decide_eq_false (by omega)]
      refine iteF ?_
      exact ⟨_, rfl, same_tr b s3⟩
    · rintro σ H2 ⟨y4, rfl, b⟩
      exact q _ (same_tr s1 b)
/-- the new name -/
def rnm (nn : List (Str × Str)) (x : Str) : Str := (nn.lookup x).getD x
def rnR (nn : List (Str × Str)) (r : Rd1) : Rd1 := ⟨rnm nn r.t, r.v, r.f⟩
def rnT (nn : List (Str × Str)) (t : Tb) : Tb := ⟨rnm nn t.n, t.c, t.rs.map (rnR nn)⟩
def spRen (K : PySem.W.Frag) (C : Addr) (TT : List (Addr × Str)) : Sp := fun vs H Q _ => ∃ (s g : Addr) (d m : Int) (ts : List Tb) (nn : List (Str × Str)), vs = [.ref s, .ref g] ∧ SysAt K C H s d m ts ∧ 1 ≤ d ∧ d ≤ 3 ∧ 2 ≤ m ∧ OkT d ts ∧ ts.length ≤ 12 ∧ H g = some (.dK (dictS nn)) ∧ nn.length ≤ 12 ∧ (∀ p ∈ nn, p.1 ∈ ts.map (·.n)) ∧
  ((ts.map (rnT nn)).map (·.n)).Nodup ∧ (∀ t ∈ ts, isName (rnm nn t.n) = true) ∧ LamX.Tabs TT H ∧
  ∀ x H', H x = none → LamX.ExtN H H' → LamX.Tabs TT H' → SysAt K C H' x d m (srt (ts.map (rnT nn))) → Q (.ref x) H'
theorem ok_ren {f C : Addr} {fd : FuncData} {TT : List (Addr × Str)} (F : Fun K "renamed" "System.renamed" s_System_renamed f fd) (T : Txt mg) (TC : TxtC K mg C) (c_check_table : C8.Cal P w K mg base 3 "check_table" (spCheckTable K C) [])
    (t__check_new_names : C8.Met P w K mg base 2 C "_check_new_names" (spNewNames K) []) (t__with_tables : C8.Met P w K mg base 7 C "_with_tables" (spWith K C TT) []) : FnOk P w K mg base CX0 8 f fd ["self", "names"] (spRen K C TT) := by
  refine F.ok sc_System_renamed (fun vs H Q E h => ?_) (fun cdv A outer sh H vs Q E hr h => ?_)
  · obtain ⟨s, g, d, m, ts, nn, rfl, _⟩ := h
    rfl
  · obtain ⟨s, g, d, m, ts, nn, rfl, S, hd1, hd3, hm2, O, hlen, hg, hnl, hnt, hnd, hnm, hT, q⟩ := h
    have hu := hu_of hr
    refine ⟨_, (pss_cons (ps_for PassesOwn.never rfl (pi_list (pe_callB (call_sortedD rfl) (by rfl) T.b_sorted (by decide +kernel) (pa_cons (pv 1) pa_nil))) (pg_name (i := 2) sc_System_renamed.nd rfl (by first | exact Or.inl rfl | exact Or.inr rfl))
    (pss_one (ps_expr (C8.pe_c c_check_table hr (by decide) (by rfl) (pa_cons (pv 0) (pa_cons (pv 2) pa_nil))))))
  (pss_cons (ps_set (i := 3) sc_System_renamed.nd rfl (by first | exact Or.inl rfl | exact Or.inr rfl) (pe_lock (pe_dc (own := [("name", 2)]) (g := gName 2) (tt := tYes) (by rfl) sc_System_renamed.nd (pi_keys (pe_fld (pv 0) rfl)) (blkOk_by (N := ["self", "names", "name", "new_names", "tables", "constant", "own", "reads", "table", "vector", "factor"]) (sc := defScope s_System_renamed) (by decide +kernel)) (fun _ _ _ _ _ => (pg_name (i := 2) sc_System_renamed.nd rfl (by first | exact Or.inl rfl | exact Or.inr rfl))) (fun _ _ _ _ _ => pts_nil) (fun _ _ _ _ _ => (pv 2)) (fun _ _ _ _ _ => (pe_dget2 hu (pv 1) (pv 2) (pv 2) ⟨by rfl, by rfl, by rfl, by rfl⟩)))))
  (pss_cons (ps_expr (C8.pe_mt t__check_new_names hr (by decide) (pv 0) (pa_cons (pe_callB (call_sortedD rfl) (by rfl) T.b_sorted (by decide +kernel) (pa_cons (pv 1) pa_nil)) (pa_cons (pv 3) pa_nil))))
  (pss_cons (ps_set (i := 4) sc_System_renamed.nd rfl (by first | exact Or.inl rfl | exact Or.inr rfl) pe_dnewK)
  (pss_cons (ps_lock (ps_for PassesOwn.never rfl (pi_items (pe_fld (pv 0) rfl)) (pg_tup rfl (pgs_cons (pg_name (i := 2) sc_System_renamed.nd rfl (by first | exact Or.inl rfl | exact Or.inr rfl)) (pgs_cons (pg_tup rfl (pgs_cons (pg_name (i := 5) sc_System_renamed.nd rfl (by first | exact Or.inl rfl | exact Or.inr rfl)) (pgs_cons (pg_name (i := 6) sc_System_renamed.nd rfl (by first | exact Or.inl rfl | exact Or.inr rfl)) pgs_nil))) pgs_nil)))
    (pss_cons (ps_setLc (i := 7) (own := [("table", 8), ("vector", 9), ("factor", 10)]) (g := gTup K 3 (gCons (gName 8) (gCons (gName 9) (gCons (gName 10) gNil)))) (tt := tYes) (by rfl) sc_System_renamed.nd rfl rfl (sw_true rfl rfl rfl (by decide +kernel)) (pi_tup (pv 6)) (blkOk_by (N := ["self", "names", "name", "new_names", "tables", "constant", "own", "reads", "table", "vector", "factor"]) (sc := defScope s_System_renamed) (by decide +kernel)) (fun _ _ _ _ _ => (pg_tup rfl (pgs_cons (pg_name (i := 8) sc_System_renamed.nd rfl (by first | exact Or.inl rfl | exact Or.inr rfl)) (pgs_cons (pg_name (i := 9) sc_System_renamed.nd rfl (by first | exact Or.inl rfl | exact Or.inr rfl)) (pgs_cons (pg_name (i := 10) sc_System_renamed.nd rfl (by first | exact Or.inl rfl | exact Or.inr rfl)) pgs_nil))))) (fun _ _ _ _ _ => pts_nil) (fun _ _ _ _ _ => (pe_tup (pa_cons (pe_dget hu (pv 3) (pv 8) (fun _ _ => rfl)) (pa_cons (pv 9) (pa_cons (pv 10) pa_nil))))))
    (pss_one (ps_dput hu (pv 4) (pe_dget hu (pv 3) (pv 2) (fun _ _ => rfl)) (pe_tup (pa_cons (pv 5) (pa_cons (pe_callTy call_tuple_of (by rfl) T.b_tuple (by decide +kernel) (pa_cons (pv 7) pa_nil)) pa_nil))) rfl)))))
  (pss_one (ps_ret (C8.pe_mt t__with_tables hr (by decide) (pv 0) (pa_cons (pv 4) pa_nil))))))))), ?_⟩
    obtain ⟨dx0, tt0, kvs0, h10, h20, h30⟩ := id S.ob
    have hkeys : (dictS nn).map (·.1) = (nn.map (·.1)).map Sum.inr := by
      unfold dictS
      rw [List.map_map, List.map_map]
      rfl
    have hnn : ∀ k ∈ nn.map (·.1), k ∈ ts.map (·.n) := fun k hk => by
      obtain ⟨p, hp, rfl⟩ := List.mem_map.mp hk
      exact hnt p hp
    have hkl : (nn.map (·.1)).length < 64 := by rw [List.length_map]; omega
    -- the old names are there
    refine ⟨_, rfl, g, dictS nn, nn.map (·.1), rfl, Or.inl hg, hkeys, hkl, fun ys p perm so hp => ?_⟩
    have s1 : Same H (upd H p (.lst (ys.map V.str))) := snew hp
    have hp1 : (upd H p (.lst (ys.map V.str))) p = some (.lst (ys.map V.str)) := upd_same
    generalize upd H p (.lst (ys.map V.str)) = H1 at s1 hp1
    refine ⟨p, rfl, ⟨_, Or.inl (Or.inl hp1)⟩, for_it (walk_list (K := K) (a := p) (xs := ys.map V.str)) (fun i σ H' => ∃ y2, σ = [some (.ref s), some (.ref g), y2, none, none, none, none, none, none, none, none] ∧ Same H1 H') ⟨none, rfl, same_refl⟩ (fun i σ H' _ ⟨_, _, b⟩ => Or.inl (Or.inl (b _ _ hp1))) ?_ ?_⟩
    · rintro i y σ _ H2 hi ⟨y2, rfl, b⟩ ⟨rfl, hy⟩
      rw [List.getElem?_map] at hy
      obtain ⟨k, hki, rfl⟩ := Option.map_eq_some_iff.mp hy
      exact ⟨_, rfl, _, rfl, s, d, m, ts, k, rfl, (S.mono s1).mono b, hnn k (perm.mem_iff.mp (List.mem_of_getElem? hki)), fun H3 s3 => ⟨_, rfl, same_tr b s3⟩⟩
    · rintro σ H2 ⟨y2, rfl, b⟩
      have b2 := same_tr s1 b
      have S2 := S.mono b2
      have hg2 := b2 _ _ hg
      clear h10 h20 h30
      obtain ⟨dx, t, kvs, h1, h2, h3⟩ := id S2.ob
      have hlt : kvs.length = ts.length := h3.len
      -- new_names
      have nst : s ≠ t := fun z => by
        rw [z, h2] at h1
        cases h1
      refine ⟨t, .dK kvs, h2, True.intro, fun od => ?_⟩
      have l1 : (upd H2 t (.frz od (.dK kvs))) s = some (.ins C dx (flds d m t)) := by rw [upd_ne nst]; exact h1
      have l2 : (upd H2 t (.frz od (.dK kvs))) t = some (.frz od (.dK kvs)) := upd_same
      have lg : Rd (upd H2 t (.frz od (.dK kvs))) g (.dK (dictS nn)) := by
        by_cases hb : g = t
        · rw [hb]
          rw [hb, h2] at hg2
          cases hg2
          exact Or.inr ⟨od, upd_same⟩
        · exact Or.inl (by rw [upd_ne hb]; exact hg2)
      have l3 : KvAt K (upd H2 t (.frz od (.dK kvs))) kvs ts := kvt (st_upd h2 rfl) h3
      have back : ∀ H', Same (upd H2 t (.frz od (.dK kvs))) H' → Same H2 (upd H' t (.dK kvs)) := fun H' e => unlock h2 e
      have pn : (upd H2 t (.frz od (.dK kvs))) p = some (.lst (ys.map V.str)) := by
        rw [upd_ne fun z => by
          have q1 := b _ _ hp1
          rw [z, h2] at q1
          cases q1]
        exact b _ _ hp1
      generalize hLq : upd H2 t (.frz od (.dK kvs)) = HL at l1 l2 l3 lg back pn
      refine ⟨_, rfl, s, C, dx, _, _, rfl, l1, TC.cl, TC.nT, flds_t _ _ _, t, od, rfl, Or.inl ⟨kvs, l2, fun D hD => ?_⟩⟩
      refine dc_it (walk_keys (o := od) (d := t) (kvs := kvs)) (fun i H' => ∃ kvs', Same HL H' ∧ H' D = some (.dK kvs') ∧ kvs' = dictS ((ts.take i).map fun t => (t.n, rnm nn t.n)) ∧ kvs'.length ≤ 12)
        ⟨[], snew hD, upd_same, rfl, Nat.zero_le _⟩ (fun i H' _ ⟨_, b1, _⟩ => b1 _ _ l2) ?_ ?_
      · rintro i x _ Hi hi ⟨kvs', c1, c2, c3, c4⟩ ⟨rfl, k, v, hk, rfl⟩
        obtain ⟨tb, ht, rfl, hv⟩ := kv_at l3 hk
        refine ⟨rfl, yes_if ?_⟩
        have lgi : Rd Hi g (.dK (dictS nn)) := by
          rcases lg with z | ⟨o, z⟩
          · exact Or.inl (c1 _ _ z)
          · exact Or.inr ⟨o, c1 _ _ z⟩
        refine ⟨_, rfl, _, rfl, g, rfl, Or.inl ⟨_, lgi⟩, _, rfl, _, rfl, _, Or.inl ⟨dictS nn, Sum.inr tb.n, lgi, rfl, rfl⟩, ?_⟩
        have hval : ((valV (dictS nn) (Sum.inr tb.n)).getD (kV (Sum.inr tb.n))) = V.str (rnm nn tb.n) := by
          rw [valS]
          unfold rnm
          cases nn.lookup tb.n <;> rfl
        rw [hval]
        have hn1 : tb.n ∉ ((ts.take i).map fun t => (t.n, rnm nn t.n)).map (·.1) := by
          rw [List.map_map]
          show tb.n ∉ (ts.take i).map (·.n)
          rw [List.map_take]
          exact notin_take O.nodup (by rw [List.getElem?_map, ht]; rfl)
        have hno : valV kvs' (Sum.inr tb.n) = none := by
          rw [c3, valS]
          have : ((ts.take i).map fun t => (t.n, rnm nn t.n)).lookup tb.n = none := by
            cases e : ((ts.take i).map fun t => (t.n, rnm nn t.n)).lookup tb.n with
            | none => rfl
            | some z =>
              exfalso
              have := List.lookup_eq_some_iff.mp e
              obtain ⟨l1', l2', e1, _⟩ := this
              exact hn1 (by rw [e1]; simp)
          rw [this]
          rfl
        refine ⟨kvs', Sum.inr tb.n, rfl, c2, Nat.lt_of_le_of_lt c4 (by rw [sizeLine_eq]; decide), _, swrite c1 hD, upd_same, ?_, ?_⟩
        · rw [putK_new _ hno, c3, List.take_add_one, ht]
          unfold dictS
          rw [List.map_append, List.map_append]
          rfl
        · rw [putK_new _ hno, c3]
          unfold dictS
          rw [List.length_append, List.length_map, List.length_map, List.length_take]
          show _ + 1 ≤ 12
          omega
      · rintro H3 ⟨kvs', c1, c2, c3, c4⟩
        have el : ts.take kvs.length = ts := by rw [hlt, List.take_length]
        rw [el] at c3
        subst c3
        have nDt : D ≠ t := fun z => by rw [z, l2] at hD; cases hD
        have sb := back H3 c1
        refine ⟨c1 _ _ l2, ?_⟩
        have D4 : (upd H3 t (.dK kvs)) D = some (.dK (dictS (ts.map fun t => (t.n, rnm nn t.n)))) := by rw [upd_ne nDt]; exact c2
        have S4 := S2.mono sb
        have g4 := sb _ _ hg2
        have b4 := same_tr b2 sb
        clear c2 c4 l3 pn lg hLq
        generalize upd H3 t (.dK kvs) = H4 at sb D4 S4 g4 b4 ⊢
        clear h1 h2 h3 l1 l2 back
        obtain ⟨dx, t, kvs, h1, h2, h3⟩ := id S4.ob
        have hlt : kvs.length = ts.length := h3.len
        -- the new names are names
        refine ⟨_, rfl, s, dx, _, rfl, h1, flds_no _ _ _ (by decide +kernel) (by decide +kernel) (by decide +kernel), _, rfl, g, dictS nn, nn.map (·.1), rfl, Or.inl g4, hkeys, hkl, fun ys2 p2 perm2 so2 hp2 => ⟨_, rfl, ?_⟩⟩
        have s5 : Same H4 (upd H4 p2 (.lst (ys2.map V.str))) := snew hp2
        have n1 : (ts.map fun t => (t.n, rnm nn t.n)).map (·.1) = ts.map (·.n) := by rw [List.map_map]; rfl
        have n2 : (ts.map fun t => (t.n, rnm nn t.n)).map (·.2) = (ts.map (rnT nn)).map (·.n) := by rw [List.map_map, List.map_map]; rfl
        refine ⟨s, p2, D, ys2, _, rfl, Or.inl (Or.inl upd_same), s5 _ _ D4, fun k hk => by rw [n1]; exact hnn k (perm2.mem_iff.mp hk), by rw [n2]; exact hnd, fun q hq => ?_, fun H5 s6 => ?_⟩
        · obtain ⟨t', ht', rfl⟩ := List.mem_map.mp hq
          exact hnm t' ht'
        have b5 := same_tr s5 s6
        have D5 := b5 _ _ D4
        have S5 := S4.mono b5
        have b6 := same_tr b4 b5
        clear h1 h2 h3
        obtain ⟨dx, tt, kvs, h1, h2, h3⟩ := id S5.ob
        -- tables = {}
        intro Tt hTt
        have nst : s ≠ tt := fun z => by
          rw [z, h2] at h1
          cases h1
        have ntT : tt ≠ Tt := ne_of_none h2 hTt
        refine ⟨tt, .dK kvs, by rw [upd_ne ntT]; exact h2, True.intro, fun od => ?_⟩
        have swap : upd (upd H5 Tt (.dK [])) tt (.frz od (.dK kvs)) = upd (upd H5 tt (.frz od (.dK kvs))) Tt (.dK []) := by
          funext b
          by_cases hb : b = tt
          · rw [hb, upd_same, upd_ne ntT, upd_same]
          · by_cases hb2 : b = Tt
            · rw [hb2, upd_ne ntT.symm, upd_same, upd_same]
            · rw [upd_ne hb, upd_ne hb2, upd_ne hb2, upd_ne hb]
        rw [swap]
        have l1 : (upd H5 tt (.frz od (.dK kvs))) s = some (.ins C dx (flds d m tt)) := by rw [upd_ne nst]; exact h1
        have l2 : (upd H5 tt (.frz od (.dK kvs))) tt = some (.frz od (.dK kvs)) := upd_same
        have lT : (upd H5 tt (.frz od (.dK kvs))) Tt = none := by rw [upd_ne ntT.symm]; exact hTt
        have l3 : KvAt K (upd H5 tt (.frz od (.dK kvs))) kvs ts := kvt (st_upd h2 rfl) h3
        have lD : Rd (upd H5 tt (.frz od (.dK kvs))) D (.dK (dictS (ts.map fun t => (t.n, rnm nn t.n)))) := by
          by_cases hb : D = tt
          · rw [hb]
            rw [hb, h2] at D5
            cases D5
            exact Or.inr ⟨od, upd_same⟩
          · exact Or.inl (by rw [upd_ne hb]; exact D5)
        have back : ∀ H', Same (upd H5 tt (.frz od (.dK kvs))) H' → Same H5 (upd H' tt (.dK kvs)) := fun H' e => unlock h2 e
        generalize upd H5 tt (.frz od (.dK kvs)) = HL at l1 l2 l3 lT lD back ⊢
        have hDg : ∀ {H' : Hp} {x : Str}, Same HL H' → x ∈ ts.map (·.n) → DGet H' D (.str x) (some (.str (rnm nn x))) := fun {H' x} sm hx => by
          have rd : Rd H' D (.dK (dictS (ts.map fun t => (t.n, rnm nn t.n)))) := by
            rcases lD with z | ⟨o, z⟩
            · exact Or.inl (sm _ _ z)
            · exact Or.inr ⟨o, sm _ _ z⟩
          refine Or.inl ⟨_, Sum.inr x, rd, rfl, ?_⟩
          rw [valS]
          obtain ⟨y, e1, e2⟩ := look_mem (nn := ts.map fun t => (t.n, rnm nn t.n)) (by rw [n1]; exact hx)
          rw [e1]
          obtain ⟨t', _, e3⟩ := List.mem_map.mp e2
          cases e3
          rfl
        refine ⟨_, rfl, s, C, dx, _, _, rfl, by rw [upd_ne (ne_of_none l1 lT)]; exact l1, TC.cl, TC.nT, flds_t _ _ _, tt, od, kvs, rfl, by rw [upd_ne ntT]; exact l2, ?_⟩
        refine for_it (walk_items (o := od) (d := tt) (kvs := kvs)) (fun i σ H' => ∃ y2 y5 y6 y7, σ = [some (.ref s), some (.ref g), y2, some (.ref D), some (.ref Tt), y5, y6, y7, none, none, none] ∧ ∃ (B : Hp) (kvs' : List (Key × V)), Same HL B ∧ B Tt = none ∧ Same B H' ∧ H' Tt = some (.dK kvs') ∧ KvAt K B kvs' ((ts.take i).map (rnT nn)))
          ⟨_, none, none, none, rfl, HL, [], same_refl, lT, snew lT, upd_same, .nil⟩ (fun i σ H' _ ⟨_, _, _, _, _, B, _, c1, _, c3, _⟩ => c3 _ _ (c1 _ _ l2)) ?_ ?_
        · rintro i x σ Hi _ hi ⟨y2, y5, y6, y7, rfl, B, kvs', c1, c2, c3, c4, c5⟩ ⟨Tp, k1, v1, rfl, hTp, rfl, e1, e2⟩
          obtain ⟨⟨k, v⟩, hk, rfl⟩ := Option.map_eq_some_iff.mp e1
          obtain ⟨⟨k', v'⟩, hk', rfl⟩ := Option.map_eq_some_iff.mp e2
          rw [hk] at hk'
          cases hk'
          obtain ⟨tb, ht, rfl, hv⟩ := kv_at l3 hk
          have htm := List.mem_of_getElem? ht
          have h12 := few_reads O htm
          have hno : valV kvs' (Sum.inr (rnm nn tb.n)) = none := c5.noVal (by
            rw [List.map_take, List.map_take]
            exact notin_take hnd (by rw [List.getElem?_map, List.getElem?_map, ht]; rfl))
          have hkl2 : kvs'.length ≤ 12 := by
            rw [c5.len, List.length_map, List.length_take]
            omega
          have sTp : Same Hi (upd Hi Tp (.tup [kV (Sum.inr tb.n), v])) := snew hTp
          have c3' := same_tr c3 sTp
          have nTp : Tt ≠ Tp := ne_of_none c4 hTp
          have c4' : (upd Hi Tp (.tup [kV (Sum.inr tb.n), v])) Tt = some (.dK kvs') := by rw [upd_ne nTp]; exact c4
          have tpat : (upd Hi Tp (.tup [kV (Sum.inr tb.n), v])) Tp = some (.tup [.str tb.n, v]) := upd_same
          generalize upd Hi Tp (.tup [kV (Sum.inr tb.n), v]) = H3 at c3' c4' tpat
          obtain ⟨a, ys, rfl, hta, hda⟩ := dtup (dpm c1 _ _ hv)
          obtain ⟨z1, z2, rfl, g1, g2⟩ := dps2 hda
          obtain rfl := dint g1
          obtain ⟨ow, os, rfl, hto, hdo⟩ := dtup g2
          have hol : os.length = tb.rs.length := by rw [dps_len hdo, List.length_map]
          refine ⟨Tp, _, rfl, Or.inl (Or.inl tpat), rfl, _, _, rfl, _, _, rfl, a, _, rfl, sqt c3' hta, rfl, _, _, rfl, _, _, rfl, rfl, rfl, ?_⟩
          -- reads = [..]
          refine ⟨_, rfl, ow, rfl, ⟨os, sqt c3' hto⟩, fun E hE => ?_⟩
          have bE : B E = none := free_of c3' hE
          have nET : Tt ≠ E := ne_of_none c4' hE
          refine lc_it (walk_tup (K := K) (a := ow) (xs := os)) (fun j H' => ∃ (B2 : Hp) (zs : List V), Same B B2 ∧ B2 E = none ∧ B2 Tt = none ∧ Same B2 H' ∧ H' Tt = some (.dK kvs') ∧ H' E = some (.lst zs) ∧ DpAll K B2 zs (((tb.rs.take j).map (rnR nn)).map Rd1.d))
            ⟨B, [], same_refl, bE, c2, same_tr c3' (snew hE), by rw [upd_ne nET]; exact c4', upd_same, .nil⟩ (fun j H' _ ⟨B2, zs, d1, _, _, d4, _⟩ => sqt d4 (sqt d1 hto)) ?_ ?_
          · rintro j y _ Hj hj ⟨B2, zs, d1, d2, d3, d4, d5, d6, d7⟩ ⟨rfl, hy⟩
            obtain ⟨r, ra, rb, e3, rfl, _, f3, f4⟩ := rd_at (dpsm d1 _ _ hdo) hy
            have hrm := List.mem_of_getElem? e3
            refine ⟨ra, _, rfl, sqt d4 f3, rfl, _, _, rfl, _, _, rfl, _, _, rfl, rfl, rfl, yes_if ?_⟩
            refine ⟨_, rfl, _, rfl, D, _, rfl, hDg (same_tr c1 (same_tr d1 d4)) (O.here tb htm r hrm), _, rfl, _, rfl, (by show 3 ≤ sizeLine; decide), fun u hu2 => ?_⟩
            have bu := free_of d4 hu2
            have nuE : E ≠ u := ne_of_none d6 hu2
            have nuT : Tt ≠ u := ne_of_none d5 hu2
            have s6 : Same (upd B2 u (.tup [.str (rnm nn r.t), .ref rb, .int r.f])) (upd Hj u (.tup [.str (rnm nn r.t), .ref rb, .int r.f])) := sgrow d4
            have cE : (upd B2 u (.tup [.str (rnm nn r.t), .ref rb, .int r.f])) E = none := by rw [upd_ne nuE]; exact d2
            have cT : (upd B2 u (.tup [.str (rnm nn r.t), .ref rb, .int r.f])) Tt = none := by rw [upd_ne nuT]; exact d3
            refine ⟨zs, by rw [upd_ne nuE]; exact d6, small1000 (by rw [dps_len d7, List.length_map, List.length_map, List.length_take]; omega), _, zs ++ [.ref u], same_tr d1 (snew bu), cE, cT, swrite s6 cE, by rw [upd_ne nET, upd_ne nuT]; exact d5, upd_same, ?_⟩
            rw [List.take_add_one, e3, List.map_append, List.map_append]
            exact dps_snoc (dpsm (snew bu) _ _ d7) (.tup (Or.inl (Or.inl upd_same)) (.cons (.str _) (.cons (.tup (sqt (snew bu) f4) (ints_dps _)) (.cons (.int _) .nil))))
          · rintro H4 ⟨B2, zs, d1, d2, d3, d4, d5, d6, d7⟩
            rw [hol, List.take_length] at d7
            refine ⟨_, rfl, _, rfl, E, zs, rfl, Or.inl ⟨Or.inl (Or.inl d6), fun l hl => ⟨(by show 2 ≤ sizeLine; decide), fun u hu2 => ?_⟩⟩⟩
            have bl : B2 l = none := free_of d4 hl
            have s6 : Same (upd B2 l (.tup zs)) (upd H4 l (.tup zs)) := sgrow d4
            have bu : (upd B2 l (.tup zs)) u = none := free_of s6 hu2
            have s7 : Same (upd (upd B2 l (.tup zs)) u (.tup [.int tb.c, .ref l])) (upd (upd H4 l (.tup zs)) u (.tup [.int tb.c, .ref l])) := sgrow s6
            have sB2 : Same B2 (upd (upd B2 l (.tup zs)) u (.tup [.int tb.c, .ref l])) := same_tr (snew bl) (snew bu)
            have sB := same_tr d1 sB2
            have nlT : Tt ≠ l := ne_of_none d5 hl
            have d2' : (upd H4 l (.tup zs)) Tt = some (.dK kvs') := by rw [upd_ne nlT]; exact d5
            have nuT : Tt ≠ u := ne_of_none d2' hu2
            have d2'' : (upd (upd H4 l (.tup zs)) u (.tup [.int tb.c, .ref l])) Tt = some (.dK kvs') := by rw [upd_ne nuT]; exact d2'
            have bT : (upd (upd B2 l (.tup zs)) u (.tup [.int tb.c, .ref l])) Tt = none := by rw [upd_ne nuT, upd_ne nlT]; exact d3
            have ul : (upd (upd B2 l (.tup zs)) u (.tup [.int tb.c, .ref l])) l = some (.tup zs) := by
              rw [upd_ne (ne_of_none (upd_same (H := B2) (o := HO.tup zs)) bu)]
              exact upd_same
            refine ⟨_, rfl, _, rfl, _, rfl, D, _, rfl, hDg (same_tr c1 (same_tr sB s7)) (List.mem_map.mpr ⟨tb, htm, rfl⟩), ?_⟩
            refine ⟨Tt, _, rfl, DPut.k (k := Sum.inr (rnm nn tb.n)) d2'' (Nat.lt_of_le_of_lt hkl2 (by rw [sizeLine_eq]; decide)), ?_⟩
            refine ⟨_, _, _, _, rfl, _, kvs' ++ [(Sum.inr (rnm nn tb.n), .ref u)], same_tr c1 sB, bT, swrite s7 bT, by rw [upd_same, putK_new _ hno], ?_⟩
            rw [List.take_add_one, ht, List.map_append]
            exact (c5.mono sB).app (.cons ⟨rfl, .tup (Or.inl (Or.inl upd_same)) (.cons (.int _) (.cons (.tup (Or.inl (Or.inl ul)) (dpsm sB2 _ _ d7)) .nil))⟩ .nil)
        · rintro σ H' ⟨y2, y5, y6, y7, rfl, B, kvs', c1, c2, c3, c4, c5⟩
          have hlt2 : kvs.length = ts.length := h3.len
          rw [hlt2, List.take_length] at c5
          have sb2 := back H' (same_tr c1 c3)
          have ntt : Tt ≠ tt := ntT.symm
          refine ⟨c3 _ _ (c1 _ _ l2), _, rfl, s, dx, _, rfl, sb2 _ _ h1, flds_no _ _ _ (by decide +kernel) (by decide +kernel) (by decide +kernel), _, rfl, ?_⟩
          refine ⟨s, Tt, d, m, ts, ts.map (rnT nn), kvs', rfl, S5.mono sb2, hd1, hd3, hm2, by rw [upd_ne ntt]; exact c4, kvt (st_unlock c3 (c1 _ _ l2) rfl) c5, hnd, by rw [List.length_map]; omega, hT.ext (same_tr b6 sb2), fun x H2 hx e2 hT2 S2 => q x H2 (free_of (same_tr b6 sb2) hx) (fun b o e n => e2 _ _ (sb2 _ _ (b6 _ _ e)) n) hT2 S2⟩
end
end Fr

namespace Fr
open PySem PySem.Spec PyProof.Rows L2 HT
theorem places_back (n : Nat) : Builtin.Slice.slicePlaces ((n : Int) - 1) (-1) (-1) = n := by
  unfold Builtin.Slice.slicePlaces
  have h1 : ¬ ((-1 : Int) > 0) := by omega
  simp only [h1, if_false]
  split <;> simp <;> omega
theorem adjust_back (n : Nat) : Builtin.Slice.sliceAdjust none none (-1) (n : Int) = ((n : Int) - 1, -1) := by
  unfold Builtin.Slice.sliceAdjust
  have h1 : (-1 : Int) < 0 := by omega
  simp only [h1, if_true]
theorem pick_back (xs : Array Value) : ((List.range xs.size).filterMap fun (m : Nat) => xs[(((xs.size : Nat) : Int) - 1 + (m : Int) * (-1)).toNat]?).toArray = xs.toList.reverse.toArray := by
  have e : (List.range xs.size).filterMap (fun (m : Nat) => xs[(((xs.size : Nat) : Int) - 1 + (m : Int) * (-1)).toNat]?) = (List.range xs.size).filterMap (fun m => xs[xs.size - 1 - m]?) := by
    refine congrArg (fun f : Nat → Option Value => (List.range xs.size).filterMap f) (funext fun m => ?_)
    have : (((xs.size : Nat) : Int) - 1 + (m : Int) * (-1)).toNat = xs.size - 1 - m := by omega
    rw [this]
  rw [e]
  congr 1
  have e2 : (List.range xs.size).filterMap (fun m => xs[xs.size - 1 - m]?) = ((List.range xs.size).map fun m => xs.size - 1 - m).filterMap (xs[·]?) := by
    rw [List.filterMap_map]
    rfl
  rw [e2, PySem.W.krv_range, List.filterMap_reverse, PySem.W.krv_all]
section
variable {prog : Program} {w : World} {A : Around} {E : Value → Shared → Prop} {s : Shared}
theorem tup_back {t sl : Addr} {items : Array Value} {vs : Value} {Q : Value → Shared → Prop} (ht : IsTup s.heap t items) (hs : s.heap.IsSliceOf sl .none .none vs) (ps : IsPart vs (some (-1)))
    (h : Q (.ref s.heap.objs.size) { s with heap := s.heap.push { cls := .type "tuple", data := .seq items.toList.reverse.toArray } }) (hz : items.size ≤ sizeLine) : wpAny (model prog w) A (getItem (.ref t) (.ref sl)) Q E s := by
  have hlen : sizeOk (.seq items.toList.reverse.toArray) := by
    show items.toList.reverse.toArray.size ≤ sizeLine
    rw [List.size_toArray, List.length_reverse, Array.length_toList]
    exact hz
  obtain ⟨os, ho, hc, hd⟩ := id hs
  have hTs : s.TypeIs (.ref sl) "slice" := ⟨os, ho, hc⟩
  unfold getItem
  try with_reducible refine wpAny_holding ?_
  first | refine wpAny_bind (wpAny_pure ?_) | skip
  refine wpAny_bind (wpAny_sequenceKey ht.typeIs (by decide) ?_)
  refine wpAny_bind (wpAny_callSpecial?_slot (name := Str.ofString "__getitem__") ht.typeIs PyProof.Rows.slot_tuple_getitem (wpAny_call_entry PyProof.Rows.slot_tuple_getitem ht.typeIs entry_tuple_getitem ?_ (args_tuple_getitem _ _)))
  show wpAny _ _ (Builtin.Tuple.tupleItemsOf (.ref t) >>= _) _ _ s
  refine wpAny_bind (tupleItemsOf_ ht (wpAny_bind (wpAny_typeOf hTs ?_)))
  rw [if_pos (by decide)]
  refine wpAny_bind ?_
  unfold Builtin.Slice.sliceApplied Builtin.Slice.sliceFields
  refine wpAny_bind (wpAny_bind (wpAny_field ho hd (x := .none) rfl (wpAny_bind (wpAny_field ho hd (x := .none) rfl (wpAny_bind (wpAny_field ho hd (x := vs) rfl (wpAny_pure ?_)))))))
  refine wpAny_bind (slicePart_ ps ?_)
  show wpAny _ _ (if ((-1 : Int) == 0) = true then _ else _) _ _ s
  rw [if_neg (by decide)]
  refine wpAny_bind (slicePart_none (wpAny_bind (slicePart_none (wpAny_bind (wpAny_pure ?_)))))
  show wpAny _ _ (match Builtin.Slice.sliceAdjust none none (-1) (items.size : Int) with | (lo, hi) => pure (lo, (-1 : Int), Builtin.Slice.slicePlaces lo hi (-1))) _ _ s
  rw [adjust_back]
  show wpAny _ _ (pure (((items.size : Nat) : Int) - 1, (-1 : Int), Builtin.Slice.slicePlaces (((items.size : Nat) : Int) - 1) (-1) (-1))) _ _ s
  rw [places_back]
  refine wpAny_pure ?_
  have hno : ¬ (((((items.size : Nat) : Int) - 1) == 0 && (-1 : Int) == 1 && items.size == items.size) = true) := by
    rw [show ((-1 : Int) == 1) = false from rfl, Bool.and_false, Bool.false_and]
    exact Bool.false_ne_true
  show wpAny _ _ (if ((((items.size : Nat) : Int) - 1) == 0 && (-1 : Int) == 1 && items.size == items.size) = true then _ else _) _ _ s
  rw [if_neg hno, pick_back]
  first
    | exact wpAny_bind (m := Builtin.Tuple.tupleExact _) (wpAny_newObj_type (wpAny_pure ⟨_, rfl, wpAny_pure h⟩) hlen)
    | exact wpAny_bind (m := Builtin.Tuple.tupleExact _) (wpAny_newObj_type (wpAny_bind (wpAny_pure (wpAny_pure ⟨_, rfl, wpAny_pure h⟩))) hlen)
    | exact wpAny_bind (wpAny_bind (m := Builtin.Tuple.tupleExact _) (wpAny_newObj_type (wpAny_pure (wpAny_pure ⟨_, rfl, wpAny_pure h⟩)) hlen))
    | exact wpAny_bind (wpAny_bind (m := Builtin.Tuple.tupleExact _) (wpAny_newObj_type (wpAny_pure ⟨_, rfl, wpAny_pure h⟩) hlen))
end
section
variable {X : Cx}
def tRevT (K : PySem.W.Frag) (te : TE) : TE := fun σ H Q => te σ H fun x H1 => ∃ a xs, x = .ref a ∧ SqT K H1 a xs ∧ ∀ p, H1 p = none → Q (.ref p) (upd H1 p (.tup xs.reverse))
theorem pe_revT {e : Expr} {te : TE} {k : Nat} {p1 p2 p3 pos : Pos} (he : PE X e te) : PE X (.Subscript e (.Slice none none (some (.UnaryOp .USub (.Constant (.int 1) k p1) p2)) p3) pos) (tRevT X.K te) := by
  refine ⟨fun pins s σ H Q I h => ?_⟩
  refine Subscript_ (thn (he.run pins s σ H _ I h) fun v s1 ⟨x, H1, I1, r1, a, xs, ex, hx, q⟩ => ?_)
  subst ex
  cases r1
  have hst : PO X (some (.UnaryOp .USub (.Constant (.int 1) k p1) p2)) (tPart (tUn (rU fun i => .int (-i)) (tC (.int 1)))) := po_some (pe_un un_neg pe_int)
  refine wpAny_Slice (thn (po_none.run pins s1 σ H1 (fun o H2 => o = none ∧ H2 = H1) I1 ⟨rfl, rfl⟩) fun vl s2 ⟨l, H2, I2, pl, el, e2⟩ => ?_)
  subst el e2
  refine thn (po_none.run pins s2 σ H2 (fun o H3 => o = none ∧ H3 = H2) I2 ⟨rfl, rfl⟩) fun vu s3 ⟨u, H3, I3, pu, eu, e3⟩ => ?_
  subst eu e3
  refine thn (hst.run pins s3 σ H3 (fun o H4 => o = some (-1) ∧ H4 = H3) I3 ⟨1, rfl, -1, rfl, rfl, rfl⟩) fun vs s4 ⟨o, H4, I4, ps, eo, e4⟩ => ?_
  subst eo e4
  cases pl
  cases pu
  have I5 : Inv X pins σ H4 { s4 with heap := s4.heap.push { cls := .type "slice", data := .fields #[.none, .none, vs] } } := I4.kept (t' := s4.toks) fun b ob q => Heap.get?_push_of_some _ q
  obtain ⟨its, r, ht, hz⟩ := I5.tuple hx
  have hlen := r.length
  show wpAny (model X.prog X.w) X.A (subscriptTail e (.Slice none none (some (.UnaryOp .USub (.Constant (.int 1) k p1) p2)) p3) (.ref a) (.ref s4.heap.objs.size)) (EP X pins σ Q) X.xe { s4 with heap := s4.heap.push { cls := .type "slice", data := .fields #[.none, .none, vs] } }
  refine tail_any (ops := [.ref a, .ref s4.heap.objs.size]) ht.typeIs (PyProof.Rows.slot_tuple_getitem.lookup) ?_ (by with_unfolding_all rfl)
  refine tup_back ht (Heap.IsSliceOf.new _ .none .none vs) ps ?_ (by rw [List.size_toArray]; omega)
  refine ⟨.ref _, _, I5.laid (t' := s4.toks) (o := .tup xs.reverse) (fun b ob q => Heap.get?_push_of_some _ q) (Nat.le_refl _) ?_, rfl, q _ (I5.hok.fresh (Nat.le_refl _))⟩
  exact ⟨by rw [List.length_reverse]; exact hz, _, r.reverse, IsTup.new _ _⟩
end
end Fr

namespace Fr
open PySem PySem.Spec PyProof.Rows L2
section
variable {P : Program} {w : World} {K : PySem.W.Frag} {mg : Str → Option Value} {base : Heap}
theorem mk_sys {C : Addr} {TT : List (Addr × Str)} {H : Hp} {d m : Int} {v : V} {ts : List Tb} {R : Hp → Prop} {E : XK} (hT : LamX.Tabs TT H) (O : OkSys d m ts) (hv : Dp K H v (.list (ts.map Tb.d))) {x dx : Addr} (nx : H x = none) (ndx : H dx = none) (nex : dx ≠ x)
    (q : ∀ H', LamX.ExtN H H' → LamX.Tabs TT H' → SysAt K C H' x d m (srt ts) → R H') : spInit K C TT [.ref x, .int d, v, .int m] (upd (upd H dx (.own x)) x (.ins C dx [])) (fun v H2 => v = .non ∧ R H2) E := by
  have sx : Same H (upd (upd H dx (.own x)) x (.ins C dx [])) := same_tr (snew ndx) (snew (by rw [upd_ne nex.symm]; exact nx))
  exact ⟨x, dx, d, m, v, ts, rfl, upd_same, hT.ext sx, O, dpm sx _ _ hv, fun H2 E2 hT2 S2 => ⟨rfl, q H2 (fun b o e n => E2 b o (sx b o e) (ne_of_none e nx) n) hT2 S2⟩⟩
theorem eq_sys {C a b : Addr} {H : Hp} {d m : Int} {ts : List Tb} {Q : VK} (S : SysAt K C H a d m ts) (S' : SysAt K C H b d m ts) (O : OkT d ts) (q : Q (.bl true) H) : rEqOwn C (spSysEq K C) (.ref a) (.ref b) H Q := by
  have sh : ∀ t ∈ ts, SeqAt.shaped t.k = true := fun t ht => (lay_k O ht).shaped (by decide)
  obtain ⟨dx, t, kvs, h1, _⟩ := id S.ob
  obtain ⟨dx', t', kvs', h1', _⟩ := id S'.ob
  refine ⟨a, b, dx, dx', _, _, rfl, rfl, h1, h1', a, b, d, m, d, m, ts, ts, rfl, S, S', sh, sh, _, rfl, ?_⟩
  rw [tabEq_refl O.nodup sh, decide_eq_true rfl, decide_eq_true rfl]
  exact q
theorem no_fld {d m : Int} {t : Addr} {x : Str} (h : decide (x = "_dimensions" ∨ x = "_modulus" ∨ x = "_tables") = false) : (flds d m t).lookup x = none := by
  have h := of_decide_eq_false h
  exact flds_no _ _ _ (fun e => h (.inl e)) (fun e => h (.inr (.inl e))) fun e => h (.inr (.inr e))
end
section
variable {K : PySem.W.Frag} {TT : List (Addr × Str)} {r : Addr} {m m' : Nat} {B B' H H' : Hp}
theorem LS.ext (h : LS TT r m B H) (x : LamX.ExtN H H') (t : LamX.Tabs TT H') : LS TT r m B H' := by
  obtain ⟨a, b, c, e, n⟩ := h.rs.ok
  exact ⟨⟨same_of_ext h.rs.s h.nt x, h.rs.n, a, b, c, x _ _ e (fun ps z => by cases z), n⟩, t, h.nt⟩
theorem LS.up (h : LS TT r m B H) : Same B (bs H r) := fun b o e => bs_of (h.rs.s b o e) (ne_of_none e h.rs.n) fun ps z => h.nt b ps (by rw [e, z])
theorem LS.re (h : LS TT r m B H) : LS TT r m (bs H r) H := LS.own h.rs.ok h.tb
theorem LS.call (h : LS TT r m B H) (R : RS r m' B' H') (s : Same (cutr H r) B') : LS TT r m' B H' :=
  ⟨⟨fun b o e => R.s _ _ (s _ _ (by rw [cutr_ne (ne_of_none e h.rs.n)]; exact h.rs.s b o e)), h.rs.n, R.ok⟩, tabs_cut h.tb h.rs.ok (same_tr s R.s), h.nt⟩
theorem LD.bs {l : Addr} {ds : List PyData} (h : LD K H l ds) (n : noLs ds = true) (ok : RngOk H r m) (ne : r ≠ l) : LD K (Fr.bs H r) l ds := by
  obtain ⟨xs, h1, h2⟩ := h
  exact ⟨xs, bs_of h1 ne.symm (fun ps z => by cases z), dpst (ST.bs ok) _ _ n h2⟩
theorem ST.cut (ok : RngOk H r m) : ST H (cutr H r) := fun b o e d => by
  obtain ⟨x, y, z, h1, _⟩ := ok
  rw [cutr_ne fun q => by rw [q, h1] at e; cases e; cases d]
  exact e
theorem sd_to (s : Same B H) (n : B r = none) (x : LamX.ExtN H H') : SD B (Fr.bs H' r) := fun b o e d => by
  have nt : ∀ ps, o ≠ .tbl ps := fun ps z => by
    rw [z] at d
    cases d
  exact bs_of (x _ _ (s _ _ e) nt) (ne_of_none e n) nt
theorem LD.to {l : Addr} {ds : List PyData} (h : LD K B l ds) (s : Same B H) (n : B r = none) (x : LamX.ExtN H H') : LD K (Fr.bs H' r) l ds := by
  obtain ⟨xs, h1, h2⟩ := h
  exact ⟨xs, sd_to s n x _ _ h1 rfl, dpsd (sd_to s n x) _ _ h2⟩
theorem SysAt.re {C s : Addr} {d md : Int} {ts : List Tb} (h : SysAt K C H s d md ts) (ok : RngOk H r m) : SysAt K C (Fr.bs H r) s d md ts := h.bs ok fun _ => kvt (ST.bs ok)
end
/-- an expression, up to what holds behind it -/
def tCsqE (t : TE) : TE := fun σ H Q => ∃ N : V → Hp → Prop, (∀ v H, N v H → Q v H) ∧ t σ H N
theorem pe_csqE {X : Cx} {e : Expr} {t : TE} (h : PE X e t) : PE X e (tCsqE t) := ⟨fun pins s σ H Q I ⟨N, hN, q⟩ => thn (h.run pins s σ H _ I q) fun v s1 ⟨x, H1, I1, r, n⟩ => ⟨x, H1, I1, r, hN _ _ n⟩⟩
theorem dps_take {K : PySem.W.Frag} {H : Hp} : ∀ (n : Nat) {vs : List V} {ds : List PyData}, DpAll K H vs ds → DpAll K H (vs.take n) (ds.take n)
  | 0, _, _, _ => by rw [List.take_zero, List.take_zero]; exact .nil
  | n + 1, _, _, h => by
    cases h with
    | nil => exact .nil
    | cons h1 h2 => exact .cons h1 (dps_take n h2)
theorem LS.keep {TT : List (Addr × Str)} {r p : Addr} {m : Nat} {B H : Hp} {o : HO} (h : LS TT r m B H) (e : H p = some o) (k : B p = none) (n : r ≠ p) (t : ∀ ps, o ≠ .tbl ps) : LS TT r m (upd B p o) H :=
  ⟨h.rs.keep e k n, h.tb, fun b ps z => by
    by_cases hb : b = p
    · rw [hb, upd_same] at z
      exact t ps (Option.some.inj z)
    · rw [upd_ne hb] at z
      exact h.nt b ps z⟩
theorem cut_any (xs : List V) (i : Nat) : cutV xs none (some (i : Int)) = xs.take i := by
  unfold cutV
  rw [show HT.sIx xs.length xs.length (some (i : Int)) = min i xs.length from HT.sIx_nat xs.length xs.length i, HT.sIx_none, List.drop_zero, Nat.sub_zero]
  exact (List.take_eq_take_min).symm
theorem LD.dr {K : PySem.W.Frag} {H H' : Hp} {l r : Addr} {m m' : Nat} {ds : List PyData} (h : LD K H l ds) (n : noLs ds = true) (ok : RngOk H r m) (d : Dr r m' H H') (ne : r ≠ l) : LD K H' l ds := h.st (ST.dr ok d) n (d.ne _ ne.symm)
theorem srt_srt {ts : List Tb} (n : (ts.map (·.n)).Nodup) : srt (srt ts) = srt ts := (srt_same (srt_perm ts).symm n).symm
end Fr

namespace Fr
open PySem PySem.Spec PyProof.Rows L2
abbrev s_Lexchanged_right : Stmt := topS 28
theorem sc_Lexchanged_right : FnScope ["_law_rng_here", "_law_made", "_law_rows", "_law_turn", "_law_moved", "_law_word", "_law_number", "_law_some", "_law_spot", "_law_one", "_law_due", "_law_told", "_law_plain"] ["_law_rng_here", "_law_made", "_law_rows"] (defScope s_Lexchanged_right) := ⟨rfl, rfl, rfl, by decide +kernel, rfl, by decide +kernel, by decide +kernel⟩
-- slots: 0 _law_rng_here, 1 _law_made, 2 _law_rows, 3 _law_turn, 4 _law_moved, 5 _law_word, 6 _law_number, 7 _law_some, 8 _law_spot, 9 _law_one, 10 _law_due, 11 _law_told, 12 _law_plain
theorem perm_ax {n : Nat} {es : List PyData} (h : List.Perm ((List.range n).map fun a : Nat => PyData.int a) es) : ∃ ax : List Nat, es = (ax.map fun a : Nat => (a : Int)).map PyData.int ∧ ax.Perm (List.range n) := by
  let un : PyData → Nat := fun d => match d with
    | .int i => i.toNat
    | _ => 0
  refine ⟨es.map un, ?_, ?_⟩
  · rw [List.map_map, List.map_map]
    refine (List.map_id es).symm.trans (List.map_congr_left fun e he => ?_)
    obtain ⟨x, _, rfl⟩ := List.mem_map.mp (h.mem_iff.mpr he)
    rfl
  · have z := h.symm.map un
    rw [List.map_map] at z
    have e : (List.range n).map (un ∘ fun a : Nat => PyData.int a) = List.range n := (List.map_congr_left fun e _ => rfl).trans (List.map_id _)
    rw [e] at z
    exact z
theorem axV_id {v : List Int} {n : Nat} (h : v.length = n) : axV (List.range n) v = v := by
  subst h
  refine List.ext_getElem (by unfold axV; simp) fun i h1 h2 => ?_
  unfold axV
  simp [List.getD_eq_getElem?_getD, h2]
theorem axV_rev {v : List Int} {n : Nat} (h : v.length = n) : axV (List.range n).reverse v = v.reverse := by
  have e : axV (List.range n).reverse v = (axV (List.range n) v).reverse := by
    unfold axV
    rw [List.map_reverse]
  rw [e, axV_id h]
theorem read_vlen {d : Int} {r : Rd1} (h : isRead d r = true) : r.v.length = d.toNat := by
  unfold isRead at h
  rw [Bool.and_eq_true, Bool.and_eq_true] at h
  have := of_decide_eq_true h.2.1
  omega
theorem axT_id {d : Int} {ts : List Tb} (O : OkT d ts) : ts.map (axT (List.range d.toNat)) = ts := by
  refine (List.map_congr_left fun t ht => ?_).trans (List.map_id ts)
  obtain ⟨n, c, rs⟩ := t
  unfold axT
  congr 1
  refine (List.map_congr_left fun r hr => ?_).trans (List.map_id rs)
  unfold axR
  rw [axV_id (read_vlen (O.reads _ ht r hr))]
  rfl
theorem axT_rev2 {d : Int} {ts : List Tb} (O : OkT d ts) : (ts.map (axT (List.range d.toNat).reverse)).map (axT (List.range d.toNat).reverse) = ts := by
  rw [List.map_map]
  refine (List.map_congr_left fun t ht => ?_).trans (List.map_id ts)
  obtain ⟨n, c, rs⟩ := t
  show Tb.mk n c ((rs.map _).map _) = _
  congr 1
  rw [List.map_map]
  refine (List.map_congr_left fun r hr => ?_).trans (List.map_id rs)
  have hl := read_vlen (O.reads _ ht r hr)
  show Rd1.mk r.t (axV _ (axV _ r.v)) r.f = _
  rw [axV_rev hl, axV_rev (by rw [List.length_reverse]; exact hl), List.reverse_reverse]
  rfl
theorem axT_names (ax : List Nat) (ts : List Tb) : (ts.map (axT ax)).map (·.n) = ts.map (·.n) := by
  rw [List.map_map]
  rfl
theorem axT_sys {d m : Int} {ts : List Tb} {ax : List Nat} (hax : AxOk d ax) (h : Sys1 d m ts) : Sys1 d m (ts.map (axT ax)) := by
  refine ⟨h.d1, h.d3, h.m2, h.mx, by rw [List.length_map]; exact h.l1, by rw [List.length_map]; exact h.l6, ⟨?_, ?_, ?_, ?_, ?_⟩, ?_⟩
  · intro t ht
    obtain ⟨u, hu, rfl⟩ := List.mem_map.mp ht
    exact h.ok.names u hu
  · rw [axT_names]
    exact h.ok.nodup
  · rw [List.map_map]
    refine Nat.le_trans (Nat.le_of_eq ?_) h.ok.few
    congr 1
    refine List.map_congr_left fun t _ => ?_
    show (t.rs.map (axR ax)).length = _
    rw [List.length_map]
  · intro t ht r hr
    obtain ⟨u, hu, rfl⟩ := List.mem_map.mp ht
    obtain ⟨r', hr', rfl⟩ := List.mem_map.mp hr
    have z := h.ok.reads u hu r' hr'
    have d1 := h.d1
    unfold isRead at z ⊢
    rw [Bool.and_eq_true, Bool.and_eq_true] at z ⊢
    refine ⟨z.1, decide_eq_true ?_, z.2.2⟩
    show ((axV ax r'.v).length : Int) = d
    have := hax.len
    unfold axV
    rw [List.length_map]
    omega
  · intro t ht r hr
    obtain ⟨u, hu, rfl⟩ := List.mem_map.mp ht
    obtain ⟨r', hr', rfl⟩ := List.mem_map.mp hr
    rw [axT_names]
    exact h.ok.here u hu r' hr'
  · intro t ht
    obtain ⟨u, hu, rfl⟩ := List.mem_map.mp ht
    have z := h.sm u hu
    refine ⟨z.c, fun r hr => ?_, fun r hr => ?_⟩
    · obtain ⟨r', hr', rfl⟩ := List.mem_map.mp hr
      exact z.f r' hr'
    · obtain ⟨r', hr', rfl⟩ := List.mem_map.mp hr
      intro y hy
      obtain ⟨a, ha, rfl⟩ := List.mem_map.mp hy
      have hl := read_vlen (h.ok.reads u hu r' hr')
      have hlt := hax.lt ha
      refine z.v r' hr' _ ?_
      rw [List.getD_eq_getElem?_getD, List.getElem?_eq_getElem (by omega)]
      exact List.getElem_mem _
theorem srt_axT {ts : List Tb} {ax : List Nat} (n : (ts.map (·.n)).Nodup) : srt ((srt ts).map (axT ax)) = srt (ts.map (axT ax)) :=
  (srt_same ((srt_perm ts).symm.map (axT ax)) (by rw [axT_names]; exact n)).symm
section
variable {P : Program} {w : World} {K : PySem.W.Frag} {mg : Str → Option Value} {base : Heap}
def spER (K : PySem.W.Frag) (C : Addr) (TT : List (Addr × Str)) : Sp := fun vs H Q _ => ∃ (r s l : Addr) (k : Nat) (B : Hp) (d m : Int) (ts : List Tb), vs = [.ref r, .ref s, .ref l] ∧ LS TT r k B H ∧ SysAt K C B s d m (srt ts) ∧ LD K B l (ts.map Tb.d) ∧ Sys1 d m ts ∧ k ≤ 1000000 ∧
  ∀ H', LS TT r (k + 3) B H' → Q (.bl true) H'
theorem ok_er {f C : Addr} {fd : FuncData} {TT : List (Addr × Str)} (F : Fun K "_law_exchanged_right" "_law_exchanged_right" s_Lexchanged_right f fd) (T : Txt mg) (TC : TxtC K mg C) (c_Lmixed : C8.Cal P w K mg base 2 "_law_mixed" (spMixed K) []) (p_dimensions : Prp P w K mg base 1 C "dimensions" (spDims K C)) (p_modulus : Prp P w K mg base 1 C "modulus" (spMod K C))
    (m_System3 : C8.Mak P w K mg base 5 "System" C (spInit K C TT) []) (c_Lshown : CalG P w K mg base 5 "_law_shown" (spShown K C)) (t_exchanged : C8.Met P w K mg base 8 C "exchanged" (spExch K C TT) []) (kt_exchanged : MetK P w K mg base 8 C "exchanged" (spExch K C TT) ["axes"] kw1) (eq_System : EqM P w K mg base 1 C (spSysEq K C)) :
    FnG P w K mg base 9 f fd ["_law_rng_here", "_law_made", "_law_rows"] (spER K C TT) := by
  refine Fun_okG F sc_Lexchanged_right (fun vs H Q E h => ?_) (fun cdv A outer sh H vs Q E hr h => ?_)
  · obtain ⟨r, s, l, k, B, d, m, ts, rfl, _⟩ := h
    rfl
  · obtain ⟨r, s, l, k, B, d, m, ts, rfl, L, S, D, O, hk, q⟩ := h
    refine ⟨_, (pss_cons (ps_asg (pe_tup (pa_cons (pe_callTy call_tuple_of (by rfl) T.b_tuple (by decide +kernel) (pa_cons (C8.pe_c c_Lmixed hr.room (by decide) (by rfl) (pa_cons (pv 0) (pa_cons (pe_listRg rfl (by rfl) T.b_list (prg_1 (by rfl) T.b_range (pe_pr (pv 1) p_dimensions hr.room (by decide) rfl))) pa_nil))) pa_nil)) (pa_cons (pe_lst pa_nil) pa_nil))) (pg_tup rfl (pgs_cons (pg_name (i := 3) sc_Lexchanged_right.nd rfl (by first | exact Or.inl rfl | exact Or.inr rfl)) (pgs_cons (pg_name (i := 4) sc_Lexchanged_right.nd rfl (by first | exact Or.inl rfl | exact Or.inr rfl)) pgs_nil))))
  (pss_cons (ps_for PassesOwn.never rfl (pi_list (pv 2)) (pg_tup rfl (pgs_cons (pg_name (i := 5) sc_Lexchanged_right.nd rfl (by first | exact Or.inl rfl | exact Or.inr rfl)) (pgs_cons (pg_name (i := 6) sc_Lexchanged_right.nd rfl (by first | exact Or.inl rfl | exact Or.inr rfl)) (pgs_cons (pg_name (i := 7) sc_Lexchanged_right.nd rfl (by first | exact Or.inl rfl | exact Or.inr rfl)) pgs_nil))))
    (pss_one (ps_expr (pe_bm PySem.F.plainAttrs_list PySem.F.slot_list_append PySem.F.type_list_append mt_append (pv 4) (pa_cons (pe_tup (pa_cons (pv 5) (pa_cons (pv 6) (pa_cons (pe_lc (own := [("_law_one", 9)]) (g := gName 9) (tt := tYes) (by rfl) sc_Lexchanged_right.nd (pi_list (pv 7)) (blkOk_by (N := ["_law_rng_here", "_law_made", "_law_rows", "_law_turn", "_law_moved", "_law_word", "_law_number", "_law_some", "_law_spot", "_law_one", "_law_due", "_law_told", "_law_plain"]) (sc := defScope s_Lexchanged_right) (by decide +kernel)) (fun _ _ _ _ _ => (pg_name (i := 9) sc_Lexchanged_right.nd rfl (by first | exact Or.inl rfl | exact Or.inr rfl))) (fun _ _ _ _ _ => pts_nil) (fun _ _ _ _ _ => (pe_tup (pa_cons (pe_ix (r := rIxT K) ix_tup (pv 9) pe_int (fun _ _ => rfl)) (pa_cons (pe_callTy (r := rTupS K) call_tuple_of (by rfl) T.b_tuple (by decide +kernel) (pa_cons (pe_lc (own := [("_law_spot", 8)]) (g := gName 8) (tt := tYes) (by rfl) sc_Lexchanged_right.nd (pi_tupK (K' := K) (pv 3)) (blkOk_by (N := ["_law_rng_here", "_law_made", "_law_rows", "_law_turn", "_law_moved", "_law_word", "_law_number", "_law_some", "_law_spot", "_law_one", "_law_due", "_law_told", "_law_plain"]) (sc := { kind := .function, names := [(".0", .local), ("_law_one", .cell), ("tuple", .globalImplicit), ("_law_turn", .cell)], isGenerator := false, isCoroutine := false }) (by decide +kernel)) (fun _ _ _ _ _ => (pg_name (i := 8) sc_Lexchanged_right.nd rfl (by first | exact Or.inl rfl | exact Or.inr rfl))) (fun _ _ _ _ _ => pts_nil) (fun _ _ _ _ _ => (pe_ix (r := rIxT K) ix_tup (pe_ix (r := rIxT K) ix_tup (pv 9) pe_int (fun _ _ => rfl)) (pv 8) (fun _ _ => rfl)))) pa_nil)) (pa_cons (pe_ix (r := rIxT K) ix_tup (pv 9) pe_int (fun _ _ => rfl)) pa_nil)))))) pa_nil)))) pa_nil)))))
  (pss_cons (ps_set (i := 10) sc_Lexchanged_right.nd rfl (by first | exact Or.inl rfl | exact Or.inr rfl) (C8.pe_mk m_System3 hr.room (by decide) (by rfl) (pa_cons (pe_pr (pv 1) p_dimensions hr.room (by decide) rfl) (pa_cons (pv 4) (pa_cons (pe_pr (pv 1) p_modulus hr.room (by decide) rfl) pa_nil)))))
  (pss_cons (ps_for PassesOwn.never rfl (pi_tup (pe_tup (pa_cons (C8.pe_mt t_exchanged hr.room (by decide) (pv 1) (pa_cons (pv 3) pa_nil)) (pa_cons (pe_mtk kt_exchanged hr.room (by decide) (pv 1) (pk_cons (pv 3) pk_nil)) pa_nil)))) (pg_name (i := 11) sc_Lexchanged_right.nd rfl (by first | exact Or.inl rfl | exact Or.inr rfl))
    (pss_one (ps_if (PW.pt (pw_or (pt_cmpR op_ne (pe_cG c_Lshown hr (by decide) (by rfl) (pa_cons (pv 11) pa_nil)) (pe_cG c_Lshown hr (by decide) (by rfl) (pa_cons (pv 10) pa_nil)) (nomark _)) (pw_or1 (pt_not (pt_cmpR (op_eqOwn eq_System hr.room (by decide)) (pv 11) (pv 10) (nomark _))))))
      (pss_one (ps_ret pe_bl))
      pss_nil)))
  (pss_cons (ps_set (i := 12) sc_Lexchanged_right.nd rfl (by first | exact Or.inl rfl | exact Or.inr rfl) (pe_tupRg rfl (by rfl) T.b_tuple (prg_1 (by rfl) T.b_range (pe_pr (pv 1) p_dimensions hr.room (by decide) rfl))))
  (pss_cons (ps_if (PW.pt (pw_or (pt_not (pt_cmpR (op_eqOwn eq_System hr.room (by decide)) (C8.pe_mt t_exchanged hr.room (by decide) (pv 1) (pa_cons (pv 12) pa_nil)) (pv 1) (nomark _))) (pw_or1 (pt_not (pt_cmpR (op_eqOwn eq_System hr.room (by decide)) (C8.pe_mt t_exchanged hr.room (by decide) (C8.pe_mt t_exchanged hr.room (by decide) (pv 1) (pa_cons (pe_revT (pv 12)) pa_nil)) (pa_cons (pe_revT (pv 12)) pa_nil)) (pv 1) (nomark _))))))
    (pss_one (ps_ret pe_bl))
    pss_nil)
  (pss_one (ps_ret (pe_cmpR (op_eqOwn eq_System hr.room (by decide)) (C8.pe_mt t_exchanged hr.room (by decide) (pv 1) (pa_cons (pv 3) pa_nil)) (pv 10) (nomark _)))))))))), ?_⟩
    obtain ⟨sdx, stt, skv, o1, _⟩ := id S.ob
    obtain ⟨lx, lp, ld⟩ := id D
    have lxl : lx.length = ts.length := by rw [dps_len ld, List.length_map]
    have d1 := O.d1
    have d3 := O.d3
    have l6 := O.l6
    have srl : (srt ts).length = ts.length := List.length_mergeSort _
    have Os := O.srt
    have rgok : RgOk 0 d := RgOk.of_le (by omega) (by omega) (by omega) (by omega)
    -- turn
    refine ⟨_, rfl, _, rfl, s, sdx, _, rfl, L.rs.s _ _ o1, s, d, m, srt ts, rfl, S.mono L.rs.s, d, rfl, rgok, fun q1 hq1 => ?_⟩
    have L1 := L.new (o := .lst (rgV 0 d)) hq1
    have rq1 := L.rs.ne hq1
    have q1at : (upd H q1 (.lst (rgV 0 d))) q1 = some (.lst (rgV 0 d)) := upd_same
    generalize upd H q1 (.lst (rgV 0 d)) = H1 at L1 q1at
    refine ⟨r, q1, k, cutr H1 r, _, (List.range d.toNat).map fun a : Nat => .int a, rfl, RS.cut L1.rs.ok, Or.inl (Or.inl (by rw [cutr_ne rq1.symm]; exact q1at)), ?_, ?_, by rw [List.length_map, List.length_range]; omega, by omega, fun p H2 ys es b2 rn2 perm dd R2 => ?_⟩
    · rw [rgV0]
      have z := ints_dps (K := K) (H := cutr H1 r) ((List.range d.toNat).map fun a : Nat => (a : Int))
      rw [List.map_map, List.map_map] at z
      rw [List.map_map]
      exact z
    · intro e he
      obtain ⟨a, _, rfl⟩ := List.mem_map.mp he
      exact ⟨by simp [PyData.canLay0], by simp [PyData.depth]⟩
    obtain ⟨ax, rfl, hperm⟩ := perm_ax perm
    have hax : AxOk d ax := hperm
    obtain rfl := dps_ints dd
    have L2 := (L1.call R2 (snew b2)).mono (m' := k + 3) (by rw [List.length_map, List.length_range]; omega)
    have pat := R2.s _ _ upd_same
    refine ⟨p, _, rfl, Or.inl ⟨Or.inl (Or.inl pat), fun tp htp => ?_⟩⟩
    have L3 := L2.new (o := .tup ((ax.map fun a : Nat => (a : Int)).map V.int)) htp
    have tpat : (upd H2 tp (.tup ((ax.map fun a : Nat => (a : Int)).map V.int))) tp = some (.tup ((ax.map fun a : Nat => (a : Int)).map V.int)) := upd_same
    generalize upd H2 tp (.tup ((ax.map fun a : Nat => (a : Int)).map V.int)) = H3 at L3 tpat
    clear L2 L1 R2 b2 rn2 dd perm
    -- moved
    refine ⟨Nat.zero_le _, fun lo hlo => ⟨(by show 2 ≤ sizeLine; decide), fun pr hpr => ⟨pr, _, rfl, Or.inl (Or.inl upd_same), rfl, _, _, rfl, _, _, rfl, rfl, ?_⟩⟩⟩
    have lo3 : H3 lo = none := hlo
    have npr : lo ≠ pr := ne_of_none (upd_same (H := H3) (o := HO.lst [])) hpr
    have pr3 : H3 pr = none := free_of (snew hlo) hpr
    have l3 : H3 l = some (.lst lx) := L3.rs.s _ _ lp
    have D3 : DpAll K H3 lx (ts.map Tb.d) := dpsm L3.rs.s _ _ ld
    have s3 : Same H3 (upd H3 pr (.tup [.ref tp, .ref lo])) := snew pr3
    refine ⟨_, rfl, l, rfl, ⟨lx, Or.inl (Or.inl (snew hpr _ _ (snew hlo _ _ l3)))⟩, for_it (walk_list (K := K) (a := l) (xs := lx)) (fun i σ H' => ∃ y5 y6 y7, σ = [some (.ref r), some (.ref s), some (.ref l), some (.ref tp), some (.ref lo), y5, y6, y7, none, none, none, none, none] ∧ ∃ (Bq : Hp) (ys : List V), Same H3 Bq ∧ Bq lo = none ∧ Same Bq H' ∧ H' lo = some (.lst ys) ∧ DpAll K Bq ys (((ts.take i).map (axT ax)).map Tb.d))
      ⟨none, none, none, rfl, _, [], s3, by rw [upd_ne npr]; exact lo3, sgrow (snew hlo), by rw [upd_ne npr]; exact upd_same, .nil⟩ (fun i σ H' _ ⟨_, _, _, _, Bq, ys, b1, _, b3, _⟩ => Or.inl (Or.inl (b3 _ _ (b1 _ _ l3)))) ?_ ?_⟩
    · rintro i y σ _ Hi hi ⟨y5, y6, y7, rfl, Bq, ys, b1, b2, b3, b4, b5⟩ ⟨rfl, hy⟩
      obtain ⟨t, b, li, rs, f1, rfl, g1, g2, g3⟩ := tb_at (dpsm b1 _ _ D3) hy
      have htm := List.mem_of_getElem? f1
      have h12 := few_reads O.ok htm
      have hrl : rs.length = t.rs.length := by rw [dps_len g3, List.length_map]
      refine ⟨b, _, rfl, sqt b3 g1, rfl, _, _, rfl, _, _, rfl, _, _, rfl, rfl, ?_⟩
      refine ⟨_, rfl, Or.inl ⟨rfl, _, Or.inl (Or.inl b4)⟩, _, rfl, _, rfl, ?_⟩
      -- the reads
      refine ⟨_, rfl, li, rfl, ⟨rs, sql b3 g2⟩, fun E hE => ?_⟩
      have nDL : lo ≠ E := ne_of_none b4 hE
      have bE : Bq E = none := free_of b3 hE
      refine lc_it (walk_list (K := K) (a := li) (xs := rs)) (fun j H' => ∃ (B2 : Hp) (zs : List V), Same Bq B2 ∧ B2 E = none ∧ B2 lo = none ∧ Same B2 H' ∧ H' lo = some (.lst ys) ∧ H' E = some (.lst zs) ∧ DpAll K B2 zs (((t.rs.take j).map (axR ax)).map Rd1.d))
        ⟨Bq, [], same_refl, bE, b2, same_tr b3 (snew hE), by rw [upd_ne nDL]; exact b4, upd_same, .nil⟩ (fun j H' _ ⟨B2, zs, c1, _, _, c4, _⟩ => sql c4 (sql c1 g2)) ?_ ?_
      · rintro j z _ Hj hj ⟨B2, zs, c1, c2, c3, c4, c5, c6, c7⟩ ⟨rfl, hz⟩
        obtain ⟨rd, ra, rb, e1, rfl, _, e3, e4⟩ := rd_at (dpsm c1 _ _ g3) hz
        have hrv := read_vlen (O.ok.reads t htm rd (List.mem_of_getElem? e1))
        have hgj : SqT K Hj tp ((ax.map fun a : Nat => (a : Int)).map V.int) := Or.inl (Or.inl (c4 _ _ (c1 _ _ (b1 _ _ tpat))))
        refine ⟨rfl, yes_if ?_⟩
        refine ⟨_, rfl, ra, _, 0, _, rfl, rfl, sqt c4 e3, rfl, _, rfl, tp, rfl, ⟨_, hgj⟩, fun D2 hD2 => lc_flat (walk_tup (K := K) (a := tp) (xs := (ax.map fun a : Nat => (a : Int)).map V.int)) (fun j => .int ((axV ax rd.v).getD j 0)) (by rw [List.length_map, List.length_map, hax.len]; omega) hD2 (fun H' sm => sqt sm hgj) (fun i H x H' y => yat_same y) ?_ ?_⟩
        · rintro j2 z Ha _ hj2 sm ⟨rfl, hz⟩ R hR
          rw [List.getElem?_map, List.getElem?_map] at hz
          obtain ⟨_, hz2, rfl⟩ := Option.map_eq_some_iff.mp hz
          obtain ⟨c, hc, rfl⟩ := Option.map_eq_some_iff.mp hz2
          have hcl : c < rd.v.length := by rw [hrv]; exact hax.lt (List.mem_of_getElem? hc)
          have ev : (axV ax rd.v).getD j2 0 = rd.v.getD c 0 := by
            unfold axV
            simp [List.getD_eq_getElem?_getD, hc]
          have eg : (rd.v.map V.int)[c]? = some (.int (rd.v.getD c 0)) := by
            simp [List.getD_eq_getElem?_getD, hcl]
          have r' := hR _ same_refl
          rw [ev] at r'
          exact ⟨rfl, _, rfl, ra, _, 1, _, rfl, rfl, sqt sm (sqt c4 e3), rfl, _, rfl, rb, rd.v.map V.int, (c : Int), _, rfl, rfl, sqt sm (sqt c4 e4), atI_nat eg, r'⟩
        · intro H4 s4 hD4
          rw [rg_map (l := axV ax rd.v) (by unfold axV; simp)] at hD4
          refine ⟨D2, _, rfl, Or.inl ⟨Or.inl (Or.inl hD4), fun tv htv => ?_⟩⟩
          have c4' := same_tr c4 s4
          have bt := free_of c4' htv
          have s5 : Same (upd B2 tv (.tup ((axV ax rd.v).map V.int))) (upd H4 tv (.tup ((axV ax rd.v).map V.int))) := sgrow c4'
          have c5' := s4 _ _ c5
          have c6' := s4 _ _ c6
          have ntL : lo ≠ tv := ne_of_none c5' htv
          have ntE : E ≠ tv := ne_of_none c6' htv
          have c5'' : (upd H4 tv (.tup ((axV ax rd.v).map V.int))) lo = some (.lst ys) := by rw [upd_ne ntL]; exact c5'
          have c6'' : (upd H4 tv (.tup ((axV ax rd.v).map V.int))) E = some (.lst zs) := by rw [upd_ne ntE]; exact c6'
          have e35 := sqt s5 (sqt (snew bt) e3)
          refine ⟨_, rfl, ra, _, 2, _, rfl, rfl, e35, rfl, (by show 3 ≤ sizeLine; decide), fun u hu2 => ?_⟩
          have bu := free_of s5 hu2
          have nuE : E ≠ u := ne_of_none c6'' hu2
          have nuL : lo ≠ u := ne_of_none c5'' hu2
          have s6 : Same (upd (upd B2 tv (.tup ((axV ax rd.v).map V.int))) u (.tup [.str rd.t, .ref tv, .int rd.f])) (upd (upd H4 tv (.tup ((axV ax rd.v).map V.int))) u (.tup [.str rd.t, .ref tv, .int rd.f])) := sgrow s5
          have sB : Same B2 (upd (upd B2 tv (.tup ((axV ax rd.v).map V.int))) u (.tup [.str rd.t, .ref tv, .int rd.f])) := same_tr (snew bt) (snew bu)
          have cE : (upd (upd B2 tv (.tup ((axV ax rd.v).map V.int))) u (.tup [.str rd.t, .ref tv, .int rd.f])) E = none := by rw [upd_ne nuE, upd_ne ntE]; exact c2
          have cL : (upd (upd B2 tv (.tup ((axV ax rd.v).map V.int))) u (.tup [.str rd.t, .ref tv, .int rd.f])) lo = none := by rw [upd_ne nuL, upd_ne ntL]; exact c3
          have ut : (upd (upd B2 tv (.tup ((axV ax rd.v).map V.int))) u (.tup [.str rd.t, .ref tv, .int rd.f])) tv = some (.tup ((axV ax rd.v).map V.int)) := by rw [upd_ne (ne_of_none upd_same bu)]; exact upd_same
          refine ⟨zs, by rw [upd_ne nuE]; exact c6'', small1000 (by rw [dps_len c7, List.length_map, List.length_map, List.length_take]; omega), _, zs ++ [.ref u], same_tr c1 sB, cE, cL, swrite s6 cE, by rw [upd_ne nDL, upd_ne nuL]; exact c5'', upd_same, ?_⟩
          rw [List.take_add_one, e1, List.map_append, List.map_append]
          exact dps_snoc (dpsm sB _ _ c7) (.tup (Or.inl (Or.inl upd_same)) (.cons (.str _) (.cons (.tup (Or.inl (Or.inl ut)) (ints_dps _)) (.cons (.int _) .nil))))
      · rintro H4 ⟨B2, zs, c1, c2, c3, c4, c5, c6, c7⟩
        rw [hrl, List.take_length] at c7
        refine ⟨(by show 3 ≤ sizeLine; decide), fun u hu => ?_⟩
        have nuE : E ≠ u := ne_of_none c6 hu
        have nuL : lo ≠ u := ne_of_none c5 hu
        have c5' : (upd H4 u (.tup [.str t.n, .int t.c, .ref E])) lo = some (.lst ys) := by rw [upd_ne nuL]; exact c5
        have q1 : Same (upd B2 E (.lst zs)) H4 := fun b o e => by
          by_cases hb : b = E
          · rw [hb, upd_same] at e
            rw [hb, ← e]
            exact c6
          · rw [upd_ne hb] at e
            exact c4 _ _ e
        have du : (upd B2 E (.lst zs)) u = none := free_of q1 hu
        have q2 : Same (upd (upd B2 E (.lst zs)) u (.tup [.str t.n, .int t.c, .ref E])) (upd H4 u (.tup [.str t.n, .int t.c, .ref E])) := sgrow q1
        have sB : Same Bq (upd (upd B2 E (.lst zs)) u (.tup [.str t.n, .int t.c, .ref E])) := same_tr c1 (same_tr (snew c2) (snew du))
        have dL : (upd (upd B2 E (.lst zs)) u (.tup [.str t.n, .int t.c, .ref E])) lo = none := by rw [upd_ne nuL, upd_ne nDL]; exact c3
        have dE : (upd (upd B2 E (.lst zs)) u (.tup [.str t.n, .int t.c, .ref E])) E = some (.lst zs) := by rw [upd_ne nuE]; exact upd_same
        refine ⟨lo, ys, _, rfl, rfl, c5', small1000 (by rw [dps_len b5, List.length_map, List.length_map, List.length_take]; omega), ?_⟩
        refine ⟨_, _, _, rfl, _, ys ++ [.ref u], same_tr b1 sB, dL, swrite q2 dL, upd_same, ?_⟩
        rw [List.take_add_one, f1, List.map_append, List.map_append]
        exact dps_snoc (dpsm sB _ _ b5) (.tup (Or.inl (Or.inl upd_same)) (.cons (.str _) (.cons (.int _) (.cons (.lst (Or.inl (Or.inl dE)) (dpsm (same_tr (snew c2) (snew du)) _ _ c7)) .nil))))
    · rintro σ H4 ⟨y5, y6, y7, rfl, Bq, ys, b1, b2, b3, b4, b5⟩
      rw [lxl, List.take_length] at b5
      have s4 := same_tr b1 b3
      have LM : LD K H4 lo ((ts.map (axT ax)).map Tb.d) := ⟨ys, b4, dpsm b3 _ _ b5⟩
      have L4 := L3.grow s4
      have tp4 := s4 _ _ tpat
      clear b5 b4 b3 b2 b1 s4 s3
      have S4 := S.mono L4.rs.s
      have o4 := L4.rs.s _ _ o1
      have OA := axT_sys hax O
      have OAs := OA.srt
      -- due
      refine ⟨_, rfl, s, sdx, _, rfl, o4, s, d, m, srt ts, rfl, S4, _, rfl, _, rfl, s, sdx, _, rfl, o4, s, d, m, srt ts, rfl, S4, fun x z2 nx z4 z5 => mk_sys L4.tb OA.sys LM.dp nx z4 z5 fun H5 X5 T5 S5 => ?_⟩
      have L5 := L4.ext X5 T5
      have tp5 := X5 _ _ tp4 (fun ps z => by cases z)
      -- the two
      refine ⟨_, rfl, s, sdx, _, rfl, L5.rs.s _ _ o1, no_fld (by decide +kernel), _, rfl, s, tp, d, m, srt ts, ax, rfl, S.mono L5.rs.s, d1, d3, O.m2, Os.ok, by omega, Or.inl (Or.inl tp5), hax, T5, fun b1 H6 nb1 X6 T6 S6 => ?_⟩
      rw [srt_axT O.ok.nodup] at S6
      have L6 := L5.ext X6 T6
      have tp6 := X6 _ _ tp5 (fun ps z => by cases z)
      refine ⟨_, rfl, s, sdx, _, rfl, L6.rs.s _ _ o1, no_fld (by decide +kernel), _, rfl, s, tp, d, m, srt ts, ax, rfl, S.mono L6.rs.s, d1, d3, O.m2, Os.ok, by omega, Or.inl (Or.inl tp6), hax, T6, fun b2 H7 nb2 X7 T7 S7 => ⟨(by show 2 ≤ sizeLine; decide), fun tq htq => ?_⟩⟩
      rw [srt_axT O.ok.nodup] at S7
      have s8 := snew (o := .tup [.ref b1, .ref b2]) htq
      have L8 := (L6.ext X7 T7).new (o := .tup [.ref b1, .ref b2]) htq
      have U1 := (S6.ext X7).mono s8
      have U2 := S7.mono s8
      have S58 := ((S5.ext X6).ext X7).mono s8
      have tq8 : (upd H7 tq (.tup [.ref b1, .ref b2])) tq = some (.tup [.ref b1, .ref b2]) := upd_same
      have tp8 := s8 _ _ (X7 _ _ tp6 (fun ps z => by cases z))
      generalize upd H7 tq (.tup [.ref b1, .ref b2]) = H8 at L8 U1 U2 S58 tq8 tp8
      refine ⟨tq, rfl, ⟨_, Or.inl (Or.inl tq8)⟩, for_it (walk_tup (K := K) (a := tq) (xs := [V.ref b1, .ref b2])) (fun n σ H' => ∃ y11, σ = [some (.ref r), some (.ref s), some (.ref l), some (.ref tp), some (.ref lo), y5, y6, y7, none, none, some (.ref x), y11, none] ∧ Same H8 H')
        ⟨none, rfl, same_refl⟩ (fun n σ H' _ ⟨_, _, e⟩ => Or.inl (Or.inl (e _ _ tq8))) ?_ ?_⟩
      · rintro n v σ _ Hi hn ⟨y11, rfl, si⟩ ⟨rfl, hv⟩
        have hb : ∃ b, v = .ref b ∧ SysAt K C Hi b d m (srt (ts.map (axT ax))) := by
          match n, hn with
          | 0, _ => cases hv; exact ⟨_, rfl, U1.mono si⟩
          | 1, _ => cases hv; exact ⟨_, rfl, U2.mono si⟩
        obtain ⟨b, rfl, Ub⟩ := hb
        refine ⟨_, rfl, b, d, m, _, rfl, Ub, OAs, fun Ha sa => ?_⟩
        refine ⟨_, rfl, x, d, m, _, rfl, S58.mono (same_tr si sa), OAs, fun Hb sb => ⟨rfl, _, rfl, ?_⟩⟩
        rw [decide_eq_true rfl]
        refine iteF ?_
        have sab := same_tr sa sb
        refine ⟨_, rfl, _, rfl, eq_sys (Ub.mono sab) (S58.mono (same_tr si sab)) OAs.ok ⟨_, rfl, ?_⟩⟩
        exact iteF ⟨_, rfl, same_tr si sab⟩
      · rintro σ H9 ⟨y11, rfl, s9⟩
        have L9 := L8.grow s9
        have S59 := S58.mono s9
        have tp9 := s9 _ _ tp8
        clear L8 U1 U2 S58 tq8 tp8 s9 s8 L6 tp6 S6 S7
        -- plain
        refine ⟨_, rfl, s, sdx, _, rfl, L9.rs.s _ _ o1, s, d, m, srt ts, rfl, S.mono L9.rs.s, d, rfl, rgok, fun pp hpp => ?_⟩
        have L10 := L9.new (o := .tup (rgV 0 d)) hpp
        have pp10 : (upd H9 pp (.tup (rgV 0 d))) pp = some (.tup (rgV 0 d)) := upd_same
        have S5a := S59.mono (snew (o := .tup (rgV 0 d)) hpp)
        have tpa := snew (o := .tup (rgV 0 d)) hpp _ _ tp9
        generalize upd H9 pp (.tup (rgV 0 d)) = Ha at L10 pp10 S5a tpa
        have haxI : AxOk d (List.range d.toNat) := List.Perm.refl _
        have haxR : AxOk d (List.range d.toNat).reverse := List.reverse_perm _
        have rgR : (rgV 0 d).reverse = ((List.range d.toNat).reverse.map fun a : Nat => (a : Int)).map V.int := by
          rw [rgV0, List.map_reverse, List.map_reverse]
        have eI : srt ((srt ts).map (axT (List.range d.toNat))) = srt ts := by rw [axT_id Os.ok, srt_srt O.ok.nodup]
        refine ⟨_, rfl, s, sdx, _, rfl, L10.rs.s _ _ o1, no_fld (by decide +kernel), _, rfl, s, pp, d, m, srt ts, List.range d.toNat, rfl, S.mono L10.rs.s, d1, d3, O.m2, Os.ok, by omega, Or.inl (Or.inl (by rw [← rgV0]; exact pp10)), haxI, L10.tb, fun b3 Hb nb3 Xb Tb' Sb => ?_⟩
        rw [eI] at Sb
        have L11 := L10.ext Xb Tb'
        refine ⟨_, rfl, eq_sys Sb (S.mono L11.rs.s) Os.ok ⟨_, rfl, ?_⟩⟩
        refine iteF ?_
        have pp11 := Xb _ _ pp10 (fun ps z => by cases z)
        have tpb := Xb _ _ tpa (fun ps z => by cases z)
        have S5b := S5a.ext Xb
        have eR : srt ((srt ((srt ts).map (axT (List.range d.toNat).reverse))).map (axT (List.range d.toNat).reverse)) = srt ts := by
          rw [srt_axT (by rw [axT_names]; exact Os.ok.nodup), axT_rev2 Os.ok, srt_srt O.ok.nodup]
        have OR : Sys1 d m (srt ((srt ts).map (axT (List.range d.toNat).reverse))) := (axT_sys haxR Os).srt
        have orl : (srt ((srt ts).map (axT (List.range d.toNat).reverse))).length = ts.length := by rw [show (srt ((srt ts).map (axT (List.range d.toNat).reverse))).length = ((srt ts).map (axT (List.range d.toNat).reverse)).length from List.length_mergeSort _, List.length_map, srl]
        refine ⟨_, rfl, s, sdx, _, rfl, L11.rs.s _ _ o1, no_fld (by decide +kernel), _, rfl, pp, _, rfl, Or.inl (Or.inl pp11), fun p1 hp1 => ?_⟩
        have L12 := L11.new (o := .tup (rgV 0 d).reverse) hp1
        have p1at : (upd Hb p1 (.tup (rgV 0 d).reverse)) p1 = some (.tup (rgV 0 d).reverse) := upd_same
        have pp12 := snew (o := .tup (rgV 0 d).reverse) hp1 _ _ pp11
        have tpc := snew (o := .tup (rgV 0 d).reverse) hp1 _ _ tpb
        have S5c := S5b.mono (snew (o := .tup (rgV 0 d).reverse) hp1)
        generalize upd Hb p1 (.tup (rgV 0 d).reverse) = Hc at L12 p1at pp12 tpc S5c
        refine ⟨s, p1, d, m, srt ts, (List.range d.toNat).reverse, rfl, S.mono L12.rs.s, d1, d3, O.m2, Os.ok, by omega, Or.inl (Or.inl (by rw [← rgR]; exact p1at)), haxR, L12.tb, fun b4 Hd nb4 Xd Td Sd => ?_⟩
        have L13 := L12.ext Xd Td
        have pp13 := Xd _ _ pp12 (fun ps z => by cases z)
        have tpd := Xd _ _ tpc (fun ps z => by cases z)
        have S5d := S5c.ext Xd
        obtain ⟨dx4, t4, kv4, g4, _⟩ := id Sd.ob
        refine ⟨b4, dx4, _, rfl, g4, no_fld (by decide +kernel), _, rfl, pp, _, rfl, Or.inl (Or.inl pp13), fun p2 hp2 => ?_⟩
        have s14 := snew (o := .tup (rgV 0 d).reverse) hp2
        have L14 := L13.new (o := .tup (rgV 0 d).reverse) hp2
        have p2at : (upd Hd p2 (.tup (rgV 0 d).reverse)) p2 = some (.tup (rgV 0 d).reverse) := upd_same
        have tpe := s14 _ _ tpd
        have S5e := S5d.mono s14
        have Se := Sd.mono s14
        generalize upd Hd p2 (.tup (rgV 0 d).reverse) = He at L14 p2at tpe S5e Se
        refine ⟨b4, p2, d, m, _, (List.range d.toNat).reverse, rfl, Se, d1, d3, O.m2, OR.ok, by omega, Or.inl (Or.inl (by rw [← rgR]; exact p2at)), haxR, L14.tb, fun b5 Hf nb5 Xf Tf Sf => ?_⟩
        rw [eR] at Sf
        have L15 := L14.ext Xf Tf
        have tpf := Xf _ _ tpe (fun ps z => by cases z)
        have S5f := S5e.ext Xf
        refine ⟨_, rfl, eq_sys Sf (S.mono L15.rs.s) Os.ok ⟨_, rfl, ?_⟩⟩
        refine iteF ?_
        -- the end
        refine ⟨_, rfl, s, sdx, _, rfl, L15.rs.s _ _ o1, no_fld (by decide +kernel), _, rfl, s, tp, d, m, srt ts, ax, rfl, S.mono L15.rs.s, d1, d3, O.m2, Os.ok, by omega, Or.inl (Or.inl tpf), hax, Tf, fun b6 Hg nb6 Xg Tg Sg => ?_⟩
        rw [srt_axT O.ok.nodup] at Sg
        exact ⟨_, rfl, eq_sys Sg (S5f.ext Xg) OAs.ok (q Hg (L15.ext Xg Tg))⟩
end
end Fr

namespace Fr
open PySem PySem.Spec PyProof.Rows L2 PySem.W
section
variable {prog : Program} {w : World} {A : Around}
/-- a zip of two lists that gave i pairs, while the list S is filled -/
def LZ (z TI TO i1 i2 l1 l2 S : Addr) (xs ys : Array Value) (i : Nat) (h : Heap) : Prop :=
  IsPair h TI (.ref i1) (.ref i2) ∧ h.IsListIter i1 l1 i ∧ h.IsListIter i2 l2 i ∧ h.IsList l1 xs ∧ h.IsList l2 ys ∧ (∃ oO, h.get? TO = some oO) ∧
    ((IsZip h z TI TO .none ∧ ∃ a b, IsPair h TO a b) ∨ ∃ (T : Addr) (f : Bool) (oT : Obj), IsZipHeld h z TI TO T f ∧ h.get? T = some oT ∧ T ≠ z ∧ T ≠ i1 ∧ T ≠ i2 ∧ T ≠ S)
/-- the pairs so far -/
structure ZT (N z TO i1 i2 S : Addr) (xs ys : Array Value) (Ts : List Addr) (h : Heap) : Prop where
  at' : ∀ (j : Nat) (T : Addr), Ts[j]? = some T → ∃ x y, xs[j]? = some x ∧ ys[j]? = some y ∧ IsPair h T x y
  off : ∀ T ∈ Ts, N ≤ T ∧ T ≠ S ∧ T ≠ z ∧ T ≠ TO ∧ T ≠ i1 ∧ T ≠ i2
  nd : Ts.Nodup
theorem ZT.keep {N z TO i1 i2 S : Addr} {xs ys : Array Value} {Ts : List Addr} {h h' : Heap} (t : ZT N z TO i1 i2 S xs ys Ts h) (k : ∀ b o, b ≠ S → b ≠ z → b ≠ TO → b ≠ i1 → b ≠ i2 → h.get? b = some o → h'.get? b = some o) : ZT N z TO i1 i2 S xs ys Ts h' :=
  ⟨fun j T e => by
    obtain ⟨x, y, e1, e2, e3⟩ := t.at' j T e
    obtain ⟨_, f1, f2, f3, f4, f5⟩ := t.off T (List.mem_of_getElem? e)
    exact ⟨x, y, e1, e2, k _ _ f1 f2 f3 f4 f5 e3⟩, t.off, t.nd⟩
abbrev lobj (acc : Array Value) (c : Nat) : Obj := { cls := .type "list", dict := none, data := .seq acc c, slots := #[] }
theorem zip_fill {R : Result → Shared → Prop} {N z TI TO i1 i2 l1 l2 S : Addr} {xs ys : Array Value} (hh : A.in1.handled = none) (D : ZipApart z TI TO i1 i2 l1 l2) (n1 : S ≠ z) (n2 : S ≠ TI) (n3 : S ≠ TO) (n4 : S ≠ i1) (n5 : S ≠ i2) (n6 : S ≠ l1) (n7 : S ≠ l2)
    (hz : min xs.size ys.size ≤ sizeLine) (res : Value) : ∀ (k : Nat) (s : Shared) (c : Nat) (Ts : List Addr), min xs.size ys.size - Ts.length = k → Ts.length ≤ min xs.size ys.size → N ≤ s.heap.objs.size → LZ z TI TO i1 i2 l1 l2 S xs ys Ts.length s.heap →
      s.heap.get? S = some (lobj (Ts.map Value.ref).toArray c) → ZT N z TO i1 i2 S xs ys Ts s.heap →
      (∀ h' c' tk Ts', (∀ b o, b ≠ S → b ≠ z → b ≠ TO → b ≠ i1 → b ≠ i2 → s.heap.get? b = some o → h'.get? b = some o) → h'.get? S = some (lobj (Ts'.map Value.ref).toArray c') → Ts'.length = min xs.size ys.size → ZT N z TO i1 i2 S xs ys Ts' h' →
        R (.ok (.ret res)) { s with heap := h', toks := tk }) → codeAny (model prog w) A (.builtin "list.extend.loop" ⟨[.ref S, .ref z, res], []⟩) R s := by
  intro k
  induction k with
  | zero =>
    intro s c Ts hk hle hN st hS lt hR
    obtain ⟨hTI, h1, h2, hl1, hl2, ⟨oO, hO⟩, hzz⟩ := st
    have hend : xs[Ts.length]? = none ∨ ys[Ts.length]? = none := by
      rcases Nat.le_total xs.size ys.size with h | h
      · exact .inl (Array.getElem?_eq_none (by omega))
      · exact .inr (Array.getElem?_eq_none (by omega))
    refine codeAny_builtin PySem.F.entry_extend_loop ?_
    rw [Around.under_plainId PySem.F.plain_extend_loop _]
    show wpAny _ A.in1 (pyNext (.ref z) >>= _) _ _ s
    rcases hzz with ⟨hz0, a, b, hTO⟩ | ⟨T, f, oT, hz0, hT, r1, r2, r3, r4⟩
    · refine wpAny_bind (wpAny_pyNext_zip_end hh D hz0 hTI hTO h1 h2 hl1 hl2 hend fun h' hkp => wpAny_pure ?_)
      have k' : ∀ b o, b ≠ S → b ≠ z → b ≠ TO → b ≠ i1 → b ≠ i2 → s.heap.get? b = some o → h'.get? b = some o := fun b o _ c1 c2 c3 c4 e => hkp b o c1 c2 c3 c4 e
      exact hR h' c s.toks Ts k' (hkp _ _ n1 n3 n4 n5 hS) (by omega) (lt.keep k')
    · refine wpAny_bind (wpAny_pyNext_zip_end_held hh D hz0 hT hTI h1 h2 hl1 hl2 hend fun h' hkp => wpAny_pure ?_)
      have k' : ∀ b o, b ≠ S → b ≠ z → b ≠ TO → b ≠ i1 → b ≠ i2 → s.heap.get? b = some o → h'.get? b = some o := fun b o _ c1 c2 c3 c4 e => hkp b o c1 c3 c4 e
      exact hR h' c s.toks Ts k' (hkp _ _ n1 n4 n5 hS) (by omega) (lt.keep k')
  | succ k ih =>
    intro s c Ts hk hle hN st hS lt hR
    obtain ⟨hTI, h1, h2, hl1, hl2, ⟨oO, hO⟩, hzz⟩ := st
    have hix : Ts.length < xs.size := by omega
    have hiy : Ts.length < ys.size := by omega
    have ex := Array.getElem?_eq_getElem hix
    have ey := Array.getElem?_eq_getElem hiy
    have ltn : ∀ {b o}, s.heap.get? b = some o → s.heap.objs.size ≠ b := fun e => Nat.ne_of_gt (Heap.lt_size e)
    have zat : ∃ o, s.heap.get? z = some o := by
      rcases hzz with ⟨h, _⟩ | ⟨_, _, _, h, _⟩ <;> exact ⟨_, h⟩
    obtain ⟨oz, zat⟩ := zat
    have m1 : s.heap.objs.size ≠ i1 := let ⟨_, e, _⟩ := h1; ltn e
    have m2 : s.heap.objs.size ≠ i2 := let ⟨_, e, _⟩ := h2; ltn e
    refine codeAny_builtin PySem.F.entry_extend_loop ?_
    rw [Around.under_plainId PySem.F.plain_extend_loop _]
    show wpAny _ A.in1 (pyNext (.ref z) >>= _) _ _ s
    have go : ∀ (h' : Heap), (s.heap.objs.size ≠ TO) → (∃ f, IsZipHeld h' z TI TO s.heap.objs.size f) ∨ (∃ (T : Addr) (f : Bool) (oT : Obj), IsZipHeld h' z TI TO T f ∧ h'.get? T = some oT ∧ T ≠ z ∧ T ≠ i1 ∧ T ≠ i2 ∧ T ≠ S) → (∃ o, h'.get? TO = some o) → h'.IsListIter i1 l1 (Ts.length + 1) → h'.IsListIter i2 l2 (Ts.length + 1) → IsPair h' s.heap.objs.size xs[Ts.length] ys[Ts.length] →
        (∀ b o, b ≠ z → b ≠ TO → b ≠ i1 → b ≠ i2 → s.heap.get? b = some o → h'.get? b = some o) →
        wpAny (model prog w) A.in1 (updateSeq S (·.push (Value.ref s.heap.objs.size)) >>= fun _ => again (.builtin "list.extend.loop" ⟨[.ref S, .ref z, res], []⟩)) (fun fin s' => match fin with | .done f => R (.ok f) s' | .again c' => c'.quiet = true ∧ codeAny (model prog w) A c' R s') (fun e s' => R (.error e) s') { s with heap := h' } := by
      intro h' nTO hzz' ⟨oO', hO'⟩ g1 g2 g3 hkp
      have hS' := hkp _ _ n1 n3 n4 n5 hS
      refine wpAny_bind ?_
      refine wpAny_updateSeq hS' rfl ?_ ?_ ?_
      · obtain ⟨c3, hS3⟩ : ∃ c3, (h'.update S (Obj.mapSeq (·.push (Value.ref s.heap.objs.size)))).get? S = some (lobj ((Ts ++ [s.heap.objs.size]).map Value.ref).toArray c3) := by
          have z := get?_update_seq (c := "list") hS' (·.push (Value.ref s.heap.objs.size))
          rw [show ((Ts ++ [s.heap.objs.size]).map Value.ref).toArray = (Ts.map Value.ref).toArray.push (Value.ref s.heap.objs.size) by simp]
          exact ⟨_, z⟩
        have oth : ∀ b o, b ≠ S → h'.get? b = some o → (h'.update S (Obj.mapSeq (·.push (Value.ref s.heap.objs.size)))).get? b = some o := fun b o hb e => (Heap.get?_update_other _ _ (Ne.symm hb)).trans e
        have kk : ∀ b o, b ≠ S → b ≠ z → b ≠ TO → b ≠ i1 → b ≠ i2 → s.heap.get? b = some o → (h'.update S (Obj.mapSeq (·.push (Value.ref s.heap.objs.size)))).get? b = some o := fun b o c0 c1 c2 c3 c4 e => oth b o c0 (hkp b o c1 c2 c3 c4 e)
        have nS : s.heap.objs.size ≠ S := ltn hS
        have nz : s.heap.objs.size ≠ z := ltn zat
        refine wpAny_pure ⟨plainId_quiet PySem.F.plain_extend_loop _, ih _ c3 (Ts ++ [s.heap.objs.size]) (by rw [List.length_append, List.length_singleton]; omega) (by rw [List.length_append, List.length_singleton]; omega) ?_ ?_ ?_ ?_ fun h2 c2 tk2 Ts2 k2 e2 l2' t2 => ?_⟩
        · show N ≤ (h'.update S _).objs.size
          rw [Heap.size_update]
          have hlt : s.heap.objs.size < h'.objs.size := Heap.lt_size g3
          exact Nat.le_trans hN (Nat.le_of_lt hlt)
        · rw [List.length_append, List.length_singleton]
          refine ⟨oth _ _ n2.symm (hkp _ _ D.TIz D.TITO D.TIi1 D.TIi2 hTI), g1.at fun o e => oth _ o n4.symm e, g2.at fun o e => oth _ o n5.symm e, (hl1.at fun o e => oth _ o n6.symm (hkp _ o D.l1z D.l1TO D.l1i1 D.l1i2 e)), (hl2.at fun o e => oth _ o n7.symm (hkp _ o D.l2z D.l2TO D.l2i1 D.l2i2 e)), ⟨_, oth _ _ n3.symm hO'⟩, .inr ?_⟩
          rcases hzz' with ⟨f, hz'⟩ | ⟨T, f, oT, hz', hT', r1, r2, r3, r4⟩
          · exact ⟨_, f, _, oth _ _ n1.symm hz', oth _ _ nS g3, nz, m1, m2, nS⟩
          · exact ⟨T, f, oT, oth _ _ n1.symm hz', oth _ _ r4 hT', r1, r2, r3, r4⟩
        · exact hS3
        · refine ⟨fun j T e => ?_, fun T hT => ?_, ?_⟩
          · rcases Nat.lt_or_ge j Ts.length with hj | hj
            · rw [List.getElem?_append_left hj] at e
              exact (lt.keep kk).at' j T e
            · rw [List.getElem?_append_right hj] at e
              have hj0 : j - Ts.length = 0 := by
                cases hq : j - Ts.length with
                | zero => rfl
                | succ q =>
                  rw [hq] at e
                  cases e
              rw [hj0] at e
              cases e
              obtain rfl : j = Ts.length := by omega
              exact ⟨_, _, ex, ey, oth _ _ nS g3⟩
          · rcases List.mem_append.mp hT with h | h
            · exact lt.off T h
            · rw [List.mem_singleton.mp h]
              exact ⟨hN, nS, nz, nTO, m1, m2⟩
          · refine List.nodup_append.mpr ⟨lt.nd, by simp, ?_⟩
            intro a ha b hb e
            rw [List.mem_singleton.mp hb] at e
            obtain ⟨j, hj⟩ := List.mem_iff_getElem?.mp ha
            obtain ⟨_, _, _, _, e3⟩ := lt.at' j a hj
            exact ltn e3 e.symm
        · exact hR h2 c2 tk2 Ts2 (fun b o c0 c1 c2 c3 c4 e => k2 b o c0 c1 c2 c3 c4 (kk b o c0 c1 c2 c3 c4 e)) e2 l2' t2
      · show ((Ts.map Value.ref).toArray).size ≤ sizeLine
        rw [List.size_toArray, List.length_map]
        omega
      · show (((Ts.map Value.ref).toArray).push _).size ≤ sizeLine + 1
        rw [Array.size_push, List.size_toArray, List.length_map]
        omega
    rcases hzz with ⟨hz0, a, b, hTO⟩ | ⟨T, f, oT, hz0, hT, r1, r2, r3, r4⟩
    · refine wpAny_bind (wpAny_pyNext_zip_item D hz0 hTI hTO h1 h2 hl1 hl2 ex ey fun h' a1 a2 a3 a4 a5 a6 hkp => ?_)
      exact go h' (ltn hTO) (.inl ⟨false, a1⟩) ⟨_, a2⟩ a3 a4 a5 hkp
    · refine wpAny_bind (wpAny_pyNext_zip_item_held D hz0 hT hTI h1 h2 hl1 hl2 ex ey fun h' a1 a3 a4 a5 a6 hkp => ?_)
      exact go h' (ltn hO) (.inr ⟨T, true, oT, a1, hkp _ _ r1 r2 r3 hT, r1, r2, r3, r4⟩) ⟨_, hkp _ _ D.TOz D.TOi1 D.TOi2 hO⟩ a3 a4 a5 fun b o c1 c2 c3 c4 e => hkp b o c1 c3 c4 e
theorem zip_no_len : typeLookup (.type "zip") "__len__" = pure none := am_miss_of_fast (by decide +kernel)
theorem zip_no_hint : typeLookup (.type "zip") "__length_hint__" = pure none := am_miss_of_fast (by decide +kernel)
theorem zip_list {E : Value → Shared → Prop} {s : Shared} {Q : Value → Shared → Prop} {N z TI TO i1 i2 l1 l2 : Addr} {xs ys : Array Value} {a b : Value} (hh : A.handled = none) (D : ZipApart z TI TO i1 i2 l1 l2) (hz : IsZip s.heap z TI TO .none) (hTI : IsPair s.heap TI (.ref i1) (.ref i2)) (hTO : IsPair s.heap TO a b)
    (h1 : s.heap.IsListIter i1 l1 0) (h2 : s.heap.IsListIter i2 l2 0) (hl1 : s.heap.IsList l1 xs) (hl2 : s.heap.IsList l2 ys) (hN : N ≤ s.heap.objs.size) (hm : min xs.size ys.size ≤ sizeLine)
    (hQ : ∀ h' c' tk Ts, (∀ b o, b ≠ z → b ≠ TO → b ≠ i1 → b ≠ i2 → s.heap.get? b = some o → h'.get? b = some o) → h'.get? s.heap.objs.size = some (lobj (Ts.map Value.ref).toArray c') → Ts.length = min xs.size ys.size → ZT N z TO i1 i2 s.heap.objs.size xs ys Ts h' → Q (.ref s.heap.objs.size) { s with heap := h', toks := tk }) :
    wpAny (model prog w) A (call (.type "list") [.ref z]) Q E s := by
  have ltn : ∀ {b o}, s.heap.get? b = some o → s.heap.objs.size ≠ b := fun e => Nat.ne_of_gt (Heap.lt_size e)
  have n1 := ltn hz
  have n2 := ltn hTI
  have n3 := ltn hTO
  have n4 : s.heap.objs.size ≠ i1 := let ⟨_, e, _⟩ := h1; ltn e
  have n5 : s.heap.objs.size ≠ i2 := let ⟨_, e, _⟩ := h2; ltn e
  have n6 : s.heap.objs.size ≠ l1 := let ⟨_, e, _⟩ := hl1; ltn e
  have n7 : s.heap.objs.size ≠ l2 := let ⟨_, e, _⟩ := hl2; ltn e
  refine callType_codes (Q₁ := fun obj s₁ => obj = .ref s.heap.objs.size ∧ s₁ = { s with heap := s.heap.push { cls := .type "list", data := .seq #[] } }) PySem.F.called_list (PySem.F.typeCall_list_1 _) PySem.F.entry_list_init (code_list_new _ ⟨rfl, rfl⟩) fun obj s₁ h₁ => ?_
  obtain ⟨rfl, rfl⟩ := h₁
  have hS : (s.heap.push { cls := .type "list", data := .seq #[] }).get? s.heap.objs.size = some { cls := .type "list", data := .seq #[] } := Heap.get?_push_size _ rfl
  refine ⟨⟨_, hS, rfl⟩, PySem.F.args_list_init_2 _ _, ?_⟩
  -- the list is emptied
  show wpAny _ _ (do let old ← Builtin.List.listItems (.ref s.heap.objs.size); Builtin.List.listUpdate (.ref s.heap.objs.size) (fun _ => #[]); letGo old.toList.reverse; Builtin.List.listExtendWith (.ref s.heap.objs.size) (.ref z) .none) _ _ _
  refine wpAny_bind ?_
  unfold Builtin.List.listItems
  refine wpAny_bind (wpAny_seqItems hS rfl (wpAny_pure ?_))
  show wpAny _ _ (updateSeq s.heap.objs.size (fun _ => #[]) >>= fun _ => letGo (#[] : Array Value).toList.reverse >>= fun _ => Builtin.List.listExtendWith (.ref s.heap.objs.size) (.ref z) .none) _ _ _
  refine wpAny_bind (wpAny_updateSeq hS rfl ?_)
  have hS2 := get?_update_seq (c := "list") hS (fun _ => (#[] : Array Value))
  have k2 : ∀ b o, b ≠ s.heap.objs.size → s.heap.get? b = some o → ((s.heap.push { cls := .type "list", data := .seq #[] }).update s.heap.objs.size (Obj.mapSeq fun _ => #[])).get? b = some o := fun b o hb e => (Heap.get?_update_other _ _ (Ne.symm hb)).trans (Heap.get?_push_of_some _ e)
  have z2 : N ≤ ((s.heap.push { cls := .type "list", data := .seq #[] }).update s.heap.objs.size (Obj.mapSeq fun _ => #[])).objs.size := by
    rw [Heap.size_update, Heap.size_push]
    exact Nat.le_succ_of_le hN
  generalize (s.heap.push { cls := .type "list", data := .seq #[] }).update s.heap.objs.size (Obj.mapSeq fun _ => #[]) = H2 at hS2 k2 z2
  refine wpAny_bind (wpAny_letGo ?_)
  have hz2 := k2 _ _ n1.symm hz
  have hT2 : ({ s with heap := H2 } : Shared).TypeIs (.ref z) "zip" := ⟨_, hz2, rfl⟩
  unfold Builtin.List.listExtendWith
  refine wpAny_bind (wpAny_typeOf (T := "zip") hT2 ?_)
  have e1 : Builtin.List.listSameRef (.ref s.heap.objs.size) (.ref z) = false := by simp [Builtin.List.listSameRef, n1]
  have e2 : (Value.type "zip" == Value.type "list") = false := by decide
  have e3 : (Value.type "zip" == Value.type "tuple") = false := by decide
  simp only [e1, e2, e3, Bool.or_false, Bool.false_eq_true, if_false]
  refine wpAny_bind (wpAny_pyIter_zip hz2 ?_)
  refine wpAny_bind (wpAny_holding ?_)
  unfold Builtin.List.listLengthHint
  refine wpAny_bind (wpAny_specialOf hT2 zip_no_len ?_)
  show wpAny _ _ (specialOf (Value.ref z) (Str.ofString "__length_hint__") >>= _) _ _ _
  refine wpAny_bind (wpAny_specialOf hT2 zip_no_hint (wpAny_pure ?_))
  show wpAny _ _ (rule "list.extend.makes-room" >>= fun _ => Builtin.List.listTouch (.ref s.heap.objs.size) >>= fun _ => again (.builtin "list.extend.loop" ⟨[.ref s.heap.objs.size, .ref z, .none], []⟩)) _ _ _
  refine wpAny_bind (wpAny_rule (wpAny_bind ?_))
  show wpAny _ _ (updateSeq s.heap.objs.size (·.push .none) >>= fun _ => updateSeq s.heap.objs.size (·.pop)) _ _ _
  refine wpAny_bind (wpAny_updateSeq hS2 rfl ?_)
  have hS3 := get?_update_seq (c := "list") hS2 (·.push Value.none)
  refine wpAny_updateSeq (hz := by seq_fits) hS3 rfl ?_
  have hS4 := get?_update_seq (c := "list") hS3 (·.pop)
  have k4 : ∀ b o, b ≠ s.heap.objs.size → s.heap.get? b = some o → ((H2.update s.heap.objs.size (Obj.mapSeq (·.push .none))).update s.heap.objs.size (Obj.mapSeq (·.pop))).get? b = some o := fun b o hb e => (Heap.get?_update_other _ _ (Ne.symm hb)).trans ((Heap.get?_update_other _ _ (Ne.symm hb)).trans (k2 b o hb e))
  have z4 : N ≤ ((H2.update s.heap.objs.size (Obj.mapSeq (·.push .none))).update s.heap.objs.size (Obj.mapSeq (·.pop))).objs.size := by
    rw [Heap.size_update, Heap.size_update]
    exact z2
  obtain ⟨c4, hS5⟩ : ∃ c4, ((H2.update s.heap.objs.size (Obj.mapSeq (·.push .none))).update s.heap.objs.size (Obj.mapSeq (·.pop))).get? s.heap.objs.size = some (lobj (([] : List Addr).map Value.ref).toArray c4) := ⟨_, hS4⟩
  refine wpAny_pure ⟨plainId_quiet PySem.F.plain_extend_loop _, ?_⟩
  clear hS4 hS3 hS2
  have st : LZ z TI TO i1 i2 l1 l2 s.heap.objs.size xs ys 0 ((H2.update s.heap.objs.size (Obj.mapSeq (·.push .none))).update s.heap.objs.size (Obj.mapSeq (·.pop))) :=
    ⟨k4 _ _ n2.symm hTI, h1.at fun o e => k4 _ o n4.symm e, h2.at fun o e => k4 _ o n5.symm e, hl1.at fun o e => k4 _ o n6.symm e, hl2.at fun o e => k4 _ o n7.symm e, ⟨_, k4 _ _ n3.symm hTO⟩, .inl ⟨k4 _ _ n1.symm hz, _, _, k4 _ _ n3.symm hTO⟩⟩
  generalize (H2.update s.heap.objs.size (Obj.mapSeq (·.push .none))).update s.heap.objs.size (Obj.mapSeq (·.pop)) = H4 at hS5 k4 z4 st
  have t0 : ZT N z TO i1 i2 s.heap.objs.size xs ys [] H4 := ⟨(fun j T e => by cases e), (fun T h => by cases h), List.nodup_nil⟩
  show codeAny (model prog w) A.in1 _ _ { s with heap := H4 }
  refine zip_fill (prog := prog) (w := w) (A := A.in1) (R := wants (fun r s₂ => r = .none ∧ Q (.ref s.heap.objs.size) s₂) E) hh D n1 n2 n3 n4 n5 n6 n7 hm .none _ { s with heap := H4 } c4 [] rfl (Nat.zero_le _) z4 st hS5 t0 fun h' c' tk Ts kk e5 l5 t5 => ?_
  exact ⟨rfl, hQ h' c' tk Ts (fun b o c1 c2 c3 c4 e => kk b o (ltn e).symm c1 c2 c3 c4 (k4 b o (ltn e).symm e)) e5 l5 t5⟩
end
end Fr

namespace Fr
open PySem PySem.Spec PyProof.Rows L2 PySem.W
theorem addT_ok {P : Program} {w : World} {h : Heap} : ∀ (Ts : List Addr) (xs ys : List V) (H : Hp), HOk P w H h → Ts.Nodup → (∀ T ∈ Ts, H T = none) →
    (∀ (j : Nat) (T : Addr), Ts[j]? = some T → ∃ x y u v, xs[j]? = some x ∧ ys[j]? = some y ∧ RelV x u ∧ RelV y v ∧ IsPair h T u v) →
    ∃ H', HOk P w H' h ∧ (∀ b, b ∉ Ts → H' b = H b) ∧ ∀ (j : Nat) (T : Addr), Ts[j]? = some T → ∃ x y, xs[j]? = some x ∧ ys[j]? = some y ∧ H' T = some (.tup [x, y])
  | [], _, _, H, hk, _, _, _ => ⟨H, hk, fun _ _ => rfl, (fun j T e => by cases e)⟩
  | T :: Ts, xs, ys, H, hk, nd, hn, hp => by
    obtain ⟨x, y, u, v, e1, e2, r1, r2, hT⟩ := hp 0 T rfl
    rw [List.nodup_cons] at nd
    have new : ObjOk P w (upd H T (.tup [x, y])) h T (.tup [x, y]) := ⟨(by show 2 ≤ sizeLine; decide), [u, v], .cons r1 (.cons r2 .nil), ⟨_, hT, rfl, _, rfl⟩⟩
    have hk2 := hk.laidN (h' := h) (fun _ _ e => e) (hn T List.mem_cons_self) new
    obtain ⟨H', g1, g2, g3⟩ := addT_ok Ts xs.tail ys.tail (upd H T (.tup [x, y])) hk2 nd.2 (fun T' hT' => by
      rw [upd_ne fun z => nd.1 (by rw [← z]; exact hT')]
      exact hn T' (List.mem_cons_of_mem _ hT')) (fun j T' e => by
      obtain ⟨x', y', u', v', f1, f2, f3⟩ := hp (j + 1) T' e
      refine ⟨x', y', u', v', ?_, ?_, f3⟩
      · rw [List.getElem?_tail]; exact f1
      · rw [List.getElem?_tail]; exact f2)
    refine ⟨H', g1, fun b hb => ?_, fun j T' e => ?_⟩
    · rw [List.mem_cons, not_or] at hb
      rw [g2 b hb.2, upd_ne hb.1]
    · cases j with
      | zero =>
        cases e
        exact ⟨x, y, e1, e2, by rw [g2 T nd.1, upd_same]⟩
      | succ j =>
        obtain ⟨x', y', f1, f2, f3⟩ := g3 j T' e
        rw [List.getElem?_tail] at f1 f2
        exact ⟨x', y', f1, f2, f3⟩
section
variable {X : Cx}
def tLstZip (K : PySem.W.Frag) (ta : TA) : TE := fun σ H Q => ta σ H fun vs H1 => ∃ (a b : Addr) (xs ys : List V), vs = [.ref a, .ref b] ∧ SqL K H1 a xs ∧ SqL K H1 b ys ∧ xs.length = ys.length ∧
  ∀ (S : Addr) (Ts : List Addr) (H' : Hp), H1 S = none → Same H1 H' → H' S = some (.lst (Ts.map V.ref)) → Ts.length = xs.length → (∀ (j : Nat) (T : Addr), Ts[j]? = some T → ∃ x y, xs[j]? = some x ∧ ys[j]? = some y ∧ H' T = some (.tup [x, y])) → Q (.ref S) H'
theorem pe_listZip {e e2 : Expr} {ta : TA} {p p2 pos pos2 : Pos} (hc : X.calm = true) (hg : Gl X "list") (hm : X.mg "list" = none) (hg2 : Gl X "zip") (hm2 : X.mg "zip" = none) (ha : PA X [e, e2] ta)
    (hs : starEach [e, e2] X.env = (false, eval e X.env) :: starEach [e2] X.env := by rfl) (hpl : (backTo pos2 (starEach [e2] X.env)).any (·.1) = false := by rfl)
    (na : starEach [.Call (.Name "zip" p2) [e, e2] [] pos2] X.env = (false, eval (.Call (.Name "zip" p2) [e, e2] [] pos2) X.env) :: starEach [] X.env := by rfl) : PE X (.Call (.Name "list" p) [.Call (.Name "zip" p2) [e, e2] [] pos2] [] pos) (tLstZip X.K ta) := by
  refine ⟨fun pins s σ H Q I h => ?_⟩
  refine Call_ (ld_blt I hg hm boot_list (PyProof.Rows.callWith_type1 (args_cons ?_ na) na))
  refine Call_ (ld_blt I hg2 hm2 PyProof.Rows.boot_zip (PyProof.Rows.callWith_type1 (thn (ha.run pos2 pins s σ H _ I h) fun us s1 ⟨vs, H1, I1, r1, a, b, xs, ys, ex, hqx, hqy, hl, q⟩ => ?_) hs hpl))
  subst ex
  obtain ⟨u, v, rfl, ru, rv'⟩ := vals2 r1
  cases ru
  cases rv'
  obtain ⟨its, rv, p1, hz1⟩ := I1.list hqx
  obtain ⟨its2, rv2, pp2, hz2⟩ := I1.list hqy
  have la : a < s1.heap.objs.size := p1.lt
  have lb : b < s1.heap.objs.size := pp2.lt
  refine call_zip_2 p1.isList pp2.isList fun h' hz hTI hTO h1 h2 hsz hk => args_nil ?_
  have D := PySem.W.ktu_apart s1.heap.objs.size a b la lb
  have hl1 : h'.IsList a its.toArray := p1.isList.at fun o e => hk _ o e
  have hl2 : h'.IsList b its2.toArray := pp2.isList.at fun o e => hk _ o e
  have lx := rv.length
  have ly := rv2.length
  have hmin : min its.toArray.size its2.toArray.size = xs.length := by
    rw [List.size_toArray, List.size_toArray]
    omega
  refine zip_list (s := { s1 with heap := h' }) (N := s1.heap.objs.size) (I1.ok.hd hc) D hz hTI hTO h1 h2 hl1 hl2 (by show s1.heap.objs.size ≤ h'.objs.size; rw [hsz]; exact Nat.le_add_right _ _) (by rw [hmin]; exact hz1) fun h2' c' tk Ts kk eS lT tT => ?_
  have k2 : ∀ b o, s1.heap.get? b = some o → h2'.get? b = some o := fun b o e => by
    have hlt : b < s1.heap.objs.size := Heap.lt_size e
    have ne : ∀ n : Nat, b ≠ s1.heap.objs.size + n := fun n => Nat.ne_of_lt (Nat.lt_of_lt_of_le hlt (Nat.le_add_right _ _))
    exact kk b o (ne 4) (ne 3) (ne 0) (ne 1) (hk b o e)
  have hok2 := I1.hok.kept k2
  have fS : H1 h'.objs.size = none := I1.hok.fresh (by rw [hsz]; exact Nat.le_add_right _ _)
  have fT : ∀ T ∈ Ts, H1 T = none := fun T hT => I1.hok.fresh (tT.off T hT).1
  have nS : h'.objs.size ∉ Ts := fun hm => (tT.off _ hm).2.1 rfl
  have hlen : Ts.length = xs.length := by rw [lT, hmin]
  have vT : Vals (Ts.map V.ref) (Ts.map Value.ref) := vals_refs Ts
  have newS : ObjOk X.prog X.w (upd H1 h'.objs.size (.lst (Ts.map V.ref))) h2' h'.objs.size (.lst (Ts.map V.ref)) := ⟨by rw [List.length_map, hlen]; exact hz1, Ts.map Value.ref, c', vT, eS⟩
  have hok3 := hok2.laidN (h' := h2') (fun _ _ e => e) fS newS
  obtain ⟨H', g1, g2, g3⟩ := addT_ok Ts xs ys _ hok3 tT.nd (fun T hT => by
    rw [upd_ne fun z => nS (by rw [← z]; exact hT)]
    exact fT T hT) (fun j T e => by
    obtain ⟨u, v, e1, e2, e3⟩ := tT.at' j T e
    have hj : j < xs.length := by rw [← hlen]; exact (List.getElem?_eq_some_iff.mp e).1
    have hj2 : j < ys.length := by omega
    obtain ⟨u', f1, f2⟩ := rv.get (List.getElem?_eq_getElem hj)
    obtain ⟨v', f3, f4⟩ := rv2.get (List.getElem?_eq_getElem hj2)
    have e1' : its[j]? = some u := by simpa using e1
    have e2' : its2[j]? = some v := by simpa using e2
    rw [e1'] at f1
    rw [e2'] at f3
    cases f1
    cases f3
    exact ⟨_, _, u, v, List.getElem?_eq_getElem hj, List.getElem?_eq_getElem hj2, f2, f4, e3⟩)
  have same : ∀ b o, H1 b = some o → H' b = some o := fun b o e => by
    have nb : b ∉ Ts := fun hm => by
      rw [fT b hm] at e
      cases e
    rw [g2 b nb, upd_ne fun z => by rw [z, fS] at e; cases e]
    exact e
  have un : Un X.fs [] H1 H' s1.heap h2' := ⟨fun b o e _ _ _ => k2 b o e, fun b o e _ _ _ => ⟨o.slots, k2 b o e⟩, fun b o e n _ => by
      have hlt : b < s1.heap.objs.size := Heap.lt_size e
      have nb : b ∉ Ts := fun hm => absurd (tT.off b hm).1 (Nat.not_le_of_lt hlt)
      rw [g2 b nb, upd_ne (Nat.ne_of_lt (Nat.lt_of_lt_of_le hlt (by rw [hsz]; exact Nat.le_add_right _ _)))]
      exact n, fun b o e _ => ⟨o, k2 b o e⟩, fun b xs e => same b _ e, fun b o u e => same b _ e, fun b ps e => ⟨#[], by rw [Array.append_empty]; exact same b _ e⟩⟩
  refine ⟨.ref h'.objs.size, H', I1.un (t' := tk) un g1, rfl, q _ Ts H' fS same ?_ hlen g3⟩
  rw [g2 _ nS, upd_same]
end
end Fr

namespace Fr
open PySem PySem.Spec PyProof.Rows L2
def nnK (nn : List (Str × Str)) : List (PyData × PyData) := nn.map fun p => (.str p.1, .str p.2)
def nnD (nn : List (Str × Str)) : PyData := .dict (nnK nn)
/-- names that repr shows shortly -/
def NmOk (x : Str) : Prop := (x.cps.toList.all fun c => decide (c < 16 ^ 8)) = true ∧ x.cps.size ≤ 20
theorem nn_sho : ∀ nn : List (Str × Str), PyData.showableKv (nnK nn) = true
  | [] => by simp [nnK, PyData.showableKv]
  | (a, b) :: nn => by
    have := nn_sho nn
    simp only [nnK, List.map_cons, PyData.showableKv, PyData.showable, Bool.true_and] at this ⊢
    exact this
theorem nn_dep : ∀ nn : List (Str × Str), PyData.depthKv (nnK nn) = 0
  | [] => by simp [nnK, PyData.depthKv]
  | (a, b) :: nn => by
    have := nn_dep nn
    simp only [nnK, List.map_cons, PyData.depthKv, PyData.depth] at this ⊢
    omega
theorem nn_short : ∀ nn : List (Str × Str), (∀ p ∈ nn, NmOk p.1 ∧ NmOk p.2) → PyData.leavesShortKv 13 (nnK nn) = true ∧ PyData.weightKv (nnK nn) ≤ nn.length * 42
  | [], _ => by simp [nnK, PyData.leavesShortKv, PyData.weightKv]
  | (a, b) :: nn, h => by
    obtain ⟨h1, h2⟩ := nn_short nn fun p hp => h p (List.mem_cons_of_mem _ hp)
    obtain ⟨⟨a1, a2⟩, b1, b2⟩ := h (a, b) List.mem_cons_self
    simp only [nnK, List.map_cons, PyData.leavesShortKv, PyData.leavesShort, PyData.weightKv, PyData.weight, Bool.and_eq_true] at h1 h2 ⊢
    refine ⟨⟨⟨a1, b1⟩, h1⟩, ?_⟩
    rw [List.length_cons]
    have a2' : a.cps.size ≤ 20 := a2
    have b2' : b.cps.size ≤ 20 := b2
    omega
theorem reads_nn {P : Program} {w : World} {h : Heap} : ∀ (nn : List (Str × Str)) (vs : List (Key × Value)) (es : List DictEntry), KV (dictS nn) vs → PySem.Pairs (mixKind P w) es vs →
    ReadsAll h (es.map (·.key)) ((nnK nn).map (·.1)) [] ∧ ReadsAll h (es.map (·.val)) ((nnK nn).map (·.2)) []
  | [], _, _, hk, hp => by
    cases hk
    cases hp
    exact ⟨.nil, .nil⟩
  | (a, b) :: nn, _, _, hk, hp => by
    cases hk with
    | @cons _ kv _ kvs k1 k2 =>
      cases hp with
      | @cons e kv es _ p1 p2 p3 =>
        obtain ⟨i1, i2⟩ := reads_nn nn _ _ k2 p3
        obtain ⟨ek, rv⟩ := k1
        have rv : L2.RelV (V.str b) kv.2 := rv
        have ek : (Sum.inr a : Key) = kv.1 := ek
        have pk : keyIs (Sum.inr a) e.key = true := by
          rw [ek]
          exact p1
        obtain ⟨t1, h1⟩ : ∃ t, e.key = Value.str a t := keyIs_rel pk
        obtain ⟨t2, h2⟩ : ∃ t, kv.2 = Value.str b t := rv
        refine ⟨?_, ?_⟩
        · show ReadsAll h (e.key :: es.map (·.key)) (.str a :: (nnK nn).map (·.1)) []
          rw [h1]
          exact ReadsAll.cons (as := []) (bs := []) (.str a t1) i1
        · show ReadsAll h (e.val :: es.map (·.val)) (.str b :: (nnK nn).map (·.2)) []
          rw [p2, h2]
          exact ReadsAll.cons (as := []) (bs := []) (.str b t2) i2
section
variable {X : Cx}
def rReprS : List V → Hp → VK → Prop := fun xs H Q => ∃ (a : Addr) (nn : List (Str × Str)), xs = [.ref a] ∧ H a = some (.dK (dictS nn)) ∧ (∀ p ∈ nn, NmOk p.1 ∧ NmOk p.2) ∧ nn.length ≤ 100 ∧ Q (.str (nnD nn).shown) H
theorem call_reprS (hg : X.A.guards = some []) (hu : X.A.units + 65 < cLine) : CallR X (.builtin "repr") rReprS := by
  intro pins s σ H xs us Q I r h
  obtain ⟨a, nn, rfl, ha, hn, hl, q⟩ := h
  obtain ⟨u, rfl, ru⟩ := vals1 r
  cases (show u = Value.ref a from ru)
  obtain ⟨z, lo, vs, rk, hdd⟩ := (show ObjOk X.prog X.w H s.heap a (.dK (dictS nn)) from I.hok a _ ha)
  obtain ⟨ep, o, es, ho, hx, hdat, hk, hp, hnd⟩ := hdd.dictAt
  obtain ⟨i1, i2⟩ := reads_nn (h := s.heap) nn vs es.toList rk hp
  have rd : Reads s.heap (.ref a) (nnD nn) (a :: [] ++ []) := Reads.dict ho hx.1 hdat i1 i2
  obtain ⟨w1, w2⟩ := nn_short nn hn
  have hdep : (nnD nn).depth = 1 := by
    show PyData.depthKv (nnK nn) + 1 = 1
    rw [nn_dep]
  have hsz : (nnD nn).shown.length ≤ sizeLine := PyData.shown_fits (B := 13) (by decide) (by decide) w1 (by show PyData.weightKv (nnK nn) ≤ 2 ^ 20; omega)
  refine repr_of_reads' rd (nn_sho nn) (fun _ hm => ?_) hg (by rw [hdep]; omega) (fun _ _ e => e) (fun h' t tk k => ⟨.str _, H, I.kept k, ⟨_, rfl⟩, q⟩) hsz
  rw [List.append_nil, List.mem_singleton] at hm
  exact absurd hm.symm (beq_eq_false_iff_ne.mp lo)
end
end Fr

namespace Fr
open PySem PySem.Spec PyProof.Rows L2
theorem look_of {nn : List (Str × Str)} (kd : (nn.map (·.1)).Nodup) {p : Str × Str} (h : p ∈ nn) : nn.lookup p.1 = some p.2 := by
  induction nn with
  | nil => cases h
  | cons q nn ih =>
    obtain ⟨a, b⟩ := q
    rw [List.map_cons, List.nodup_cons] at kd
    rcases List.mem_cons.mp h with rfl | h
    · rw [List.lookup_cons_self]
    · have ne : p.1 ≠ a := fun e => kd.1 (by rw [← e]; exact List.mem_map.mpr ⟨p, h, rfl⟩)
      rw [List.lookup_cons, beq_eq_false_iff_ne.mpr ne]
      exact ih kd.2 h
theorem look_no {nn : List (Str × Str)} {x : Str} (h : x ∉ nn.map (·.1)) : nn.lookup x = none := by
  induction nn with
  | nil => rfl
  | cons q nn ih =>
    obtain ⟨a, b⟩ := q
    rw [List.map_cons, List.mem_cons, not_or] at h
    rw [List.lookup_cons, beq_eq_false_iff_ne.mpr h.1]
    exact ih h.2
theorem rnm_in {nn : List (Str × Str)} (kd : (nn.map (·.1)).Nodup) {p : Str × Str} (h : p ∈ nn) : rnm nn p.1 = p.2 := by
  unfold rnm
  rw [look_of kd h]
  rfl
theorem rnm_out {nn : List (Str × Str)} {x : Str} (h : x ∉ nn.map (·.1)) : rnm nn x = x := by
  unfold rnm
  rw [look_no h]
  rfl
/-- what a dict of new names keeps -/
structure Ren (N : List Str) (nn : List (Str × Str)) : Prop where
  keys : ∀ p ∈ nn, p.1 ∈ N
  kd : (nn.map (·.1)).Nodup
  vd : (nn.map (·.2)).Nodup
  cov : ∀ p ∈ nn, p.2 ∈ N → p.2 ∈ nn.map (·.1)
  ok : ∀ p ∈ nn, isName p.2 = true
  few : nn.length ≤ 12
theorem pair_of {nn : List (Str × Str)} {x : Str} (h : x ∈ nn.map (·.1)) : ∃ y, (x, y) ∈ nn := by
  obtain ⟨p, hp, rfl⟩ := List.mem_map.mp h
  exact ⟨p.2, hp⟩
theorem val_inj {nn : List (Str × Str)} (vd : (nn.map (·.2)).Nodup) {p q : Str × Str} (hp : p ∈ nn) (hq : q ∈ nn) (e : p.2 = q.2) : p = q := by
  induction nn with
  | nil => cases hp
  | cons r nn ih =>
    rw [List.map_cons, List.nodup_cons] at vd
    rcases List.mem_cons.mp hp with ep | hp'
    · rcases List.mem_cons.mp hq with eq | hq'
      · rw [ep, eq]
      · exact (vd.1 (List.mem_map.mpr ⟨q, hq', by rw [← ep, e]⟩)).elim
    · rcases List.mem_cons.mp hq with eq | hq'
      · exact (vd.1 (List.mem_map.mpr ⟨p, hp', by rw [← eq, e]⟩)).elim
      · exact ih vd.2 hp' hq'
theorem Ren.inj {N : List Str} {nn : List (Str × Str)} (R : Ren N nn) {x y : Str} (hx : x ∈ N) (hy : y ∈ N) (e : rnm nn x = rnm nn y) : x = y := by
  by_cases kx : x ∈ nn.map (·.1)
  · obtain ⟨u, hu⟩ := pair_of kx
    rw [rnm_in R.kd hu] at e
    by_cases ky : y ∈ nn.map (·.1)
    · obtain ⟨v, hv⟩ := pair_of ky
      rw [rnm_in R.kd hv] at e
      exact congrArg Prod.fst (val_inj R.vd hu hv e)
    · rw [rnm_out ky] at e
      have e : u = y := e
      exact absurd (by rw [← e]; exact R.cov _ hu (by show u ∈ N; rw [e]; exact hy)) ky
  · rw [rnm_out kx] at e
    by_cases ky : y ∈ nn.map (·.1)
    · obtain ⟨v, hv⟩ := pair_of ky
      rw [rnm_in R.kd hv] at e
      have e : x = v := e
      exact absurd (by rw [e]; exact R.cov _ hv (by show v ∈ N; rw [← e]; exact hx)) kx
    · rwa [rnm_out ky] at e
theorem rnT_names (nn : List (Str × Str)) (ts : List Tb) : (ts.map (rnT nn)).map (·.n) = (ts.map (·.n)).map (rnm nn) := by
  rw [List.map_map, List.map_map]
  rfl
theorem nodup_inj {f : Str → Str} : ∀ {N : List Str}, (∀ x ∈ N, ∀ y ∈ N, f x = f y → x = y) → N.Nodup → (N.map f).Nodup
  | [], _, _ => List.nodup_nil
  | a :: N, h, n => by
    rw [List.nodup_cons] at n
    rw [List.map_cons, List.nodup_cons]
    refine ⟨fun hm => ?_, nodup_inj (fun x hx y hy => h x (List.mem_cons_of_mem _ hx) y (List.mem_cons_of_mem _ hy)) n.2⟩
    obtain ⟨b, hb, e⟩ := List.mem_map.mp hm
    exact n.1 (by rw [← h b (List.mem_cons_of_mem _ hb) a List.mem_cons_self e]; exact hb)
theorem Ren.nodup {nn : List (Str × Str)} {ts : List Tb} (R : Ren (ts.map (·.n)) nn) (n : (ts.map (·.n)).Nodup) : ((ts.map (rnT nn)).map (·.n)).Nodup := by
  rw [rnT_names]
  exact nodup_inj (fun x hx y hy e => R.inj hx hy e) n
theorem Ren.name {N : List Str} {nn : List (Str × Str)} (R : Ren N nn) {x : Str} (h : isName x = true) : isName (rnm nn x) = true := by
  by_cases kx : x ∈ nn.map (·.1)
  · obtain ⟨u, hu⟩ := pair_of kx
    rw [rnm_in R.kd hu]
    exact R.ok _ hu
  · rw [rnm_out kx]
    exact h
theorem Ren.sys {d m : Int} {ts : List Tb} {nn : List (Str × Str)} (R : Ren (ts.map (·.n)) nn) (h : Sys1 d m ts) : Sys1 d m (ts.map (rnT nn)) := by
  refine ⟨h.d1, h.d3, h.m2, h.mx, by rw [List.length_map]; exact h.l1, by rw [List.length_map]; exact h.l6, ⟨?_, R.nodup h.ok.nodup, ?_, ?_, ?_⟩, ?_⟩
  · intro t ht
    obtain ⟨u, hu, rfl⟩ := List.mem_map.mp ht
    exact R.name (h.ok.names u hu)
  · rw [List.map_map]
    refine Nat.le_trans (Nat.le_of_eq ?_) h.ok.few
    congr 1
    refine List.map_congr_left fun t _ => ?_
    show (t.rs.map (rnR nn)).length = _
    rw [List.length_map]
  · intro t ht r hr
    obtain ⟨u, hu, rfl⟩ := List.mem_map.mp ht
    obtain ⟨r', hr', rfl⟩ := List.mem_map.mp hr
    have z := h.ok.reads u hu r' hr'
    unfold isRead at z ⊢
    rw [Bool.and_eq_true] at z ⊢
    exact ⟨R.name z.1, z.2⟩
  · intro t ht r hr
    obtain ⟨u, hu, rfl⟩ := List.mem_map.mp ht
    obtain ⟨r', hr', rfl⟩ := List.mem_map.mp hr
    rw [rnT_names]
    exact List.mem_map.mpr ⟨r'.t, h.ok.here u hu r' hr', rfl⟩
  · intro t ht
    obtain ⟨u, hu, rfl⟩ := List.mem_map.mp ht
    have z := h.sm u hu
    refine ⟨z.c, fun r hr => ?_, fun r hr => ?_⟩
    · obtain ⟨r', hr', rfl⟩ := List.mem_map.mp hr
      exact z.f r' hr'
    · obtain ⟨r', hr', rfl⟩ := List.mem_map.mp hr
      exact z.v r' hr'
theorem Ren.mem {N M : List Str} {nn : List (Str × Str)} (R : Ren N nn) (h : ∀ x, x ∈ M ↔ x ∈ N) : Ren M nn :=
  ⟨fun p hp => (h _).mpr (R.keys p hp), R.kd, R.vd, fun p hp e => R.cov p hp ((h _).mp e), R.ok, R.few⟩
theorem Ren.srt {ts : List Tb} {nn : List (Str × Str)} (R : Ren (ts.map (·.n)) nn) : Ren ((Fr.srt ts).map (·.n)) nn := R.mem fun x => ((srt_perm ts).map (·.n)).mem_iff
theorem srt_rnT {ts : List Tb} {nn : List (Str × Str)} (R : Ren (ts.map (·.n)) nn) (n : (ts.map (·.n)).Nodup) : srt ((srt ts).map (rnT nn)) = srt (ts.map (rnT nn)) :=
  (srt_same ((srt_perm ts).symm.map (rnT nn)) (R.nodup n)).symm
def bk (nn : List (Str × Str)) : List (Str × Str) := nn.map fun p => (p.2, p.1)
theorem bk1 (nn : List (Str × Str)) : (bk nn).map (·.1) = nn.map (·.2) := by unfold bk; rw [List.map_map]; rfl
theorem bk2 (nn : List (Str × Str)) : (bk nn).map (·.2) = nn.map (·.1) := by unfold bk; rw [List.map_map]; rfl
theorem Ren.undo {N : List Str} {nn : List (Str × Str)} (R : Ren N nn) {x : Str} (h : x ∈ N) : rnm (bk nn) (rnm nn x) = x := by
  have kd : ((bk nn).map (·.1)).Nodup := by rw [bk1]; exact R.vd
  by_cases kx : x ∈ nn.map (·.1)
  · obtain ⟨u, hu⟩ := pair_of kx
    rw [rnm_in R.kd hu]
    exact rnm_in (p := (u, x)) kd (List.mem_map.mpr ⟨(x, u), hu, rfl⟩)
  · rw [rnm_out kx]
    refine rnm_out fun hm => kx ?_
    rw [bk1] at hm
    obtain ⟨p, hp, rfl⟩ := List.mem_map.mp hm
    exact R.cov p hp h
theorem Ren.back {nn : List (Str × Str)} {ts : List Tb} (R : Ren (ts.map (·.n)) nn) (nm : ∀ t ∈ ts, isName t.n = true) : Ren ((ts.map (rnT nn)).map (·.n)) (bk nn) := by
  refine ⟨fun p hp => ?_, by rw [bk1]; exact R.vd, by rw [bk2]; exact R.kd, fun p hp e => ?_, fun p hp => ?_, by unfold bk; rw [List.length_map]; exact R.few⟩
  · obtain ⟨q, hq, rfl⟩ := List.mem_map.mp hp
    rw [rnT_names]
    exact List.mem_map.mpr ⟨q.1, R.keys q hq, rnm_in R.kd hq⟩
  · obtain ⟨q, hq, rfl⟩ := List.mem_map.mp hp
    rw [rnT_names] at e
    obtain ⟨y, hy, ey⟩ := List.mem_map.mp e
    rw [bk1]
    by_cases ky : y ∈ nn.map (·.1)
    · obtain ⟨u, hu⟩ := pair_of ky
      rw [rnm_in R.kd hu] at ey
      have ey : u = q.1 := ey
      show q.1 ∈ _
      rw [← ey]
      exact List.mem_map.mpr ⟨_, hu, rfl⟩
    · rw [rnm_out ky] at ey
      have ey : y = q.1 := ey
      exact absurd (by rw [ey]; exact List.mem_map.mpr ⟨q, hq, rfl⟩) ky
  · obtain ⟨q, hq, rfl⟩ := List.mem_map.mp hp
    obtain ⟨t, ht, e⟩ := List.mem_map.mp (R.keys q hq)
    show isName q.1 = true
    rw [← e]
    exact nm t ht
theorem Ren.undoT {d : Int} {nn : List (Str × Str)} {ts : List Tb} (R : Ren (ts.map (·.n)) nn) (O : OkT d ts) : (ts.map (rnT nn)).map (rnT (bk nn)) = ts := by
  rw [List.map_map]
  refine (List.map_congr_left fun t ht => ?_).trans (List.map_id ts)
  have hn := R.undo (x := t.n) (List.mem_map.mpr ⟨t, ht, rfl⟩)
  have hr : (t.rs.map (rnR nn)).map (rnR (bk nn)) = t.rs := by
    rw [List.map_map]
    refine (List.map_congr_left fun r hr => ?_).trans (List.map_id t.rs)
    show Rd1.mk (rnm (bk nn) (rnm nn r.t)) r.v r.f = r
    rw [R.undo (O.here t ht r hr)]
  show Tb.mk (rnm (bk nn) (rnm nn t.n)) t.c ((t.rs.map (rnR nn)).map (rnR (bk nn))) = t
  rw [hn, hr]
theorem rnT_nil (ts : List Tb) : ts.map (rnT []) = ts := by
  refine (List.map_congr_left fun t _ => ?_).trans (List.map_id ts)
  show Tb.mk t.n t.c (t.rs.map (rnR [])) = t
  rw [show t.rs.map (rnR []) = t.rs from (List.map_congr_left fun r _ => rfl).trans (List.map_id t.rs)]
theorem ren_nil (N : List Str) : Ren N [] := ⟨fun p h => (by cases h), List.nodup_nil, List.nodup_nil, fun p h => (by cases h), fun p h => (by cases h), Nat.zero_le _⟩
theorem ren_one {N : List Str} {x y : Str} (h : x ∈ N) (n : y ∉ N) (ok : isName y = true) : Ren N [(x, y)] :=
  ⟨fun p hp => (by rw [List.mem_singleton.mp hp]; exact h), by simp, by simp, fun p hp e => absurd (by rw [List.mem_singleton.mp hp] at e; exact e) n, fun p hp => (by rw [List.mem_singleton.mp hp]; exact ok), (by show 1 ≤ 12; decide)⟩
theorem Ren.perm {N : List Str} {nn mm : List (Str × Str)} (R : Ren N nn) (p : nn.Perm mm) : Ren N mm :=
  ⟨fun q hq => R.keys q (p.mem_iff.mpr hq), (p.map (·.1)).nodup_iff.mp R.kd, (p.map (·.2)).nodup_iff.mp R.vd, fun q hq e => (p.map (·.1)).mem_iff.mp (R.cov q (p.mem_iff.mpr hq) e), fun q hq => R.ok q (p.mem_iff.mpr hq), by rw [← p.length_eq]; exact R.few⟩
/-- names in turn -/
theorem ren_turn {N S : List Str} (p : N.Perm S) (n : N.Nodup) (ok : ∀ x ∈ N, isName x = true) (few : N.length ≤ 12) : Ren N (N.zip S) := by
  have e1 : (N.zip S).map (·.1) = N := List.map_fst_zip (Nat.le_of_eq p.length_eq)
  have e2 : (N.zip S).map (·.2) = S := List.map_snd_zip (Nat.le_of_eq p.length_eq.symm)
  exact ⟨fun q hq => (List.of_mem_zip hq).1, by rw [e1]; exact n, by rw [e2]; exact p.nodup_iff.mp n, fun q hq e => by rw [e1]; exact e, fun q hq => ok _ (p.mem_iff.mpr (List.of_mem_zip hq).2), by rw [List.length_zip, p.length_eq, Nat.min_self, ← p.length_eq]; exact few⟩
/-- new names -/
theorem ren_new {N S : List Str} {nn : List (Str × Str)} (l : N.length = S.length) (sub : nn.Sublist (N.zip S)) (n : N.Nodup) (nS : S.Nodup) (ok : ∀ x ∈ S, isName x = true) (apart : ∀ x ∈ S, x ∉ N) (few : N.length ≤ 12) : Ren N nn := by
  have e1 : (N.zip S).map (·.1) = N := List.map_fst_zip (Nat.le_of_eq l)
  have e2 : (N.zip S).map (·.2) = S := List.map_snd_zip (Nat.le_of_eq l.symm)
  have hm : ∀ q ∈ nn, q.1 ∈ N ∧ q.2 ∈ S := fun q hq => List.of_mem_zip (sub.mem hq)
  refine ⟨fun q hq => (hm q hq).1, ?_, ?_, fun q hq e => absurd e (apart _ (hm q hq).2), fun q hq => ok _ (hm q hq).2, ?_⟩
  · have z := sub.map (·.1)
    rw [e1] at z
    exact z.nodup n
  · have z := sub.map (·.2)
    rw [e2] at z
    exact z.nodup nS
  · refine Nat.le_trans sub.length_le ?_
    rw [List.length_zip, ← l, Nat.min_self]
    exact few
def WW : List Str := W0 ++ W0.map row5
theorem WW_of {ts : List Tb} (h : (∀ t ∈ ts, t.n ∈ W0) ∨ ∀ t ∈ ts, t.n ∈ W0.map row5) : ∀ t ∈ ts, t.n ∈ WW := fun t ht => List.mem_append.mpr (h.imp (fun h => h t ht) fun h => h t ht)
def FRS : List Str := ["m", "n", "o", "aa", "zzzz", "abcdefgh"]
theorem FRS_facts : FRS.Nodup ∧ (∀ x ∈ FRS, isName x = true) ∧ (∀ x ∈ FRS, x ∉ WW) ∧ isName ("other" : Str) = true ∧ ("other" : Str) ∉ WW := by decide +kernel
theorem merge_new : ∀ (nn : List (Str × Str)) (acc : List (Str × Str)), ((acc ++ nn).map (·.1)).Nodup → mergeK (dictS acc) (dictS nn) = dictS (acc ++ nn)
  | [], acc, _ => by
    rw [List.append_nil]
    rfl
  | (a, b) :: nn, acc, h => by
    have hno : valV (dictS acc) (Sum.inr a) = none := by
      rw [valS, look_no fun hm => ?_]
      · rfl
      · rw [List.map_append, List.nodup_append] at h
        exact h.2.2 a hm a List.mem_cons_self rfl
    show mergeK (putK (dictS acc) (Sum.inr a) (V.str b)) (dictS nn) = _
    rw [putK_new _ hno, show dictS acc ++ [((Sum.inr a : Key), V.str b)] = dictS (acc ++ [(a, b)]) by unfold dictS; rw [List.map_append]; rfl, merge_new nn (acc ++ [(a, b)]) (by rw [List.append_assoc]; exact h), List.append_assoc]
    rfl
end Fr

namespace Fr
open PySem PySem.Spec PyProof.Rows L2 PySem.Builtin.Str
def Sgn (t : Str) : Prop := ∀ c ∈ t.cps.toList, c < 1000
theorem Sgn.ok {t : Str} (h : Sgn t) : PyData.strOk t = true := by
  unfold PyData.strOk
  rw [Array.all_eq_true_iff_forall_mem]
  intro c hc
  have := h c (Array.mem_toList_iff.mpr hc)
  exact decide_eq_true (by omega)
theorem sgn_int (i : Int) : Sgn (PyData.int i).shown := fun c hc => by
  by_cases h : c < 1000
  · exact h
  · exact absurd hc (shown_int_free' (by omega) i)
theorem sgn_all : ∀ {xs : List PyData}, (∀ x ∈ xs, Sgn x.shown) → ∀ t ∈ PyData.shownAll xs, Sgn t
  | [], _, t, ht => by rw [PyData.shownAll_nil] at ht; cases ht
  | x :: r, h, t, ht => by
    rw [PyData.shownAll_cons, List.mem_cons] at ht
    rcases ht with rfl | ht
    · exact h x List.mem_cons_self
    · exact sgn_all (fun y hy => h y (List.mem_cons_of_mem _ hy)) t ht
theorem sgn_join {ts : List Str} (h : ∀ t ∈ ts, Sgn t) : Sgn (Str.join ", " ts) := fun c hc => by
  rcases (mem_join _ _ _).mp hc with ⟨t, ht, e⟩ | ⟨_, e⟩
  · exact h t ht c e
  · rw [signs_sep] at e
    simp only [List.mem_cons, List.not_mem_nil, or_false] at e
    omega
theorem sgn_list {xs : List PyData} (h : ∀ x ∈ xs, Sgn x.shown) : Sgn (PyData.list xs).shown := by
  rw [PyData.shown_list]
  intro c hc
  rw [mem_cps_append, mem_cps_append, signs_lbrack, signs_rbrack] at hc
  rcases hc with (hc | hc) | hc
  · rw [List.mem_singleton.mp hc]; decide
  · exact sgn_join (sgn_all h) c hc
  · rw [List.mem_singleton.mp hc]; decide
theorem sgn_tup {xs : List PyData} (h : ∀ x ∈ xs, Sgn x.shown) : Sgn (PyData.tuple xs).shown := by
  rw [PyData.shown_tuple]
  intro c hc
  rw [mem_cps_append, mem_cps_append, signs_lparen, signs_tuple_end] at hc
  rcases hc with (hc | hc) | hc
  · rw [List.mem_singleton.mp hc]; decide
  · exact sgn_join (sgn_all h) c hc
  · split at hc <;> (simp only [List.mem_cons, List.not_mem_nil, or_false] at hc; omega)
theorem quote_of (x : Str) : reprQuote x = 39 ∨ reprQuote x = 34 := by
  unfold reprQuote
  split <;> simp
theorem char_plain : ∀ c ∈ List.range 26, reprChar 39 (97 + c) = [97 + c] ∧ reprChar 34 (97 + c) = [97 + c] := by decide +kernel
theorem fold_mem (q : Nat) : ∀ (l : List Nat) (acc : Array Nat) (z : Nat), z ∈ (l.foldl (fun out c => out ++ (reprChar q c).toArray) acc) → z ∈ acc ∨ ∃ c ∈ l, z ∈ reprChar q c
  | [], acc, z, h => .inl h
  | c :: r, acc, z, h => by
    rw [List.foldl_cons] at h
    rcases fold_mem q r _ z h with h | ⟨d, h1, h2⟩
    · rcases Array.mem_append.mp h with h | h
      · exact .inl h
      · exact .inr ⟨c, List.mem_cons_self, by simpa using h⟩
    · exact .inr ⟨d, List.mem_cons_of_mem _ h1, h2⟩
theorem sgn_name {x : Str} (h : isName x = true) : Sgn (PyData.str x).shown := by
  have hs : ∀ c ∈ x.cps.toList, 97 ≤ c ∧ c ≤ 122 := fun c hc => by
    unfold isName at h
    rw [Bool.and_eq_true] at h
    have z := List.all_eq_true.mp h.2 c hc
    unfold okSign at z
    rw [Bool.and_eq_true] at z
    have z1 : ¬ ([c] < [97]) := by simpa using z.1
    have z2 : ¬ ([122] < [c]) := by simpa using z.2
    have y1 : ¬ (c < 97) := fun q => z1 (by rw [List.cons_lt_cons_iff]; exact Or.inl q)
    have y2 : ¬ (122 < c) := fun q => z2 (by rw [List.cons_lt_cons_iff]; exact Or.inl q)
    omega
  intro z hz
  have e : (PyData.str x).shown = reprText x := by simp only [PyData.shown]
  rw [e] at hz
  unfold reprText at hz
  have hz := Array.mem_toList_iff.mp hz
  have hq : reprQuote x < 1000 := by rcases quote_of x with e | e <;> rw [e] <;> decide
  rcases Array.mem_push.mp hz with hz | rfl
  · rw [← Array.foldl_toList] at hz
    rcases fold_mem _ _ _ _ hz with hz | ⟨c, h1, h2⟩
    · have : z = reprQuote x := by simpa using hz
      rw [this]
      exact hq
    · obtain ⟨a1, a2⟩ := hs c h1
      have e : c = 97 + (c - 97) := by omega
      have cp := char_plain (c - 97) (List.mem_range.mpr (by omega))
      rw [← e] at cp
      have h3 : z ∈ [c] := by
        rcases quote_of x with e | e <;> rw [e] at h2
        · rw [cp.1] at h2; exact h2
        · rw [cp.2] at h2; exact h2
      rw [List.mem_singleton.mp h3]
      omega
  · exact hq
theorem sgn_nr {x : Str × Nat} (h : isName x.1 = true) : Sgn (nrD x).shown := sgn_tup fun y hy => by
  simp only [List.mem_cons, List.not_mem_nil, or_false] at hy
  rcases hy with rfl | rfl
  · exact sgn_name h
  · exact sgn_int _
theorem sgn_rd {d : Int} {r : Rd1} (h : isRead d r = true) : Sgn r.d.shown := sgn_tup fun y hy => by
  unfold isRead at h
  rw [Bool.and_eq_true] at h
  simp only [List.mem_cons, List.not_mem_nil, or_false] at hy
  rcases hy with rfl | rfl | rfl
  · exact sgn_name h.1
  · exact sgn_tup fun z hz => by
      obtain ⟨i, _, rfl⟩ := List.mem_map.mp hz
      exact sgn_int i
  · exact sgn_int _
theorem sgn_tb {d : Int} {ts : List Tb} (O : OkT d ts) {t : Tb} (ht : t ∈ ts) : Sgn t.d.shown := sgn_tup fun y hy => by
  simp only [List.mem_cons, List.not_mem_nil, or_false] at hy
  rcases hy with rfl | rfl | rfl
  · exact sgn_name (O.names t ht)
  · exact sgn_int _
  · exact sgn_list fun z hz => by
      obtain ⟨r, hr, rfl⟩ := List.mem_map.mp hz
      exact sgn_rd (O.reads t ht r hr)
theorem sgn_gone {d : Int} {ts : List Tb} (O : OkT d ts) {gs : List (Str × Nat)} (h : ∀ z ∈ gs, z ∈ named ts) : Sgn (PyData.list (gs.map nrD)).shown := sgn_list fun y hy => by
  obtain ⟨x, hx, rfl⟩ := List.mem_map.mp hy
  obtain ⟨t, ht, e, _⟩ := mem_named.mp (show (x.1, x.2) ∈ named ts from h x hx)
  exact sgn_nr (by rw [← e]; exact O.names t ht)
theorem sgn_sys {d m : Int} {ts : List Tb} (O : OkT d ts) : Sgn (sysS d m ts) := sgn_list fun y hy => by
  simp only [List.mem_cons, List.not_mem_nil, or_false] at hy
  rcases hy with rfl | rfl | rfl | rfl | rfl
  · exact sgn_int _
  · exact sgn_int _
  · exact sgn_list fun z hz => by
      obtain ⟨t, ht, rfl⟩ := List.mem_map.mp hz
      exact sgn_tb O ht
  · exact sgn_gone O fun z hz => hz
  · exact sgn_int _
theorem lay_strs {xs : List Str} (h : ∀ x ∈ xs, Sgn x) : SeqAt.shaped (.list (xs.map .str)) = true := (Lay.list (k := 1) (.map fun x hx => .str (h x hx).ok)).shaped (by decide)
theorem sgn_cat {a b : Str} (h : Sgn a) (k : Sgn b) : Sgn (a ++ b) := fun c hc => by
  rcases mem_cps_append.mp hc with h' | h'
  · exact h c h'
  · exact k c h'
theorem sgn_lits : Sgn ("{" : Str) ∧ Sgn ("}" : Str) ∧ Sgn (": " : Str) := by
  refine ⟨?_, ?_, ?_⟩ <;> (unfold Sgn; decide +kernel)
theorem sgn_kv : ∀ {nn : List (Str × Str)}, (∀ p ∈ nn, isName p.1 = true ∧ isName p.2 = true) → ∀ t ∈ PyData.shownKv (nnK nn), Sgn t
  | [], _, t, ht => by
    simp only [nnK, List.map_nil, PyData.shownKv] at ht
    cases ht
  | (a, b) :: nn, h, t, ht => by
    simp only [nnK, List.map_cons, PyData.shownKv, List.mem_cons] at ht
    obtain ⟨h1, h2⟩ := h (a, b) List.mem_cons_self
    rcases ht with rfl | ht
    · exact sgn_cat (sgn_cat (sgn_name h1) sgn_lits.2.2) (sgn_name h2)
    · exact sgn_kv (fun p hp => h p (List.mem_cons_of_mem _ hp)) t ht
theorem sgn_nn {nn : List (Str × Str)} (h : ∀ p ∈ nn, isName p.1 = true ∧ isName p.2 = true) : Sgn (nnD nn).shown := by
  unfold nnD
  rw [PyData.shown_dict]
  exact sgn_cat (sgn_cat sgn_lits.1 (sgn_join (sgn_kv h))) sgn_lits.2.1
theorem nm_ok {x : Str} (h : isName x = true) : NmOk x := by
  unfold isName at h
  rw [Bool.and_eq_true, Bool.and_eq_true] at h
  have hl := of_decide_eq_true h.1.2
  refine ⟨List.all_eq_true.mpr fun c hc => ?_, ?_⟩
  · have z := List.all_eq_true.mp h.2 c hc
    unfold okSign at z
    rw [Bool.and_eq_true] at z
    have z2 : ¬ ([122] < [c]) := by simpa using z.2
    have y2 : ¬ (122 < c) := fun q => z2 (by rw [List.cons_lt_cons_iff]; exact Or.inl q)
    exact decide_eq_true (by omega)
  · have : x.cps.size = x.length := rfl
    omega
end Fr

namespace Fr
open PySem PySem.Spec PyProof.Rows L2
abbrev s_law : Stmt := topS 29
theorem sc_law : FnScope ["_law_script", "_law_rng_here", "_law_lap", "_law_dims", "_law_base", "_law_rows", "_law_made", "_law_words", "_law_fresh", "_law_some", "_law_pairs_here", "_law_pair", "_law_turned", "_law_kept", "_law_later", "_law_word", "_law_moved", "_law_number", "_law_reads_here", "_law_one", "_law_due", "_law_told", "_law_old", "_law_new", "_law_first"] ["_law_script"] (defScope s_law) := ⟨rfl, rfl, rfl, by decide +kernel, rfl, by decide +kernel, by decide +kernel⟩
-- slots: 0 _law_script, 1 _law_rng_here, 2 _law_lap, 3 _law_dims, 4 _law_base, 5 _law_rows, 6 _law_made, 7 _law_words, 8 _law_fresh, 9 _law_some, 10 _law_pairs_here, 11 _law_pair, 12 _law_turned, 13 _law_kept, 14 _law_later, 15 _law_word, 16 _law_moved, 17 _law_number, 18 _law_reads_here, 19 _law_one, 20 _law_due, 21 _law_told, 22 _law_old, 23 _law_new, 24 _law_first
/-- a pair of names -/
def pd (p : Str × Str) : PyData := .tuple [.str p.1, .str p.2]
theorem noL_pd (p : Str × Str) : noL (pd p) = true := rfl
theorem perm_str {N : List Str} {es : List PyData} (h : List.Perm (N.map PyData.str) es) : ∃ S : List Str, es = S.map PyData.str ∧ N.Perm S := by
  let un : PyData → Str := fun d => match d with
    | .str x => x
    | _ => Str.empty
  refine ⟨es.map un, ?_, ?_⟩
  · rw [List.map_map]
    refine (List.map_id es).symm.trans (List.map_congr_left fun e he => ?_)
    obtain ⟨x, _, rfl⟩ := List.mem_map.mp (h.mem_iff.mpr he)
    rfl
  · have z := h.map un
    rw [List.map_map] at z
    have e : N.map (un ∘ PyData.str) = N := (List.map_congr_left fun e _ => rfl).trans (List.map_id N)
    rw [e] at z
    exact z
theorem perm_pd {N : List (Str × Str)} {es : List PyData} (h : List.Perm (N.map pd) es) : ∃ S : List (Str × Str), es = S.map pd ∧ N.Perm S := by
  let un : PyData → Str × Str := fun d => match d with
    | .tuple [.str x, .str y] => (x, y)
    | _ => (Str.empty, Str.empty)
  refine ⟨es.map un, ?_, ?_⟩
  · rw [List.map_map]
    refine (List.map_id es).symm.trans (List.map_congr_left fun e he => ?_)
    obtain ⟨x, _, rfl⟩ := List.mem_map.mp (h.mem_iff.mpr he)
    rfl
  · have z := h.map un
    rw [List.map_map] at z
    have e : N.map (un ∘ pd) = N := (List.map_congr_left fun e _ => rfl).trans (List.map_id N)
    rw [e] at z
    exact z
theorem eqv_strs : ∀ (S F : List Str), PyData.eqv (.list (S.map .str)) (.list (F.map .str)) = true → S = F
  | [], [], _ => rfl
  | [], _ :: _, h => by simp [PyData.eqv, PyData.eqvAll] at h
  | _ :: _, [], h => by simp [PyData.eqv, PyData.eqvAll] at h
  | a :: S, b :: F, h => by
    simp only [List.map_cons, PyData.eqv, PyData.eqvAll, Bool.and_eq_true] at h
    have h2 : PyData.eqv (.list (S.map .str)) (.list (F.map .str)) = true := by simp only [PyData.eqv]; exact h.2
    rw [eqv_strs S F h2]
    have h1 : (a == b) = true := h.1
    rw [eq_of_beq h1]
theorem good_strs {N : List Str} (h : ∀ x ∈ N, isName x = true) : ∀ d ∈ N.map PyData.str, Good d := fun d hd => by
  obtain ⟨x, hx, rfl⟩ := List.mem_map.mp hd
  exact ⟨by simpa [PyData.canLay0] using (name_ok (h x hx)).1, by simp [PyData.depth]⟩
theorem zdp {K : PySem.W.Frag} {H : Hp} : ∀ (Ts : List Addr) (N S : List Str), Ts.length = N.length → N.length = S.length → (∀ (j : Nat) (T : Addr), Ts[j]? = some T → ∃ x y, (N.map V.str)[j]? = some x ∧ (S.map V.str)[j]? = some y ∧ H T = some (.tup [x, y])) → DpAll K H (Ts.map V.ref) ((N.zip S).map pd)
  | [], [], [], _, _, _ => .nil
  | T :: Ts, a :: N, b :: S, h, k, t => by
    obtain ⟨x, y, e1, e2, e3⟩ := t 0 T rfl
    cases e1
    cases e2
    exact .cons (.tup (Or.inl (Or.inl e3)) (.cons (.str _) (.cons (.str _) .nil))) (zdp Ts N S (Nat.succ.inj h) (Nat.succ.inj k) fun j T' e => t (j + 1) T' e)
  | [], _ :: _, _, h, _, _ => by cases h
  | _ :: _, [], _, h, _, _ => by cases h
  | [], [], _ :: _, _, k, _ => by cases k
  | _ :: _, _ :: _, [], _, k, _ => by cases k
theorem strs_shaped {N : List Str} (h : ∀ x ∈ N, isName x = true) : SeqAt.shaped (.list (N.map PyData.str)) = true := (Lay.list (k := 1) (.map fun x hx => .str (name_ok (h x hx)).1)).shaped (by decide)
theorem pairs_at {K : PySem.W.Frag} {H : Hp} : ∀ {nn : List (Str × Str)} {ys : List V}, DpAll K H ys (nn.map pd) → ∃ ps : List Addr, ys = ps.map V.ref ∧ Paired (fun p (kv : Key × V) => SqT K H p [kV kv.1, kv.2]) ps (dictS nn)
  | [], _, h => by
    cases h
    exact ⟨[], rfl, .nil⟩
  | (a, b) :: nn, _, h => by
    cases h with
    | cons h1 h2 =>
      obtain ⟨ps, e, hp⟩ := pairs_at h2
      obtain ⟨p, xs, e1, e2, e3⟩ := dtup h1
      obtain ⟨x, y, rfl, d1, d2⟩ := dps2 e3
      obtain rfl := dstr d1
      obtain rfl := dstr d2
      subst e1 e
      exact ⟨p :: ps, rfl, .cons e2 hp⟩
theorem good_pd {nn : List (Str × Str)} (h : ∀ p ∈ nn, isName p.1 = true ∧ isName p.2 = true) : ∀ d ∈ nn.map pd, Good d := fun d hd => by
  obtain ⟨p, hp, rfl⟩ := List.mem_map.mp hd
  obtain ⟨h1, h2⟩ := h p hp
  have z : Lay (pd p) 1 := .tup (.cons (.str (name_ok h1).1) (.cons (.str (name_ok h2).1) .nil))
  exact ⟨z.lay, Nat.le_trans z.dep (by decide)⟩
theorem Ren.names {N : List Str} {nn : List (Str × Str)} (R : Ren N nn) (h : ∀ x ∈ N, isName x = true) : ∀ p ∈ nn, isName p.1 = true ∧ isName p.2 = true := fun p hp => ⟨h _ (R.keys p hp), R.ok p hp⟩
section
variable {P : Program} {w : World} {K : PySem.W.Frag} {mg : Str → Option Value} {base : Heap}
def spLaw4 (K : PySem.W.Frag) (TT : List (Addr × Str)) : Sp := fun vs H Q _ => ∃ (a : Addr) (ns : List Int), vs = [.ref a] ∧ SqL K H a (ns.map V.int) ∧ ns.length ≤ 63 ∧ LamX.Tabs TT H ∧ ∀ H', Q (.bl true) H'
theorem ok_law4 {f C : Addr} {fd : FuncData} {TT : List (Addr × Str)} (F : Fun K "law" "law" s_law f fd) (T : Txt mg) (zr : mg "repr" = none) (zd : mg "dict" = none) (TC : TxtC K mg C) (c_Lrng : C8.Cal P w K mg base 1 "_law_rng" (spRng K) []) (c_Ldraw : C8.Cal P w K mg base 1 "_law_draw" spDraw []) (c_Lmixed : C8.Cal P w K mg base 2 "_law_mixed" (spMixed K) [])
    (c_Lmade_rows : C8.Cal P w K mg base 3 "_law_made_rows" (spRows K) []) (p_names : Prp P w K mg base 1 C "names" (spNames K C)) (m_System3 : C8.Mak P w K mg base 5 "System" C (spInit K C TT) []) (t_constant : C8.Met P w K mg base 4 C "constant" (spConst K C) []) (c_Lshown : CalG P w K mg base 5 "_law_shown" (spShown K C))
    (t_renamed : C8.Met P w K mg base 8 C "renamed" (spRen K C TT) []) (kt_renamed : MetK P w K mg base 8 C "renamed" (spRen K C TT) ["names"] kw1) (eq_System : EqM P w K mg base 1 C (spSysEq K C)) (c_Lexchanged_right : CalG P w K mg base 9 "_law_exchanged_right" (spER K C TT)) :
    FnG P w K mg base 10 f fd ["_law_script"] (spLaw4 K TT) := by
  refine Fun_okG F sc_law (fun vs H Q E h => ?_) (fun cdv A outer sh H vs Q E hr h => ?_)
  · obtain ⟨a, ns, rfl, _⟩ := h
    rfl
  · obtain ⟨a, ns, rfl, ha, hl, hT, q⟩ := h
    have hu := hu_of hr.room
    refine ⟨_, (pss_cons (ps_set (i := 1) sc_law.nd rfl (by first | exact Or.inl rfl | exact Or.inr rfl) (C8.pe_c c_Lrng hr.room (by decide) (by rfl) (pa_cons (pv 0) pa_nil)))
  (pss_cons (ps_for PassesOwn.never rfl (pi_range1 (by rfl) T.b_range (pa_cons (pe_op op_add pe_int (pe_callB (call_min2 rfl) (by rfl) T.b_min (by decide +kernel) (pa_cons pe_int (pa_cons (pe_callB call_len_seq (by rfl) T.b_len PySem.boot_len (pa_cons (pv 0) pa_nil)) pa_nil)))) pa_nil)) (pg_name (i := 2) sc_law.nd rfl (by first | exact Or.inl rfl | exact Or.inr rfl))
    (pss_cons (ps_par (i := 3) (j := 4) (by rfl) sc_law.nd rfl rfl (by decide) rfl rfl (pa_cons (pe_op op_add pe_int (C8.pe_c c_Ldraw hr.room (by decide) (by rfl) (pa_cons (pv 1) (pa_cons pe_int pa_nil)))) (pa_cons (pe_op op_add pe_int (C8.pe_c c_Ldraw hr.room (by decide) (by rfl) (pa_cons (pv 1) (pa_cons (pe_op op_pow pe_int pe_int) pa_nil)))) pa_nil)) (by rfl))
    (pss_cons (ps_set (i := 5) sc_law.nd rfl (by first | exact Or.inl rfl | exact Or.inr rfl) (C8.pe_c c_Lmade_rows hr.room (by decide) (by rfl) (pa_cons (pv 1) (pa_cons (pv 3) (pa_cons (pe_op op_add pe_int (C8.pe_c c_Ldraw hr.room (by decide) (by rfl) (pa_cons (pv 1) (pa_cons pe_int pa_nil)))) (pa_cons pe_int (pa_cons pe_int pa_nil)))))))
    (pss_cons (ps_set (i := 6) sc_law.nd rfl (by first | exact Or.inl rfl | exact Or.inr rfl) (C8.pe_mk m_System3 hr.room (by decide) (by rfl) (pa_cons (pv 3) (pa_cons (pv 5) (pa_cons (pv 4) pa_nil)))))
    (pss_cons (ps_set (i := 7) sc_law.nd rfl (by first | exact Or.inl rfl | exact Or.inr rfl) (pe_pr (pv 6) p_names hr.room (by decide) rfl))
    (pss_cons (ps_set (i := 8) sc_law.nd rfl (by first | exact Or.inl rfl | exact Or.inr rfl) (pe_slice sl_list (C8.pe_c c_Lmixed hr.room (by decide) (by rfl) (pa_cons (pv 1) (pa_cons (pe_lst (pa_cons pe_str (pa_cons pe_str (pa_cons pe_str (pa_cons pe_str (pa_cons pe_str (pa_cons pe_str pa_nil))))))) pa_nil))) po_none (po_some (pe_callB call_len_seq (by rfl) T.b_len PySem.boot_len (pa_cons (pv 7) pa_nil)))))
    (pss_cons (ps_set (i := 9) sc_law.nd rfl (by first | exact Or.inl rfl | exact Or.inr rfl) (pe_ix ix_list (pe_lst (pa_cons (C8.pe_c c_Lmixed hr.room (by decide) (by rfl) (pa_cons (pv 1) (pa_cons (pv 7) pa_nil))) (pa_cons (pv 8) pa_nil))) (C8.pe_c c_Ldraw hr.room (by decide) (by rfl) (pa_cons (pv 1) (pa_cons pe_int pa_nil))) (fun _ _ => rfl)))
    (pss_cons (ps_set (i := 10) sc_law.nd rfl (by first | exact Or.inl rfl | exact Or.inr rfl) (pe_listZip rfl (by rfl) T.b_list (by rfl) T.b_zip (pa_cons (pv 7) (pa_cons (pv 9) pa_nil))))
    (pss_cons (ps_csq (ps_if (pt_cmpR (op_eqD hr.room.units) (pv 9) (pv 8) (nomark _))
      (pss_one (ps_setLc (i := 10) (own := [("_law_pair", 11)]) (g := gName 11) (by rfl) sc_law.nd rfl rfl (sw_true rfl rfl rfl (by decide +kernel)) (pi_list (pv 10)) (blkOk_by (N := ["_law_script", "_law_rng_here", "_law_lap", "_law_dims", "_law_base", "_law_rows", "_law_made", "_law_words", "_law_fresh", "_law_some", "_law_pairs_here", "_law_pair", "_law_turned", "_law_kept", "_law_later", "_law_word", "_law_moved", "_law_number", "_law_reads_here", "_law_one", "_law_due", "_law_told", "_law_old", "_law_new", "_law_first"]) (sc := defScope s_law) (by decide +kernel)) (fun _ _ _ _ _ => (pg_name (i := 11) sc_law.nd rfl (by first | exact Or.inl rfl | exact Or.inr rfl))) (fun _ _ _ _ _ => (pts_one (pt_cmpR op_gt (C8.pe_c c_Ldraw hr.room (by decide) (by rfl) (pa_cons (pv 1) (pa_cons pe_int pa_nil))) pe_int (nomark _)))) (fun _ _ _ _ _ => (pv 11))))
      pss_nil))
    (pss_cons (ps_set (i := 12) sc_law.nd rfl (by first | exact Or.inl rfl | exact Or.inr rfl) (pe_callTy (call_dictP rfl) (by rfl) zd (by decide +kernel) (pa_cons (C8.pe_c c_Lmixed hr.room (by decide) (by rfl) (pa_cons (pv 1) (pa_cons (pv 10) pa_nil))) pa_nil)))
    (pss_cons (ps_asg (pe_tup (pa_cons (pe_lst (pa_cons (pe_cG c_Lshown hr (by decide) (by rfl) (pa_cons (pv 6) pa_nil)) (pa_cons (pe_callB (call_reprS hr.free hr.room.units1) (by rfl) zr (by decide +kernel) (pa_cons (pv 12) pa_nil)) pa_nil))) (pa_cons pe_dnewK pa_nil))) (pg_tup rfl (pgs_cons (pg_name (i := 13) sc_law.nd rfl (by first | exact Or.inl rfl | exact Or.inr rfl)) (pgs_cons (pg_name (i := 14) sc_law.nd rfl (by first | exact Or.inl rfl | exact Or.inr rfl)) pgs_nil))))
    (pss_cons (ps_for PassesOwn.never rfl (pi_list (pv 7)) (pg_name (i := 15) sc_law.nd rfl (by first | exact Or.inl rfl | exact Or.inr rfl))
      (pss_one (ps_dput hu (pv 14) (pv 15) (pe_dget2 hu (pv 12) (pv 15) (pv 15) ⟨by rfl, by rfl, by rfl, by rfl⟩) rfl)))
    (pss_cons (ps_set (i := 16) sc_law.nd rfl (by first | exact Or.inl rfl | exact Or.inr rfl) (pe_lst pa_nil))
    (pss_cons (ps_for PassesOwn.never rfl (pi_list (pv 5)) (pg_tup rfl (pgs_cons (pg_name (i := 15) sc_law.nd rfl (by first | exact Or.inl rfl | exact Or.inr rfl)) (pgs_cons (pg_name (i := 17) sc_law.nd rfl (by first | exact Or.inl rfl | exact Or.inr rfl)) (pgs_cons (pg_name (i := 18) sc_law.nd rfl (by first | exact Or.inl rfl | exact Or.inr rfl)) pgs_nil))))
      (pss_one (ps_expr (pe_bm PySem.F.plainAttrs_list PySem.F.slot_list_append PySem.F.type_list_append mt_append (pv 16) (pa_cons (pe_tup (pa_cons (pe_dget hu (pv 14) (pv 15) (fun _ _ => rfl)) (pa_cons (pv 17) (pa_cons (pe_lc (own := [("_law_one", 19)]) (g := gName 19) (tt := tYes) (by rfl) sc_law.nd (pi_list (pv 18)) (blkOk_by (N := ["_law_script", "_law_rng_here", "_law_lap", "_law_dims", "_law_base", "_law_rows", "_law_made", "_law_words", "_law_fresh", "_law_some", "_law_pairs_here", "_law_pair", "_law_turned", "_law_kept", "_law_later", "_law_word", "_law_moved", "_law_number", "_law_reads_here", "_law_one", "_law_due", "_law_told", "_law_old", "_law_new", "_law_first"]) (sc := defScope s_law) (by decide +kernel)) (fun _ _ _ _ _ => (pg_name (i := 19) sc_law.nd rfl (by first | exact Or.inl rfl | exact Or.inr rfl))) (fun _ _ _ _ _ => pts_nil) (fun _ _ _ _ _ => (pe_tup (pa_cons (pe_dget hu (pv 14) (pe_ix (r := rIxT K) ix_tup (pv 19) pe_int (fun _ _ => rfl)) (fun _ _ => rfl)) (pa_cons (pe_ix (r := rIxT K) ix_tup (pv 19) pe_int (fun _ _ => rfl)) (pa_cons (pe_ix (r := rIxT K) ix_tup (pv 19) pe_int (fun _ _ => rfl)) pa_nil)))))) pa_nil)))) pa_nil)))))
    (pss_cons (ps_set (i := 20) sc_law.nd rfl (by first | exact Or.inl rfl | exact Or.inr rfl) (C8.pe_mk m_System3 hr.room (by decide) (by rfl) (pa_cons (pv 3) (pa_cons (pv 16) (pa_cons (pv 4) pa_nil)))))
    (pss_cons (ps_for PassesOwn.never rfl (pi_tup (pe_tup (pa_cons (C8.pe_mt t_renamed hr.room (by decide) (pv 6) (pa_cons (pv 12) pa_nil)) (pa_cons (pe_mtk kt_renamed hr.room (by decide) (pv 6) (pk_cons (pv 12) pk_nil)) pa_nil)))) (pg_name (i := 21) sc_law.nd rfl (by first | exact Or.inl rfl | exact Or.inr rfl))
      (pss_one (ps_if (PW.pt (pw_or (pt_cmpR op_ne (pe_cG c_Lshown hr (by decide) (by rfl) (pa_cons (pv 21) pa_nil)) (pe_cG c_Lshown hr (by decide) (by rfl) (pa_cons (pv 20) pa_nil)) (nomark _)) (pw_or1 (pt_not (pt_cmpR (op_eqOwn eq_System hr.room (by decide)) (pv 21) (pv 20) (nomark _))))))
        (pss_one (ps_ret pe_bl))
        pss_nil)))
    (pss_cons (ps_if (pt_not (pt_cmpR (op_eqOwn eq_System hr.room (by decide)) (C8.pe_mt t_renamed hr.room (by decide) (pv 20) (pa_cons (pe_callTy (call_dictP rfl) (by rfl) zd (by decide +kernel) (pa_cons (pe_lock (pe_lc (own := [("_law_old", 22), ("_law_new", 23)]) (g := gTup K 2 (gCons (gName 22) (gCons (gName 23) gNil))) (tt := tYes) (by rfl) sc_law.nd (pi_items (pv 12)) (blkOk_by (N := ["_law_script", "_law_rng_here", "_law_lap", "_law_dims", "_law_base", "_law_rows", "_law_made", "_law_words", "_law_fresh", "_law_some", "_law_pairs_here", "_law_pair", "_law_turned", "_law_kept", "_law_later", "_law_word", "_law_moved", "_law_number", "_law_reads_here", "_law_one", "_law_due", "_law_told", "_law_old", "_law_new", "_law_first"]) (sc := defScope s_law) (by decide +kernel)) (fun _ _ _ _ _ => (pg_tup rfl (pgs_cons (pg_name (i := 22) sc_law.nd rfl (by first | exact Or.inl rfl | exact Or.inr rfl)) (pgs_cons (pg_name (i := 23) sc_law.nd rfl (by first | exact Or.inl rfl | exact Or.inr rfl)) pgs_nil)))) (fun _ _ _ _ _ => pts_nil) (fun _ _ _ _ _ => (pe_tup (pa_cons (pv 23) (pa_cons (pv 22) pa_nil)))))) pa_nil)) pa_nil)) (pv 6) (nomark _)))
      (pss_one (ps_ret pe_bl))
      pss_nil)
    (pss_cons (ps_set (i := 24) sc_law.nd rfl (by first | exact Or.inl rfl | exact Or.inr rfl) (C8.pe_mt t_renamed hr.room (by decide) (pv 6) (pa_cons (pe_disp (pps_cons (pe_ix ix_list (pv 7) pe_int (fun _ _ => rfl)) pe_str pps_nil) (by rfl) (by rfl) (fun z => by cases z) (by decide)) pa_nil)))
    (pss_cons (ps_if (PW.pt (pw_or (pt_not (pt_cmpR (op_eqOwn eq_System hr.room (by decide)) (C8.pe_mt t_renamed hr.room (by decide) (pv 6) (pa_cons pe_dnewK pa_nil)) (pv 6) (nomark _))) (pw_or1 (pt_cmpR op_ne (C8.pe_mt t_constant hr.room (by decide) (pv 24) (pa_cons pe_str pa_nil)) (C8.pe_mt t_constant hr.room (by decide) (pv 6) (pa_cons (pe_ix ix_list (pv 7) pe_int (fun _ _ => rfl)) pa_nil)) (nomark _)))))
      (pss_one (ps_ret pe_bl))
      pss_nil)
    (pss_cons (ps_if (pt_not (pt_cmpR (op_eqOwn eq_System hr.room (by decide)) (C8.pe_mt t_renamed hr.room (by decide) (pv 6) (pa_cons (pv 12) pa_nil)) (pv 20) (nomark _)))
      (pss_one (ps_ret pe_bl))
      pss_nil)
    (pss_one (ps_if (PW.pt (pw_or (pt_not (pt_val (pe_cG c_Lexchanged_right hr (by decide) (by rfl) (pa_cons (pv 1) (pa_cons (pv 6) (pa_cons (pv 5) pa_nil)))))) (pw_or1 (pt_cmpR (op_neD hr.room.units) (pe_lst (pa_cons (pe_cG c_Lshown hr (by decide) (by rfl) (pa_cons (pv 6) pa_nil)) (pa_cons (pe_callB (call_reprS hr.free hr.room.units1) (by rfl) zr (by decide +kernel) (pa_cons (pv 12) pa_nil)) pa_nil))) (pv 13) (nomark _)))))
      (pss_one (ps_ret pe_bl))
      pss_nil))))))))))))))))))))))
  (pss_one (ps_ret pe_bl)))), ?_⟩
    refine ⟨_, rfl, a, ns, rfl, ha, hl, fun r H1 hr1 s1 rok => ?_⟩
    have hT1 := hT.ext s1
    refine ⟨_, rfl, a, _, rfl, Or.inl (sql s1 ha), ?_⟩
    have hlap : (8 + (if ((ns.map V.int).length : Int) < 10 then ((ns.map V.int).length : Int) else 10)) ≤ 18 ∧ 0 ≤ (8 + (if ((ns.map V.int).length : Int) < 10 then ((ns.map V.int).length : Int) else 10)) := by
      split <;> omega
    refine ⟨10, _, rfl, _, _, rfl, rfl, _, rfl, by omega, by omega, ?_⟩
    generalize (8 + (if ((ns.map V.int).length : Int) < 10 then ((ns.map V.int).length : Int) else 10)) = laps at hlap
    refine for_range (fun i σ H' => ∃ (y2 y3 y4 y5 y6 y7 y8 y9 y10 y12 y13 y14 y15 y16 y17 y18 y20 y21 y24 : Option V), σ = [some (.ref a), some (.ref r), y2, y3, y4, y5, y6, y7, y8, y9, y10, none, y12, y13, y14, y15, y16, y17, y18, none, y20, y21, none, none, y24] ∧ RngOk H' r (3000 * i) ∧ LamX.Tabs TT H')
      ⟨none, none, none, none, none, none, none, none, none, none, none, none, none, none, none, none, none, none, none, rfl, rok, hT1⟩ ?_ ?_
    · rintro i σ H2 hi ⟨y2, y3, y4, y5, y6, y7, y8, y9, y10, y12, y13, y14, y15, y16, y17, y18, y20, y21, y24, rfl, rok2, hT2⟩
      have hi16 : i < 18 := by omega
      have hsz : (100 : Nat) ≤ sizeLine := by rw [sizeLine_eq]; decide
      -- dims, base
      refine ⟨_, rfl, r, 3, _, rfl, rok2, by omega, by decide, by decide, fun k1 H3 k10 k11 D3 => ⟨_, _, rfl, rfl, ?_⟩⟩
      have hT3 := tabs_dr hT2 rok2 D3
      refine ⟨_, rfl, 10, 6, rfl, rfl, ⟨by decide, by decide, by decide⟩, r, 10 ^ (6 : Int).toNat, _, rfl, D3.ok, by omega, by decide, by decide, fun k2 H4 k20 k21 D4 => ⟨_, _, rfl, rfl, _, _, rfl, ?_⟩⟩
      have hT4 := tabs_dr hT3 D3.ok D4
      have k21' : k2 < 1000000 := by
        have e : (10 : Int) ^ (6 : Int).toNat = 1000000 := by decide
        rw [e] at k21
        exact k21
      -- rows
      refine ⟨_, rfl, _, rfl, _, rfl, r, 6, _, rfl, D4.ok, by omega, by decide, by decide, fun k3 H5 k30 k31 D5 => ⟨_, _, rfl, rfl, ?_⟩⟩
      have hT5 := tabs_dr hT4 D4.ok D5
      refine ⟨r, 1 + k1, 1 + k3, 12, 5, _, cutr H5 r, rfl, RS.cut D5.ok, by omega, by omega, by omega, by omega, by decide, by decide, by decide, by decide, by omega, fun rp B6 H6 ts s6 R6 Lr6 hlen O6 ok6 sm6 src6 few6 => ?_⟩
      have hT6 := tabs_cut hT5 D5.ok (same_tr s6 R6.s)
      have O : Sys1 (1 + k1) (2 + k2) ts := ⟨by omega, by omega, by omega, by omega, by omega, by omega, O6, sm6⟩
      have hww := WW_of src6
      -- made
      refine ⟨_, rfl, _, rfl, _, rfl, fun x z2 nx z4 z5 => mk_sys hT6 O.sys (Lr6.grow R6.s).dp nx z4 z5 fun H7 X7 T7 S7 => ?_⟩
      obtain ⟨c1, c2, c3, ce, cn⟩ := id R6.ok
      have rok7 : RngOk H7 r (3000 * i + 1 + 1 + 1 + 1000) := ⟨c1, c2, c3, X7 _ _ ce (fun ps z => by cases z), cn⟩
      have L7 := LS.own rok7 T7
      have RB := Lr6.to R6.s R6.n X7
      have SB := S7.re rok7
      generalize bs H7 r = B7 at L7 RB SB
      have Os := O.srt
      have srl : (srt ts).length = ts.length := List.length_mergeSort _
      obtain ⟨sdx, stt, skv, o1, o2, o3⟩ := id SB.ob
      have nf : ∀ {y : Str}, decide (y = "_dimensions" ∨ y = "_modulus" ∨ y = "_tables") = false → (flds (1 + k1) (2 + k2) stt).lookup y = none := fun h => no_fld h
      have hwn : ∀ x ∈ (srt ts).map (·.n), x ∈ WW := fun x hx => by
        obtain ⟨t, ht, rfl⟩ := List.mem_map.mp hx
        exact hww t ((srt_perm ts).mem_iff.mp ht)
      have Wnm : ∀ x ∈ (srt ts).map (·.n), isName x = true := fun x hx => by
        obtain ⟨t, ht, rfl⟩ := List.mem_map.mp hx
        exact Os.ok.names t ht
      have Wnd : ((srt ts).map (·.n)).Nodup := Os.ok.nodup
      have Wl : ((srt ts).map (·.n)).length = ts.length := by rw [List.length_map, srl]
      have hl6 := O.l6
      have hl1 := O.l1
      -- words
      refine ⟨_, rfl, x, sdx, _, rfl, L7.rs.s _ _ o1, x, 1 + k1, 2 + k2, srt ts, rfl, SB.mono L7.rs.s, fun wl H8 hwl s8 wat => ?_⟩
      have L8 := L7.grow s8
      have rw1 := L7.rs.ne hwl
      have wat' : H8 wl = some (.lst (((srt ts).map (·.n)).map V.str)) := by rw [wat, List.map_map]; rfl
      have WB : bs H8 r wl = some (.lst (((srt ts).map (·.n)).map V.str)) := bs_of wat' rw1.symm (fun ps z => by cases z)
      have SB8 := SB.mono L8.up
      have RB8 := RB.grow L8.up
      have L8' := L8.re
      generalize bs H8 r = B8 at WB SB8 RB8 L8'
      clear L8 wat wat' s8 L7 RB SB o1 o2 o3 nf
      -- fresh
      refine ⟨_, rfl, (by show 6 ≤ sizeLine; decide), fun fl hfl => ?_⟩
      have L9 := L8'.new (o := .lst [.str "m", .str "n", .str "o", .str "aa", .str "zzzz", .str "abcdefgh"]) hfl
      have rfl9 := L8'.rs.ne hfl
      have fat : (upd H8 fl (.lst [.str "m", .str "n", .str "o", .str "aa", .str "zzzz", .str "abcdefgh"])) fl = some (.lst (FRS.map V.str)) := upd_same
      generalize upd H8 fl (.lst [.str "m", .str "n", .str "o", .str "aa", .str "zzzz", .str "abcdefgh"]) = H9 at L9 fat
      refine ⟨r, fl, _, cutr H9 r, FRS.map V.str, FRS.map .str, rfl, RS.cut L9.rs.ok, Or.inl (Or.inl (by rw [cutr_ne rfl9.symm]; exact fat)), strs_dps FRS, good_strs FRS_facts.2.1, by decide, by omega, fun p1 H10 ys1 es1 b1 rn1 perm1 dd1 R1 => ?_⟩
      obtain ⟨fs, rfl, hfs⟩ := perm_str perm1
      obtain rfl := dps_strs dd1
      have L10 := (L9.call R1 (snew b1)).mono (m' := 3000 * i + 1 + 1 + 1 + 1000 + 6) (Nat.le_refl _)
      have p1at := R1.s _ _ upd_same
      have WB10 := L10.rs.s _ _ WB
      refine ⟨_, rfl, wl, _, rfl, Or.inl (Or.inl (Or.inl WB10)), _, rfl, p1, _, rfl, Or.inl (Or.inl p1at), fun u hu1 => ?_⟩
      rw [show cutV (fs.map V.str) none (some ((((srt ts).map (·.n)).map V.str).length : Int)) = (fs.take ts.length).map V.str by rw [cut_any, List.length_map, Wl, List.map_take]]
      have L11 := L10.new (o := .lst ((fs.take ts.length).map V.str)) hu1
      have ru := L10.rs.ne hu1
      have uat : (upd H10 u (.lst ((fs.take ts.length).map V.str))) u = some (.lst ((fs.take ts.length).map V.str)) := upd_same
      generalize upd H10 u (.lst ((fs.take ts.length).map V.str)) = H11 at L11 uat
      have UB : bs H11 r u = some (.lst ((fs.take ts.length).map V.str)) := bs_of uat ru.symm (fun ps z => by cases z)
      have SB11 := SB8.mono L11.up
      have RB11 := RB8.grow L11.up
      have WB11 := L11.up _ _ WB
      have L11' := L11.re
      generalize bs H11 r = B11 at UB SB11 RB11 WB11 L11'
      clear L11 L10 WB10 p1at R1 dd1 L9 L8' SB8 RB8 WB fat uat
      have fsl : fs.length = 6 := by rw [← hfs.length_eq]; rfl
      have FS := FRS_facts
      have Fnd : (fs.take ts.length).Nodup := (hfs.nodup_iff.mp FS.1).sublist (List.take_sublist _ _)
      have Fnm : ∀ x ∈ fs.take ts.length, isName x = true := fun x hx => FS.2.1 x (hfs.mem_iff.mpr (List.mem_of_mem_take hx))
      have Fap : ∀ x ∈ fs.take ts.length, x ∉ (srt ts).map (·.n) := fun x hx hm => FS.2.2.1 x (hfs.mem_iff.mpr (List.mem_of_mem_take hx)) (hwn x hm)
      have Fl : (fs.take ts.length).length = ts.length := by rw [List.length_take, fsl]; omega
      -- some
      refine ⟨_, rfl, _, rfl, r, wl, _, cutr H11 r, _, ((srt ts).map (·.n)).map .str, rfl, RS.cut L11'.rs.ok, Or.inl (Or.inl (by rw [cutr_ne (ne_of_none WB11 L11'.rs.n)]; exact L11'.rs.s _ _ WB11)), strs_dps _, good_strs Wnm, by rw [List.length_map, Wl]; omega, by omega, fun p2 H12 ys2 es2 b2 rn2 perm2 dd2 R2 => ?_⟩
      obtain ⟨S0, rfl, hS0⟩ := perm_str perm2
      obtain rfl := dps_strs dd2
      have L12 := (L11'.call R2 (snew b2)).mono (m' := 3000 * i + 1016) (by rw [List.length_map, Wl]; omega)
      have p2at := R2.s _ _ upd_same
      refine ⟨_, rfl, (by show 2 ≤ sizeLine; decide), fun lo hlo => ?_⟩
      have L13 := L12.new (o := .lst [.ref p2, .ref u]) hlo
      have rlo := L12.rs.ne hlo
      have loat : (upd H12 lo (.lst [.ref p2, .ref u])) lo = some (.lst [.ref p2, .ref u]) := upd_same
      have p2at13 := snew (o := .lst [.ref p2, .ref u]) hlo _ _ p2at
      generalize upd H12 lo (.lst [.ref p2, .ref u]) = H13 at L13 loat p2at13
      refine ⟨_, rfl, r, 2, _, rfl, L13.rs.ok, by omega, by decide, by decide, fun k4 H14 k40 k41 D4' => ?_⟩
      have L14 := L13.dr D4'
      have lo14 : H14 lo = some (.lst [.ref p2, .ref u]) := by rw [D4'.ne _ rlo.symm]; exact loat
      have p214 : H14 p2 = some (.lst (S0.map V.str)) := by rw [D4'.ne _ rn2.symm]; exact p2at13
      have u14 := L14.rs.s _ _ UB
      obtain ⟨gv, a1, a2, _⟩ := atI_in (xs := [V.ref p2, .ref u]) k40 k41
      refine ⟨lo, _, _, gv, rfl, rfl, Or.inl (Or.inl lo14), a1, ?_⟩
      have hg : ∃ (so : Addr) (S : List Str), gv = .ref so ∧ r ≠ so ∧ H14 so = some (.lst (S.map V.str)) ∧ S.length = ts.length ∧ (((srt ts).map (·.n)).Perm S ∨ S = fs.take ts.length) ∧ ∀ z ∈ S, isName z = true := by
        simp only [List.mem_cons, List.not_mem_nil, or_false] at a2
        rcases a2 with rfl | rfl
        · exact ⟨p2, S0, rfl, rn2, p214, by rw [← hS0.length_eq, Wl], .inl hS0, fun z hz => Wnm z (hS0.mem_iff.mpr hz)⟩
        · exact ⟨u, _, rfl, (ne_of_none UB L11'.rs.n).symm, u14, Fl, .inr rfl, Fnm⟩
      obtain ⟨so, S, rfl, rso, soat, Sl, hS, Snm⟩ := hg
      -- pairs
      have WB14 := L14.rs.s _ _ WB11
      refine ⟨_, rfl, _, rfl, wl, so, _, _, rfl, Or.inl (Or.inl WB14), Or.inl (Or.inl soat), by rw [List.length_map, List.length_map, List.length_map, srl, Sl], fun zl Ts H15 hzl sm zat tlen tp => ?_⟩
      have L15 := L14.grow sm
      have rzl := L14.rs.ne hzl
      have zip_l : ((srt ts).map (·.n)).length = S.length := by rw [Wl, Sl]
      have PL : LD K H15 zl ((((srt ts).map (·.n)).zip S).map pd) := ⟨_, zat, zdp Ts _ _ (by rw [tlen, List.length_map]) zip_l tp⟩
      have PB := PL.bs (noLs_map noL_pd _) L15.rs.ok rzl
      have SoB : bs H15 r so = some (.lst (S.map V.str)) := bs_of (sm _ _ soat) rso.symm (fun ps z => by cases z)
      have SB15 := SB11.mono L15.up
      have RB15 := RB11.grow L15.up
      have WB15 := L15.up _ _ WB11
      have UB15 := L15.up _ _ UB
      have L15' := L15.re
      generalize bs H15 r = B15 at PB SoB SB15 RB15 WB15 UB15 L15'
      clear L15 PL tp zat sm WB14 L14 u14 p214 lo14 D4' L13 loat p2at13 L12 p2at R2 SB11 RB11 WB11 UB L11' soat a1 a2
      obtain ⟨px, pxat, pxd⟩ := id PB
      have pxl : px.length = ts.length := by rw [dps_len pxd, List.length_map, List.length_zip, ← zip_l, Nat.min_self, Wl]
      -- some == fresh
      refine ⟨fun σ' H' => ∃ (pl : Addr) (nn : List (Str × Str)) (B : Hp), σ' = [some (.ref a), some (.ref r), some (.int (0 + (i : Int))), some (.int (1 + k1)), some (.int (2 + k2)), some (.ref rp), some (.ref x), some (.ref wl), some (.ref u), some (.ref so), some (.ref pl), none, y12, y13, y14, y15, y16, y17, y18, none, y20, y21, none, none, y24] ∧ LS TT r (3000 * i + 1030) B H' ∧ SysAt K C B x (1 + k1) (2 + k2) (srt ts) ∧ LD K B rp (ts.map Tb.d) ∧ B wl = some (.lst (((srt ts).map (·.n)).map V.str)) ∧ LD K B pl (nn.map pd) ∧ Ren ((srt ts).map (·.n)) nn, ?_, ?_⟩
      · rintro _ H16 ⟨pl, nn0, B16, rfl, L16, SB16, RB16, WB16, PB16, R16⟩
        have Rnm := R16.names Wnm
        obtain ⟨px, pxat, pxd⟩ := id PB16
        -- turned
        refine ⟨_, rfl, _, rfl, r, pl, _, cutr H16 r, px, nn0.map pd, rfl, RS.cut L16.rs.ok, Or.inl (Or.inl (by rw [cutr_ne (ne_of_none pxat L16.rs.n)]; exact L16.rs.s _ _ pxat)), dpst (ST.cut L16.rs.ok) _ _ (noLs_map noL_pd _) (dpsm L16.rs.s _ _ pxd), good_pd Rnm, by rw [List.length_map]; have := R16.few; omega, by omega, fun p3 H17 ys3 es3 b3 rn3 perm3 dd3 R3 => ?_⟩
        obtain ⟨nn, rfl, hnn⟩ := perm_pd perm3
        have R17 := R16.perm hnn
        have Rnm := R17.names Wnm
        have L17 := (L16.call R3 (snew b3)).mono (m' := 3000 * i + 1050) (by rw [List.length_map]; have := R16.few; omega)
        have p3at := R3.s _ _ upd_same
        obtain ⟨ps, rfl, hps⟩ := pairs_at (dpsm (same_tr (snew b3) R3.s) _ _ dd3)
        refine ⟨p3, ps, dictS nn, rfl, Or.inl (Or.inl p3at), hps, fun g hg => ?_⟩
        rw [show mergeK [] (dictS nn) = dictS nn from merge_new nn [] (by simpa using R17.kd)]
        have L18 := L17.new (o := .dK (dictS nn)) hg
        have rng := L17.rs.ne hg
        have gat : (upd H17 g (.dK (dictS nn))) g = some (.dK (dictS nn)) := upd_same
        generalize upd H17 g (.dK (dictS nn)) = H18 at L18 gat
        have GB : bs H18 r g = some (.dK (dictS nn)) := bs_of gat rng.symm (fun ps z => by cases z)
        have SB18 := SB16.mono L18.up
        have RB18 := RB16.grow L18.up
        have WB18 := L18.up _ _ WB16
        have L18' := L18.re
        generalize bs H18 r = B18 at GB SB18 RB18 WB18 L18'
        clear L18 gat L17 p3at hps R3 dd3 perm3 pxd pxat PB16 L16 SB16 RB16 WB16
        have R17t : Ren (ts.map (·.n)) nn := R17.mem fun x => ((srt_perm ts).map (·.n)).mem_iff.symm
        -- kept
        refine ⟨_, rfl, x, 1 + k1, 2 + k2, srt ts, rfl, SB18.mono L18'.rs.s, Os, fun H19 s19 => ?_⟩
        have L19 := L18'.grow s19
        refine ⟨_, rfl, g, nn, rfl, L19.rs.s _ _ GB, fun p hp => ⟨nm_ok (Rnm p hp).1, nm_ok (Rnm p hp).2⟩, by have := R17.few; omega, (by show 2 ≤ sizeLine; decide), fun pk hpk => ?_⟩
        have L20 := L19.new (o := .lst [.str (sysS (1 + k1) (2 + k2) (srt ts)), .str (nnD nn).shown]) hpk
        have rpk := L19.rs.ne hpk
        have pkat : (upd H19 pk (.lst [.str (sysS (1 + k1) (2 + k2) (srt ts)), .str (nnD nn).shown])) pk = some (.lst [.str (sysS (1 + k1) (2 + k2) (srt ts)), .str (nnD nn).shown]) := upd_same
        generalize upd H19 pk (.lst [.str (sysS (1 + k1) (2 + k2) (srt ts)), .str (nnD nn).shown]) = H20 at L20 pkat
        have KB : bs H20 r pk = some (.lst [.str (sysS (1 + k1) (2 + k2) (srt ts)), .str (nnD nn).shown]) := bs_of pkat rpk.symm (fun ps z => by cases z)
        have SB20 := SB18.mono L20.up
        have RB20 := RB18.grow L20.up
        have WB20 := L20.up _ _ WB18
        have GB20 := L20.up _ _ GB
        have L20' := L20.re
        generalize bs H20 r = B20 at KB SB20 RB20 WB20 GB20 L20'
        clear L20 pkat L19 L18' SB18 RB18 WB18 GB s19
        -- later
        intro la hla
        refine ⟨(by show 2 ≤ sizeLine; decide), fun pr hpr => ⟨pr, _, rfl, Or.inl (Or.inl upd_same), rfl, _, _, rfl, _, _, rfl, rfl, ?_⟩⟩
        have nla : la ≠ pr := ne_of_none (upd_same (H := H20) (o := HO.dK [])) hpr
        have la20 : H20 la = none := hla
        have pr20 : H20 pr = none := free_of (snew hla) hpr
        have sP : Same H20 (upd H20 pr (.tup [.ref pk, .ref la])) := snew pr20
        have laP : (upd H20 pr (.tup [.ref pk, .ref la])) la = none := by rw [upd_ne nla]; exact la20
        have sQ : Same (upd H20 pr (.tup [.ref pk, .ref la])) (upd (upd H20 la (.dK [])) pr (.tup [.ref pk, .ref la])) := sgrow (snew hla)
        have laQ : (upd (upd H20 la (.dK [])) pr (.tup [.ref pk, .ref la])) la = some (.dK (dictS [])) := by rw [upd_ne nla]; exact upd_same
        have W20 := L20'.rs.s _ _ WB20
        have G20 := L20'.rs.s _ _ GB20
        generalize upd H20 pr (.tup [.ref pk, .ref la]) = HP at sP laP sQ
        generalize upd (upd H20 la (.dK [])) pr (.tup [.ref pk, .ref la]) = HQ at sQ laQ
        refine ⟨_, rfl, wl, rfl, ⟨_, Or.inl (Or.inl (sQ _ _ (sP _ _ W20)))⟩, for_it (walk_list (K := K) (a := wl) (xs := ((srt ts).map (·.n)).map V.str)) (fun j σ' H' => ∃ y15, σ' = [some (.ref a), some (.ref r), some (.int (0 + (i : Int))), some (.int (1 + k1)), some (.int (2 + k2)), some (.ref rp), some (.ref x), some (.ref wl), some (.ref u), some (.ref so), some (.ref pl), none, some (.ref g), some (.ref pk), some (.ref la), y15, y16, y17, y18, none, y20, y21, none, none, y24] ∧ Same HP H' ∧ H' la = some (.dK (dictS ((((srt ts).map (·.n)).take j).map fun w => (w, rnm nn w)))))
          ⟨y15, rfl, sQ, laQ⟩ (fun j σ' H' _ ⟨_, _, e, _⟩ => Or.inl (Or.inl (e _ _ (sP _ _ W20)))) ?_ ?_⟩
        · rintro j y σ' _ Hj hj ⟨y15, rfl, c1, c2⟩ ⟨rfl, hy⟩
          rw [List.getElem?_map] at hy
          obtain ⟨z, hz, rfl⟩ := Option.map_eq_some_iff.mp hy
          have gj := c1 _ _ (sP _ _ G20)
          have hval : (valV (dictS nn) (Sum.inr z)).getD (V.str z) = V.str (rnm nn z) := by
            rw [valS]
            unfold rnm
            cases nn.lookup z <;> rfl
          refine ⟨_, rfl, g, rfl, Or.inl ⟨_, Or.inl gj⟩, _, rfl, _, rfl, _, Or.inl ⟨dictS nn, Sum.inr z, Or.inl gj, rfl, rfl⟩, ?_⟩
          rw [hval]
          have hno : valV (dictS ((((srt ts).map (·.n)).take j).map fun w => (w, rnm nn w))) (Sum.inr z) = none := by
            rw [valS, look_no]
            · rfl
            · rw [List.map_map]
              intro hm
              obtain ⟨w', hw', e⟩ := List.mem_map.mp hm
              have e : w' = z := e
              rw [e] at hw'
              exact notin_take Wnd hz hw'
          have hjl : (dictS ((((srt ts).map (·.n)).take j).map fun w => (w, rnm nn w))).length < sizeLine := by
            unfold dictS
            rw [List.length_map, List.length_map, List.length_take, Wl]
            exact small1000 (by omega)
          refine ⟨_, rfl, _, rfl, la, _, rfl, DPut.k (k := Sum.inr z) c2 hjl, ?_⟩
          refine ⟨_, rfl, swrite c1 laP, ?_⟩
          rw [upd_same, putK_new _ hno, List.take_add_one, hz]
          unfold dictS
          rw [List.map_append, List.map_append]
          rfl
        · rintro σ' H21 ⟨y15, rfl, c1, c2⟩
          rw [List.length_map, List.take_length] at c2
          have s21 := same_tr sP c1
          have L21 := L20'.grow s21
          have hLa : ∀ {H' : Hp} {z : Str}, Same H21 H' → z ∈ (srt ts).map (·.n) → DGet H' la (.str z) (some (.str (rnm nn z))) := fun {H' z} sm hz => by
            refine Or.inl ⟨_, Sum.inr z, Or.inl (sm _ _ c2), rfl, ?_⟩
            rw [valS]
            obtain ⟨y, e1, e2⟩ := look_mem (k := z) (nn := ((srt ts).map (·.n)).map fun w => (w, rnm nn w)) (by rw [List.map_map]; exact List.mem_map.mpr ⟨z, hz, rfl⟩)
            rw [e1]
            obtain ⟨t', _, e3⟩ := List.mem_map.mp e2
            cases e3
            rfl
          have inS : ∀ {z : Str}, z ∈ ts.map (·.n) → z ∈ (srt ts).map (·.n) := fun hz => ((srt_perm ts).map (·.n)).mem_iff.mpr hz
          clear W20 G20 sQ laQ laP
          -- moved
          refine ⟨Nat.zero_le _, fun mo hmo => ?_⟩
          obtain ⟨rx, rat, rdp⟩ := id RB20
          have rxl : rx.length = ts.length := by rw [dps_len rdp, List.length_map]
          have l3 := L21.rs.s _ _ rat
          have D3 : DpAll K H21 rx (ts.map Tb.d) := dpsm L21.rs.s _ _ rdp
          refine ⟨_, rfl, rp, rfl, ⟨rx, Or.inl (Or.inl (snew hmo _ _ l3))⟩, for_it (walk_list (K := K) (a := rp) (xs := rx)) (fun j σ' H' => ∃ y15 y17 y18, σ' = [some (.ref a), some (.ref r), some (.int (0 + (i : Int))), some (.int (1 + k1)), some (.int (2 + k2)), some (.ref rp), some (.ref x), some (.ref wl), some (.ref u), some (.ref so), some (.ref pl), none, some (.ref g), some (.ref pk), some (.ref la), y15, some (.ref mo), y17, y18, none, y20, y21, none, none, y24] ∧ ∃ (Bq : Hp) (ys : List V), Same H21 Bq ∧ Bq mo = none ∧ Same Bq H' ∧ H' mo = some (.lst ys) ∧ DpAll K Bq ys (((ts.take j).map (rnT nn)).map Tb.d))
            ⟨y15, y17, y18, rfl, H21, [], same_refl, hmo, snew hmo, upd_same, .nil⟩ (fun j σ' H' _ ⟨_, _, _, _, Bq, ys, b1, _, b3, _⟩ => Or.inl (Or.inl (b3 _ _ (b1 _ _ l3)))) ?_ ?_⟩
          · rintro j y σ' _ Hi hj ⟨y15, y17, y18, rfl, Bq, ys, b1, b2, b3, b4, b5⟩ ⟨rfl, hy⟩
            obtain ⟨t, b, li, rs, f1, rfl, g1, g2, g3⟩ := tb_at (dpsm b1 _ _ D3) hy
            have htm := List.mem_of_getElem? f1
            have h12 := few_reads O.ok htm
            have hrl : rs.length = t.rs.length := by rw [dps_len g3, List.length_map]
            refine ⟨b, _, rfl, sqt b3 g1, rfl, _, _, rfl, _, _, rfl, _, _, rfl, rfl, ?_⟩
            refine ⟨_, rfl, Or.inl ⟨rfl, _, Or.inl (Or.inl b4)⟩, _, rfl, _, rfl, la, _, rfl, hLa (same_tr b1 b3) (inS (List.mem_map.mpr ⟨t, htm, rfl⟩)), _, rfl, ?_⟩
            -- the reads
            refine ⟨_, rfl, li, rfl, ⟨rs, sql b3 g2⟩, fun E hE => ?_⟩
            have nDL : mo ≠ E := ne_of_none b4 hE
            have bE : Bq E = none := free_of b3 hE
            refine lc_it (walk_list (K := K) (a := li) (xs := rs)) (fun j H' => ∃ (B2 : Hp) (zs : List V), Same Bq B2 ∧ B2 E = none ∧ B2 mo = none ∧ Same B2 H' ∧ H' mo = some (.lst ys) ∧ H' E = some (.lst zs) ∧ DpAll K B2 zs (((t.rs.take j).map (rnR nn)).map Rd1.d))
              ⟨Bq, [], same_refl, bE, b2, same_tr b3 (snew hE), by rw [upd_ne nDL]; exact b4, upd_same, .nil⟩ (fun j H' _ ⟨B2, zs, c1, _, _, c4, _⟩ => sql c4 (sql c1 g2)) ?_ ?_
            · rintro j z _ Hj hj ⟨B2, zs, c1, c2, c3, c4, c5, c6, c7⟩ ⟨rfl, hz⟩
              obtain ⟨rd, ra, rb, e1, rfl, _, e3, e4⟩ := rd_at (dpsm c1 _ _ g3) hz
              have hhere := inS (O.ok.here t htm rd (List.mem_of_getElem? e1))
              refine ⟨rfl, yes_if ?_⟩
              refine ⟨_, rfl, _, rfl, ra, _, 0, _, rfl, rfl, sqt c4 e3, rfl, la, _, rfl, hLa (same_tr b1 (same_tr c1 c4)) hhere, ?_⟩
              refine ⟨_, rfl, ra, _, 1, _, rfl, rfl, sqt c4 e3, rfl, _, rfl, ra, _, 2, _, rfl, rfl, sqt c4 e3, rfl, (by show 3 ≤ sizeLine; decide), fun v hv => ?_⟩
              have bv := free_of c4 hv
              have nvE : E ≠ v := ne_of_none c6 hv
              have nvL : mo ≠ v := ne_of_none c5 hv
              have s6 : Same (upd B2 v (.tup [.str (rnm nn rd.t), .ref rb, .int rd.f])) (upd Hj v (.tup [.str (rnm nn rd.t), .ref rb, .int rd.f])) := sgrow c4
              have cE : (upd B2 v (.tup [.str (rnm nn rd.t), .ref rb, .int rd.f])) E = none := by rw [upd_ne nvE]; exact c2
              refine ⟨zs, by rw [upd_ne nvE]; exact c6, small1000 (by rw [dps_len c7, List.length_map, List.length_map, List.length_take]; omega), _, zs ++ [.ref v], same_tr c1 (snew bv), cE, by rw [upd_ne nvL]; exact c3, swrite s6 cE, by rw [upd_ne nDL, upd_ne nvL]; exact c5, upd_same, ?_⟩
              rw [List.take_add_one, e1, List.map_append, List.map_append]
              exact dps_snoc (dpsm (snew bv) _ _ c7) (.tup (Or.inl (Or.inl upd_same)) (.cons (.str _) (.cons (.tup (sqt (snew bv) e4) (ints_dps _)) (.cons (.int _) .nil))))
            · rintro H4 ⟨B2, zs, c1, c2, c3, c4, c5, c6, c7⟩
              rw [hrl, List.take_length] at c7
              refine ⟨(by show 3 ≤ sizeLine; decide), fun v hv => ?_⟩
              have nvE : E ≠ v := ne_of_none c6 hv
              have nvL : mo ≠ v := ne_of_none c5 hv
              have c5' : (upd H4 v (.tup [.str (rnm nn t.n), .int t.c, .ref E])) mo = some (.lst ys) := by rw [upd_ne nvL]; exact c5
              have q1 : Same (upd B2 E (.lst zs)) H4 := fun b o e => by
                by_cases hb : b = E
                · rw [hb, upd_same] at e
                  rw [hb, ← e]
                  exact c6
                · rw [upd_ne hb] at e
                  exact c4 _ _ e
              have dv : (upd B2 E (.lst zs)) v = none := free_of q1 hv
              have q2 : Same (upd (upd B2 E (.lst zs)) v (.tup [.str (rnm nn t.n), .int t.c, .ref E])) (upd H4 v (.tup [.str (rnm nn t.n), .int t.c, .ref E])) := sgrow q1
              have sB : Same Bq (upd (upd B2 E (.lst zs)) v (.tup [.str (rnm nn t.n), .int t.c, .ref E])) := same_tr c1 (same_tr (snew c2) (snew dv))
              have dL : (upd (upd B2 E (.lst zs)) v (.tup [.str (rnm nn t.n), .int t.c, .ref E])) mo = none := by rw [upd_ne nvL, upd_ne nDL]; exact c3
              have dE : (upd (upd B2 E (.lst zs)) v (.tup [.str (rnm nn t.n), .int t.c, .ref E])) E = some (.lst zs) := by rw [upd_ne nvE]; exact upd_same
              refine ⟨mo, ys, _, rfl, rfl, c5', small1000 (by rw [dps_len b5, List.length_map, List.length_map, List.length_take]; omega), ?_⟩
              refine ⟨_, _, _, rfl, _, ys ++ [.ref v], same_tr b1 sB, dL, swrite q2 dL, upd_same, ?_⟩
              rw [List.take_add_one, f1, List.map_append, List.map_append]
              exact dps_snoc (dpsm sB _ _ b5) (.tup (Or.inl (Or.inl upd_same)) (.cons (.str _) (.cons (.int _) (.cons (.lst (Or.inl (Or.inl dE)) (dpsm (same_tr (snew c2) (snew dv)) _ _ c7)) .nil))))
          · rintro σ' H22 ⟨y15, y17, y18, rfl, Bq, ys, b1, b2, b3, b4, b5⟩
            rw [rxl, List.take_length] at b5
            have LM : LD K H22 mo ((ts.map (rnT nn)).map Tb.d) := ⟨ys, b4, dpsm b3 _ _ b5⟩
            have L22 := L21.grow (same_tr b1 b3)
            clear b5 b4 b3 b2 b1 L21 hLa c2 c1 s21 sP D3 l3
            obtain ⟨sdx, stt, skv, o1, o2, o3⟩ := id SB20.ob
            have nf : ∀ {y : Str}, decide (y = "_dimensions" ∨ y = "_modulus" ∨ y = "_tables") = false → (flds (1 + k1) (2 + k2) stt).lookup y = none := fun h => no_fld h
            have ORn := R17t.sys O
            have ORs := ORn.srt
            have rnd : (((srt ts).map (rnT nn)).map (·.n)).Nodup := R17.nodup (ts := srt ts) Wnd
            -- due
            refine ⟨_, rfl, _, rfl, _, rfl, fun x2 z2 nx2 z4 z5 => mk_sys L22.tb ORn.sys LM.dp nx2 z4 z5 fun H23 X23 T23 S23 => ?_⟩
            have L23 := L22.ext X23 T23
            -- the two
            refine ⟨_, rfl, x, sdx, _, rfl, L23.rs.s _ _ o1, nf (by decide +kernel), _, rfl, x, g, 1 + k1, 2 + k2, srt ts, nn, rfl, SB20.mono L23.rs.s, O.d1, O.d3, O.m2, Os.ok, by omega, L23.rs.s _ _ GB20, R17.few, R17.keys, rnd, fun t ht => R17.name (Os.ok.names t ht), L23.tb, fun b1 H24 nb1 X24 T24 S24 => ?_⟩
            rw [srt_rnT R17t O.ok.nodup] at S24
            have L24 := L23.ext X24 T24
            refine ⟨_, rfl, x, sdx, _, rfl, L24.rs.s _ _ o1, nf (by decide +kernel), _, rfl, x, g, 1 + k1, 2 + k2, srt ts, nn, rfl, SB20.mono L24.rs.s, O.d1, O.d3, O.m2, Os.ok, by omega, L24.rs.s _ _ GB20, R17.few, R17.keys, rnd, fun t ht => R17.name (Os.ok.names t ht), L24.tb, fun b2 H25 nb2 X25 T25 S25 => ⟨(by show 2 ≤ sizeLine; decide), fun tq htq => ?_⟩⟩
            rw [srt_rnT R17t O.ok.nodup] at S25
            have s26 := snew (o := .tup [.ref b1, .ref b2]) htq
            have L26 := (L24.ext X25 T25).new (o := .tup [.ref b1, .ref b2]) htq
            have U1 := (S24.ext X25).mono s26
            have U2 := S25.mono s26
            have S26 := ((S23.ext X24).ext X25).mono s26
            have tq26 : (upd H25 tq (.tup [.ref b1, .ref b2])) tq = some (.tup [.ref b1, .ref b2]) := upd_same
            generalize upd H25 tq (.tup [.ref b1, .ref b2]) = H26 at L26 U1 U2 S26 tq26
            refine ⟨tq, rfl, ⟨_, Or.inl (Or.inl tq26)⟩, for_it (walk_tup (K := K) (a := tq) (xs := [V.ref b1, .ref b2])) (fun n σ' H' => ∃ y21, σ' = [some (.ref a), some (.ref r), some (.int (0 + (i : Int))), some (.int (1 + k1)), some (.int (2 + k2)), some (.ref rp), some (.ref x), some (.ref wl), some (.ref u), some (.ref so), some (.ref pl), none, some (.ref g), some (.ref pk), some (.ref la), y15, some (.ref mo), y17, y18, none, some (.ref x2), y21, none, none, y24] ∧ Same H26 H')
              ⟨y21, rfl, same_refl⟩ (fun n σ' H' _ ⟨_, _, e⟩ => Or.inl (Or.inl (e _ _ tq26))) ?_ ?_⟩
            · rintro n v σ' _ Hi hn ⟨y21, rfl, si⟩ ⟨rfl, hv⟩
              have hb : ∃ b, v = .ref b ∧ SysAt K C Hi b (1 + k1) (2 + k2) (srt (ts.map (rnT nn))) := by
                match n, hn with
                | 0, _ => cases hv; exact ⟨_, rfl, U1.mono si⟩
                | 1, _ => cases hv; exact ⟨_, rfl, U2.mono si⟩
              obtain ⟨b, rfl, Ub⟩ := hb
              refine ⟨_, rfl, b, _, _, _, rfl, Ub, ORs, fun Ha sa => ?_⟩
              refine ⟨_, rfl, x2, _, _, _, rfl, S26.mono (same_tr si sa), ORs, fun Hb sb => ⟨rfl, _, rfl, ?_⟩⟩
              rw [decide_eq_true rfl]
              refine iteF ?_
              have sab := same_tr sa sb
              refine ⟨_, rfl, _, rfl, eq_sys (Ub.mono sab) (S26.mono (same_tr si sab)) ORs.ok ⟨_, rfl, ?_⟩⟩
              exact iteF ⟨_, rfl, same_tr si sab⟩
            · rintro σ' H27 ⟨y21, rfl, s27⟩
              have L27 := L26.grow s27
              have S27 := S26.mono s27
              clear L26 U1 U2 S26 tq26 s26 s27 L24 S24 S25 L23 S23 LM L22
              obtain ⟨ddx, dtt, dkv, e1, _⟩ := id S27.ob
              -- back
              have g27 := L27.rs.s _ _ GB20
              refine ⟨_, rfl, x2, ddx, _, rfl, e1, no_fld (by decide +kernel), g, .dK (dictS nn), g27, True.intro, fun od => ?_⟩
              have l2 : (upd H27 g (.frz od (.dK (dictS nn)))) g = some (.frz od (.dK (dictS nn))) := upd_same
              have back : ∀ H', Same (upd H27 g (.frz od (.dK (dictS nn)))) H' → Same H27 (upd H' g (.dK (dictS nn))) := fun H' e => unlock g27 e
              generalize hLq : upd H27 g (.frz od (.dK (dictS nn))) = HL at l2 back
              refine ⟨_, rfl, g, od, dictS nn, rfl, l2, fun D hD => ?_⟩
              refine lc_it (walk_items (o := od) (d := g) (kvs := dictS nn)) (fun j H' => ∃ (Bq : Hp) (zs : List V), Same HL Bq ∧ Bq D = none ∧ Same Bq H' ∧ H' D = some (.lst zs) ∧ DpAll K Bq zs ((bk (nn.take j)).map pd))
                ⟨HL, [], same_refl, hD, snew hD, upd_same, .nil⟩ (fun j H' _ ⟨Bq, _, b1, _, b3, _⟩ => b3 _ _ (b1 _ _ l2)) ?_ ?_
              · rintro j y Hj _ hj ⟨Bq, zs, b1, b2, b3, b4, b5⟩ ⟨Tp, q1, q2, rfl, hTp, rfl, f1, f2⟩
                obtain ⟨⟨k, v⟩, hk, rfl⟩ := Option.map_eq_some_iff.mp f1
                obtain ⟨⟨k', v'⟩, hk', rfl⟩ := Option.map_eq_some_iff.mp f2
                rw [hk] at hk'
                cases hk'
                have hk2 := hk
                unfold dictS at hk2
                rw [List.getElem?_map] at hk2
                obtain ⟨p, hp, ep⟩ := Option.map_eq_some_iff.mp hk2
                cases ep
                have sTp : Same Hj (upd Hj Tp (.tup [kV (Sum.inr p.1), .str p.2])) := snew hTp
                have b3' := same_tr b3 sTp
                have b4' : (upd Hj Tp (.tup [kV (Sum.inr p.1), .str p.2])) D = some (.lst zs) := by rw [upd_ne (ne_of_none b4 hTp)]; exact b4
                refine ⟨Tp, _, rfl, Or.inl (Or.inl upd_same), rfl, _, _, rfl, _, _, rfl, rfl, rfl, yes_if ?_⟩
                generalize upd Hj Tp (.tup [kV (Sum.inr p.1), .str p.2]) = Hk at b3' b4' ⊢
                refine ⟨_, rfl, _, rfl, (by show 2 ≤ sizeLine; decide), fun v hv => ?_⟩
                have bv := free_of b3' hv
                have nDv : D ≠ v := ne_of_none b4' hv
                have cD : (upd Bq v (.tup [.str p.2, .str p.1])) D = none := by rw [upd_ne nDv]; exact b2
                have s6 : Same (upd Bq v (.tup [.str p.2, .str p.1])) (upd Hk v (.tup [.str p.2, .str p.1])) := sgrow b3'
                have few17 := R17.few
                refine ⟨zs, by rw [upd_ne nDv]; exact b4', small1000 (by rw [dps_len b5]; unfold bk; rw [List.length_map, List.length_map, List.length_take]; omega), _, zs ++ [.ref v], same_tr b1 (snew bv), cD, swrite s6 cD, upd_same, ?_⟩
                rw [List.take_add_one, hp]
                unfold bk
                rw [List.map_append, List.map_append]
                exact dps_snoc (dpsm (snew bv) _ _ b5) (.tup (Or.inl (Or.inl upd_same)) (.cons (.str _) (.cons (.str _) .nil)))
              · rintro H28 ⟨Bq, zs, b1, b2, b3, b4, b5⟩
                have enn : nn.take (dictS nn).length = nn := by unfold dictS; rw [List.length_map, List.take_length]
                rw [enn] at b5
                have nDg : D ≠ g := fun z => by rw [z, l2] at hD; cases hD
                have sb := back H28 (same_tr b1 b3)
                refine ⟨b3 _ _ (b1 _ _ l2), ?_⟩
                have D29 : (upd H28 g (.dK (dictS nn))) D = some (.lst zs) := by rw [upd_ne nDg]; exact b4
                obtain ⟨qs, rfl, hqs⟩ := pairs_at (dpst (st_unlock b3 (b1 _ _ l2) rfl) _ _ (noLs_map noL_pd _) b5)
                have L29 := L27.grow sb
                have S29 := S27.mono sb
                refine ⟨D, qs, dictS (bk nn), rfl, Or.inl (Or.inl D29), hqs, fun g2 hg2 => ?_⟩
                have Rb := R17t.back O.ok.names
                rw [show mergeK [] (dictS (bk nn)) = dictS (bk nn) from merge_new (bk nn) [] (by simpa using Rb.kd)]
                have s30 := snew (o := .dK (dictS (bk nn))) hg2
                have L30 := L29.new (o := .dK (dictS (bk nn))) hg2
                have S30 := S29.mono s30
                have g2at : (upd (upd H28 g (.dK (dictS nn))) g2 (.dK (dictS (bk nn)))) g2 = some (.dK (dictS (bk nn))) := upd_same
                generalize upd (upd H28 g (.dK (dictS nn))) g2 (.dK (dictS (bk nn))) = H30 at L30 S30 g2at
                have eb : srt ((srt (ts.map (rnT nn))).map (rnT (bk nn))) = srt ts := by rw [srt_rnT Rb ORn.ok.nodup, R17t.undoT O.ok]
                have lsr : (srt (ts.map (rnT nn))).length = ts.length := by rw [show (srt (ts.map (rnT nn))).length = (ts.map (rnT nn)).length from List.length_mergeSort _, List.length_map]
                refine ⟨x2, g2, 1 + k1, 2 + k2, srt (ts.map (rnT nn)), bk nn, rfl, S30, O.d1, O.d3, O.m2, ORs.ok, by omega, g2at, Rb.few, Rb.srt.keys, Rb.srt.nodup ORs.ok.nodup, fun t ht => Rb.name (ORs.ok.names t ht), L30.tb, fun b3 H31 nb3 X31 T31 S31 => ?_⟩
                rw [eb] at S31
                have L31 := L30.ext X31 T31
                refine ⟨_, rfl, eq_sys S31 (SB20.mono L31.rs.s) Os.ok ⟨_, rfl, ?_⟩⟩
                refine iteF ?_
                have S31d := S30.ext X31
                -- first
                obtain ⟨t0, ht0⟩ : ∃ t0, (srt ts)[0]? = some t0 := ⟨_, List.getElem?_eq_getElem (by omega)⟩
                have t0m := List.mem_of_getElem? ht0
                have w0m : t0.n ∈ (srt ts).map (·.n) := List.mem_map.mpr ⟨t0, t0m, rfl⟩
                have w0at : atI (((srt ts).map (·.n)).map V.str) 0 = some (.str t0.n) := atI_nat (j := 0) (by rw [List.getElem?_map, List.getElem?_map, ht0]; rfl)
                have W31 := L31.rs.s _ _ WB20
                have Rf : Ren ((srt ts).map (·.n)) [(t0.n, "other")] := ren_one w0m (fun hm => FS.2.2.2.2 (hwn _ hm)) FS.2.2.2.1
                refine ⟨_, rfl, x, sdx, _, rfl, L31.rs.s _ _ o1, nf (by decide +kernel), fun g3 hg3 => ?_⟩
                have s32 := snew (o := .dK []) hg3
                refine ⟨_, rfl, wl, _, 0, _, rfl, rfl, Or.inl (Or.inl (s32 _ _ W31)), w0at, upd_same, [(Sum.inr t0.n, .str "other")], rfl, (by show 1 ≤ 15; decide), ?_⟩
                rw [show upd (upd H31 g3 (.dK [])) g3 (.dK (mergeK [] [((Sum.inr t0.n : Key), V.str "other")])) = upd H31 g3 (.dK (dictS [(t0.n, "other")])) from by
                  funext b
                  by_cases hb : b = g3
                  · rw [hb, upd_same, upd_same]
                    rfl
                  · rw [upd_ne hb, upd_ne hb, upd_ne hb]]
                have s33 := snew (o := .dK (dictS [(t0.n, "other")])) hg3
                have L33 := L31.new (o := .dK (dictS [(t0.n, "other")])) hg3
                have S33d := S31d.mono s33
                have g3at : (upd H31 g3 (.dK (dictS [(t0.n, "other")]))) g3 = some (.dK (dictS [(t0.n, "other")])) := upd_same
                generalize upd H31 g3 (.dK (dictS [(t0.n, "other")])) = H33 at L33 S33d g3at
                refine ⟨x, g3, 1 + k1, 2 + k2, srt ts, [(t0.n, "other")], rfl, SB20.mono L33.rs.s, O.d1, O.d3, O.m2, Os.ok, by omega, g3at, Rf.few, Rf.keys, Rf.nodup (ts := srt ts) Wnd, fun t ht => Rf.name (Os.ok.names t ht), L33.tb, fun b4 H34 nb4 X34 T34 S34 => ?_⟩
                have L34 := L33.ext X34 T34
                have S34d := S33d.ext X34
                -- nothing renamed
                refine ⟨_, rfl, x, sdx, _, rfl, L34.rs.s _ _ o1, nf (by decide +kernel), fun g4 hg4 => ?_⟩
                have s35 := snew (o := .dK []) hg4
                have L35 := L34.new (o := .dK []) hg4
                have S35d := S34d.mono s35
                have S35 := S34.mono s35
                have g4at : (upd H34 g4 (.dK [])) g4 = some (.dK (dictS [])) := upd_same
                generalize upd H34 g4 (.dK []) = H35 at L35 S35d S35 g4at
                have R0 := ren_nil ((srt ts).map (·.n))
                refine ⟨x, g4, 1 + k1, 2 + k2, srt ts, [], rfl, SB20.mono L35.rs.s, O.d1, O.d3, O.m2, Os.ok, by omega, g4at, R0.few, R0.keys, R0.nodup (ts := srt ts) Wnd, fun t ht => R0.name (Os.ok.names t ht), L35.tb, fun b5 H36 nb5 X36 T36 S36 => ?_⟩
                rw [rnT_nil, srt_srt O.ok.nodup] at S36
                have L36 := L35.ext X36 T36
                have S36d := S35d.ext X36
                have S36f := S35.ext X36
                refine ⟨_, rfl, eq_sys S36 (SB20.mono L36.rs.s) Os.ok ⟨_, rfl, ?_⟩⟩
                refine iteF ?_
                -- the constants
                have Of : Sys1 (1 + k1) (2 + k2) ((srt ts).map (rnT [(t0.n, "other")])) := Rf.sys (ts := srt ts) Os
                have fnd := Of.srt.ok.nodup
                have t0f : rnT [(t0.n, "other")] t0 ∈ srt ((srt ts).map (rnT [(t0.n, "other")])) := (srt_perm _).mem_iff.mpr (List.mem_map.mpr ⟨t0, t0m, rfl⟩)
                have n0f : (rnT [(t0.n, "other")] t0).n = "other" := by
                  show rnm [(t0.n, "other")] t0.n = "other"
                  exact rnm_in (p := (t0.n, "other")) (by simp) List.mem_cons_self
                have fndf := find_nodup' fnd t0f
                rw [n0f] at fndf
                obtain ⟨fdx, ftt, fkv, fe, _⟩ := id S36f.ob
                refine ⟨_, rfl, b4, fdx, _, rfl, fe, no_fld (by decide +kernel), b4, 1 + k1, 2 + k2, srt ((srt ts).map (rnT [(t0.n, "other")])), "other", rnT [(t0.n, "other")] t0, rfl, S36f, List.mem_map.mpr ⟨_, t0f, n0f⟩, fndf, fun H37 s37 => ?_⟩
                have L37 := L36.grow s37
                have W37 := L37.rs.s _ _ WB20
                refine ⟨_, rfl, x, sdx, _, rfl, L37.rs.s _ _ o1, nf (by decide +kernel), _, rfl, wl, _, 0, _, rfl, rfl, Or.inl (Or.inl W37), w0at, x, 1 + k1, 2 + k2, srt ts, t0.n, t0, rfl, SB20.mono L37.rs.s, w0m, find_nodup' Wnd t0m, fun H38 s38 => ⟨rfl, _, rfl, ?_⟩⟩
                rw [show (rnT [(t0.n, "other")] t0).c = t0.c from rfl, decide_eq_true rfl]
                refine iteF ?_
                have L38 := L37.grow s38
                have S38d := (S36d.mono s37).mono s38
                -- once more
                refine ⟨_, rfl, x, sdx, _, rfl, L38.rs.s _ _ o1, nf (by decide +kernel), _, rfl, x, g, 1 + k1, 2 + k2, srt ts, nn, rfl, SB20.mono L38.rs.s, O.d1, O.d3, O.m2, Os.ok, by omega, L38.rs.s _ _ GB20, R17.few, R17.keys, rnd, fun t ht => R17.name (Os.ok.names t ht), L38.tb, fun b6 H39 nb6 X39 T39 S39 => ?_⟩
                rw [srt_rnT R17t O.ok.nodup] at S39
                have L39 := L38.ext X39 T39
                refine ⟨_, rfl, eq_sys S39 (S38d.ext X39) ORs.ok ⟨_, rfl, ?_⟩⟩
                refine iteF ?_
                -- exchanged
                refine ⟨_, rfl, _, rfl, _, rfl, r, x, rp, 3000 * i + 1050, B20, 1 + k1, 2 + k2, ts, rfl, L39, SB20, RB20, O, by omega, fun H41 L41 => ⟨_, rfl, ?_⟩⟩
                refine iteF ?_
                -- kept
                refine ⟨_, rfl, x, 1 + k1, 2 + k2, srt ts, rfl, SB20.mono L41.rs.s, Os, fun H42 s42 => ?_⟩
                have L42 := L41.grow s42
                refine ⟨_, rfl, g, nn, rfl, L42.rs.s _ _ GB20, fun p hp => ⟨nm_ok (Rnm p hp).1, nm_ok (Rnm p hp).2⟩, by have := R17.few; omega, (by show 2 ≤ sizeLine; decide), fun pf hpf => ?_⟩
                have s43 := snew (o := .lst [.str (sysS (1 + k1) (2 + k2) (srt ts)), .str (nnD nn).shown]) hpf
                have hsh := lay_strs (xs := [sysS (1 + k1) (2 + k2) (srt ts), (nnD nn).shown]) (fun y hy => by
                  simp only [List.mem_cons, List.not_mem_nil, or_false] at hy
                  rcases hy with rfl | rfl
                  · exact sgn_sys Os.ok
                  · exact sgn_nn Rnm)
                refine ⟨_, rfl, .list ([sysS (1 + k1) (2 + k2) (srt ts), (nnD nn).shown].map .str), .list ([sysS (1 + k1) (2 + k2) (srt ts), (nnD nn).shown].map .str), .lst (Or.inl (Or.inl upd_same)) (.cons (.str _) (.cons (.str _) .nil)), .lst (Or.inl (Or.inl (s43 _ _ (L42.rs.s _ _ KB)))) (.cons (.str _) (.cons (.str _) .nil)), hsh, hsh, _, rfl, ?_⟩
                rw [SeqAt.eqv_refl _ (SeqAt.canLay_of_shaped hsh)]
                refine iteF ?_
                exact ⟨_, _, _, _, _, _, _, _, _, _, _, _, _, _, _, _, _, _, _, rfl, (L42.new hpf).rs.ok.mono (by omega), (L42.new hpf).tb⟩
      · refine ⟨_, rfl, _, rfl, .list (S.map .str), .list ((fs.take ts.length).map .str), .lst (Or.inl (Or.inl (L15'.rs.s _ _ SoB))) (strs_dps _), .lst (Or.inl (Or.inl (L15'.rs.s _ _ UB15))) (strs_dps _), strs_shaped Snm, strs_shaped Fnm, _, rfl, ?_⟩
        cases hc : PyData.eqv (.list (S.map .str)) (.list ((fs.take ts.length).map .str)) with
        | false =>
          refine iteF ?_
          have hSp : ((srt ts).map (·.n)).Perm S := by
            rcases hS with h | h
            · exact h
            · rw [h, SeqAt.eqv_refl _ (SeqAt.canLay_of_shaped (strs_shaped Fnm))] at hc
              cases hc
          exact ⟨zl, _, B15, rfl, L15'.mono (by omega), SB15, RB15, WB15, PB, ren_turn hSp Wnd Wnm (by rw [Wl]; omega)⟩
        | true =>
          refine iteT ?_
          have eS := eqv_strs _ _ hc
          refine ⟨_, rfl, zl, rfl, ⟨px, Or.inl (Or.inl (L15'.rs.s _ _ pxat))⟩, fun D hD => ?_⟩
          have rD := L15'.rs.ne hD
          have bD : B15 D = none := free_of L15'.rs.s hD
          refine lc_it (walk_list (K := K) (a := zl) (xs := px)) (fun n H' => ∃ (sel : List (Str × Str)) (ys : List V), sel.Sublist ((((srt ts).map (·.n)).zip S).take n) ∧ H' D = some (.lst ys) ∧ DpAll K B15 ys (sel.map pd) ∧ LS TT r (3000 * i + 1017 + n) B15 H')
            ⟨[], [], by rw [List.take_zero]; exact List.Sublist.slnil, upd_same, .nil, (L15'.new hD).mono (by omega)⟩ (fun n H' _ ⟨_, _, _, _, _, La⟩ => Or.inl (Or.inl (La.rs.s _ _ pxat))) ?_ ?_
          · rintro n y _ Ha hn ⟨sel, ys, e2, e3, e4, La⟩ ⟨rfl, hy⟩
            obtain ⟨dd, f1, f2⟩ := dps_get pxd hy
            rw [List.getElem?_map] at f1
            obtain ⟨z, hz, rfl⟩ := Option.map_eq_some_iff.mp f1
            have sl6 : sel.length ≤ n := by
              have := e2.length_le
              rw [List.length_take] at this
              omega
            have etk : ((((srt ts).map (·.n)).zip S).take (n + 1)) = ((((srt ts).map (·.n)).zip S).take n) ++ [z] := by rw [List.take_add_one, hz]; rfl
            refine ⟨rfl, ?_⟩
            refine ⟨_, rfl, r, 3, _, rfl, La.rs.ok, by omega, by decide, by decide, fun k Hb k0 kk Db => ⟨k, 0, rfl, rfl, _, rfl, ?_⟩⟩
            have Lb := La.dr Db
            have eb : Hb D = some (.lst ys) := by rw [Db.ne _ rD.symm]; exact e3
            refine ite2 (fun _ => ?_) (fun _ => ?_)
            · refine ⟨_, rfl, ys, eb, small1000 (by rw [dps_len e4, List.length_map]; omega), sel ++ [z], ys ++ [y], ?_, upd_same, ?_, Lb.put bD rD eb⟩
              · rw [etk]
                exact e2.append (List.Sublist.refl _)
              · rw [List.map_append]
                exact dps_snoc e4 f2
            · exact ⟨sel, ys, by rw [etk]; exact e2.trans (List.sublist_append_left _ _), eb, e4, Lb⟩
          · rintro H16 ⟨sel, ys, e2, e3, e4, L16⟩
            have DB : LD K (bs H16 r) D (sel.map pd) := ⟨ys, bs_of e3 rD.symm (fun ps z => by cases z), dpsm L16.up _ _ e4⟩
            refine ⟨D, sel, bs H16 r, rfl, L16.re.mono (by omega), SB15.mono L16.up, RB15.grow L16.up, L16.up _ _ WB15, DB, ?_⟩
            exact ren_new (S := S) zip_l (e2.trans (List.take_sublist _ _)) Wnd (by rw [eS]; exact Fnd) Snm (by rw [eS]; exact Fap) (by rw [Wl]; omega)
    · rintro σ H2 ⟨y2, y3, y4, y5, y6, y7, y8, y9, y10, y12, y13, y14, y15, y16, y17, y18, y20, y21, y24, rfl, rok2, hT2⟩
      exact q _
end
end Fr

namespace Fr
open PySem PySem.Spec PyProof.Rows L2
section
variable {P : Program} {w : World} {K : PySem.W.Frag} {mg mb : Str → Option Value} {a : Addr} {cs : List (Addr × Addr)} {s : Shared} {vs : List Value} {ns : List Int}
/-- what is tracked when the law is called: the tables, and the script unless it is written down -/
structure Begin (K : PySem.W.Frag) (cs : List (Addr × Addr)) (a : Addr) (so : Obj) (ns : List Int) (H : Hp) : Prop where
  tab : ∀ p ∈ cs, H p.2 = some (.tbl #[])
  scr : SqL K H a (ns.map V.int)
  only : ∀ b u, H b = some u → (u = .tbl #[] ∧ ∃ p ∈ cs, p.2 = b) ∨ (b = a ∧ u = .frz so (.lst (ns.map V.int)) ∧ K.lookup a = none)
theorem begin_ex (inK : K.In s.heap) (ha : s.heap.get? a = some { cls := .type "list", data := .seq vs.toArray }) (hi : IntsAre vs ns) (hl : ns.length ≤ sizeLine) (hT : ∀ p ∈ cs, s.heap.get? p.2 = some { cls := .none, data := .fields #[] }) :
    ∃ H, Begin K cs a { cls := .type "list", data := .seq vs.toArray } ns H := by
  have na : ¬ ∃ p ∈ cs, p.2 = a := by
    rintro ⟨p, hp, e⟩
    have z := hT p hp
    rw [e, ha] at z
    have z2 : Data.seq vs.toArray _ = Data.fields #[] := congrArg Obj.data (Option.some.inj z)
    cases z2
  haveI : DecidablePred fun b => ∃ p ∈ cs, p.2 = b := fun b => Classical.propDecidable _
  refine ⟨fun b => if ∃ p ∈ cs, p.2 = b then some (.tbl #[]) else if b = a then (match K.lookup a with | none => some (.frz { cls := .type "list", data := .seq vs.toArray } (.lst (ns.map V.int))) | some _ => none) else none, ⟨fun p hp => if_pos ⟨p, hp, rfl⟩, ?_, ?_⟩⟩
  · cases hk : K.lookup a with
    | none =>
      refine .inl (.inr ⟨{ cls := .type "list", data := .seq vs.toArray }, ?_⟩)
      exact (if_neg na).trans (if_pos rfl)
    | some o =>
      have e := inK a o hk
      rw [ha] at e
      cases e
      exact .inr ⟨_, vs.toArray, _, hk, rfl, rfl, rfl, by rw [List.size_toArray, hi.length]; exact hl, by simpa using vals_ints hi⟩
  · intro b u h
    by_cases h1 : ∃ p ∈ cs, p.2 = b
    · rw [if_pos h1] at h
      cases h
      exact .inl ⟨rfl, h1⟩
    · rw [if_neg h1] at h
      by_cases h2 : b = a
      · rw [if_pos h2] at h
        cases hk : K.lookup a with
        | none =>
          rw [hk] at h
          cases h
          exact .inr ⟨h2, rfl, rfl⟩
        | some o =>
          rw [hk] at h
          cases h
      · rw [if_neg h2] at h
        cases h
theorem law_callG {k : Nat} {fa : Addr} {fd : FuncData} {x : Str} {sp : Sp} (inK : K.In s.heap) (hns : s.heap.Ns mainGlobals mg) (hb : s.heap.Ns builtinsNs mb) (hbb : ∀ x : Str, x ≠ "__name__" → mb x = bootBuiltins x) (hlim : s.heap.NoLimit) (hg : s.gens = #[])
    (hT : ∀ p ∈ cs, s.heap.get? p.2 = some { cls := .none, data := .fields #[] }) (nT : ∀ p ∈ cs, K.lookup p.2 = none) (hC : ∀ p ∈ cs, PySem.W.CodeHd s.heap p.1 p.2)
    (hbm : ∃ (bm : Addr) (ob : Obj), mg "__builtins__" = some (.ref bm) ∧ bm ≠ builtinsNs ∧ s.heap.get? bm = some ob ∧ ob.cls = .type "module" ∧ ob.dict = some builtinsNs ∧ ob.data = .plain)
    (ha : s.heap.get? a = some { cls := .type "list", data := .seq vs.toArray }) (hi : IntsAre vs ns) (hl : ns.length ≤ sizeLine) (hr : Room k callerA)
    (F : ∀ base : Heap, K.In base → base.Ns mainGlobals mg → (∀ p ∈ cs, LamX.TabB base mg p.1 p.2) → FnG P w K mg base k fa fd [x] sp) (bind : ∀ (s : Shared) (u : Value), BindsTo s fd ⟨[u], []⟩ [(x, u)])
    (hsp : ∀ H : Hp, (∀ p ∈ cs, H p.2 = some (.tbl #[])) → SqL K H a (ns.map V.int) → sp [.ref a] H (fun v _ => v = .bl true) fun _ _ _ => False) :
    codeAny (model P w) callerA (.call (.ref fa) ⟨[.ref a], []⟩) (fun r s' => r = .ok (.ret (.bool true)) ∧ OldK s.heap s'.heap ∧ s'.os = s.os ∧ AllBare s'.gens) s := by
  obtain ⟨H, B⟩ := begin_ex inK ha hi hl hT
  have hok : HOk P w H s.heap := by
    intro b u h
    rcases B.only b u h with ⟨rfl, p, hp, rfl⟩ | ⟨rfl, rfl, _⟩
    · exact hT p hp
    · exact ⟨ha, by rw [List.length_map]; exact hl, vs, _, vals_ints hi, ha⟩
  -- what is no list and no empty table is not tracked
  have out : ∀ {b : Addr} {o : Obj}, s.heap.get? b = some o → (∀ ys n, o.data ≠ .seq ys n) → o.data ≠ .fields #[] → H b = none := by
    intro b o h1 h2 h3
    cases hb : H b with
    | none => rfl
    | some u =>
      rcases B.only b u hb with ⟨_, p, hp, rfl⟩ | ⟨rfl, _, _⟩
      · rw [hT p hp] at h1
        cases h1
        exact (h3 rfl).elim
      · rw [ha] at h1
        cases h1
        exact (h2 _ _ rfl).elim
  have low : ∀ {b : Addr} {o : Obj}, s.heap.get? b = some o → (∀ ys n, o.data ≠ .seq ys n) → o.data ≠ .fields #[] → (hidT s.heap H).get? b = some o := fun h1 h2 h3 => hidT_get h1 (out h1 h2 h3)
  have nsB : ∀ {b : Addr} {m : Str → Option Value}, s.heap.Ns b m → (hidT s.heap H).Ns b m := by
    rintro b m ⟨o, es, ep, h1, h2, h3⟩
    exact ⟨o, es, ep, low h1 (fun ys n z => by rw [h2] at z; cases z) (fun z => by rw [h2] at z; cases z), h2, h3⟩
  have inB : K.In (hidT s.heap H) := by
    intro b o h
    refine hidT_get (inK b o h) ?_
    cases hb : H b with
    | none => rfl
    | some u =>
      rcases B.only b u hb with ⟨_, p, hp, rfl⟩ | ⟨rfl, _, z⟩
      · rw [nT p hp] at h
        cases h
      · rw [z] at h
        cases h
  have md : L2.Mod K mg (hidT s.heap H) := by
    obtain ⟨mc, l1, l2⟩ := hlim
    exact ⟨inB, nsB hns, ⟨mb, nsB hb, hbb⟩, ⟨mc, nsB l1, l2⟩⟩
  have tb : ∀ p ∈ cs, LamX.TabB (hidT s.heap H) mg p.1 p.2 := by
    intro p hp
    have hp0 := hT p hp
    constructor
    · obtain ⟨o, us, f1, f2, f3, f4, f5, f6, f7, g, r1, r2, r3, r4, r5, r6, r7, r8, ne⟩ := hC p hp
      refine ⟨o, us, f1, f2, f3, f4, f5, f6, f7, low g (fun ys n z => by rw [r2] at z; cases z) (fun z => ?_), r1, r2, r3, r4, r5, r6, r7, r8, ne⟩
      rw [r2] at z
      cases z
      simp at r3
    · obtain ⟨bm, ob, b1, b2, b3, b4, b5, b6⟩ := hbm
      refine ⟨bm, ob, b1, b2, fun z => ?_, fun z => ?_, low b3 (fun ys n z => by rw [b6] at z; cases z) (fun z => by rw [b6] at z; cases z), b4, b5, b6⟩
      · obtain ⟨o, es, ep, e1, e2, _⟩ := hns
        rw [z, e1] at b3
        cases b3
        rw [e2] at b6
        cases b6
      · rw [z, hp0] at b3
        cases b3
        cases b6
    · intro z
      obtain ⟨o, es, ep, e1, e2, _⟩ := hns
      rw [z, hp0] at e1
      cases e1
      cases e2
  have env : Env0 P w K mg (hidT s.heap H) callerA [] s H :=
    { frames := rfl, mod := md, bs := fun _ _ z => of_hidT z, bsz := Nat.le_of_eq (hidT_size _ _), funs := trivial, frf := fun b z => absurd (show b ∈ ([] : List Addr) from z) (List.not_mem_nil), hok := hok, bare := .of_eq hg }
  refine codeAny_mono ((F _ inB (nsB hns) tb).go callerA [] s H ⟨[.ref a], []⟩ [.ref a] [.ref a] _ _ ⟨hr, rfl⟩ env (bind s (.ref a)) (.cons rfl .nil) (hsp H B.tab B.scr)) ?_
  intro rs s2 z
  match rs, z with
  | .error e, z => exact (show False from z).elim
  | .ok .next, z => exact z.elim
  | .ok .brk, z => exact z.elim
  | .ok .cont, z => exact z.elim
  | .ok (.ret u), z =>
    obtain ⟨v, H2, os, bare, un, hok2, ru, rfl⟩ := z
    obtain rfl : u = Value.bool true := ru
    have grow : ∀ p ∈ cs, ∃ more : Array Value, s2.heap.get? p.2 = some { cls := .none, data := .fields more } := fun p hp => by
      obtain ⟨more, e⟩ := un.tbls p.2 #[] (B.tab p hp)
      exact ⟨_, hok2 _ _ e⟩
    have keep : ∀ b o, (¬ ∃ p ∈ cs, p.2 = b) → s.heap.get? b = some o → s2.heap.get? b = some o := by
      intro b o nb h
      cases hb : H b with
      | none => exact un.keep b o h hb (fun z => absurd (show b ∈ ([] : List Addr) from z) List.not_mem_nil) List.not_mem_nil
      | some u =>
        rcases B.only b u hb with ⟨_, z⟩ | ⟨rfl, rfl, _⟩
        · exact (nb z).elim
        · have h1 := (hok _ _ hb).1
          rw [h] at h1
          cases h1
          exact (hok2 _ _ (un.frzs _ _ _ hb)).1
    refine ⟨rfl, ⟨fun b o h => ?_, fun b o h => ?_⟩, os, bare⟩
    · by_cases hb : ∃ p ∈ cs, p.2 = b
      · obtain ⟨p, hp, rfl⟩ := hb
        obtain ⟨more, e⟩ := grow p hp
        have h0 := hT p hp
        rw [h] at h0
        cases h0
        refine .inr (.inl ⟨((hC p hp).tab (hT p hp)).isCodeTable, rfl, #[], more, rfl, ?_⟩)
        rw [Array.empty_append]
        exact e
      · exact .inl (keep b o hb h)
    · by_cases hb : ∃ p ∈ cs, p.2 = b
      · obtain ⟨p, hp, rfl⟩ := hb
        obtain ⟨more, e⟩ := grow p hp
        exact ⟨_, e⟩
      · exact ⟨o, keep b o hb h⟩
/-- what is to be known of a law's def, at the heap behind its program's top -/
def LawAtG (l : PySem.W.OpenLaw) (w : World) (K : PySem.W.Frag) (k n : Nat) (x : Str) (mg : Str → Option Value) (fa : Addr) (h : Heap) : Prop :=
  ∃ (fd : FuncData) (cs : List (Addr × Addr)) (sp : Sp), ((∀ p ∈ cs, h.get? p.2 = some { cls := .none, data := .fields #[] }) ∧ (∀ p ∈ cs, K.lookup p.2 = none) ∧ ∀ p ∈ cs, PySem.W.CodeHd h p.1 p.2) ∧ (∀ (s : Shared) (u : Value), BindsTo s fd ⟨[u], []⟩ [(x, u)]) ∧
    (∀ (H : Hp) (a : Addr) (ns : List Int), ns.length ≤ n → (∀ p ∈ cs, H p.2 = some (.tbl #[])) → SqL K H a (ns.map V.int) → sp [.ref a] H (fun v _ => v = .bl true) fun _ _ _ => False) ∧
    ∀ base : Heap, K.In base → base.Ns mainGlobals mg → (∀ p ∈ cs, LamX.TabB base mg p.1 p.2) → FnG l.prog w K mg base k fa fd [x] sp
theorem walk_ofG {l : PySem.W.OpenLaw} {n k : Nat} {q : Program} {loose : List Str} {XP : (Str → Option Value) → Heap → Prop} {YP : World → Heap → Prop} {d : DefRec} {K : Params → PySem.W.Frag} {x : Str}
    (hn : l.most = some n) (hz : n ≤ sizeLine) (hdf : d.params.defaults = []) (hr : Room k callerA) (hY : ∀ (w : World) (h : Heap), YP w h → (K w.params).In h)
    (F : ∀ (w : World) (mg : Str → Option Value) (fa : Addr) (h : Heap), YP w h → (K w.params).In h → h.Ns mainGlobals mg → mg d.name = some (.ref fa) → LawAtG l w (K w.params) k n x mg fa h) : PySem.W.WalkO q loose XP YP l.row.toRowW d [] (fun f vs => PySem.call f vs) := by
  refine Att.attach_callB hn hdf ?_
  intro w _ s mg mb fa _ _ _ _ a vs ns G Y _ _ _ hmg hobj hints hlen _ hg
  have inK := hY w _ Y
  obtain ⟨fd, cs, sp, ⟨h1, h2, h3⟩, hb, hsp, hF⟩ := F w mg fa _ Y inK G.T.g hmg
  exact law_callG inK G.T.g G.T.b G.T.builtins G.T.nolimit hg h1 h2 h3 G.T.bmain hobj hints (Nat.le_trans hlen hz) hr hF hb fun H t => hsp H a ns hlen t
end
end Fr

namespace Fr
open PySem PySem.Spec PyProof.Rows L2
theorem kb1 {K : PySem.W.Frag} {fd : FuncData} {a b : Str} (h : ∀ (s : Shared) (u v : Value), BindsTo s fd ⟨[u], [(b, v)]⟩ [(a, u), (b, v)]) : L2.KBinds K fd [a, b] [b] kw1 kw1 :=
  ⟨fun s us ws _ hlen => (match us, ws, hlen with
    | [u], [v], _ => h s u v
    | [], _, h => absurd h (by simp [kw1])
    | [_], [], h => absurd h (by simp [kw1])
    | [_], _ :: _ :: _, h => absurd h (by simp [kw1])
    | _ :: _ :: _, _, h => absurd h (by simp [kw1])), fun hv hz => by
    cases hv with
    | nil => exact .nil
    | cons h1 h2 =>
      cases h2 with
      | nil =>
        cases hz with
        | nil => exact .nil
        | cons h3 h4 =>
          cases h4 with
          | nil => exact .cons h1 (.cons h3 .nil)
          | cons _ _ => exact .nil
      | cons _ _ => exact .nil⟩
theorem all_mk {l : PySem.W.OpenLaw} {w : World} {K : PySem.W.Frag} {h : Heap} {mg : Str → Option Value} {fa : Addr} (X : K.In h) (G : h.Ns mainGlobals mg) (hfa : mg "law" = some (.ref fa))
    {C c0 Pt T0 fI f1 f2 f3 f4 f5 f6 f7 f8 f9 f10 f11 f12 f13 f14 pPdimensions gPdimensions pPmodulus gPmodulus pPnames gPnames fMreads fMconstant fMall_reads fMwith_tables fMcheck_new_names fMexchanged fMrenamed fMlen fMeq : Addr} {od1 an1 od2 an2 od3 an3 od4 an4 od5 an5 od6 an6 od7 an7 od8 an8 od9 an9 od10 an10 od11 an11 od12 an12 od13 an13 od14 an14 odPdimensions anPdimensions odPmodulus anPmodulus odPnames anPnames odMreads anMreads odMconstant anMconstant odMall_reads anMall_reads odMwith_tables anMwith_tables odMcheck_new_names anMcheck_new_names odMexchanged anMexchanged odMrenamed anMrenamed odMlen anMlen odMeq anMeq odI anI odT : Option Addr} {sl1 sl2 sl3 sl4 sl5 sl6 sl7 sl8 sl9 sl10 sl11 sl12 sl13 sl14 slPdimensions slPmodulus slPnames slMreads slMconstant slMall_reads slMwith_tables slMcheck_new_names slMexchanged slMrenamed slMlen slMeq slI slT : Array (Option Value)} {oc1 kV1 dc1 pm1 ct1 cd1 oc2 kV2 dc2 pm2 ct2 cd2 oc3 kV3 dc3 pm3 ct3 cd3 oc4 kV4 dc4 pm4 ct4 cd4 oc5 kV5 dc5 pm5 ct5 cd5 oc6 kV6 dc6 pm6 ct6 cd6 oc7 kV7 dc7 pm7 ct7 cd7 oc8 kV8 dc8 pm8 ct8 cd8 oc9 kV9 dc9 pm9 ct9 cd9 oc10 kV10 dc10 pm10 ct10 cd10 oc11 kV11 dc11 pm11 ct11 cd11 oc12 kV12 dc12 pm12 ct12 cd12 oc13 kV13 dc13 pm13 ct13 cd13 oc14 kV14 dc14 pm14 ct14 cd14 ocPdimensions kVPdimensions dcPdimensions pmPdimensions ctPdimensions cdPdimensions ocPmodulus kVPmodulus dcPmodulus pmPmodulus ctPmodulus cdPmodulus ocPnames kVPnames dcPnames pmPnames ctPnames cdPnames ocMreads kVMreads dcMreads pmMreads ctMreads cdMreads ocMconstant kVMconstant dcMconstant pmMconstant ctMconstant cdMconstant ocMall_reads kVMall_reads dcMall_reads pmMall_reads ctMall_reads cdMall_reads ocMwith_tables kVMwith_tables dcMwith_tables pmMwith_tables ctMwith_tables cdMwith_tables ocMcheck_new_names kVMcheck_new_names dcMcheck_new_names pmMcheck_new_names ctMcheck_new_names cdMcheck_new_names ocMexchanged kVMexchanged dcMexchanged pmMexchanged ctMexchanged cdMexchanged ocMrenamed kVMrenamed dcMrenamed pmMrenamed ctMrenamed cdMrenamed ocMlen kVMlen dcMlen pmMlen ctMlen cdMlen ocMeq kVMeq dcMeq pmMeq ctMeq cdMeq ocI kVI dcI pmI ctI ocT : Value} {restPdimensions restPmodulus restPnames : List Value} {tT t_MOST_DIMENSIONS t_MOST_TABLES t_MOST_READS t_MOST_LETTERS : Tok} {nT : Nat}
    (a1 : PySem.W.nsIn K mainGlobals "is_name" = some (some (.ref f1)))
    (l1 : K.lookup f1 = some ⟨oc1, od1, .func (PySem.W.fnOf "is_name" "is_name" (defArgs s_is_name) (defBody s_is_name) (defScope s_is_name) .none kV1 dc1 pm1 an1 cd1 ct1), sl1⟩)
    (e1 : PySem.W.codeIn K cd1 "is_name" = true)
    (k1 : PySem.W.keepIn K (.ref f1) = true)
    (a2 : PySem.W.nsIn K mainGlobals "is_read" = some (some (.ref f2)))
    (l2 : K.lookup f2 = some ⟨oc2, od2, .func (PySem.W.fnOf "is_read" "is_read" (defArgs s_is_read) (defBody s_is_read) (defScope s_is_read) .none kV2 dc2 pm2 an2 cd2 ct2), sl2⟩)
    (e2 : PySem.W.codeIn K cd2 "is_read" = true)
    (k2 : PySem.W.keepIn K (.ref f2) = true)
    (a3 : PySem.W.nsIn K mainGlobals "check_table" = some (some (.ref f3)))
    (l3 : K.lookup f3 = some ⟨oc3, od3, .func (PySem.W.fnOf "check_table" "check_table" (defArgs s_check_table) (defBody s_check_table) (defScope s_check_table) .none kV3 dc3 pm3 an3 cd3 ct3), sl3⟩)
    (e3 : PySem.W.codeIn K cd3 "check_table" = true)
    (k3 : PySem.W.keepIn K (.ref f3) = true)
    (a4 : PySem.W.nsIn K mainGlobals "check_tables" = some (some (.ref f4)))
    (l4 : K.lookup f4 = some ⟨oc4, od4, .func (PySem.W.fnOf "check_tables" "check_tables" (defArgs s_check_tables) (defBody s_check_tables) (defScope s_check_tables) .none kV4 dc4 pm4 an4 cd4 ct4), sl4⟩)
    (e4 : PySem.W.codeIn K cd4 "check_tables" = true)
    (k4 : PySem.W.keepIn K (.ref f4) = true)
    (a5 : PySem.W.nsIn K mainGlobals "check_tables_that_are_read" = some (some (.ref f5)))
    (l5 : K.lookup f5 = some ⟨oc5, od5, .func (PySem.W.fnOf "check_tables_that_are_read" "check_tables_that_are_read" (defArgs s_check_tables_that_are_read) (defBody s_check_tables_that_are_read) (defScope s_check_tables_that_are_read) .none kV5 dc5 pm5 an5 cd5 ct5), sl5⟩)
    (e5 : PySem.W.codeIn K cd5 "check_tables_that_are_read" = true)
    (k5 : PySem.W.keepIn K (.ref f5) = true)
    (a6 : PySem.W.nsIn K mainGlobals "check_system" = some (some (.ref f6)))
    (l6 : K.lookup f6 = some ⟨oc6, od6, .func (PySem.W.fnOf "check_system" "check_system" (defArgs s_check_system) (defBody s_check_system) (defScope s_check_system) .none kV6 dc6 pm6 an6 cd6 ct6), sl6⟩)
    (e6 : PySem.W.codeIn K cd6 "check_system" = true)
    (k6 : PySem.W.keepIn K (.ref f6) = true)
    (a7 : PySem.W.nsIn K mainGlobals "_law_rng" = some (some (.ref f7)))
    (l7 : K.lookup f7 = some ⟨oc7, od7, .func (PySem.W.fnOf "_law_rng" "_law_rng" (defArgs s_Lrng) (defBody s_Lrng) (defScope s_Lrng) .none kV7 dc7 pm7 an7 cd7 ct7), sl7⟩)
    (e7 : PySem.W.codeIn K cd7 "_law_rng" = true)
    (k7 : PySem.W.keepIn K (.ref f7) = true)
    (a8 : PySem.W.nsIn K mainGlobals "_law_draw" = some (some (.ref f8)))
    (l8 : K.lookup f8 = some ⟨oc8, od8, .func (PySem.W.fnOf "_law_draw" "_law_draw" (defArgs s_Ldraw) (defBody s_Ldraw) (defScope s_Ldraw) .none kV8 dc8 pm8 an8 cd8 ct8), sl8⟩)
    (e8 : PySem.W.codeIn K cd8 "_law_draw" = true)
    (k8 : PySem.W.keepIn K (.ref f8) = true)
    (a9 : PySem.W.nsIn K mainGlobals "_law_mixed" = some (some (.ref f9)))
    (l9 : K.lookup f9 = some ⟨oc9, od9, .func (PySem.W.fnOf "_law_mixed" "_law_mixed" (defArgs s_Lmixed) (defBody s_Lmixed) (defScope s_Lmixed) .none kV9 dc9 pm9 an9 cd9 ct9), sl9⟩)
    (e9 : PySem.W.codeIn K cd9 "_law_mixed" = true)
    (k9 : PySem.W.keepIn K (.ref f9) = true)
    (a10 : PySem.W.nsIn K mainGlobals "_law_vector" = some (some (.ref f10)))
    (l10 : K.lookup f10 = some ⟨oc10, od10, .func (PySem.W.fnOf "_law_vector" "_law_vector" (defArgs s_Lvector) (defBody s_Lvector) (defScope s_Lvector) .none kV10 dc10 pm10 an10 cd10 ct10), sl10⟩)
    (e10 : PySem.W.codeIn K cd10 "_law_vector" = true)
    (k10 : PySem.W.keepIn K (.ref f10) = true)
    (a11 : PySem.W.nsIn K mainGlobals "_law_made_rows" = some (some (.ref f11)))
    (l11 : K.lookup f11 = some ⟨oc11, od11, .func (PySem.W.fnOf "_law_made_rows" "_law_made_rows" (defArgs s_Lmade_rows) (defBody s_Lmade_rows) (defScope s_Lmade_rows) .none kV11 dc11 pm11 an11 cd11 ct11), sl11⟩)
    (e11 : PySem.W.codeIn K cd11 "_law_made_rows" = true)
    (k11 : PySem.W.keepIn K (.ref f11) = true)
    (a12 : PySem.W.nsIn K mainGlobals "_law_shown" = some (some (.ref f12)))
    (l12 : K.lookup f12 = some ⟨oc12, od12, .func (PySem.W.fnOf "_law_shown" "_law_shown" (defArgs s_Lshown) (defBody s_Lshown) (defScope s_Lshown) .none kV12 dc12 pm12 an12 cd12 ct12), sl12⟩)
    (e12 : PySem.W.codeIn K cd12 "_law_shown" = true)
    (k12 : PySem.W.keepIn K (.ref f12) = true)
    (a13 : PySem.W.nsIn K mainGlobals "_law_exchanged_right" = some (some (.ref f13)))
    (l13 : K.lookup f13 = some ⟨oc13, od13, .func (PySem.W.fnOf "_law_exchanged_right" "_law_exchanged_right" (defArgs s_Lexchanged_right) (defBody s_Lexchanged_right) (defScope s_Lexchanged_right) .none kV13 dc13 pm13 an13 cd13 ct13), sl13⟩)
    (e13 : PySem.W.codeIn K cd13 "_law_exchanged_right" = true)
    (k13 : PySem.W.keepIn K (.ref f13) = true)
    (a14 : PySem.W.nsIn K mainGlobals "law" = some (some (.ref f14)))
    (l14 : K.lookup f14 = some ⟨oc14, od14, .func (PySem.W.fnOf "law" "law" (defArgs s_law) (defBody s_law) (defScope s_law) .none kV14 dc14 pm14 an14 cd14 ct14), sl14⟩)
    (e14 : PySem.W.codeIn K cd14 "law" = true)
    (k14 : PySem.W.keepIn K (.ref f14) = true)
    (aC : PySem.W.nsIn K mainGlobals "System" = some (some (.ref C)))
    (atPdimensions : PySem.W.findIn K (.ref C) "dimensions" = some (some (.ref pPdimensions)))
    (gePdimensions : PySem.W.specialIn K (.ref pPdimensions) "__get__" = some (some (.builtin "property.__get__")))
    (taPdimensions : PySem.W.takesIn K (.ref pPdimensions) = some true)
    (rePdimensions : PySem.W.recIn K pPdimensions "property" = some (.ref gPdimensions :: restPdimensions))
    (lPdimensions : K.lookup gPdimensions = some ⟨ocPdimensions, odPdimensions, .func (PySem.W.fnOf "dimensions" "System.dimensions" (defArgs s_System_dimensions) (defBody s_System_dimensions) (defScope s_System_dimensions) .none kVPdimensions dcPdimensions pmPdimensions anPdimensions cdPdimensions ctPdimensions), slPdimensions⟩)
    (ePdimensions : PySem.W.codeIn K cdPdimensions "System.dimensions" = true)
    (kPdimensions : PySem.W.keepIn K (.ref gPdimensions) = true)
    (atPmodulus : PySem.W.findIn K (.ref C) "modulus" = some (some (.ref pPmodulus)))
    (gePmodulus : PySem.W.specialIn K (.ref pPmodulus) "__get__" = some (some (.builtin "property.__get__")))
    (taPmodulus : PySem.W.takesIn K (.ref pPmodulus) = some true)
    (rePmodulus : PySem.W.recIn K pPmodulus "property" = some (.ref gPmodulus :: restPmodulus))
    (lPmodulus : K.lookup gPmodulus = some ⟨ocPmodulus, odPmodulus, .func (PySem.W.fnOf "modulus" "System.modulus" (defArgs s_System_modulus) (defBody s_System_modulus) (defScope s_System_modulus) .none kVPmodulus dcPmodulus pmPmodulus anPmodulus cdPmodulus ctPmodulus), slPmodulus⟩)
    (ePmodulus : PySem.W.codeIn K cdPmodulus "System.modulus" = true)
    (kPmodulus : PySem.W.keepIn K (.ref gPmodulus) = true)
    (atPnames : PySem.W.findIn K (.ref C) "names" = some (some (.ref pPnames)))
    (gePnames : PySem.W.specialIn K (.ref pPnames) "__get__" = some (some (.builtin "property.__get__")))
    (taPnames : PySem.W.takesIn K (.ref pPnames) = some true)
    (rePnames : PySem.W.recIn K pPnames "property" = some (.ref gPnames :: restPnames))
    (lPnames : K.lookup gPnames = some ⟨ocPnames, odPnames, .func (PySem.W.fnOf "names" "System.names" (defArgs s_System_names) (defBody s_System_names) (defScope s_System_names) .none kVPnames dcPnames pmPnames anPnames cdPnames ctPnames), slPnames⟩)
    (ePnames : PySem.W.codeIn K cdPnames "System.names" = true)
    (kPnames : PySem.W.keepIn K (.ref gPnames) = true)
    (atMreads : PySem.W.findIn K (.ref C) "reads" = some (some (.ref fMreads)))
    (isMreads : PySem.W.isFn K (.ref fMreads) = true)
    (lMreads : K.lookup fMreads = some ⟨ocMreads, odMreads, .func (PySem.W.fnOf "reads" "System.reads" (defArgs s_System_reads) (defBody s_System_reads) (defScope s_System_reads) .none kVMreads dcMreads pmMreads anMreads cdMreads ctMreads), slMreads⟩)
    (eMreads : PySem.W.codeIn K cdMreads "System.reads" = true)
    (kMreads : PySem.W.keepIn K (.ref fMreads) = true)
    (atMconstant : PySem.W.findIn K (.ref C) "constant" = some (some (.ref fMconstant)))
    (isMconstant : PySem.W.isFn K (.ref fMconstant) = true)
    (lMconstant : K.lookup fMconstant = some ⟨ocMconstant, odMconstant, .func (PySem.W.fnOf "constant" "System.constant" (defArgs s_System_constant) (defBody s_System_constant) (defScope s_System_constant) .none kVMconstant dcMconstant pmMconstant anMconstant cdMconstant ctMconstant), slMconstant⟩)
    (eMconstant : PySem.W.codeIn K cdMconstant "System.constant" = true)
    (kMconstant : PySem.W.keepIn K (.ref fMconstant) = true)
    (atMall_reads : PySem.W.findIn K (.ref C) "all_reads" = some (some (.ref fMall_reads)))
    (isMall_reads : PySem.W.isFn K (.ref fMall_reads) = true)
    (lMall_reads : K.lookup fMall_reads = some ⟨ocMall_reads, odMall_reads, .func (PySem.W.fnOf "all_reads" "System.all_reads" (defArgs s_System_all_reads) (defBody s_System_all_reads) (defScope s_System_all_reads) .none kVMall_reads dcMall_reads pmMall_reads anMall_reads cdMall_reads ctMall_reads), slMall_reads⟩)
    (eMall_reads : PySem.W.codeIn K cdMall_reads "System.all_reads" = true)
    (kMall_reads : PySem.W.keepIn K (.ref fMall_reads) = true)
    (atMwith_tables : PySem.W.findIn K (.ref C) "_with_tables" = some (some (.ref fMwith_tables)))
    (isMwith_tables : PySem.W.isFn K (.ref fMwith_tables) = true)
    (lMwith_tables : K.lookup fMwith_tables = some ⟨ocMwith_tables, odMwith_tables, .func (PySem.W.fnOf "_with_tables" "System._with_tables" (defArgs s_Systemwith_tables) (defBody s_Systemwith_tables) (defScope s_Systemwith_tables) .none kVMwith_tables dcMwith_tables pmMwith_tables anMwith_tables cdMwith_tables ctMwith_tables), slMwith_tables⟩)
    (eMwith_tables : PySem.W.codeIn K cdMwith_tables "System._with_tables" = true)
    (kMwith_tables : PySem.W.keepIn K (.ref fMwith_tables) = true)
    (atMcheck_new_names : PySem.W.findIn K (.ref C) "_check_new_names" = some (some (.ref fMcheck_new_names)))
    (isMcheck_new_names : PySem.W.isFn K (.ref fMcheck_new_names) = true)
    (lMcheck_new_names : K.lookup fMcheck_new_names = some ⟨ocMcheck_new_names, odMcheck_new_names, .func (PySem.W.fnOf "_check_new_names" "System._check_new_names" (defArgs s_Systemcheck_new_names) (defBody s_Systemcheck_new_names) (defScope s_Systemcheck_new_names) .none kVMcheck_new_names dcMcheck_new_names pmMcheck_new_names anMcheck_new_names cdMcheck_new_names ctMcheck_new_names), slMcheck_new_names⟩)
    (eMcheck_new_names : PySem.W.codeIn K cdMcheck_new_names "System._check_new_names" = true)
    (kMcheck_new_names : PySem.W.keepIn K (.ref fMcheck_new_names) = true)
    (atMexchanged : PySem.W.findIn K (.ref C) "exchanged" = some (some (.ref fMexchanged)))
    (isMexchanged : PySem.W.isFn K (.ref fMexchanged) = true)
    (lMexchanged : K.lookup fMexchanged = some ⟨ocMexchanged, odMexchanged, .func (PySem.W.fnOf "exchanged" "System.exchanged" (defArgs s_System_exchanged) (defBody s_System_exchanged) (defScope s_System_exchanged) .none kVMexchanged dcMexchanged pmMexchanged anMexchanged cdMexchanged ctMexchanged), slMexchanged⟩)
    (eMexchanged : PySem.W.codeIn K cdMexchanged "System.exchanged" = true)
    (kMexchanged : PySem.W.keepIn K (.ref fMexchanged) = true)
    (atMrenamed : PySem.W.findIn K (.ref C) "renamed" = some (some (.ref fMrenamed)))
    (isMrenamed : PySem.W.isFn K (.ref fMrenamed) = true)
    (lMrenamed : K.lookup fMrenamed = some ⟨ocMrenamed, odMrenamed, .func (PySem.W.fnOf "renamed" "System.renamed" (defArgs s_System_renamed) (defBody s_System_renamed) (defScope s_System_renamed) .none kVMrenamed dcMrenamed pmMrenamed anMrenamed cdMrenamed ctMrenamed), slMrenamed⟩)
    (eMrenamed : PySem.W.codeIn K cdMrenamed "System.renamed" = true)
    (kMrenamed : PySem.W.keepIn K (.ref fMrenamed) = true)
    (atMlen : PySem.W.findIn K (.ref C) "__len__" = some (some (.ref fMlen)))
    (isMlen : PySem.W.isFn K (.ref fMlen) = true)
    (lMlen : K.lookup fMlen = some ⟨ocMlen, odMlen, .func (PySem.W.fnOf "__len__" "System.__len__" (defArgs s_System_len) (defBody s_System_len) (defScope s_System_len) .none kVMlen dcMlen pmMlen anMlen cdMlen ctMlen), slMlen⟩)
    (eMlen : PySem.W.codeIn K cdMlen "System.__len__" = true)
    (kMlen : PySem.W.keepIn K (.ref fMlen) = true)
    (atMeq : PySem.W.findIn K (.ref C) "__eq__" = some (some (.ref fMeq)))
    (isMeq : PySem.W.isFn K (.ref fMeq) = true)
    (lMeq : K.lookup fMeq = some ⟨ocMeq, odMeq, .func (PySem.W.fnOf "__eq__" "System.__eq__" (defArgs s_System_eq) (defBody s_System_eq) (defScope s_System_eq) .none kVMeq dcMeq pmMeq anMeq cdMeq ctMeq), slMeq⟩)
    (eMeq : PySem.W.codeIn K cdMeq "System.__eq__" = true)
    (kMeq : PySem.W.keepIn K (.ref fMeq) = true)
    (atI : PySem.W.findIn K (.ref C) "__init__" = some (some (.ref fI)))
    (isI : PySem.W.isFn K (.ref fI) = true)
    (lI : K.lookup fI = some ⟨ocI, odI, .func (PySem.W.fnOf "__init__" "System.__init__" (defArgs s_System_init) (defBody s_System_init) (defScope s_System_init) (.ref T0) kVI dcI pmI anI (.ref c0) ctI), slI⟩)
    (eI : PySem.W.codeIn K (.ref c0) "System.__init__" = true)
    (kI : PySem.W.keepIn K (.ref fI) = true)
    (lT : K.lookup T0 = some ⟨ocT, odT, .seq [Value.int 1000003 tT].toArray nT, slT⟩)
    (pg : PySem.W.plainGet K C Str.empty = true)
    (hd : PySem.W.hasDictIn K C = true)
    (po : PySem.W.plainOver K C = true)
    (sa : PySem.W.findIn K (.ref C) "__setattr__" = some (some (.builtin "object.__setattr__")))
    (mk : PySem.W.makesIn K C = true)
    (kc : PySem.W.keepIn K (.ref C) = true)
    (haC : PySem.W.findIn K (.ref C) "__class__" = some (some (.builtin "object.__class__")))
    (hnC : PySem.W.specialIn K (.builtin "object.__class__") "__get__" = some (some (.builtin "getset_descriptor.__get__")))
    (htC : PySem.W.takesIn K (.builtin "object.__class__") = some true)
    (hmC : PySem.W.mroIn K C (.type "object") = some true)
    (n_dimensions : PySem.W.findIn K (.ref C) "_dimensions" = some none)
    (n_modulus : PySem.W.findIn K (.ref C) "_modulus" = some none)
    (n_tables : PySem.W.findIn K (.ref C) "_tables" = some none)
    (z_len : PySem.W.nsIn K mainGlobals "len" = some none)
    (z_all : PySem.W.nsIn K mainGlobals "all" = some none)
    (z_min : PySem.W.nsIn K mainGlobals "min" = some none)
    (z_abs : PySem.W.nsIn K mainGlobals "abs" = some none)
    (z_int : PySem.W.nsIn K mainGlobals "int" = some none)
    (z_list : PySem.W.nsIn K mainGlobals "list" = some none)
    (z_tuple : PySem.W.nsIn K mainGlobals "tuple" = some none)
    (z_range : PySem.W.nsIn K mainGlobals "range" = some none)
    (z_zip : PySem.W.nsIn K mainGlobals "zip" = some none)
    (z_enumerate : PySem.W.nsIn K mainGlobals "enumerate" = some none)
    (z_sorted : PySem.W.nsIn K mainGlobals "sorted" = some none)
    (z_repr : PySem.W.nsIn K mainGlobals "repr" = some none)
    (z_isinstance : PySem.W.nsIn K mainGlobals "isinstance" = some none)
    (z_dict : PySem.W.nsIn K mainGlobals "dict" = some none)
    (v_MOST_DIMENSIONS : PySem.W.nsIn K mainGlobals "MOST_DIMENSIONS" = some (some (.int 3 t_MOST_DIMENSIONS)))
    (v_MOST_TABLES : PySem.W.nsIn K mainGlobals "MOST_TABLES" = some (some (.int 6 t_MOST_TABLES)))
    (v_MOST_READS : PySem.W.nsIn K mainGlobals "MOST_READS" = some (some (.int 12 t_MOST_READS)))
    (v_MOST_LETTERS : PySem.W.nsIn K mainGlobals "MOST_LETTERS" = some (some (.int 8 t_MOST_LETTERS)))
    (hPt : h.get? Pt = some { cls := .none, data := .fields #[] })
    (nPt : K.lookup Pt = none)
    (hc0 : PySem.W.codeHdIn K c0 Pt = true)
    : LawAtG l w K 10 63 "_law_script" mg fa h := by
  have e := hfa.symm.trans (PySem.W.mg_of X G a14)
  cases e
  have T : Txt mg := ⟨PySem.W.mg_none_of X G z_len, PySem.W.mg_none_of X G z_all, PySem.W.mg_none_of X G z_min, PySem.W.mg_none_of X G z_abs, PySem.W.mg_none_of X G z_int, PySem.W.mg_none_of X G z_list, PySem.W.mg_none_of X G z_tuple, PySem.W.mg_none_of X G z_range, PySem.W.mg_none_of X G z_zip, PySem.W.mg_none_of X G z_enumerate, PySem.W.mg_none_of X G z_sorted, ⟨_, PySem.W.mg_of X G v_MOST_DIMENSIONS, ⟨_, rfl⟩⟩, ⟨_, PySem.W.mg_of X G v_MOST_TABLES, ⟨_, rfl⟩⟩, ⟨_, PySem.W.mg_of X G v_MOST_READS, ⟨_, rfl⟩⟩, ⟨_, PySem.W.mg_of X G v_MOST_LETTERS, ⟨_, rfl⟩⟩⟩
  have zr := PySem.W.mg_none_of X G z_repr
  have zi := PySem.W.mg_none_of X G z_isinstance
  have zd := PySem.W.mg_none_of X G z_dict
  have cl : Cls K C := ⟨pg, hd, po, sa⟩
  have TC : TxtC K mg C := ⟨cl, n_dimensions, n_modulus, n_tables, PySem.W.mg_of X G aC⟩
  have isC : C8.InsC K C := ⟨cl, haC, hnC, htC, hmC, if_pos (beq_self_eq_true _)⟩
  have F1 := fun_mk (st := s_is_name) l1 e1 k1
  have b1 := F1.binds (ps := ["text"]) fun _ _ _ _ _ _ us hl => match us, hl with | [_], _ => rfl
  have F2 := fun_mk (st := s_is_read) l2 e2 k2
  have b2 := F2.binds (ps := ["read", "dimensions"]) fun _ _ _ _ _ _ us hl => match us, hl with | [_, _], _ => rfl
  have F3 := fun_mk (st := s_check_table) l3 e3 k3
  have b3 := F3.binds (ps := ["system", "name"]) fun _ _ _ _ _ _ us hl => match us, hl with | [_, _], _ => rfl
  have F4 := fun_mk (st := s_check_tables) l4 e4 k4
  have b4 := F4.binds (ps := ["dimensions", "tables"]) fun _ _ _ _ _ _ us hl => match us, hl with | [_, _], _ => rfl
  have F5 := fun_mk (st := s_check_tables_that_are_read) l5 e5 k5
  have b5 := F5.binds (ps := ["tables"]) fun _ _ _ _ _ _ us hl => match us, hl with | [_], _ => rfl
  have F6 := fun_mk (st := s_check_system) l6 e6 k6
  have b6 := F6.binds (ps := ["dimensions", "tables", "modulus"]) fun _ _ _ _ _ _ us hl => match us, hl with | [_, _, _], _ => rfl
  have F7 := fun_mk (st := s_Lrng) l7 e7 k7
  have b7 := F7.binds (ps := ["_law_script"]) fun _ _ _ _ _ _ us hl => match us, hl with | [_], _ => rfl
  have F8 := fun_mk (st := s_Ldraw) l8 e8 k8
  have b8 := F8.binds (ps := ["_law_rng_here", "_law_limit"]) fun _ _ _ _ _ _ us hl => match us, hl with | [_, _], _ => rfl
  have F9 := fun_mk (st := s_Lmixed) l9 e9 k9
  have b9 := F9.binds (ps := ["_law_rng_here", "_law_some"]) fun _ _ _ _ _ _ us hl => match us, hl with | [_, _], _ => rfl
  have F10 := fun_mk (st := s_Lvector) l10 e10 k10
  have b10 := F10.binds (ps := ["_law_rng_here", "_law_dims", "_law_wide"]) fun _ _ _ _ _ _ us hl => match us, hl with | [_, _, _], _ => rfl
  have F11 := fun_mk (st := s_Lmade_rows) l11 e11 k11
  have b11 := F11.binds (ps := ["_law_rng_here", "_law_dims", "_law_many", "_law_most", "_law_wide"]) fun _ _ _ _ _ _ us hl => match us, hl with | [_, _, _, _, _], _ => rfl
  have F12 := fun_mk (st := s_Lshown) l12 e12 k12
  have b12 := F12.binds (ps := ["_law_made"]) fun _ _ _ _ _ _ us hl => match us, hl with | [_], _ => rfl
  have F13 := fun_mk (st := s_Lexchanged_right) l13 e13 k13
  have b13 := F13.binds (ps := ["_law_rng_here", "_law_made", "_law_rows"]) fun _ _ _ _ _ _ us hl => match us, hl with | [_, _, _], _ => rfl
  have F14 := fun_mk (st := s_law) l14 e14 k14
  have FPdimensions := fun_mk (st := s_System_dimensions) lPdimensions ePdimensions kPdimensions
  have bPdimensions := FPdimensions.binds (ps := ["self"]) fun _ _ _ _ _ _ us hl => match us, hl with | [_], _ => rfl
  have FPmodulus := fun_mk (st := s_System_modulus) lPmodulus ePmodulus kPmodulus
  have bPmodulus := FPmodulus.binds (ps := ["self"]) fun _ _ _ _ _ _ us hl => match us, hl with | [_], _ => rfl
  have FPnames := fun_mk (st := s_System_names) lPnames ePnames kPnames
  have bPnames := FPnames.binds (ps := ["self"]) fun _ _ _ _ _ _ us hl => match us, hl with | [_], _ => rfl
  have FMreads := fun_mk (st := s_System_reads) lMreads eMreads kMreads
  have bMreads := FMreads.binds (ps := ["self", "name"]) fun _ _ _ _ _ _ us hl => match us, hl with | [_, _], _ => rfl
  have FMconstant := fun_mk (st := s_System_constant) lMconstant eMconstant kMconstant
  have bMconstant := FMconstant.binds (ps := ["self", "name"]) fun _ _ _ _ _ _ us hl => match us, hl with | [_, _], _ => rfl
  have FMall_reads := fun_mk (st := s_System_all_reads) lMall_reads eMall_reads kMall_reads
  have bMall_reads := FMall_reads.binds (ps := ["self"]) fun _ _ _ _ _ _ us hl => match us, hl with | [_], _ => rfl
  have FMwith_tables := fun_mk (st := s_Systemwith_tables) lMwith_tables eMwith_tables kMwith_tables
  have bMwith_tables := FMwith_tables.binds (ps := ["self", "tables"]) fun _ _ _ _ _ _ us hl => match us, hl with | [_, _], _ => rfl
  have FMcheck_new_names := fun_mk (st := s_Systemcheck_new_names) lMcheck_new_names eMcheck_new_names kMcheck_new_names
  have bMcheck_new_names := FMcheck_new_names.binds (ps := ["self", "changed", "new_names"]) fun _ _ _ _ _ _ us hl => match us, hl with | [_, _, _], _ => rfl
  have FMexchanged := fun_mk (st := s_System_exchanged) lMexchanged eMexchanged kMexchanged
  have bMexchanged := FMexchanged.binds (ps := ["self", "axes"]) fun _ _ _ _ _ _ us hl => match us, hl with | [_, _], _ => rfl
  have FMrenamed := fun_mk (st := s_System_renamed) lMrenamed eMrenamed kMrenamed
  have bMrenamed := FMrenamed.binds (ps := ["self", "names"]) fun _ _ _ _ _ _ us hl => match us, hl with | [_, _], _ => rfl
  have FMlen := fun_mk (st := s_System_len) lMlen eMlen kMlen
  have bMlen := FMlen.binds (ps := ["self"]) fun _ _ _ _ _ _ us hl => match us, hl with | [_], _ => rfl
  have FMeq := fun_mk (st := s_System_eq) lMeq eMeq kMeq
  have bMeq := FMeq.binds (ps := ["self", "other"]) fun _ _ _ _ _ _ us hl => match us, hl with | [_, _], _ => rfl
  have FI : FunC K "__init__" "System.__init__" s_System_init fI _ c0 := ⟨_, _, _, _, _, _, _, _, _, rfl, lI, eI⟩
  have FID : FunD K "__init__" "System.__init__" (defArgs s_System_init) (defBody s_System_init) (defScope s_System_init) [.int 1000003] [] fI _ := ⟨⟨_, _, _, _, _, _, _, _, _, _, rfl, lI, eI, .inr ⟨by simp, T0, _, _, _, rfl, lT, rfl, .cons ⟨_, rfl⟩ .nil⟩, .inl rfl⟩, kI⟩
  obtain ⟨ds, hds, bI⟩ := FID.binds1 (ps := ["self", "dimensions", "tables", "modulus"]) 3 0 (by simp) rfl fun _ _ _ _ _ _ _ us its h1 h2 => match us, its, h1, h2 with | [_, _, _], [_], _, _ => ⟨_, rfl, rfl⟩
  obtain ⟨ds3, hds3, bI3⟩ := FID.binds1 (ps := ["self", "dimensions", "tables", "modulus"]) 4 1 (by simp) rfl fun _ _ _ _ _ _ _ us its h1 h2 => match us, its, h1, h2 with | [_, _, _, _], [_], _, _ => ⟨_, rfl, rfl⟩
  obtain ⟨TT, hTT⟩ : ∃ TT : List (Addr × Str), TT = [(Pt, ("System.__init__.<locals>.<lambda>" : Str))] := ⟨_, rfl⟩
  have hmT : (Pt, ("System.__init__.<locals>.<lambda>" : Str)) ∈ TT := by rw [hTT]; exact List.mem_singleton.mpr rfl
  have huT : ∀ p ∈ TT, p.1 = Pt → p.2 = ("System.__init__.<locals>.<lambda>" : Str) := fun p hp _ => by rw [hTT] at hp; rw [List.mem_singleton.mp hp]
  refine ⟨PySem.W.fnOf "law" "law" (defArgs s_law) (defBody s_law) (defScope s_law) .none kV14 dc14 pm14 an14 cd14 ct14, [(c0, Pt)], spLaw4 K TT, ⟨?_, ?_, ?_⟩, fun s v => .of_eq rfl, ?_, fun base KB GB TB => ?_⟩
  · intro p hp
    rw [List.mem_singleton.mp hp]
    exact hPt
  · intro p hp
    rw [List.mem_singleton.mp hp]
    exact nPt
  · intro p hp
    rw [List.mem_singleton.mp hp]
    exact PySem.W.codeHd_of_K X hc0
  · intro H a ns hl hT hS
    refine ⟨a, ns, rfl, hS, hl, fun p hp => ?_, fun _ => rfl⟩
    rw [hTT] at hp
    rw [List.mem_singleton.mp hp]
    exact LamX.TabS.nil (hT _ (List.mem_singleton.mpr rfl))
  have TBc := TB _ (List.mem_singleton.mpr rfl)
  have c_is_name : C8.Cal l.prog w K mg base 1 "is_name" spIsName [] := ⟨_, _, _, _, ok_is_name F1 T, PySem.W.mg_of X G a1, k1, b1, .nil⟩
  have c_is_read : C8.Cal l.prog w K mg base 2 "is_read" (spIsRead K) [] := ⟨_, _, _, _, ok_is_read F2 T c_is_name, PySem.W.mg_of X G a2, k2, b2, .nil⟩
  have p_dimensions : Prp l.prog w K mg base 1 C "dimensions" (spDims K C) := ⟨_, _, _, _, cl, ⟨atPdimensions, gePdimensions, taPdimensions, _, rePdimensions⟩, ok_dims FPdimensions TC, bPdimensions⟩
  have p_modulus : Prp l.prog w K mg base 1 C "modulus" (spMod K C) := ⟨_, _, _, _, cl, ⟨atPmodulus, gePmodulus, taPmodulus, _, rePmodulus⟩, ok_mod FPmodulus TC, bPmodulus⟩
  have p_names : Prp l.prog w K mg base 1 C "names" (spNames K C) := ⟨_, _, _, _, cl, ⟨atPnames, gePnames, taPnames, _, rePnames⟩, ok_names FPnames T TC, bPnames⟩
  have c_check_table : C8.Cal l.prog w K mg base 3 "check_table" (spCheckTable K C) [] := ⟨_, _, _, _, ok_check_table F3 T p_names, PySem.W.mg_of X G a3, k3, b3, .nil⟩
  have t_reads : C8.Met l.prog w K mg base 4 C "reads" (spReads K C) [] := ⟨_, _, _, _, cl, ⟨atMreads, isMreads, kMreads⟩, ok_reads FMreads T TC c_check_table, bMreads, .nil⟩
  have t_constant : C8.Met l.prog w K mg base 4 C "constant" (spConst K C) [] := ⟨_, _, _, _, cl, ⟨atMconstant, isMconstant, kMconstant⟩, ok_const FMconstant T TC c_check_table, bMconstant, .nil⟩
  have t_all_reads : C8.Met l.prog w K mg base 1 C "all_reads" (spAll K C) [] := ⟨_, _, _, _, cl, ⟨atMall_reads, isMall_reads, kMall_reads⟩, ok_all FMall_reads T TC, bMall_reads, .nil⟩
  have c_check_tables : C8.Cal l.prog w K mg base 3 "check_tables" (spCheckTables K) [] := ⟨_, _, _, _, ok_check_tables F4 T c_is_name c_is_read, PySem.W.mg_of X G a4, k4, b4, .nil⟩
  have c_check_tables_that_are_read : C8.Cal l.prog w K mg base 3 "check_tables_that_are_read" (spCheckRead K) [] := ⟨_, _, _, _, ok_check_read F5 T, PySem.W.mg_of X G a5, k5, b5, .nil⟩
  have c_check_system : C8.Cal l.prog w K mg base 4 "check_system" (spCheckSystem K) [] := ⟨_, _, _, _, ok_check_system F6 T c_check_tables c_check_tables_that_are_read, PySem.W.mg_of X G a6, k6, b6, .nil⟩
  have m_System3 : C8.Mak l.prog w K mg base 5 "System" C (spInit K C TT) [] := ⟨_, _, _, ds3, ⟨mk, atI, isI, kc⟩, ok_init FI T TC c_check_system TBc hmT huT, PySem.W.mg_of X G aC, bI3, hds3⟩
  have t__with_tables : C8.Met l.prog w K mg base 7 C "_with_tables" (spWith K C TT) [] := ⟨_, _, _, _, cl, ⟨atMwith_tables, isMwith_tables, kMwith_tables⟩, ok_with FMwith_tables T TC m_System3, bMwith_tables, .nil⟩
  have t__check_new_names : C8.Met l.prog w K mg base 2 C "_check_new_names" (spNewNames K) [] := ⟨_, _, _, _, cl, ⟨atMcheck_new_names, isMcheck_new_names, kMcheck_new_names⟩, ok_newnames FMcheck_new_names T c_is_name, bMcheck_new_names, .nil⟩
  have t_exchanged : C8.Met l.prog w K mg base 8 C "exchanged" (spExch K C TT) [] := ⟨_, _, _, _, cl, ⟨atMexchanged, isMexchanged, kMexchanged⟩, ok_exch FMexchanged T TC t__with_tables, bMexchanged, .nil⟩
  have t_renamed : C8.Met l.prog w K mg base 8 C "renamed" (spRen K C TT) [] := ⟨_, _, _, _, cl, ⟨atMrenamed, isMrenamed, kMrenamed⟩, ok_ren FMrenamed T TC c_check_table t__check_new_names t__with_tables, bMrenamed, .nil⟩
  have kt_exchanged : MetK l.prog w K mg base 8 C "exchanged" (spExch K C TT) ["axes"] kw1 := ⟨_, _, _, kw1, cl, ⟨atMexchanged, isMexchanged, kMexchanged⟩, ok_exch FMexchanged T TC t__with_tables, kb1 fun s u v => .of_eq (by rfl)⟩
  have kt_renamed : MetK l.prog w K mg base 8 C "renamed" (spRen K C TT) ["names"] kw1 := ⟨_, _, _, kw1, cl, ⟨atMrenamed, isMrenamed, kMrenamed⟩, ok_ren FMrenamed T TC c_check_table t__check_new_names t__with_tables, kb1 fun s u v => .of_eq (by rfl)⟩
  have len_System : LenM l.prog w K mg base 1 C (spLenS K C) := ⟨_, _, _, cl, atMlen, isMlen, ok_lenS FMlen T TC, bMlen⟩
  have eq_System : EqM l.prog w K mg base 1 C (spSysEq K C) := ⟨_, _, _, cl, atMeq, isMeq, ok_eqS FMeq T TC zi isC, bMeq⟩
  have c_Lrng : C8.Cal l.prog w K mg base 1 "_law_rng" (spRng K) [] := ⟨_, _, _, _, ok_rng F7 T, PySem.W.mg_of X G a7, k7, b7, .nil⟩
  have c_Ldraw : C8.Cal l.prog w K mg base 1 "_law_draw" spDraw [] := ⟨_, _, _, _, ok_draw F8 T, PySem.W.mg_of X G a8, k8, b8, .nil⟩
  have c_Lmixed : C8.Cal l.prog w K mg base 2 "_law_mixed" (spMixed K) [] := ⟨_, _, _, _, ok_mixed F9 T c_Ldraw, PySem.W.mg_of X G a9, k9, b9, .nil⟩
  have c_Lvector : C8.Cal l.prog w K mg base 2 "_law_vector" (spVector K) [] := ⟨_, _, _, _, ok_vector F10 T c_Ldraw, PySem.W.mg_of X G a10, k10, b10, .nil⟩
  have c_Lmade_rows : C8.Cal l.prog w K mg base 3 "_law_made_rows" (spRows K) [] := ⟨_, _, _, _, ok_made_rows F11 T c_Ldraw c_Lmixed c_Lvector, PySem.W.mg_of X G a11, k11, b11, .nil⟩
  have c_Lshown : CalG l.prog w K mg base 5 "_law_shown" (spShown K C) := ⟨_, _, _, ok_shown F12 T zr TC p_names p_dimensions p_modulus t_constant t_reads t_all_reads len_System, PySem.W.mg_of X G a12, k12, b12⟩
  have c_Lexchanged_right : CalG l.prog w K mg base 9 "_law_exchanged_right" (spER K C TT) := ⟨_, _, _, ok_er F13 T TC c_Lmixed p_dimensions p_modulus m_System3 c_Lshown t_exchanged kt_exchanged eq_System, PySem.W.mg_of X G a13, k13, b13⟩
  exact ok_law4 F14 T zr zd TC c_Lrng c_Ldraw c_Lmixed c_Lmade_rows p_names m_System3 t_constant c_Lshown t_renamed kt_renamed eq_System c_Lexchanged_right
end Fr

open PySem PySem.W PyProof.Rows
set_option maxRecDepth 100000 in
set_option maxHeartbeats 0 in
theorem PySem.Challenge.cw_farreads_k04_names_and_axes_exchanged_holds : PySem.Challenge.rw_farreads_k04_names_and_axes_exchanged.Holds := by
  w_on; o_law; k_head; (case hw => w_witness2)
  k_fill
  refine Fr.walk_ofG (n := 63) (k := 10) (x := "_law_script") (l := PySem.Challenge.rw_farreads_k04_names_and_axes_exchanged) rfl (by decide) rfl ⟨rfl, by decide, by decide⟩ (fun w h Y => PySem.W.km_in_of Y) ?F
  case F =>
    intro w mg fa h Y KX G hmg
    have hPt := PySem.W.km_tabs_of Y _ (List.mem_singleton.mpr rfl)
    refine' Fr.all_mk (Pt := _) KX G hmg ?a1 ?l1 ?e1 ?k1 ?a2 ?l2 ?e2 ?k2 ?a3 ?l3 ?e3 ?k3 ?a4 ?l4 ?e4 ?k4 ?a5 ?l5 ?e5 ?k5 ?a6 ?l6 ?e6 ?k6 ?a7 ?l7 ?e7 ?k7 ?a8 ?l8 ?e8 ?k8 ?a9 ?l9 ?e9 ?k9 ?a10 ?l10 ?e10 ?k10 ?a11 ?l11 ?e11 ?k11 ?a12 ?l12 ?e12 ?k12 ?a13 ?l13 ?e13 ?k13 ?a14 ?l14 ?e14 ?k14 ?aC ?atPdimensions ?gePdimensions ?taPdimensions ?rePdimensions ?lPdimensions ?ePdimensions ?kPdimensions ?atPmodulus ?gePmodulus ?taPmodulus ?rePmodulus ?lPmodulus ?ePmodulus ?kPmodulus ?atPnames ?gePnames ?taPnames ?rePnames ?lPnames ?ePnames ?kPnames ?atMreads ?isMreads ?lMreads ?eMreads ?kMreads ?atMconstant ?isMconstant ?lMconstant ?eMconstant ?kMconstant ?atMall_reads ?isMall_reads ?lMall_reads ?eMall_reads ?kMall_reads ?atMwith_tables ?isMwith_tables ?lMwith_tables ?eMwith_tables ?kMwith_tables ?atMcheck_new_names ?isMcheck_new_names ?lMcheck_new_names ?eMcheck_new_names ?kMcheck_new_names ?atMexchanged ?isMexchanged ?lMexchanged ?eMexchanged ?kMexchanged ?atMrenamed ?isMrenamed ?lMrenamed ?eMrenamed ?kMrenamed ?atMlen ?isMlen ?lMlen ?eMlen ?kMlen ?atMeq ?isMeq ?lMeq ?eMeq ?kMeq ?atI ?isI ?lI ?eI ?kI ?lT ?pg ?hd ?po ?sa ?mk ?kc ?haC ?hnC ?htC ?hmC ?n_dimensions ?n_modulus ?n_tables ?z_len ?z_all ?z_min ?z_abs ?z_int ?z_list ?z_tuple ?z_range ?z_zip ?z_enumerate ?z_sorted ?z_repr ?z_isinstance ?z_dict ?v_MOST_DIMENSIONS ?v_MOST_TABLES ?v_MOST_READS ?v_MOST_LETTERS hPt ?nPt ?hc0
    (case a1 => k_is)
    (case l1 => k_is)
    (case e1 => k_is)
    (case k1 => k_is)
    (case a2 => k_is)
    (case l2 => k_is)
    (case e2 => k_is)
    (case k2 => k_is)
    (case a3 => k_is)
    (case l3 => k_is)
    (case e3 => k_is)
    (case k3 => k_is)
    (case a4 => k_is)
    (case l4 => k_is)
    (case e4 => k_is)
    (case k4 => k_is)
    (case a5 => k_is)
    (case l5 => k_is)
    (case e5 => k_is)
    (case k5 => k_is)
    (case a6 => k_is)
    (case l6 => k_is)
    (case e6 => k_is)
    (case k6 => k_is)
    (case a7 => k_is)
    (case l7 => k_is)
    (case e7 => k_is)
    (case k7 => k_is)
    (case a8 => k_is)
    (case l8 => k_is)
    (case e8 => k_is)
    (case k8 => k_is)
    (case a9 => k_is)
    (case l9 => k_is)
    (case e9 => k_is)
    (case k9 => k_is)
    (case a10 => k_is)
    (case l10 => k_is)
    (case e10 => k_is)
    (case k10 => k_is)
    (case a11 => k_is)
    (case l11 => k_is)
    (case e11 => k_is)
    (case k11 => k_is)
    (case a12 => k_is)
    (case l12 => k_is)
    (case e12 => k_is)
    (case k12 => k_is)
    (case a13 => k_is)
    (case l13 => k_is)
    (case e13 => k_is)
    (case k13 => k_is)
    (case a14 => k_is)
    (case l14 => k_is)
    (case e14 => k_is)
    (case k14 => k_is)
    (case aC => k_is)
    (case atPdimensions => k_is)
    (case gePdimensions => k_is)
    (case taPdimensions => k_is)
    (case rePdimensions => k_is)
    (case lPdimensions => k_is)
    (case ePdimensions => k_is)
    (case kPdimensions => k_is)
    (case atPmodulus => k_is)
    (case gePmodulus => k_is)
    (case taPmodulus => k_is)
    (case rePmodulus => k_is)
    (case lPmodulus => k_is)
    (case ePmodulus => k_is)
    (case kPmodulus => k_is)
    (case atPnames => k_is)
    (case gePnames => k_is)
    (case taPnames => k_is)
    (case rePnames => k_is)
    (case lPnames => k_is)
    (case ePnames => k_is)
    (case kPnames => k_is)
    (case atMreads => k_is)
    (case isMreads => k_is)
    (case lMreads => k_is)
    (case eMreads => k_is)
    (case kMreads => k_is)
    (case atMconstant => k_is)
    (case isMconstant => k_is)
    (case lMconstant => k_is)
    (case eMconstant => k_is)
    (case kMconstant => k_is)
    (case atMall_reads => k_is)
    (case isMall_reads => k_is)
    (case lMall_reads => k_is)
    (case eMall_reads => k_is)
    (case kMall_reads => k_is)
    (case atMwith_tables => k_is)
    (case isMwith_tables => k_is)
    (case lMwith_tables => k_is)
    (case eMwith_tables => k_is)
    (case kMwith_tables => k_is)
    (case atMcheck_new_names => k_is)
    (case isMcheck_new_names => k_is)
    (case lMcheck_new_names => k_is)
    (case eMcheck_new_names => k_is)
    (case kMcheck_new_names => k_is)
    (case atMexchanged => k_is)
    (case isMexchanged => k_is)
    (case lMexchanged => k_is)
    (case eMexchanged => k_is)
    (case kMexchanged => k_is)
    (case atMrenamed => k_is)
    (case isMrenamed => k_is)
    (case lMrenamed => k_is)
    (case eMrenamed => k_is)
    (case kMrenamed => k_is)
    (case atMlen => k_is)
    (case isMlen => k_is)
    (case lMlen => k_is)
    (case eMlen => k_is)
    (case kMlen => k_is)
    (case atMeq => k_is)
    (case isMeq => k_is)
    (case lMeq => k_is)
    (case eMeq => k_is)
    (case kMeq => k_is)
    (case atI => k_is)
    (case isI => k_is)
    (case lI => k_is)
    (case eI => k_is)
    (case kI => k_is)
    (case lT => k_is)
    (case pg => k_is)
    (case hd => k_is)
    (case po => k_is)
    (case sa => k_is)
    (case mk => k_is)
    (case kc => k_is)
    (case haC => k_is)
    (case hnC => k_is)
    (case htC => k_is)
    (case hmC => k_is)
    (case n_dimensions => k_is)
    (case n_modulus => k_is)
    (case n_tables => k_is)
    (case z_len => k_is)
    (case z_all => k_is)
    (case z_min => k_is)
    (case z_abs => k_is)
    (case z_int => k_is)
    (case z_list => k_is)
    (case z_tuple => k_is)
    (case z_range => k_is)
    (case z_zip => k_is)
    (case z_enumerate => k_is)
    (case z_sorted => k_is)
    (case z_repr => k_is)
    (case z_isinstance => k_is)
    (case z_dict => k_is)
    (case v_MOST_DIMENSIONS => k_is)
    (case v_MOST_TABLES => k_is)
    (case v_MOST_READS => k_is)
    (case v_MOST_LETTERS => k_is)
    (case nPt => kernel_rfl)
    (case hc0 => kernel_rfl)
