import PyProof.Rows.All
import Wide.All
import OpenK.AllK
import Wide.FinOn
import HandS.ForMost
import HandS.Wide
import HandS.ForExc
import HandS.Deep
import HandS.Evl
import HandS.Walk
import HandS.Codes
import HandS.Zip
import HandS.Property
import HandS.Defaults
import HandS.TupAny
import HandS.More
import HandS.DictComp
import PySem.Challenge.RW_farreads_k66_errors_made
import HandS.EndTab
import PyProof.ReprRoads
import HandS.RaiseMore
import HandS.ExcInit
import HandS.IsInst
import KE.KExcIs
set_option Elab.async false
set_option linter.all false
set_option maxRecDepth 100000
set_option maxHeartbeats 4000000
namespace Fr
open PySem PySem.Spec PyProof.Rows L2
section
variable {K : PySem.W.Frag} {H H' : Hp}
theorem sqt (e : Same H H') {a : Addr} {xs : List V} (h : SqT K H a xs) : SqT K H' a xs := Evl.ex_t e h
theorem sql (e : Same H H') {a : Addr} {xs : List V} (h : SqL K H a xs) : SqL K H' a xs := Evl.ex_l e h
/-- lists, tuples, locked things -/
def dat : HO → Bool
  | .lst _ => true
  | .tup _ => true
  | .frz _ _ => true
  | _ => false
/-- what data is made of stays -/
def SD (H H' : Hp) : Prop := ∀ b o, H b = some o → dat o = true → H' b = some o
theorem SD.of (e : Same H H') : SD H H' := fun b o h _ => e b o h
theorem SD.tr {H'' : Hp} (a : SD H H') (b : SD H' H'') : SD H H'' := fun c o h d => b c o (a c o h d) d
theorem SD.upd {s : Addr} {u o : HO} (e : SD H H') (h : H' s = some u) (n : dat u = false) : SD H (upd H' s o) := fun b x q d => by
  have z := e b x q d
  have ne : b ≠ s := fun y => by
    rw [y, h] at z
    cases z
    rw [n] at d
    cases d
  rw [upd_ne ne]
  exact z
theorem sqtd (e : SD H H') {a : Addr} {xs : List V} (h : SqT K H a xs) : SqT K H' a xs := by
  rcases h with (h | ⟨o, h⟩) | h
  · exact .inl (.inl (e _ _ h rfl))
  · exact .inl (.inr ⟨o, e _ _ h rfl⟩)
  · exact .inr h
theorem sqld (e : SD H H') {a : Addr} {xs : List V} (h : SqL K H a xs) : SqL K H' a xs := by
  rcases h with (h | ⟨o, h⟩) | h
  · exact .inl (.inl (e _ _ h rfl))
  · exact .inl (.inr ⟨o, e _ _ h rfl⟩)
  · exact .inr h
mutual
theorem dpd (e : SD H H') : ∀ (d : PyData) (v : V), Dp K H v d → Dp K H' v d
  | .none, _, h => by cases h; exact .non
  | .bool b, _, h => by cases h; exact .bl b
  | .int i, _, h => by cases h; exact .int i
  | .str x, _, h => by cases h; exact .str x
  | .list ds, _, h => by
    cases h with
    | lst hs ha => exact .lst (sqld e hs) (dpsd e ds _ ha)
  | .tuple ds, _, h => by
    cases h with
    | tup hs ha => exact .tup (sqtd e hs) (dpsd e ds _ ha)
  | .dict _, _, h => by cases h
theorem dpsd (e : SD H H') : ∀ (ds : List PyData) (vs : List V), DpAll K H vs ds → DpAll K H' vs ds
  | [], _, h => by cases h; exact .nil
  | d :: ds, _, h => by
    cases h with
    | cons h1 h2 => exact .cons (dpd e d _ h1) (dpsd e ds _ h2)
end
theorem dpm (e : Same H H') (d : PyData) (v : V) (h : Dp K H v d) : Dp K H' v d := dpd (.of e) d v h
theorem dpsm (e : Same H H') (ds : List PyData) (vs : List V) (h : DpAll K H vs ds) : DpAll K H' vs ds := dpsd (.of e) ds vs h
theorem dps_len : ∀ {ds : List PyData} {vs : List V}, DpAll K H vs ds → vs.length = ds.length
  | [], _, h => by cases h; rfl
  | d :: ds, _, h => by
    cases h with
    | cons h1 h2 => exact congrArg Nat.succ (dps_len h2)
theorem dps_get : ∀ {ds : List PyData} {vs : List V} {i : Nat} {v : V}, DpAll K H vs ds → vs[i]? = some v → ∃ d, ds[i]? = some d ∧ Dp K H v d
  | [], _, _, _, h, e => by cases h; cases e
  | d :: ds, _, 0, v, h, e => by
    cases h with
    | cons h1 h2 => cases e; exact ⟨d, rfl, h1⟩
  | d :: ds, _, i + 1, v, h, e => by
    cases h with
    | cons h1 h2 => exact dps_get (i := i) h2 (by simpa using e)
theorem dps_get' : ∀ {ds : List PyData} {vs : List V} {i : Nat} {d : PyData}, DpAll K H vs ds → ds[i]? = some d → ∃ v, vs[i]? = some v ∧ Dp K H v d
  | [], _, _, _, h, e => by cases e
  | d :: ds, _, 0, v, h, e => by
    cases h with
    | cons h1 h2 => cases e; exact ⟨_, rfl, h1⟩
  | d :: ds, _, i + 1, v, h, e => by
    cases h with
    | cons h1 h2 => simpa using dps_get' (i := i) h2 (by simpa using e)
theorem dps_app : ∀ {ds es : List PyData} {vs us : List V}, DpAll K H vs ds → DpAll K H us es → DpAll K H (vs ++ us) (ds ++ es)
  | [], _, _, _, h, k => by cases h; exact k
  | d :: ds, _, _, _, h, k => by
    cases h with
    | cons h1 h2 => exact .cons h1 (dps_app h2 k)
theorem dps_one {v : V} {d : PyData} (h : Dp K H v d) : DpAll K H [v] [d] := .cons h .nil
theorem dps_snoc {ds : List PyData} {vs : List V} {v : V} {d : PyData} (h : DpAll K H vs ds) (k : Dp K H v d) : DpAll K H (vs ++ [v]) (ds ++ [d]) := dps_app h (dps_one k)
/-- a new object leaves what stands -/
theorem snew {p : Addr} {o : HO} (h : H p = none) : Same H (upd H p o) := fun b x e => by
  rw [upd_ne (ne_of_none e h)]
  exact e
theorem smut {p : Addr} {o : HO} (e : Same H H') (h : H p = none) : Same H (upd H' p o) := fun b x q => by
  rw [upd_ne (ne_of_none q h)]
  exact e b x q
theorem dint {v : V} {i : Int} (h : Dp K H v (.int i)) : v = .int i := by cases h; rfl
theorem dstr {v : V} {x : Str} (h : Dp K H v (.str x)) : v = .str x := by cases h; rfl
theorem dtup {v : V} {ds : List PyData} (h : Dp K H v (.tuple ds)) : ∃ a xs, v = .ref a ∧ SqT K H a xs ∧ DpAll K H xs ds := by
  cases h with
  | tup hs ha => exact ⟨_, _, rfl, hs, ha⟩
theorem dlst {v : V} {ds : List PyData} (h : Dp K H v (.list ds)) : ∃ a xs, v = .ref a ∧ SqL K H a xs ∧ DpAll K H xs ds := by
  cases h with
  | lst hs ha => exact ⟨_, _, rfl, hs, ha⟩
theorem dps_ints : ∀ {ns : List Int} {vs : List V}, DpAll K H vs (ns.map PyData.int) → vs = ns.map V.int
  | [], _, h => by cases h; rfl
  | n :: ns, _, h => by
    cases h with
    | cons h1 h2 => cases h1; rw [dps_ints h2]; rfl
theorem dps3 {a b c : PyData} {vs : List V} (h : DpAll K H vs [a, b, c]) : ∃ x y z, vs = [x, y, z] ∧ Dp K H x a ∧ Dp K H y b ∧ Dp K H z c := by
  cases h with
  | cons h1 h =>
    cases h with
    | cons h2 h =>
      cases h with
      | cons h3 h =>
        cases h
        exact ⟨_, _, _, rfl, h1, h2, h3⟩
theorem dps2 {a b : PyData} {vs : List V} (h : DpAll K H vs [a, b]) : ∃ x y, vs = [x, y] ∧ Dp K H x a ∧ Dp K H y b := by
  cases h with
  | cons h1 h =>
    cases h with
    | cons h2 h =>
      cases h
      exact ⟨_, _, rfl, h1, h2⟩
theorem ints_dps : ∀ (ns : List Int), DpAll K H (ns.map V.int) (ns.map PyData.int)
  | [] => .nil
  | n :: ns => .cons (.int n) (ints_dps ns)
end
/-- ** with a base of any size within the line -/
def CPowW (i j : Int) : Prop := 0 ≤ j ∧ j ≤ 3 ∧ i.natAbs < 2 ^ 1000000
section
variable {X : Cx}
theorem op_powW : OpR X (binaryOp .Pow) (rI CPowW fun i j => .int (i ^ j.toNat)) := opI fun i j _ _ _ _ _ hc q => by
  obtain ⟨h0, h3, hb⟩ := hc
  refine pow_int h0 ?_ q
  have b : Builtin.Int.intBits i ≤ i.natAbs.log2 + 1 := by
    unfold Builtin.Int.intBits
    split <;> omega
  have l : i.natAbs.log2 < 1000000 := PySem.Flt.log2_lt_of (by decide) hb
  have c : (Builtin.Int.intBits i : Int) ≤ 1000000 := by omega
  have c0 : (0 : Int) ≤ (Builtin.Int.intBits i : Int) := Int.natCast_nonneg _
  calc (Builtin.Int.intBits i : Int) * j ≤ 1000000 * 3 := Int.mul_le_mul c h3 h0 (by decide)
    _ ≤ 2 ^ 27 := by decide
end
end Fr

namespace Fr
open PySem PySem.Spec PyProof.Rows L2
theorem same_refl {H : Hp} : Same H H := fun _ _ h => h
theorem same_tr {A B C : Hp} (a : Same A B) (b : Same B C) : Same A C := fun x o h => b x o (a x o h)
theorem yat_same {xs : List V} {i : Nat} {H : Hp} {x : V} {H' : Hp} (y : YAt xs i H x H') : Same H H' := by
  obtain ⟨rfl, _⟩ := y
  exact same_refl
theorem ypair_same {xs ys : Nat → Option V} {i : Nat} {H : Hp} {x : V} {H' : Hp} (y : YPair xs ys i H x H') : Same H H' := by
  obtain ⟨T, _, _, _, n, rfl, _⟩ := y
  exact snew n
theorem free_of {H H' : Hp} {p : Addr} (e : Same H H') (h : H' p = none) : H p = none := Same.free e h
theorem get_range {n i : Nat} (h : i < n) : (List.range n)[i]? = some i := by simp [h]
/-- a comprehension whose elements are told by the turn -/
theorem lc_flat {J : It} {n : Nat} {G : Hp → Prop} {Y : Nat → Hp → V → Hp → Prop} (w : Walk J n G Y) {g : TG} {te : TE} {vs : List Nat} {σ : L2.St} {H1 : Hp} {D : Addr} {Qd : Hp → Prop} (f : Nat → V) (hn : n ≤ 1000000) (hD : H1 D = none) (hG : ∀ H, Same H1 H → G H)
    (hY : ∀ i H x H', Y i H x H' → Same H H')
    (hs : ∀ i x H H', i < n → Same H1 H → Y i H x H' → ∀ R : V → Hp → Prop, (∀ H4, Same H' H4 → R (f i) H4) → g x (wipe σ vs) H' fun σ2 H2 => wipe σ2 vs = wipe σ vs ∧ te σ2 H2 R)
    (hd : ∀ H, Same H1 H → H D = some (.lst ((List.range n).map f)) → Qd H) :
    ∃ W : Nat → Nat → Hp → Prop, (∃ m, W 0 m (upd H1 D (.lst []))) ∧ ∀ i m H, W i m H →
      (J.stop i H ∧ Qd H) ∨ (J.go i H ∧ ∃ Nx : Hp → Prop, (∀ H', Nx H' → ∃ m', m' < m ∧ W (i + 1) m' H') ∧ ∀ x H', J.yld i H x H' → g x (wipe σ vs) H' fun σ2 H2 => wipe σ2 vs = wipe σ vs ∧ tYes σ2 H2 fun b H3 =>
        if b = true then te σ2 H3 fun y H4 => ∃ acc, H4 D = some (.lst acc) ∧ acc.length < sizeLine ∧ Nx (upd H4 D (.lst (acc ++ [y]))) else Nx H3) := by
  refine lc_it w (fun i H => Same H1 H ∧ H D = some (.lst ((List.range i).map f))) ⟨snew hD, upd_same⟩ (fun i H _ p => hG H p.1) (fun i x H H' hi p y => ?_) fun H p => hd H p.1 p.2
  have sm := hY i H x H' y
  refine hs i x H H' hi p.1 y _ fun H4 s4 => ⟨_, s4 _ _ (sm _ _ p.2), ?_, ?_, ?_⟩
  · rw [List.length_map, List.length_range]
    exact Nat.lt_of_lt_of_le (by omega : i < 1000001) (by rw [sizeLine_eq]; decide)
  · exact smut (same_tr p.1 (same_tr sm s4)) hD
  · rw [upd_same, List.range_succ, List.map_append]
    rfl
/-- a property that may be read by its name -/
structure Prp (P : Program) (w : World) (K : PySem.W.Frag) (mg : Str → Option Value) (base : Heap) (k : Nat) (C : Addr) (f : Str) (sp : Sp) : Prop where
  ex : ∃ (p g : Addr) (fd : FuncData) (ps : List Str), Cls K C ∧ PropOf K C f p g ∧ FnOk P w K mg base CX0 k g fd ps sp ∧ Binds K fd ps []
section
variable {X : Cx}
theorem pe_pr {k j : Nat} {C : Addr} {f : Str} {sp : Sp} {e : Expr} {pos : Pos} {ta : TE} (he : PE X e ta) (c : Prp X.prog X.w X.K X.mg X.base k C f sp) (hr : Room j X.A) (hk : k + 1 ≤ j) (hab : attributeBase e f X.env (eval e X.env) = eval e X.env) :
    PE X (.Attribute e f pos) (tProp C sp [] E0 ta) := by
  obtain ⟨p, g, fd, ps, hc, hp, F, hb⟩ := c.ex
  exact pe_prop he hc hp F (hr.mono hk) hb .nil pass0 hab
theorem _root_.L2.Room.units1 {k : Nat} {A : Around} (r : Room k A) : A.units + 65 < cLine := by
  have := r.un
  omega
end
def rTupS (K : PySem.W.Frag) : List V → Hp → VK → Prop := fun xs H Q => ∃ p ys, xs = [.ref p] ∧ ((SqL K H p ys ∧ ∀ l, H l = none → Q (.ref l) (upd H l (.tup ys))) ∨ (SqT K H p ys ∧ Q (.ref p) H))
end Fr

namespace Fr
open PySem PySem.Spec PyProof.Rows L2
def topS (i : Nat) : Stmt := PySem.Challenge.pw_farreads_k66_errors_made.main.body.getD i (.Pass ⟨0, 0, 0, 0⟩)
abbrev s_Lbag : Stmt := topS 15
theorem sc_Lbag : FnScope ["_law_script", "_law_blend", "_law_great", "_law_cell"] ["_law_script"] (defScope s_Lbag) := ⟨rfl, rfl, rfl, by decide +kernel, rfl, by decide +kernel, by decide +kernel⟩
-- slots: 0 _law_script, 1 _law_blend, 2 _law_great, 3 _law_cell
abbrev s_Ldraw : Stmt := topS 16
theorem sc_Ldraw : FnScope ["_law_bag_here", "_law_many", "_law_drawn", "_law_turn", "_law_mixed"] ["_law_bag_here", "_law_many"] (defScope s_Ldraw) := ⟨rfl, rfl, rfl, by decide +kernel, rfl, by decide +kernel, by decide +kernel⟩
-- slots: 0 _law_bag_here, 1 _law_many, 2 _law_drawn, 3 _law_turn, 4 _law_mixed
structure Txt (mg : Str → Option Value) : Prop where
  b_len : mg "len" = none
  b_abs : mg "abs" = none
  b_min : mg "min" = none
  b_range : mg "range" = none
def bagL (g : Addr) (l t b : Int) : List (Key × V) := [(Sum.inr "great", .ref g), (Sum.inr "left", .int l), (Sum.inr "turn", .int t), (Sum.inr "blend", .int b)]
theorem nGL : ¬ (("great" : Str) = "left") := by decide +kernel
theorem nGT : ¬ (("great" : Str) = "turn") := by decide +kernel
theorem nGB : ¬ (("great" : Str) = "blend") := by decide +kernel
theorem nLT : ¬ (("left" : Str) = "turn") := by decide +kernel
theorem nLB : ¬ (("left" : Str) = "blend") := by decide +kernel
theorem nTB : ¬ (("turn" : Str) = "blend") := by decide +kernel
theorem inr_ne {a b : Str} (h : ¬ a = b) : ¬ ((Sum.inr a : Key) = Sum.inr b) := fun e => h (Sum.inr.inj e)
section
variable {g : Addr} {l t b : Int}
theorem bag_great : valV (bagL g l t b) (Sum.inr ("great" : Str)) = some (.ref g) := valV_pos rfl
theorem bag_left : valV (bagL g l t b) (Sum.inr ("left" : Str)) = some (.int l) := (valV_neg (inr_ne nGL)).trans (valV_pos rfl)
theorem bag_turn : valV (bagL g l t b) (Sum.inr ("turn" : Str)) = some (.int t) := (valV_neg (inr_ne nGT)).trans ((valV_neg (inr_ne nLT)).trans (valV_pos rfl))
theorem bag_blend : valV (bagL g l t b) (Sum.inr ("blend" : Str)) = some (.int b) := (valV_neg (inr_ne nGB)).trans ((valV_neg (inr_ne nLB)).trans ((valV_neg (inr_ne nTB)).trans (valV_pos rfl)))
theorem bag_putL {x : Int} : putK (bagL g l t b) (Sum.inr ("left" : Str)) (.int x) = bagL g x t b := by
  unfold putK
  rw [if_pos (by rw [valV_any, bag_left]; rfl)]
  unfold bagL
  rw [List.map_cons, List.map_cons, List.map_cons, List.map_cons, if_neg (inr_ne nGL), if_pos rfl, if_neg (inr_ne fun e => nLT e.symm), if_neg (inr_ne fun e => nLB e.symm)]
  rfl
theorem bag_putT {x : Int} : putK (bagL g l t b) (Sum.inr ("turn" : Str)) (.int x) = bagL g l x b := by
  unfold putK
  rw [if_pos (by rw [valV_any, bag_turn]; rfl)]
  unfold bagL
  rw [List.map_cons, List.map_cons, List.map_cons, List.map_cons, if_neg (inr_ne nGT), if_neg (inr_ne nLT), if_pos rfl, if_neg (inr_ne fun e => nTB e.symm)]
  rfl
theorem bag_merge {x y z : V} {g : Addr} : mergeK [] [(Sum.inr ("great" : Str), V.ref g), (Sum.inr ("left" : Str), x), (Sum.inr ("turn" : Str), y), (Sum.inr ("blend" : Str), z)] = [(Sum.inr ("great" : Str), V.ref g), (Sum.inr ("left" : Str), x), (Sum.inr ("turn" : Str), y), (Sum.inr ("blend" : Str), z)] := by
  have h1 : putK ([] : List (Key × V)) (Sum.inr ("great" : Str)) (V.ref g) = [(Sum.inr ("great" : Str), V.ref g)] := putK_new _ rfl
  have h2 : putK [(Sum.inr ("great" : Str), V.ref g)] (Sum.inr ("left" : Str)) x = [(Sum.inr ("great" : Str), V.ref g), (Sum.inr ("left" : Str), x)] := putK_new _ (valV_neg (inr_ne nGL))
  have h3 : putK [(Sum.inr ("great" : Str), V.ref g), (Sum.inr ("left" : Str), x)] (Sum.inr ("turn" : Str)) y = [(Sum.inr ("great" : Str), V.ref g), (Sum.inr ("left" : Str), x), (Sum.inr ("turn" : Str), y)] := putK_new _ ((valV_neg (inr_ne nGT)).trans (valV_neg (inr_ne nLT)))
  have h4 : putK [(Sum.inr ("great" : Str), V.ref g), (Sum.inr ("left" : Str), x), (Sum.inr ("turn" : Str), y)] (Sum.inr ("blend" : Str)) z = [(Sum.inr ("great" : Str), V.ref g), (Sum.inr ("left" : Str), x), (Sum.inr ("turn" : Str), y), (Sum.inr ("blend" : Str), z)] := putK_new _ ((valV_neg (inr_ne nGB)).trans ((valV_neg (inr_ne nLB)).trans (valV_neg (inr_ne nTB))))
  unfold mergeK
  rw [List.foldl_cons, List.foldl_cons, List.foldl_cons, List.foldl_cons, List.foldl_nil]
  show putK (putK (putK (putK [] _ _) _ _) _ _) _ _ = _
  rw [h1, h2, h3, h4]
end
/-- a statement, up to what holds behind it -/
def tCsq (t : TS) : TS := fun D σ H => ∃ N : L2.St → Hp → Prop, (∀ σ H, N σ H → D.nx σ H) ∧ t { D with nx := N } σ H
theorem ps_csq {X : Cx} {st : Stmt} {t : TS} (h : PS X st t) : PS X st (tCsq t) := ⟨fun pins s σ H D I ⟨N, hN, q⟩ => thn (h.run pins s σ H _ I q) fun f s2 q2 => by
  cases f with
  | next =>
    obtain ⟨σ3, H3, I3, n3⟩ := q2
    exact ⟨σ3, H3, I3, hN _ _ n3⟩
  | cont => exact q2
  | brk => exact q2
  | ret v => exact q2⟩
/-- the bag at b, its list at g -/
structure BagOk (H : Hp) (b g : Addr) (m : Nat) : Prop where
  ex : ∃ (ns : List Int) (l t z : Int), H b = some (.dK (bagL g l t z)) ∧ H g = some (.lst (ns.map V.int)) ∧ 0 ≤ l ∧ (∀ n ∈ ns, 0 ≤ n) ∧ ns.length ≤ 1000 ∧ 0 ≤ t ∧ t ≤ m ∧ 0 ≤ z ∧ z < 2 ^ 61
structure DrB (b g : Addr) (m : Nat) (H H' : Hp) : Prop where
  ne : ∀ a, a ≠ b → a ≠ g → H' a = H a
  ok : BagOk H' b g m
section
variable {P : Program} {w : World} {K : PySem.W.Frag} {mg : Str → Option Value} {base : Heap}
def spBag (K : PySem.W.Frag) : Sp := fun vs H Q _ => ∃ (a : Addr) (ns : List Int), vs = [.ref a] ∧ SqL K H a (ns.map V.int) ∧ ns.length ≤ 63 ∧ ∀ b g H', H b = none → H g = none → Same H H' → BagOk H' b g 0 → Q (.ref b) H'
theorem pos18 : (0 : Int) < 10 ^ ((18 : Int).toNat) + 9 := by decide +kernel
theorem posM : (0 : Int) < 2305843009213693951 := by decide
theorem nat_lt_of {x : Int} {n : Nat} (h0 : 0 ≤ x) (h : x < 2 ^ n) : x.natAbs < 2 ^ n := by
  have e : (x.natAbs : Int) = x := Int.natAbs_of_nonneg h0
  have h' : (x.natAbs : Int) < ((2 ^ n : Nat) : Int) := by
    rw [e]
    push_cast
    exact h
  exact Int.ofNat_lt.mp h'
theorem smut2 {B H : Hp} {p : Addr} {o : HO} (e : Same B H) (n : B p = none) : Same B (upd H p o) := fun c u h => by
  rw [upd_ne (ne_of_none h n)]
  exact e c u h
theorem ok_bag {f : Addr} {fd : FuncData} (F : Fun K "_law_bag" "_law_bag" s_Lbag f fd) (T : Txt mg) : FnOk P w K mg base CX0 1 f fd ["_law_script"] (spBag K) := by
  refine F.ok sc_Lbag (fun vs H Q E h => ?_) (fun cdv A outer sh H vs Q E hr h => ?_)
  · obtain ⟨a, ns, rfl, _⟩ := h
    rfl
  · obtain ⟨a, ns, rfl, ha, hl, q⟩ := h
    refine ⟨_, (pss_cons (ps_par (i := 1) (j := 2) (by rfl) sc_Lbag.nd rfl rfl (by decide) rfl rfl (pa_cons pe_int (pa_cons (pe_lst pa_nil) pa_nil)) (by rfl))
  (pss_cons (ps_for PassesOwn.never rfl (pi_list (pv 0)) (pg_name (i := 3) sc_Lbag.nd rfl (by first | exact Or.inl rfl | exact Or.inr rfl))
    (pss_cons (ps_set (i := 1) sc_Lbag.nd rfl (by first | exact Or.inl rfl | exact Or.inr rfl) (pe_op op_mod (pe_op op_add (pe_op op_mulW (pv 1) pe_int) (pv 3)) pe_int))
    (pss_one (ps_if (pt_cmpR op_ge (pe_callB call_abs (by rfl) T.b_abs (by decide +kernel) (pa_cons (pv 3) pa_nil)) (pe_op op_pow pe_int pe_int) (nomark _))
      (pss_one (ps_expr (pe_bm PySem.F.plainAttrs_list PySem.F.slot_list_append PySem.F.type_list_append mt_append (pv 2) (pa_cons (pe_callB call_abs (by rfl) T.b_abs (by decide +kernel) (pa_cons (pv 3) pa_nil)) pa_nil))))
      pss_nil))))
  (pss_one (ps_ret (pe_disp (pps_cons pe_str (pv 2) (pps_cons pe_str pe_int (pps_cons pe_str pe_int (pps_cons pe_str (pv 1) pps_nil)))) (by rfl) (by rfl) (fun z => by cases z) (by decide)))))), ?_⟩
    refine ⟨Nat.zero_le _, fun g hg => ⟨_, _, rfl, ?_⟩⟩
    refine ⟨_, rfl, a, rfl, ⟨_, sql (snew hg) ha⟩, for_it (walk_list (K := K) (a := a) (xs := ns.map V.int)) (fun i σ H' => ∃ (z : Int) (y3 : Option V) (gs : List Int), σ = [some (.ref a), some (.int z), some (.ref g), y3] ∧ 0 ≤ z ∧ z < 2 ^ 61 ∧ H' g = some (.lst (gs.map V.int)) ∧ (∀ n ∈ gs, 0 ≤ n) ∧ gs.length ≤ i ∧ Same H H')
      ⟨11, none, [], rfl, by decide, by decide, upd_same, (by intro n hn; cases hn), Nat.le_refl _, snew hg⟩ (fun i σ H' _ ⟨_, _, _, _, _, _, _, _, _, s⟩ => sql s ha) ?_ ?_⟩
    · rintro i y σ _ H2 hi ⟨z, y3, gs, rfl, z0, z1, hgs, g0, gl, s⟩ ⟨rfl, hy⟩
      rw [List.getElem?_map] at hy
      obtain ⟨n, hn, rfl⟩ := Option.map_eq_some_iff.mp hy
      rw [List.length_map] at hi
      refine ⟨_, rfl, z, 1000003, rfl, rfl, wide_mul (a := 61) (b := 100) (nat_lt_of z0 z1) (by decide) (by decide) (by decide) (by decide), _, rfl, _, _, rfl, rfl, _, _, rfl, rfl, posM, ?_⟩
      refine ⟨_, rfl, n, rfl, 10, 18, rfl, rfl, ⟨by decide, by decide, by decide⟩, _, _, rfl, rfl, _, rfl, ?_⟩
      have e0 := Int.emod_nonneg (z * 1000003 + n) (Int.ne_of_gt posM)
      have e1 : (z * 1000003 + n) % 2305843009213693951 < 2 ^ 61 := Int.lt_trans (Int.emod_lt_of_pos _ posM) (by decide)
      refine ite2 (fun _ => ?_) (fun _ => ?_)
      · refine ⟨_, rfl, Or.inl ⟨rfl, _, Or.inl (Or.inl hgs)⟩, _, rfl, n, rfl, g, _, _, rfl, rfl, hgs, small1000 (by rw [List.length_map]; omega), ?_⟩
        refine ⟨_, _, gs ++ [if n < 0 then -n else n], rfl, e0, e1, by rw [upd_same, List.map_append]; rfl, ?_, by rw [List.length_append]; show gs.length + 1 ≤ _; omega, smut2 s hg⟩
        intro x hx
        rcases List.mem_append.mp hx with h | h
        · exact g0 x h
        · rw [List.mem_singleton.mp h]
          split <;> omega
      · exact ⟨_, _, gs, rfl, e0, e1, hgs, g0, by omega, s⟩
    · rintro σ H2 ⟨z, y3, gs, rfl, z0, z1, hgs, g0, gl, s⟩
      rw [List.length_map] at gl
      refine fun b hb => ⟨_, rfl, _, rfl, ?_⟩
      refine ⟨upd_same, [(Sum.inr ("great" : Str), .ref g), (Sum.inr ("left" : Str), .int 0), (Sum.inr ("turn" : Str), .int 0), (Sum.inr ("blend" : Str), .int z)], rfl, by show 4 ≤ 15; decide, ?_⟩
      rw [bag_merge]
      have ngb : g ≠ b := ne_of_none hgs hb
      refine q b g _ (free_of s hb) hg (smut2 (same_tr s (snew hb)) (free_of s hb)) ⟨gs, 0, 0, z, upd_same, ?_, by decide, g0, by omega, by decide, by decide, z0, z1⟩
      rw [upd_ne ngb, upd_ne ngb]
      exact hgs
def spDraw : Sp := fun vs H Q _ => ∃ (b g : Addr) (lim : Int) (m : Nat), vs = [.ref b, .int lim] ∧ BagOk H b g m ∧ m ≤ 2 ^ 60 ∧ 0 < lim ∧ lim.natAbs < 2 ^ 200 ∧ ∀ d H', 0 ≤ d → d < lim → DrB b g (m + 1) H H' → Q (.int d) H'
theorem ok_draw {f : Addr} {fd : FuncData} (F : Fun K "_law_draw" "_law_draw" s_Ldraw f fd) (T : Txt mg) : FnOk P w K mg base CX0 1 f fd ["_law_bag_here", "_law_many"] spDraw := by
  refine F.ok sc_Ldraw (fun vs H Q E h => ?_) (fun cdv A outer sh H vs Q E hr h => ?_)
  · obtain ⟨b, g, lim, m, rfl, _⟩ := h
    rfl
  · obtain ⟨b, g, lim, m, rfl, BO, hm, l0, l1, q⟩ := h
    have hu := hu_of hr
    refine ⟨_, (pss_cons (ps_csq (ps_if (PW.pt (pw_and (pt_cmpR op_lt (pe_dget hu (pv 0) pe_str (fun _ _ => rfl)) (pv 1) (nomark _)) (pw_and1 (pt_cmpR op_gt (pe_callB call_len_seq (by rfl) T.b_len PySem.boot_len (pa_cons (pe_dget hu (pv 0) pe_str (fun _ _ => rfl)) pa_nil)) pe_int (nomark _)))))
    (pss_one (ps_dput hu (pv 0) pe_str (pe_bm PySem.F.plainAttrs_list PySem.F.slot_list_pop PySem.F.type_list_pop mt_popAt (pe_dget hu (pv 0) pe_str (fun _ _ => rfl)) (pa_cons pe_int pa_nil)) rfl))
    pss_nil))
  (pss_cons (ps_if (pt_cmpR op_ge (pe_dget hu (pv 0) pe_str (fun _ _ => rfl)) (pv 1) (nomark _))
    (pss_cons (ps_set (i := 2) sc_Ldraw.nd rfl (by first | exact Or.inl rfl | exact Or.inr rfl) (pe_op op_mod (pe_dget hu (pv 0) pe_str (fun _ _ => rfl)) (pv 1)))
    (pss_cons (ps_dput hu (pv 0) pe_str (pe_op op_fdivW (pe_dget hu (pv 0) pe_str (fun _ _ => rfl)) (pv 1)) rfl)
    (pss_one (ps_ret (pv 2)))))
    pss_nil)
  (pss_cons (ps_daug hu (pv 0) pe_str pe_int in_add (fun _ _ _ => rfl))
  (pss_cons (ps_set (i := 3) sc_Ldraw.nd rfl (by first | exact Or.inl rfl | exact Or.inr rfl) (pe_dget hu (pv 0) pe_str (fun _ _ => rfl)))
  (pss_cons (ps_set (i := 4) sc_Ldraw.nd rfl (by first | exact Or.inl rfl | exact Or.inr rfl) (pe_op op_add (pe_op op_mulW (pe_op op_add (pe_dget hu (pv 0) pe_str (fun _ _ => rfl)) (pe_op op_mulW pe_int (pv 3))) (pe_op op_powW (pe_op op_add (pv 3) pe_int) pe_int)) (pe_op op_mulW pe_int (pv 3))))
  (pss_one (ps_ret (pe_op op_mod (pe_op op_fdivW (pe_op op_mod (pe_op op_powW (pe_op op_mod (pv 4) pe_int) pe_int) (pe_op op_add (pe_op op_pow pe_int pe_int) pe_int)) pe_int) (pv 1))))))))), ?_⟩
    have ngb : g ≠ b := by
      obtain ⟨ns, l, t, z, hb, hg, _⟩ := BO.ex
      intro e
      rw [e, hb] at hg
      cases hg
    -- up to a left, whatever the first if does
    refine ⟨fun σ H' => σ = [some (.ref b), some (.int lim), none, none, none] ∧ DrB b g m H H', ?_, ?_⟩
    · rintro σ H2 ⟨rfl, D⟩
      obtain ⟨ns, l, t, z, hb, hg, n0, n1, n2, t0, t1, z0, z1⟩ := D.ok.ex
      have hgl := DGet.k (k := Sum.inr ("left" : Str)) hb
      rw [bag_left] at hgl
      refine ⟨_, rfl, b, .int l, rfl, hgl, _, rfl, l, lim, rfl, rfl, decide (lim ≤ l), rfl, ?_⟩
      refine ite2 (fun _ => ?_) (fun _ => ?_)
      · refine ⟨_, rfl, b, .int l, rfl, hgl, _, rfl, l, lim, rfl, rfl, l0, ?_⟩
        refine ⟨_, rfl, b, .int l, rfl, hgl, _, rfl, l, lim, rfl, rfl, wide_div l0 l1 (by decide) (by decide), _, rfl, b, _, rfl, DPut.k (k := Sum.inr ("left" : Str)) hb (by show 4 < sizeLine; decide), ?_⟩
        rw [bag_putL]
        refine ⟨_, rfl, q _ _ (Int.emod_nonneg _ (Int.ne_of_gt l0)) (Int.emod_lt_of_pos _ l0) ⟨fun a h1 h2 => by rw [upd_ne h1]; exact D.ne a h1 h2, ns, _, t, z, upd_same, by rw [upd_ne ngb]; exact hg, Int.ediv_nonneg n0 (Int.le_of_lt l0), n1, n2, t0, by omega, z0, z1⟩⟩
      · have hgt := DGet.k (k := Sum.inr ("turn" : Str)) hb
        rw [bag_turn] at hgt
        refine ⟨_, rfl, b, .int t, rfl, hgt, t, 1, rfl, rfl, _, DPut.k (k := Sum.inr ("turn" : Str)) hb (by show 4 < sizeLine; decide), ?_⟩
        rw [bag_putT]
        have hb2 : (upd H2 b (.dK (bagL g l (t + 1) z))) b = some (.dK (bagL g l (t + 1) z)) := upd_same
        have D2 : DrB b g (m + 1) H (upd H2 b (.dK (bagL g l (t + 1) z))) := ⟨fun a h1 h2 => by rw [upd_ne h1]; exact D.ne a h1 h2, ns, l, t + 1, z, upd_same, by rw [upd_ne ngb]; exact hg, n0, n1, n2, by omega, by omega, z0, z1⟩
        generalize upd H2 b (.dK (bagL g l (t + 1) z)) = H3 at hb2 D2 ⊢
        have hgt3 := DGet.k (k := Sum.inr ("turn" : Str)) hb2
        rw [bag_turn] at hgt3
        have hgb3 := DGet.k (k := Sum.inr ("blend" : Str)) hb2
        rw [bag_blend] at hgb3
        have w0 : (t + 1 + 29).natAbs < 2 ^ 1000000 := Nat.lt_of_lt_of_le (m := 2 ^ 100) (by omega) (Nat.pow_le_pow_right (by decide) (by decide))
        have w3 : (t + 1 + 29).natAbs < 2 ^ 100 := by omega
        have w4 : ((t + 1 + 29) ^ ((2 : Int).toNat)).natAbs < 2 ^ 200 := by
          rw [show (2 : Int).toNat = 2 from rfl, Int.pow_succ, Int.pow_succ, Int.pow_zero, Int.one_mul]
          exact wide_lt (a := 100) (b := 100) w3 w3
        refine ⟨_, rfl, b, .int (t + 1), rfl, hgt3, ?_⟩
        refine ⟨_, rfl, b, .int z, rfl, hgb3, _, rfl, 17, _, rfl, rfl, wide_mul (a := 100) (b := 100) (by decide) (by omega) (by decide) (by decide) (by decide), _, _, rfl, rfl, _, rfl, _, _, rfl, rfl, _, 2, rfl, rfl, ⟨by decide, by decide, w0⟩, _, _, rfl, rfl, wide_mul (a := 200) (b := 200) (by omega) w4 (by decide) (by decide) (by decide), _, rfl, 7919, _, rfl, rfl, wide_mul (a := 100) (b := 100) (by decide) (by omega) (by decide) (by decide) (by decide), _, _, rfl, rfl, ?_⟩
        have w5 : ∀ mx : Int, (mx % 2305843009213693951).natAbs < 2 ^ 1000000 := fun mx => by
          have x0 := Int.emod_nonneg mx (Int.ne_of_gt posM)
          have x1 := Int.emod_lt_of_pos mx posM
          exact Nat.lt_of_lt_of_le (m := 2 ^ 100) (by omega) (Nat.pow_le_pow_right (by decide) (by decide))
        refine ⟨_, rfl, _, _, rfl, rfl, posM, _, 3, rfl, rfl, ⟨by decide, by decide, w5 _⟩, 10, 18, rfl, rfl, ⟨by decide, by decide, by decide⟩, _, _, rfl, rfl, _, _, rfl, rfl, pos18, _, _, rfl, rfl, wide_div (b := 100) (by decide) (by decide) (by decide) (by decide), _, rfl, _, lim, rfl, rfl, l0, ?_⟩
        exact q _ _ (Int.emod_nonneg _ (Int.ne_of_gt l0)) (Int.emod_lt_of_pos _ l0) D2
    · obtain ⟨ns, l, t, z, hb, hg, n0, n1, n2, t0, t1, z0, z1⟩ := BO.ex
      have hgl := DGet.k (k := Sum.inr ("left" : Str)) hb
      rw [bag_left] at hgl
      have hgg := DGet.k (k := Sum.inr ("great" : Str)) hb
      rw [bag_great] at hgg
      refine ⟨_, rfl, b, .int l, rfl, hgl, _, rfl, l, lim, rfl, rfl, decide (l < lim), rfl, ?_⟩
      have D0 : DrB b g m H H := ⟨fun _ _ _ => rfl, BO⟩
      refine ite2 (fun _ => ?_) (fun _ => ?_)
      · refine ⟨_, rfl, b, .ref g, rfl, hgg, g, _, rfl, Or.inl (Or.inl (Or.inl hg)), _, 0, rfl, rfl, _, rfl, ?_⟩
        refine ite2 (fun h0 => ?_) (fun _ => ?_)
        · have h0 := of_decide_eq_true h0
          cases ns with
          | nil => exact absurd h0 (by decide)
          | cons n ns =>
            refine ⟨_, rfl, b, .ref g, rfl, hgg, Or.inl ⟨rfl, _, Or.inl (Or.inl hg)⟩, g, _, 0, 0, .int n, rfl, rfl, hg, by decide, by decide, ?_, rfl, ?_⟩
            · show seqIndex? 0 (List.map V.int ns).length.succ = some 0
              unfold seqIndex?
              simp
            · have nbg : b ≠ g := ngb.symm
              refine ⟨_, rfl, b, _, rfl, DPut.k (k := Sum.inr ("left" : Str)) (kvs := bagL g l t z) (by rw [upd_ne nbg]; exact hb) (by show 4 < sizeLine; decide), ?_⟩
              rw [bag_putL]
              refine ⟨rfl, fun a h1 h2 => by rw [upd_ne h1, upd_ne h2], ns, n, t, z, upd_same, ?_, n1 n List.mem_cons_self, fun x hx => n1 x (List.mem_cons_of_mem _ hx), by rw [List.length_cons] at n2; omega, t0, t1, z0, z1⟩
              rw [upd_ne ngb, upd_same]
              rfl
        · exact ⟨rfl, D0⟩
      · exact ⟨rfl, D0⟩
end
end Fr

namespace Fr
open PySem PySem.Spec PyProof.Rows L2
/-- room, and nothing under repr -/
structure RoomG (k : Nat) (A : Around) : Prop where
  room : Room k A
  free : A.guards = some []
structure FnG (P : Program) (w : World) (K : PySem.W.Frag) (mg : Str → Option Value) (base : Heap) (k : Nat) (f : Addr) (fd : FuncData) (ps : List Str) (sp : Sp) : Prop where
  len : ∀ vs H Q E, sp vs H Q E → vs.length = ps.length
  go : ∀ (A : Around) (outer : List Env) (s : Shared) (H : Hp) (args : Args) (us : List Value) (vs : List V) (Q : VK) (E : XK), RoomG k A → Env0 P w K mg base A outer s H → BindsTo s fd args (ps.zip us) → Vals vs us → sp vs H Q E → codeAny (model P w) A (.call (.ref f) args) (CR CX0 outer P w H s Q E) s
section
variable {P : Program} {w : World} {K : PySem.W.Frag} {mg : Str → Option Value} {base : Heap}
/-- a def by its body -/
theorem fnG_of {k : Nat} {f : Addr} {x qual : Str} {pa : Arguments} {body : List Stmt} {sc : Scope} {dV kV doc pm cd ct oc : Value} {an od : Option Addr} {osl : Array (Option Value)} {N ps : List Str} {sp : Sp}
    (lk : K.lookup f = some ⟨oc, od, .func (PySem.W.fnOf x qual pa body sc dV kV doc pm an cd ct), osl⟩) (hcd : PySem.W.codeIn K cd qual = true) (S : FnScope N ps sc) (len : ∀ vs H Q E, sp vs H Q E → vs.length = ps.length)
    (hb : ∀ (A : Around) (outer : List Env) (s : Shared) (H : Hp) (vs : List V) (Q : VK) (E : XK), RoomG k (A.deeper (envOfC qual sc s.heap.objs.size f cd)) → sp vs H Q E → ∃ t, PSs (cxOf CX0 P w K mg base N qual sc f cd A outer s H E) body t ∧ t { nx := fun _ H' => Q .non H', rt := Q } (start N vs) H) :
    FnG P w K mg base (k + 1) f (PySem.W.fnOf x qual pa body sc dV kV doc pm an cd ct) ps sp where
  len := len
  go A outer s H args us vs Q E hr e0 bt rv hq := by
    have h1 : vs.length = ps.length := len _ _ _ _ hq
    have inK : K.In s.heap := e0.mod.kin.keeps fun b o z => (e0.bs b o z).1
    have noL : s.heap.NoLimit := e0.mod.nolimit.keeps fun b o z => (e0.bs b o z).1
    have kinds : ∀ y ∈ ps.zip us, sc.names.lookup y.1 = some .local ∨ (sc.names.lookup y.1 = some .cell ∧ ((cellsFrom (s.heap.objs.size + 1) sc.names []).lookup y.1).isSome = true) := by
      intro y hy
      obtain ⟨n, v⟩ := y
      cases S.par n (List.of_mem_zip hy).1 with
      | inl z => exact Or.inl z
      | inr z => exact Or.inr ⟨z, PySem.W.cellsFrom_some _ _ _ (Or.inl z)⟩
    refine codeAny_call_function hr.room.depth (inK _ _ lk) rfl S.co S.gen rfl (PySem.W.codeRec_of inK hcd) (bt _ _ _ _ (wpAny_newFunctionEnv_cells S.kind kinds ?_))
    rintro _ rfl s1 ic
    refine ⟨noL.keeps ic.toInCall.keep, codeAny_func ?_⟩
    obtain ⟨t, pt, ht⟩ := hb A outer s H vs Q E ⟨hr.room.deeper _, hr.free⟩ hq
    have I0 := inv_start (CX := CX0) (E := E) S hr.room.hd e0 h1 rv ic
    refine wpAny_mono (pt.run [] s1 (start N vs) H _ I0 ht) (fun fl s2 z => ?_) fun _ _ z => z
    cases fl with
    | next =>
      obtain ⟨_, H2, J, q⟩ := z
      exact ⟨V.non, H2, J.os, J.bare, J.base, J.hok, rfl, q⟩
    | ret u =>
      obtain ⟨v, _, H2, J, ru, q⟩ := z
      exact ⟨v, H2, J.os, J.bare, J.base, J.hok, ru, q⟩
    | brk => exact z.elim fun _ z => z.elim fun _ z => z.2.elim
    | cont => exact z.elim fun _ z => z.elim fun _ z => z.2.elim
theorem Fun_okG {x qual : Str} {st : Stmt} {f : Addr} {fd : FuncData} {N ps : List Str} {k : Nat} {sp : Sp} (F : Fun K x qual st f fd) (S : FnScope N ps (defScope st)) (len : ∀ vs H Q E, sp vs H Q E → vs.length = ps.length)
    (hb : ∀ (cd : Value) (A : Around) (outer : List Env) (s : Shared) (H : Hp) (vs : List V) (Q : VK) (E : XK), RoomG k (A.deeper (envOfC qual (defScope st) s.heap.objs.size f cd)) → sp vs H Q E →
      ∃ t, PSs (cxOf CX0 P w K mg base N qual (defScope st) f cd A outer s H E).nox (defBody st) t ∧ t { nx := fun _ H' => Q .non H', rt := Q } (start N vs) H) : FnG P w K mg base (k + 1) f fd ps sp := by
  obtain ⟨oc, od, kV, doc, pm, an, cd, ct, osl, rfl, lk, hcd⟩ := F.ex
  refine fnG_of lk hcd S len fun A outer s H vs Q E hr hq => ?_
  obtain ⟨t, pt, ht⟩ := hb cd A outer s H vs Q E hr hq
  exact ⟨t, pt.nox, ht⟩
/-- a def of this kind that may be called by its name -/
structure CalG (P : Program) (w : World) (K : PySem.W.Frag) (mg : Str → Option Value) (base : Heap) (k : Nat) (x : Str) (sp : Sp) : Prop where
  ex : ∃ (f : Addr) (fd : FuncData) (ps : List Str), FnG P w K mg base k f fd ps sp ∧ mg x = some (.ref f) ∧ PySem.W.keepIn K (.ref f) = true ∧ Binds K fd ps []
end
section
variable {X : Cx} {k j : Nat} {x : Str} {sp : Sp} {p pos : Pos} {e : Expr} {es : List Expr} {t : TA}
theorem pe_cG (c : CalG X.prog X.w X.K X.mg X.base k x sp) (hr : RoomG j X.A) (hk : k ≤ j) (hg : Gl X x) (ha : PA X (e :: es) t) (hdb : (x == ("__debug__" : Str)) = false := by decide)
    (he : starEach (e :: es) X.env = (false, eval e X.env) :: starEach es X.env := by rfl) (hpl : (backTo pos (starEach es X.env)).any (·.1) = false := by rfl) : PE X (.Call (.Name x p) (e :: es) [] pos) (tCall sp [] C8.E0 t) := by
  obtain ⟨f, fd, ps, F, hm, kp, hb⟩ := c.ex
  constructor
  intro pins s σ H Q I h
  refine wpAny_Call_Name_kw (ld_glob I hg hm (PySem.W.callWith_K (h₀ := X.base) I.ok.mod.kin kp (thn (ha.run pos pins s σ H _ I h) ?_) he hpl) hdb)
  rintro us s1 ⟨vs, H1, I1, r, q⟩
  refine ⟨I1.kIn, wpAny_call ?_⟩
  have r2 : Vals (vs ++ []) (us ++ []) := r.append .nil
  have hl : (us ++ ([] : List Value)).length = ps.length := r2.length.symm.trans (F.len _ _ _ _ q)
  refine codeAny_mono (F.go X.A X.stack s1 H1 ⟨us, []⟩ (us ++ []) (vs ++ []) Q C8.E0 ⟨hr.room.mono hk, hr.free⟩ I1.env0 (hb s1 us I1.kIn hl) r2 q) fun rs s2 z => ?_
  match rs, z with
  | .error er, z => exact pass0 (X := X) pins σ H1 s1 er s2 I1 z
  | .ok (.ret u), z => exact I1.after z
  | .ok .next, z => exact z.elim
  | .ok .brk, z => exact z.elim
  | .ok .cont, z => exact z.elim
/-- repr(e), e plain data -/
def rReprD (K : PySem.W.Frag) : List V → Hp → VK → Prop := fun xs H Q => ∃ (v : V) (d : PyData), xs = [v] ∧ Dp K H v d ∧ d.canLay0 = true ∧ d.showable = true ∧ d.depth ≤ 60 ∧ ((∃ i, d = .int i) ∨ d.shown.length ≤ sizeLine) ∧ Q (.str d.shown) H
theorem call_reprD (hg : X.A.guards = some []) (hu : X.A.units + 65 < cLine) : CallR X (.builtin "repr") (rReprD X.K) := by
  intro pins s σ H xs us Q I r h
  obtain ⟨v, d, rfl, hd, hc, hs, h6, hz, q⟩ := h
  obtain ⟨u, rfl, ru⟩ := vals1 r
  obtain ⟨as, rd⟩ := Dp.reads I d v u hd ru
  cases hd with
  | non =>
    cases (show u = Value.none from ru)
    simp only [PyData.shown] at q hz
    exact P.repr_of_none ⟨.str _, H, I.tok _, ⟨_, rfl⟩, q⟩
  | bl b =>
    cases (show u = Value.bool b from ru)
    simp only [PyData.shown] at q hz
    refine P.repr_of_bool ⟨.str _, H, I.tok _, ⟨_, rfl⟩, ?_⟩
    cases b <;> exact q
  | int i =>
    obtain ⟨t, rfl⟩ := (show ∃ t, u = Value.int i t from ru)
    simp only [PyData.shown] at q hz
    simp only [PyData.showable] at hs
    exact P.repr_of_int (of_decide_eq_true hs) ⟨.str _, H, I.tok _, ⟨_, rfl⟩, q⟩
  | str y =>
    obtain ⟨t, rfl⟩ := (show ∃ t, u = Value.str y t from ru)
    simp only [PyData.shown] at q hz
    exact P.repr_of_str ⟨.str _, H, I.tok _, ⟨_, rfl⟩, q⟩ (hz.resolve_left fun ⟨_, z⟩ => by cases z)
  | lst hq ha =>
    cases (show u = Value.ref _ from ru)
    exact repr_of_reads' rd hs (PyData.noDict_hsm (PyData.hasDict_of_canLay _ hc)) hg (by omega) (fun _ _ z => z) (fun h' t tk k => ⟨.str _, H, I.kept k, ⟨_, rfl⟩, q⟩) (hz.resolve_left fun ⟨_, z⟩ => by cases z)
  | tup hq ha =>
    cases (show u = Value.ref _ from ru)
    exact repr_of_reads' rd hs (PyData.noDict_hsm (PyData.hasDict_of_canLay _ hc)) hg (by omega) (fun _ _ z => z) (fun h' t tk k => ⟨.str _, H, I.kept k, ⟨_, rfl⟩, q⟩) (hz.resolve_left fun ⟨_, z⟩ => by cases z)
end
end Fr

namespace Fr
open PySem PySem.Spec PyProof.Rows L2
section
variable {P : Program} {w : World} {K : PySem.W.Frag} {mg mb : Str → Option Value} {a : Addr} {cs : List (Addr × Addr)} {s : Shared} {vs : List Value} {ns : List Int}
/-- what is tracked when the law is called: the tables, and the script unless it is written down -/
structure Begin (K : PySem.W.Frag) (cs : List (Addr × Addr)) (a : Addr) (so : Obj) (ns : List Int) (H : Hp) : Prop where
  tab : ∀ p ∈ cs, H p.2 = some (.tbl #[])
  scr : SqL K H a (ns.map V.int)
  only : ∀ b u, H b = some u → (u = .tbl #[] ∧ ∃ p ∈ cs, p.2 = b) ∨ (b = a ∧ u = .frz so (.lst (ns.map V.int)) ∧ K.lookup a = none)
theorem begin_ex (inK : K.In s.heap) (ha : s.heap.get? a = some { cls := .type "list", data := .seq vs.toArray }) (hi : IntsAre vs ns) (hl : ns.length ≤ sizeLine) (hT : ∀ p ∈ cs, s.heap.get? p.2 = some { cls := .none, data := .fields #[] }) :
    ∃ H, Begin K cs a { cls := .type "list", data := .seq vs.toArray } ns H := by
  have na : ¬ ∃ p ∈ cs, p.2 = a := by
    rintro ⟨p, hp, e⟩
    have z := hT p hp
    rw [e, ha] at z
    have z2 : Data.seq vs.toArray _ = Data.fields #[] := congrArg Obj.data (Option.some.inj z)
    cases z2
  haveI : DecidablePred fun b => ∃ p ∈ cs, p.2 = b := fun b => Classical.propDecidable _
  refine ⟨fun b => if ∃ p ∈ cs, p.2 = b then some (.tbl #[]) else if b = a then (match K.lookup a with | none => some (.frz { cls := .type "list", data := .seq vs.toArray } (.lst (ns.map V.int))) | some _ => none) else none, ⟨fun p hp => if_pos ⟨p, hp, rfl⟩, ?_, ?_⟩⟩
  · cases hk : K.lookup a with
    | none =>
      refine .inl (.inr ⟨{ cls := .type "list", data := .seq vs.toArray }, ?_⟩)
      exact (if_neg na).trans (if_pos rfl)
    | some o =>
      have e := inK a o hk
      rw [ha] at e
      cases e
      exact .inr ⟨_, vs.toArray, _, hk, rfl, rfl, rfl, by rw [List.size_toArray, hi.length]; exact hl, by simpa using vals_ints hi⟩
  · intro b u h
    by_cases h1 : ∃ p ∈ cs, p.2 = b
    · rw [if_pos h1] at h
      cases h
      exact .inl ⟨rfl, h1⟩
    · rw [if_neg h1] at h
      by_cases h2 : b = a
      · rw [if_pos h2] at h
        cases hk : K.lookup a with
        | none =>
          rw [hk] at h
          cases h
          exact .inr ⟨h2, rfl, rfl⟩
        | some o =>
          rw [hk] at h
          cases h
      · rw [if_neg h2] at h
        cases h
theorem law_callG {k : Nat} {fa : Addr} {fd : FuncData} {x : Str} {sp : Sp} (inK : K.In s.heap) (hns : s.heap.Ns mainGlobals mg) (hb : s.heap.Ns builtinsNs mb) (hbb : ∀ x : Str, x ≠ "__name__" → mb x = bootBuiltins x) (hlim : s.heap.NoLimit) (hg : s.gens = #[])
    (hT : ∀ p ∈ cs, s.heap.get? p.2 = some { cls := .none, data := .fields #[] }) (nT : ∀ p ∈ cs, K.lookup p.2 = none) (hC : ∀ p ∈ cs, PySem.W.CodeHd s.heap p.1 p.2)
    (hbm : ∃ (bm : Addr) (ob : Obj), mg "__builtins__" = some (.ref bm) ∧ bm ≠ builtinsNs ∧ s.heap.get? bm = some ob ∧ ob.cls = .type "module" ∧ ob.dict = some builtinsNs ∧ ob.data = .plain)
    (ha : s.heap.get? a = some { cls := .type "list", data := .seq vs.toArray }) (hi : IntsAre vs ns) (hl : ns.length ≤ sizeLine) (hr : Room k callerA)
    (F : ∀ base : Heap, K.In base → base.Ns mainGlobals mg → (∀ p ∈ cs, LamX.TabB base mg p.1 p.2) → FnG P w K mg base k fa fd [x] sp) (bind : ∀ (s : Shared) (u : Value), BindsTo s fd ⟨[u], []⟩ [(x, u)])
    (hsp : ∀ H : Hp, (∀ p ∈ cs, H p.2 = some (.tbl #[])) → SqL K H a (ns.map V.int) → sp [.ref a] H (fun v _ => v = .bl true) fun _ _ _ => False) :
    codeAny (model P w) callerA (.call (.ref fa) ⟨[.ref a], []⟩) (fun r s' => r = .ok (.ret (.bool true)) ∧ OldK s.heap s'.heap ∧ s'.os = s.os ∧ AllBare s'.gens) s := by
  obtain ⟨H, B⟩ := begin_ex inK ha hi hl hT
  have hok : HOk P w H s.heap := by
    intro b u h
    rcases B.only b u h with ⟨rfl, p, hp, rfl⟩ | ⟨rfl, rfl, _⟩
    · exact hT p hp
    · exact ⟨ha, by rw [List.length_map]; exact hl, vs, _, vals_ints hi, ha⟩
  -- what is no list and no empty table is not tracked
  have out : ∀ {b : Addr} {o : Obj}, s.heap.get? b = some o → (∀ ys n, o.data ≠ .seq ys n) → o.data ≠ .fields #[] → H b = none := by
    intro b o h1 h2 h3
    cases hb : H b with
    | none => rfl
    | some u =>
      rcases B.only b u hb with ⟨_, p, hp, rfl⟩ | ⟨rfl, _, _⟩
      · rw [hT p hp] at h1
        cases h1
        exact (h3 rfl).elim
      · rw [ha] at h1
        cases h1
        exact (h2 _ _ rfl).elim
  have low : ∀ {b : Addr} {o : Obj}, s.heap.get? b = some o → (∀ ys n, o.data ≠ .seq ys n) → o.data ≠ .fields #[] → (hidT s.heap H).get? b = some o := fun h1 h2 h3 => hidT_get h1 (out h1 h2 h3)
  have nsB : ∀ {b : Addr} {m : Str → Option Value}, s.heap.Ns b m → (hidT s.heap H).Ns b m := by
    rintro b m ⟨o, es, ep, h1, h2, h3⟩
    exact ⟨o, es, ep, low h1 (fun ys n z => by rw [h2] at z; cases z) (fun z => by rw [h2] at z; cases z), h2, h3⟩
  have inB : K.In (hidT s.heap H) := by
    intro b o h
    refine hidT_get (inK b o h) ?_
    cases hb : H b with
    | none => rfl
    | some u =>
      rcases B.only b u hb with ⟨_, p, hp, rfl⟩ | ⟨rfl, _, z⟩
      · rw [nT p hp] at h
        cases h
      · rw [z] at h
        cases h
  have md : L2.Mod K mg (hidT s.heap H) := by
    obtain ⟨mc, l1, l2⟩ := hlim
    exact ⟨inB, nsB hns, ⟨mb, nsB hb, hbb⟩, ⟨mc, nsB l1, l2⟩⟩
  have tb : ∀ p ∈ cs, LamX.TabB (hidT s.heap H) mg p.1 p.2 := by
    intro p hp
    have hp0 := hT p hp
    constructor
    · obtain ⟨o, us, f1, f2, f3, f4, f5, f6, f7, g, r1, r2, r3, r4, r5, r6, r7, r8, ne⟩ := hC p hp
      refine ⟨o, us, f1, f2, f3, f4, f5, f6, f7, low g (fun ys n z => by rw [r2] at z; cases z) (fun z => ?_), r1, r2, r3, r4, r5, r6, r7, r8, ne⟩
      rw [r2] at z
      cases z
      simp at r3
    · obtain ⟨bm, ob, b1, b2, b3, b4, b5, b6⟩ := hbm
      refine ⟨bm, ob, b1, b2, fun z => ?_, fun z => ?_, low b3 (fun ys n z => by rw [b6] at z; cases z) (fun z => by rw [b6] at z; cases z), b4, b5, b6⟩
      · obtain ⟨o, es, ep, e1, e2, _⟩ := hns
        rw [z, e1] at b3
        cases b3
        rw [e2] at b6
        cases b6
      · rw [z, hp0] at b3
        cases b3
        cases b6
    · intro z
      obtain ⟨o, es, ep, e1, e2, _⟩ := hns
      rw [z, hp0] at e1
      cases e1
      cases e2
  have env : Env0 P w K mg (hidT s.heap H) callerA [] s H :=
    { frames := rfl, mod := md, bs := fun _ _ z => of_hidT z, bsz := Nat.le_of_eq (hidT_size _ _), funs := trivial, frf := fun b z => absurd (show b ∈ ([] : List Addr) from z) (List.not_mem_nil), hok := hok, bare := .of_eq hg }
  refine codeAny_mono ((F _ inB (nsB hns) tb).go callerA [] s H ⟨[.ref a], []⟩ [.ref a] [.ref a] _ _ ⟨hr, rfl⟩ env (bind s (.ref a)) (.cons rfl .nil) (hsp H B.tab B.scr)) ?_
  intro rs s2 z
  match rs, z with
  | .error e, z => exact (show False from z).elim
  | .ok .next, z => exact z.elim
  | .ok .brk, z => exact z.elim
  | .ok .cont, z => exact z.elim
  | .ok (.ret u), z =>
    obtain ⟨v, H2, os, bare, un, hok2, ru, rfl⟩ := z
    obtain rfl : u = Value.bool true := ru
    have grow : ∀ p ∈ cs, ∃ more : Array Value, s2.heap.get? p.2 = some { cls := .none, data := .fields more } := fun p hp => by
      obtain ⟨more, e⟩ := un.tbls p.2 #[] (B.tab p hp)
      exact ⟨_, hok2 _ _ e⟩
    have keep : ∀ b o, (¬ ∃ p ∈ cs, p.2 = b) → s.heap.get? b = some o → s2.heap.get? b = some o := by
      intro b o nb h
      cases hb : H b with
      | none => exact un.keep b o h hb (fun z => absurd (show b ∈ ([] : List Addr) from z) List.not_mem_nil) List.not_mem_nil
      | some u =>
        rcases B.only b u hb with ⟨_, z⟩ | ⟨rfl, rfl, _⟩
        · exact (nb z).elim
        · have h1 := (hok _ _ hb).1
          rw [h] at h1
          cases h1
          exact (hok2 _ _ (un.frzs _ _ _ hb)).1
    refine ⟨rfl, ⟨fun b o h => ?_, fun b o h => ?_⟩, os, bare⟩
    · by_cases hb : ∃ p ∈ cs, p.2 = b
      · obtain ⟨p, hp, rfl⟩ := hb
        obtain ⟨more, e⟩ := grow p hp
        have h0 := hT p hp
        rw [h] at h0
        cases h0
        refine .inr (.inl ⟨((hC p hp).tab (hT p hp)).isCodeTable, rfl, #[], more, rfl, ?_⟩)
        rw [Array.empty_append]
        exact e
      · exact .inl (keep b o hb h)
    · by_cases hb : ∃ p ∈ cs, p.2 = b
      · obtain ⟨p, hp, rfl⟩ := hb
        obtain ⟨more, e⟩ := grow p hp
        exact ⟨_, e⟩
      · exact ⟨o, keep b o hb h⟩
/-- what is to be known of a law's def, at the heap behind its program's top -/
def LawAtG (l : PySem.W.OpenLaw) (w : World) (K : PySem.W.Frag) (k n : Nat) (x : Str) (mg : Str → Option Value) (fa : Addr) (h : Heap) : Prop :=
  ∃ (fd : FuncData) (cs : List (Addr × Addr)) (sp : Sp), ((∀ p ∈ cs, h.get? p.2 = some { cls := .none, data := .fields #[] }) ∧ (∀ p ∈ cs, K.lookup p.2 = none) ∧ ∀ p ∈ cs, PySem.W.CodeHd h p.1 p.2) ∧ (∀ (s : Shared) (u : Value), BindsTo s fd ⟨[u], []⟩ [(x, u)]) ∧
    (∀ (H : Hp) (a : Addr) (ns : List Int), ns.length ≤ n → (∀ p ∈ cs, H p.2 = some (.tbl #[])) → SqL K H a (ns.map V.int) → sp [.ref a] H (fun v _ => v = .bl true) fun _ _ _ => False) ∧
    ∀ base : Heap, K.In base → base.Ns mainGlobals mg → (∀ p ∈ cs, LamX.TabB base mg p.1 p.2) → FnG l.prog w K mg base k fa fd [x] sp
theorem walk_ofG {l : PySem.W.OpenLaw} {n k : Nat} {q : Program} {loose : List Str} {XP : (Str → Option Value) → Heap → Prop} {YP : World → Heap → Prop} {d : DefRec} {K : Params → PySem.W.Frag} {x : Str}
    (hn : l.most = some n) (hz : n ≤ sizeLine) (hdf : d.params.defaults = []) (hr : Room k callerA) (hY : ∀ (w : World) (h : Heap), YP w h → (K w.params).In h)
    (F : ∀ (w : World) (mg : Str → Option Value) (fa : Addr) (h : Heap), YP w h → (K w.params).In h → h.Ns mainGlobals mg → mg d.name = some (.ref fa) → LawAtG l w (K w.params) k n x mg fa h) : PySem.W.WalkO q loose XP YP l.row.toRowW d [] (fun f vs => PySem.call f vs) := by
  refine Att.attach_callB hn hdf ?_
  intro w _ s mg mb fa _ _ _ _ a vs ns G Y _ _ _ hmg hobj hints hlen _ hg
  have inK := hY w _ Y
  obtain ⟨fd, cs, sp, ⟨h1, h2, h3⟩, hb, hsp, hF⟩ := F w mg fa _ Y inK G.T.g hmg
  exact law_callG inK G.T.g G.T.b G.T.builtins G.T.nolimit hg h1 h2 h3 G.T.bmain hobj hints (Nat.le_trans hlen hz) hr hF hb fun H t => hsp H a ns hlen t
end
end Fr

namespace Fr
open PySem PySem.Spec PyProof.Rows L2
/-- what the written part says of an error class -/
structure ErrC (K : PySem.W.Frag) (C : Addr) : Prop where
  oex : OexC K C
  ga : PySem.W.findIn K (.ref C) "__getattribute__" = some (some (.builtin "BaseException.__getattribute__"))
  gg : PySem.W.findIn K (.ref C) "__getattr__" = some none
  hd : PySem.W.hasDictIn K C = true
  kc : PySem.W.findIn K (.ref C) "__class__" = some (some (.builtin "object.__class__"))
  kg : PySem.W.specialIn K (.builtin "object.__class__") "__get__" = some (some (.builtin "getset_descriptor.__get__"))
  kt : PySem.W.takesIn K (.builtin "object.__class__") = some true
  km : PySem.W.mroIn K C (.type "object") = some true
/-- an error at a with these attributes -/
def ErrAt (H : Hp) (a C : Addr) (fs : List (Str × V)) : Prop := ∃ d : Addr, H a = some (exo a C (some d)) ∧ H d = some (exd d fs)
theorem ErrAt.mono {H H' : Hp} {a C : Addr} {fs : List (Str × V)} (h : ErrAt H a C fs) (e : Same H H') : ErrAt H' a C fs := by
  obtain ⟨d, h1, h2⟩ := h
  exact ⟨d, e _ _ h1, e _ _ h2⟩
section
variable {X : Cx} {C fI : Addr} {k : Nat} {fd : FuncData} {ps : List Str} {sp : Sp} {x f : Str} {p pos : Pos} {e : Expr} {es : List Expr} {t : TA} {te : TE}
/-- C(e, ..), the error itself -/
def tMkV (C : Addr) (sp : Sp) (t : TA) : TE := fun σ H Q => t σ H fun vs H1 => vs.length ≤ 1000 ∧ ∀ a, H1 a = none → sp (.ref a :: vs) (upd H1 a (exo a C none)) (fun v H2 => v = .non ∧ Q (.ref a) H2) C8.E0
theorem pe_mkV (T : OexC X.K C) (iC : PySem.W.findIn X.K (.ref C) "__init__" = some (some (.ref fI))) (tI : PySem.W.typeIn X.K (.ref fI) = some (.type "function")) (F : FnOk X.prog X.w X.K X.mg X.base CX0 k fI fd ps sp) (hr : Room (k + 1) X.A) (hb : Binds X.K fd ps [])
    (hg : Gl X x) (hm : X.mg x = some (.ref C)) (ha : PA X (e :: es) t) (hdb : (x == ("__debug__" : Str)) = false := by decide) (he : starEach (e :: es) X.env = (false, eval e X.env) :: starEach es X.env := by rfl) (hpl : (backTo pos (starEach es X.env)).any (·.1) = false := by rfl) :
    PE X (.Call (.Name x p) (e :: es) [] pos) (tMkV C sp t) := by
  constructor
  intro pins s σ H Q I h
  obtain ⟨nm, q, N, bs, bm, sn, sub, ab, col, dd, k0, k1, k2, k3, k5, hC, hbm⟩ := T.cls
  refine wpAny_Call_Name_kw (ld_glob I hg hm (PySem.W.callWith_K (h₀ := X.base) I.ok.mod.kin T.kC (thn (ha.run pos pins s σ H _ I h) ?_) he hpl) hdb)
  rintro us s1 ⟨vs, H1, I1, r1, hz, q1⟩
  refine ⟨I1.kIn, ?_⟩
  show wpAny _ _ (call (.ref C) us) _ _ _
  obtain ⟨hp, g, dr, tk, os⟩ := s1
  have big : hp.objs.size ≤ hp.objs.size + 1 := Nat.le_succ _
  have hq := q1 (hp.objs.size + 1) (I1.hok.fresh big)
  have old : ∀ b o, hp.get? b = some o → ((hp.push (PySem.W.kdv_tup us)).push (PySem.HandSPX.excO C hp.objs.size)).get? b = some o := fun b o z => Heap.get?_push_of_some _ (Heap.get?_push_of_some _ z)
  have new : ((hp.push (PySem.W.kdv_tup us)).push (PySem.HandSPX.excO C hp.objs.size)).get? (hp.objs.size + 1) = some (PySem.HandSPX.excO C hp.objs.size) := by heap_get
  have J : Inv X pins σ (upd H1 (hp.objs.size + 1) (exo (hp.objs.size + 1) C none)) ⟨(hp.push (PySem.W.kdv_tup us)).push (PySem.HandSPX.excO C hp.objs.size), g, dr, tk, os⟩ := I1.laid (t' := tk) (o := exo (hp.objs.size + 1) C none) old big (exo_ok new)
  have rr : Vals (V.ref (hp.objs.size + 1) :: vs) (Value.ref (hp.objs.size + 1) :: us) := .cons rfl r1
  have hl : ((Value.ref (hp.objs.size + 1) :: us) ++ ([] : List Value)).length = ps.length := by
    rw [List.append_nil, ← rr.length]
    exact F.len _ _ _ _ hq
  have hu : us.length ≤ sizeLine := by
    rw [← Paired.length r1, sizeLine_eq]
    omega
  have bd := hb ⟨(hp.push (PySem.W.kdv_tup us)).push (PySem.HandSPX.excO C hp.objs.size), g, dr, tk, os⟩ (Value.ref (hp.objs.size + 1) :: us) J.kIn hl
  rw [List.append_nil] at bd
  refine wpAny_call (PySem.HandSPX.call_own PySem.F.excBase_ValueError (fun Y => PySem.HandSPX.refsVE_contains Y bm hbm) (I1.kIn _ _ hC) (PySem.W.looks_findIn I1.kIn iC) (fun self => PySem.W.bind_fn I1.kIn self tI) hu
    (codeAny_mono (FnOk.run F _ X.stack _ _ ⟨Value.ref (hp.objs.size + 1) :: us, []⟩ (Value.ref (hp.objs.size + 1) :: us) _ _ C8.E0 (hr.make C us []) (J.env0.make C us []) bd rr hq) ?_))
  intro rs s2 z
  match rs, z with
  | .error er, z => exact pass0 (X := X) pins σ _ _ er s2 J z
  | .ok .next, z => exact z.elim
  | .ok .brk, z => exact z.elim
  | .ok .cont, z => exact z.elim
  | .ok (.ret u), z =>
    obtain ⟨v, H2, I3, rv, ev, q3⟩ := J.after z
    subst ev
    exact ⟨rv, .ref (hp.objs.size + 1), H2, I3, rfl, q3⟩
/-- e.f, e an error -/
def tErrF (K : PySem.W.Frag) (f : Str) (te : TE) : TE := fun σ H Q => te σ H fun x H1 => ∃ (a C : Addr) (fs : List (Str × V)) (v : V), x = .ref a ∧ ErrC K C ∧ ErrAt H1 a C fs ∧ PySem.W.findIn K (.ref C) f = some none ∧ fs.lookup f = some v ∧ Q v H1
theorem pe_errF (he : PE X e te) (hb : attributeBase e f X.env (eval e X.env) = eval e X.env := by rfl) : PE X (.Attribute e f pos) (tErrF X.K f te) := by
  constructor
  intro pins s σ H Q I h
  refine attr_of hb (thn (he.run pins s σ H _ I h) ?_)
  rintro u s1 ⟨x, H1, I1, rx, a, C, fs, v, rfl, T, ⟨d, h1, h2⟩, no, hl, q⟩
  obtain rfl : u = Value.ref a := rx
  obtain ⟨t1, ho⟩ := exo_at I1.hok h1
  obtain ⟨mA, hns, rel⟩ := exd_at I1.hok h2
  obtain ⟨od, hod, lk⟩ := lookIn_ns hns
  obtain ⟨u, hu, ru⟩ := RelO.some_of (v := v) (o := mA f) (by rw [← hl]; exact rel f)
  exact HandSPX.exc_get I1.kIn (od := some od) ⟨ho, rfl, rfl, hod⟩ T.ga T.gg T.oex.exC (PySem.W.findObj_own T.hd no rfl (by rw [lk, hu])) (handed_of ru) ⟨v, H1, I1.tok _, ru, q⟩
/-- isinstance(e, c), e an error -/
def rIsX (K : PySem.W.Frag) : List V → Hp → VK → Prop := fun xs H Q => ∃ (a C : Addr) (fs : List (Str × V)) (c : V) (cv : Value) (b : Bool), xs = [.ref a, c] ∧ ErrC K C ∧ ErrAt H a C fs ∧ ClsV c cv ∧ PySem.W.kitOne K (.ref C) cv = some b ∧ Q (.bl b) H
theorem call_isX : CallR X (.builtin "isinstance") (rIsX X.K) := by
  intro pins s σ H xs us Q I r h
  obtain ⟨a, C, fs, c, cv, b, rfl, T, ⟨d, h1, h2⟩, hc, e, q⟩ := h
  obtain ⟨u1, u2, rfl, r1, r2⟩ := vals2 r
  obtain rfl := hc.eq r2
  obtain rfl : u1 = Value.ref a := r1
  obtain ⟨t1, ho⟩ := exo_at I.hok h1
  obtain ⟨mA, hns, rel⟩ := exd_at I.hok h2
  obtain ⟨od, hod, lk⟩ := lookIn_ns hns
  have is : PySem.W.InstAt s.heap a _ C (some od) := ⟨ho, rfl, rfl, hod⟩
  have cl : (PySem.W.clsIn X.K C).isSome = true := by
    obtain ⟨cd, hcd, _⟩ := PySem.W.any_some T.hd
    rw [hcd]
    rfl
  exact PySem.W.kia_one (PySem.W.kitx_exc cl T.ga T.gg T.oex.exC T.kc T.kg T.kt T.km) I.kIn is e (fun z => by cases z) fun tk => ⟨.bl b, H, I.tok tk, rfl, q⟩
end
end Fr

namespace Fr
open PySem PySem.Spec PySem.W PySem.Calls PyProof.Rows PySem.HandSPX
section
variable {prog : Program} {w : World} {A : Around} {E : Value → Shared → Prop} {R : Result → Shared → Prop} {h : Heap} {g : Array GenState} {d : Drawn} {t : Nat} {os : OsState}
variable {nm q n : Str} {v : Value} {C N fI : Addr} {bs bm : List Value} {sn : List Str} {sub : List Value} {ab : Bool} {col : Option Bool} {dd : Option Addr} {k0 k1 k2 k3 k5 : Option Value}
theorem kw_check {M : Model} {bmB : List Value} (B : ExcBaseFacts "ValueError" "ValueError.__new__" "ValueError.__init__" bmB) (hT : ∀ X : String, bm.contains (.type X) = bmB.contains (.type X)) {Q : Unit → Shared → Prop}
    (hC : h.get? C = some (excClassObj nm q C N bs bm true sn sub ab col dd k0 k1 k2 k3 k5 "ValueError.__new__")) (z : Q () ⟨h, g, d, t, os⟩) : wpAny M A (checkBuiltinCall "ValueError.__new__" ⟨[.ref C], [(n, v)]⟩) Q E ⟨h, g, d, t, os⟩ := by
  have c1 : (Value.ref C :: bm).contains (.type "ValueError") = true := by
    rw [List.contains_cons, hT, B.hasB, Bool.or_true]
  have c2 := B.noStar
  simp only [checkBuiltinCall, B.newKind, B.newSplit, B.newRow]
  repeat (first
    | refine wpAny_loadPart_at hC ?_
    | (refine wpAny_isSubtype_exc hC ?_; rw [c1])
    | refine wpAny_staticBase_exc hC ?_
    | refine wpAny_madeBy_exc hC ?_
    | simp only [bne_self_eq_false, Bool.false_eq_true, if_false]
    | wp_step)
  exact z
theorem kw_new {bmB : List Value} (B : ExcBaseFacts "ValueError" "ValueError.__new__" "ValueError.__init__" bmB) (hT : ∀ X : String, bm.contains (.type X) = bmB.contains (.type X))
    (hC : h.get? C = some (excClassObj nm q C N bs bm true sn sub ab col dd k0 k1 k2 k3 k5 "ValueError.__new__"))
    (z : R (.ok (.ret (.ref (h.objs.size + 1)))) ⟨(h.push (kdv_tup [])).push (excO C h.objs.size), g, d, t, os⟩) : codeAny (model prog w) A (.builtin "ValueError.__new__" ⟨[.ref C], [(n, v)]⟩) R ⟨h, g, d, t, os⟩ := by
  have e0 := B.ends
  have e1 : (Value.ref C :: bm).contains (.type "ValueError") = true := by
    rw [List.contains_cons, hT, B.hasB, Bool.or_true]
  have e2 : (Value.ref C :: bm).contains (.type "AttributeError") = false := by
    rw [List.contains_cons, hT, B.noAttr]
    rfl
  have e3 : (Value.ref C :: bm).contains (.type "NameError") = false := by
    rw [List.contains_cons, hT, B.noName]
    rfl
  have rest : ([] : List Value).length ≤ sizeLine := Nat.zero_le _
  refine codeAny_builtinAt B.entry ?_
  unfold Builtin.«BaseException.__new__»
  refine PySem.wpAt_bind ?_
  show PySem.wpAt _ _ _ (stack >>= _) _ _ _
  refine PySem.wpAt_bind (PySem.wpAt_stack fun _ _ => PySem.wpAt_of_wpAny ?_)
  wp_walk
  refine PySem.wpAt_of_wpAny ?_
  rw [B.owner]
  repeat (first
    | with_reducible refine wpAny_madeHere_exc B.canon hC ?_
    | with_reducible refine wpAny_loadPart_at hC ?_
    | (with_reducible refine wpAny_isSubtype_exc hC ?_; first | rw [e1] | rw [e2] | rw [e3])
    | wp_step)
  show R _ _
  rw [Heap.size_push]
  exact z
theorem kw_typeCall {bmB : List Value} (B : ExcBaseFacts "ValueError" "ValueError.__new__" "ValueError.__init__" bmB) (hT : ∀ X : String, bm.contains (.type X) = bmB.contains (.type X)) {Q : Fin → Shared → Prop}
    (hC : h.get? C = some (excClassObj nm q C N bs bm true sn sub ab col dd k0 k1 k2 k3 k5 "ValueError.__new__"))
    (hi : Looks (model prog w) h (typeLookup (.ref C) "__init__") (some (.ref fI))) (hb : ∀ self, Looks (model prog w) h (bindSpecial (.ref fI) self) (.ref fI, [self]))
    (z : codeAny (model prog w) A (.call (.ref fI) ⟨[.ref (h.objs.size + 1)], [(n, v)]⟩) (fun r s' => match r with
      | .ok (.ret u) => u = .none ∧ Q (.done (.ret (.ref (h.objs.size + 1)))) s'
      | .ok _ => False
      | .error e => E e s') ⟨(h.push (kdv_tup [])).push (excO C h.objs.size), g, d, t, os⟩) : wpAny (model prog w) A (Builtin.«type.__call__» ⟨[.ref C], [(n, v)]⟩) Q E ⟨h, g, d, t, os⟩ := by
  repeat (first
    | with_reducible refine wpAny_loadPart_at hC ?_
    | with_reducible refine wpAny_madeBy_exc hC ?_
    | wp_step)
  refine codeAny_call_builtin_code (Code.quiet_builtin _ B.quiet) (kw_check B hT hC ?_)
  refine kw_new B hT hC ?_
  show wpAny _ _ _ _ _ _
  have old : ∀ b o, h.get? b = some o → ((h.push (kdv_tup [])).push (excO C h.objs.size)).get? b = some o := fun b o e => Heap.get?_push_of_some _ (Heap.get?_push_of_some _ e)
  have new : ((h.push (kdv_tup [])).push (excO C h.objs.size)).get? (h.objs.size + 1) = some (excO C h.objs.size) := by heap_get
  have cls := old _ _ hC
  have self : (Value.ref C :: bm).contains (.ref C) = true := by simp
  have i1 := hi.keeps old
  have b1 := (hb (.ref (h.objs.size + 1))).keeps old
  unfold isInstance
  repeat (first
    | with_reducible refine wpAny_loadPart_at new ?_
    | (with_reducible refine wpAny_isSubtype_exc cls ?_; rw [self])
    | wp_step)
  show wpAny _ _ (typeLookup (.ref C) _) _ _ _
  refine i1.at (wpAny_holding (wpAny_bind (b1.at (wpAny_bind (wpAny_call (codeAny_mono z ?_))))))
  intro r s' y
  match r, y with
  | .error e, y => exact y
  | .ok .next, y => exact y.elim
  | .ok .brk, y => exact y.elim
  | .ok .cont, y => exact y.elim
  | .ok (.ret u), y =>
    obtain ⟨rfl, y⟩ := y
    first
      | exact wpAny_pure (wpAny_pure y)
      | (wp_walk; exact y)
theorem kw_checkT {M : Model} {Q : Unit → Shared → Prop} (hC : h.get? C = some (excClassObj nm q C N bs bm true sn sub ab col dd k0 k1 k2 k3 k5 "ValueError.__new__")) (z : Q () ⟨h, g, d, t, os⟩) : wpAny M A (checkBuiltinCall "type.__call__" ⟨[.ref C], [(n, v)]⟩) Q E ⟨h, g, d, t, os⟩ := by
  have a1 := tc_sub
  have a2 : (⟨h, g, d, t, os⟩ : Shared).TypeIs (.ref C) "type" := ⟨_, hC, rfl⟩
  simp only [checkBuiltinCall, tc_kind, tc_split]
  repeat (any_goals (first
    | assumption
    | with_reducible refine wpAny_loadPart_at hC ?_
    | with_reducible refine wpAny_onRaise ?_
    | with_reducible refine wpAny_map ?_
    | wp_step))
theorem kw_call {bmB : List Value} (B : ExcBaseFacts "ValueError" "ValueError.__new__" "ValueError.__init__" bmB) (hT : ∀ X : String, bm.contains (.type X) = bmB.contains (.type X))
    (hC : h.get? C = some (excClassObj nm q C N bs bm true sn sub ab col dd k0 k1 k2 k3 k5 "ValueError.__new__"))
    (hi : Looks (model prog w) h (typeLookup (.ref C) "__init__") (some (.ref fI))) (hb : ∀ self, Looks (model prog w) h (bindSpecial (.ref fI) self) (.ref fI, [self]))
    (z : codeAny (model prog w) (A.under (.builtin "type.__call__" ⟨[.ref C], [(n, v)]⟩)) (.call (.ref fI) ⟨[.ref (h.objs.size + 1)], [(n, v)]⟩) (InitBack (h.objs.size + 1) R) ⟨(h.push (kdv_tup [])).push (excO C h.objs.size), g, d, t, os⟩) :
    codeAny (model prog w) A (.call (.ref C) ⟨[], [(n, v)]⟩) R ⟨h, g, d, t, os⟩ := by
  have a1 := tc_lookup
  have a2 := tc_bind (.ref C)
  have a3 : (⟨h, g, d, t, os⟩ : Shared).TypeIs (.ref C) "type" := ⟨_, hC, rfl⟩
  refine codeAny_of_tree ?_
  show wpAny _ _ (callAny (.ref C) _) _ _ _
  repeat (any_goals (first
    | assumption
    | with_reducible refine wpAny_loadPart_at hC ?_
    | wp_step))
  refine ⟨rfl, codeAny_call_builtin_at (Code.quiet_builtin _ (by decide +kernel)) entry_typeCall ?_⟩
  show wpAny _ _ (checkBuiltinCall "type.__call__" ⟨[.ref C], [(n, v)]⟩) (fun _ s1 => wpAny _ _ (Builtin.«type.__call__» ⟨[.ref C], [(n, v)]⟩) _ _ s1) _ _
  refine kw_checkT hC (kw_typeCall B hT hC hi hb (codeAny_mono z ?_))
  intro r s' y
  match r, y with
  | .error e, y => exact y
  | .ok .next, y => exact y
  | .ok .brk, y => exact y
  | .ok .cont, y => exact y
  | .ok (.ret u), y => exact y
end
end Fr

namespace Fr
open PySem PySem.Spec PyProof.Rows L2
section
variable {X : Cx} {C fI : Addr} {k : Nat} {fd : FuncData} {ps : List Str} {sp : Sp} {x n : Str} {p pos : Pos} {kws : List Keyword} {t : TA}
def tMkK (C : Addr) (sp : Sp) (t : TA) : TE := fun σ H Q => t σ H fun vs H1 => ∃ y, vs = [y] ∧ ∀ a, H1 a = none → sp [.ref a, y] (upd H1 a (exo a C none)) (fun v H2 => v = .non ∧ Q (.ref a) H2) C8.E0
theorem pe_mkK (T : OexC X.K C) (iC : PySem.W.findIn X.K (.ref C) "__init__" = some (some (.ref fI))) (tI : PySem.W.typeIn X.K (.ref fI) = some (.type "function")) (F : FnOk X.prog X.w X.K X.mg X.base CX0 k fI fd ps sp) (hr : Room (k + 1) X.A)
    (hb : ∀ (s : Shared) (a : Addr) (u : Value), X.K.In s.heap → BindsTo s fd ⟨[.ref a], [(n, u)]⟩ (ps.zip [.ref a, u])) (hg : Gl X x) (hm : X.mg x = some (.ref C)) (hkw : PK X kws t) (hall : (backToKw pos (keywordEach kws X.env)).all (·.1.isSome) = true := by rfl)
    (hks : (backToKw pos (keywordEach kws X.env)).filterMap (·.1) = [n] := by rfl) (hdb : (x == ("__debug__" : Str)) = false := by decide) (hpl : ((backTo pos (starEach [] X.env)).any (·.1) || (backToKw pos (keywordEach kws X.env)).any (·.1.isNone)) = false := by rfl) :
    PE X (.Call (.Name x p) [] kws pos) (tMkK C sp t) := by
  constructor
  intro pins s σ H Q I h
  obtain ⟨nm, q, N, bs, bm, sn, sub, ab, col, dd, k0, k1, k2, k3, k5, hC, hbm⟩ := T.cls
  refine wpAny_Call_Name_kw (ld_glob I hg hm (PySem.W.callWith_KW0 (h₀ := X.base) I.ok.mod.kin T.kC hall (thn (hkw.run pos pins s σ H _ I h) ?_) hpl) hdb)
  rintro us s1 ⟨vs, H1, I1, r1, y, rfl, q1⟩
  obtain ⟨u, rfl, ru⟩ := vals1 r1
  refine ⟨I1.kIn, ?_⟩
  rw [hks]
  show wpAny _ _ (call (.ref C) [] [(n, u)]) _ _ _
  obtain ⟨hp, g, dr, tk, os⟩ := s1
  have big : hp.objs.size ≤ hp.objs.size + 1 := Nat.le_succ _
  have hq := q1 (hp.objs.size + 1) (I1.hok.fresh big)
  have old : ∀ b o, hp.get? b = some o → ((hp.push (PySem.W.kdv_tup [])).push (PySem.HandSPX.excO C hp.objs.size)).get? b = some o := fun b o z => Heap.get?_push_of_some _ (Heap.get?_push_of_some _ z)
  have new : ((hp.push (PySem.W.kdv_tup [])).push (PySem.HandSPX.excO C hp.objs.size)).get? (hp.objs.size + 1) = some (PySem.HandSPX.excO C hp.objs.size) := by heap_get
  have J : Inv X pins σ (upd H1 (hp.objs.size + 1) (exo (hp.objs.size + 1) C none)) ⟨(hp.push (PySem.W.kdv_tup [])).push (PySem.HandSPX.excO C hp.objs.size), g, dr, tk, os⟩ := I1.laid (t' := tk) (o := exo (hp.objs.size + 1) C none) old big (exo_ok new)
  have rr : Vals [V.ref (hp.objs.size + 1), y] [Value.ref (hp.objs.size + 1), u] := .cons rfl (.cons ru .nil)
  refine wpAny_call (kw_call PySem.F.excBase_ValueError (fun Y => PySem.HandSPX.refsVE_contains Y bm hbm) (I1.kIn _ _ hC) (PySem.W.looks_findIn I1.kIn iC) (fun self => PySem.W.bind_fn I1.kIn self tI)
    (codeAny_mono (FnOk.run F _ X.stack _ _ ⟨[.ref (hp.objs.size + 1)], [(n, u)]⟩ [.ref (hp.objs.size + 1), u] _ _ C8.E0 (hr.make C [] [(n, u)]) (J.env0.make C [] [(n, u)]) (hb _ _ u J.kIn) rr hq) ?_))
  intro rs s2 z
  match rs, z with
  | .error er, z => exact pass0 (X := X) pins σ _ _ er s2 J z
  | .ok .next, z => exact z.elim
  | .ok .brk, z => exact z.elim
  | .ok .cont, z => exact z.elim
  | .ok (.ret u), z =>
    obtain ⟨v, H2, I3, rv, ev, q3⟩ := J.after z
    subst ev
    exact ⟨rv, .ref (hp.objs.size + 1), H2, I3, rfl, q3⟩
end
theorem relv_ref (a : Addr) : L2.RelV (.ref a) (.ref a) := rfl
theorem relv_ty (n : String) : L2.RelV (.ty n) (.type n) := rfl
/-- an error class that may be called by its name -/
structure MkE (P : Program) (w : World) (K : PySem.W.Frag) (mg : Str → Option Value) (base : Heap) (k : Nat) (x : Str) (C : Addr) (sp : Sp) : Prop where
  ex : ∃ (f : Addr) (fd : FuncData) (ps : List Str), ErrC K C ∧ PySem.W.findIn K (.ref C) "__init__" = some (some (.ref f)) ∧ PySem.W.typeIn K (.ref f) = some (.type "function") ∧ FnOk P w K mg base CX0 k f fd ps sp ∧ Binds K fd ps [] ∧
    (∀ (s : Shared) (a : Addr) (u : Value), K.In s.heap → BindsTo s fd ⟨[.ref a], [(("value" : Str), u)]⟩ (ps.zip [.ref a, u])) ∧ mg x = some (.ref C)
section
variable {X : Cx} {C : Addr} {k j : Nat} {sp : Sp} {x : Str} {p pos : Pos} {e : Expr} {es : List Expr} {kws : List Keyword} {t : TA}
theorem pe_e (c : MkE X.prog X.w X.K X.mg X.base k x C sp) (hr : Room j X.A) (hk : k + 1 ≤ j) (hg : Gl X x) (ha : PA X (e :: es) t) (hdb : (x == ("__debug__" : Str)) = false := by decide)
    (he : starEach (e :: es) X.env = (false, eval e X.env) :: starEach es X.env := by rfl) (hpl : (backTo pos (starEach es X.env)).any (·.1) = false := by rfl) : PE X (.Call (.Name x p) (e :: es) [] pos) (tMkV C sp t) := by
  obtain ⟨f, fd, ps, T, i, ty, F, b, _, hm⟩ := c.ex
  exact pe_mkV T.oex i ty F (hr.mono hk) b hg hm ha hdb he hpl
theorem pe_ek (c : MkE X.prog X.w X.K X.mg X.base k x C sp) (hr : Room j X.A) (hk : k + 1 ≤ j) (hg : Gl X x) (hkw : PK X kws t) (hall : (backToKw pos (keywordEach kws X.env)).all (·.1.isSome) = true := by rfl)
    (hks : (backToKw pos (keywordEach kws X.env)).filterMap (·.1) = [("value" : Str)] := by rfl) (hdb : (x == ("__debug__" : Str)) = false := by decide) (hpl : ((backTo pos (starEach [] X.env)).any (·.1) || (backToKw pos (keywordEach kws X.env)).any (·.1.isNone)) = false := by rfl) :
    PE X (.Call (.Name x p) [] kws pos) (tMkK C sp t) := by
  obtain ⟨f, fd, ps, T, i, ty, F, _, b, hm⟩ := c.ex
  exact pe_mkK T.oex i ty F (hr.mono hk) b hg hm hkw hall hks hdb hpl
end
end Fr

namespace Fr
open PySem PySem.Spec PyProof.Rows L2
abbrev s_err_init : Stmt := inClass (topS 1) 0
theorem sc_err_init : FnScope ["self", "value"] ["self", "value"] (defScope s_err_init) := ⟨rfl, rfl, rfl, by decide +kernel, rfl, by decide +kernel, by decide +kernel⟩
abbrev s_Lmade : Stmt := topS 17
theorem sc_Lmade : FnScope ["_law_thing", "_law_found"] ["_law_thing"] (defScope s_Lmade) := ⟨rfl, rfl, rfl, by decide +kernel, rfl, by decide +kernel, by decide +kernel⟩
-- slots: 0 _law_thing, 1 _law_found
abbrev s_Lflags : Stmt := topS 18
theorem sc_Lflags : FnScope ["_law_e", "_law_flags_here"] ["_law_e"] (defScope s_Lflags) := ⟨rfl, rfl, rfl, by decide +kernel, rfl, by decide +kernel, by decide +kernel⟩
-- slots: 0 _law_e, 1 _law_flags_here
structure TxE (mg : Str → Option Value) (c : Nat → Addr) : Prop where
  t : Txt mg
  b_len : mg "len" = none
  b_abs : mg "abs" = none
  b_min : mg "min" = none
  b_range : mg "range" = none
  b_repr : mg "repr" = none
  b_isinstance : mg "isinstance" = none
  b_ValueError : mg "ValueError" = none
  g_InvalidSystem : mg "InvalidSystem" = some (.ref (c 0))
  g_InvalidName : mg "InvalidName" = some (.ref (c 1))
  g_InvalidAxes : mg "InvalidAxes" = some (.ref (c 2))
  g_UnknownTable : mg "UnknownTable" = some (.ref (c 3))
  g_InvalidCell : mg "InvalidCell" = some (.ref (c 4))
  g_InvalidRead : mg "InvalidRead" = some (.ref (c 5))
  g_InvalidShifts : mg "InvalidShifts" = some (.ref (c 6))
  g_InvalidNumber : mg "InvalidNumber" = some (.ref (c 7))
  g_NotReady : mg "NotReady" = some (.ref (c 8))
  g_NoFar : mg "NoFar" = some (.ref (c 9))
  g_NothingToUndo : mg "NothingToUndo" = some (.ref (c 10))
  g_Unreadable : mg "Unreadable" = some (.ref (c 11))
  g_ReadError : mg "ReadError" = some (.ref (c 12))
theorem same_refl' {H : Hp} : Same H H := fun _ _ h => h
section
variable {P : Program} {w : World} {K : PySem.W.Frag} {mg : Str → Option Value} {base : Heap} {c : Nat → Addr}
/-- self.value = value -/
def spErr (K : PySem.W.Frag) : Sp := fun vs H Q _ => ∃ (a C : Addr) (y : V), vs = [.ref a, y] ∧ OexC K C ∧ H a = some (exo a C none) ∧ PySem.W.findIn K (.ref C) "value" = some none ∧ ∀ dx, H dx = none → dx ≠ a → Q .non (upd (upd H dx (exd dx [(("value" : Str), y)])) a (exo a C (some dx)))
theorem ok_err {f : Addr} {fd : FuncData} (F : Fun K "__init__" "ReadError.__init__" s_err_init f fd) : FnOk P w K mg base CX0 1 f fd ["self", "value"] (spErr K) := by
  refine F.ok sc_err_init (fun vs H Q E h => ?_) (fun cdv A outer sh H vs Q E hr h => ?_)
  · obtain ⟨a, C, y, rfl, _⟩ := h
    rfl
  · obtain ⟨a, C, y, rfl, T, ha, no, q⟩ := h
    exact ⟨_, pss_one (ps_ost (pv 0) (pv 1)), _, rfl, _, rfl, a, C, rfl, T, no, Or.inl ⟨ha, q⟩⟩
theorem err_ans {C : Addr} {y : V} {Q : Addr → Hp → Prop} {E : XK} {H1 : Hp} (T : OexC K C) (no : PySem.W.findIn K (.ref C) "value" = some none) (q : ∀ a H2, H1 a = none → Same H1 H2 → ErrAt H2 a C [(("value" : Str), y)] → Q a H2) :
    ∀ a, H1 a = none → spErr K [.ref a, y] (upd H1 a (exo a C none)) (fun v H2 => v = .non ∧ Q a H2) E := fun a ha =>
  ⟨a, C, y, rfl, T, upd_same, no, fun dx hdx ne => by
    have hd : H1 dx = none := by
      rw [upd_ne ne] at hdx
      exact hdx
    refine ⟨rfl, q a _ ha (fun b o h => ?_) ⟨dx, upd_same, ?_⟩⟩
    · rw [upd_ne (ne_of_none h ha), upd_ne (ne_of_none h hd), upd_ne (ne_of_none h ha)]
      exact h
    · rw [upd_ne ne]
      exact upd_same⟩
inductive MadeAll (B : Hp) (y : V) : List V → List Addr → Prop where
  | nil : MadeAll B y [] []
  | cons {t a b C : Addr} {xs : List V} {cs : List Addr} (h : B t = some (.tup [.ref a, .ref b])) (h1 : ErrAt B a C [(("value" : Str), y)]) (h2 : ErrAt B b C [(("value" : Str), y)]) (r : MadeAll B y xs cs) : MadeAll B y (.ref t :: xs) (C :: cs)
theorem MadeAll.mono {B B' : Hp} {y : V} (e : Same B B') : ∀ {xs : List V} {cs : List Addr}, MadeAll B y xs cs → MadeAll B' y xs cs
  | _, _, .nil => .nil
  | _, _, .cons h h1 h2 r => .cons (e _ _ h) (h1.mono e) (h2.mono e) (MadeAll.mono e r)
theorem MadeAll.snoc {B : Hp} {y : V} {t a b C : Addr} (h : B t = some (.tup [.ref a, .ref b])) (h1 : ErrAt B a C [(("value" : Str), y)]) (h2 : ErrAt B b C [(("value" : Str), y)]) : ∀ {xs : List V} {cs : List Addr}, MadeAll B y xs cs → MadeAll B y (xs ++ [.ref t]) (cs ++ [C])
  | _, _, .nil => .cons h h1 h2 .nil
  | _, _, .cons g g1 g2 r => .cons g g1 g2 (MadeAll.snoc h h1 h2 r)
theorem MadeAll.len {B : Hp} {y : V} : ∀ {xs : List V} {cs : List Addr}, MadeAll B y xs cs → xs.length = cs.length
  | _, _, .nil => rfl
  | _, _, .cons _ _ _ r => congrArg Nat.succ (MadeAll.len r)
theorem MadeAll.get {B : Hp} {y : V} : ∀ {xs : List V} {cs : List Addr} {i : Nat} {C : Addr}, MadeAll B y xs cs → cs[i]? = some C → ∃ t a b, xs[i]? = some (.ref t) ∧ B t = some (.tup [.ref a, .ref b]) ∧ ErrAt B a C [(("value" : Str), y)] ∧ ErrAt B b C [(("value" : Str), y)]
  | _, _, _, _, .nil, e => by cases e
  | _, _, 0, _, .cons h h1 h2 r, e => by cases e; exact ⟨_, _, _, rfl, h, h1, h2⟩
  | _, _, i + 1, _, .cons h h1 h2 r, e => MadeAll.get (i := i) r (by simpa using e)
/-- what stands while they are made -/
def MI (H0 : Hp) (fo : Addr) (y : V) (cs : List Addr) (σ : L2.St) (H : Hp) : Prop := σ = [some y, some (.ref fo)] ∧ ∃ (B : Hp) (xs : List V), Same H0 B ∧ B fo = none ∧ Same B H ∧ H fo = some (.lst xs) ∧ MadeAll B y xs cs
/-- all but one place -/
def hole (H : Hp) (r : Addr) : Hp := fun b => if b = r then none else H b
theorem hole_ne {H : Hp} {r b : Addr} (h : b ≠ r) : hole H r b = H b := if_neg h
theorem hole_at {H : Hp} {r : Addr} : hole H r r = none := if_pos rfl
/-- a pair more -/
theorem MI.pair {H0 : Hp} {fo C : Addr} {y : V} {cs : List Addr} {σ : L2.St} {H : Hp} {D : Ends} (h : MI H0 fo y cs σ H) (hl : cs.length ≤ 500) (T : OexC K C) (no : PySem.W.findIn K (.ref C) "value" = some none) (q : ∀ σ' H', MI H0 fo y (cs ++ [C]) σ' H' → D.nx σ' H') :
    tDrop (tBM K "list" rAppend (tVar 1) (tCons (tTup (tCons (tMkV C (spErr K) (tCons (tVar 0) tNil)) (tCons (tMkK C (spErr K) (tCons (tVar 0) tNil)) tNil))) tNil)) D σ H := by
  obtain ⟨rfl, B, xs, b1, b2, b3, b4, b5⟩ := h
  refine ⟨_, rfl, Or.inl ⟨rfl, _, Or.inl (Or.inl b4)⟩, _, rfl, (by show 1 ≤ 1000; decide), ?_⟩
  refine err_ans T no fun a H1 ha s1 e1 => ?_
  refine ⟨_, rfl, y, rfl, ?_⟩
  refine err_ans T no fun b H2 hb s2 e2 => ?_
  refine ⟨(by show 2 ≤ sizeLine; decide), fun t ht => ?_⟩
  have s12 : Same H (upd H2 t (.tup [.ref a, .ref b])) := same_tr s1 (same_tr s2 (snew ht))
  have hfo := s12 _ _ b4
  have hl2 := b5.len
  refine ⟨fo, xs, _, rfl, rfl, hfo, small1000 (by omega), q _ _ ⟨rfl, ?_⟩⟩
  -- all that stands but the list
  refine ⟨hole (upd H2 t (.tup [.ref a, .ref b])) fo, xs ++ [.ref t], fun z o h => ?_, hole_at, fun z o h => ?_, upd_same, ?_⟩
  · rw [hole_ne (ne_of_none (b1 _ _ h) b2)]
    exact s12 _ _ (b3 _ _ (b1 _ _ h))
  · by_cases hz : z = fo
    · rw [hz, hole_at] at h
      cases h
    · rw [hole_ne hz] at h
      rw [upd_ne hz]
      exact h
  · have kk : ∀ {z : Addr} {o : HO}, z ≠ fo → (upd H2 t (.tup [.ref a, .ref b])) z = some o → hole (upd H2 t (.tup [.ref a, .ref b])) fo z = some o := fun hz h => (hole_ne hz).trans h
    have ke : ∀ {z D : Addr}, ErrAt H2 z D [(("value" : Str), y)] → ErrAt (hole (upd H2 t (.tup [.ref a, .ref b])) fo) z D [(("value" : Str), y)] := fun {z D} ⟨d, g1, g2⟩ => by
      refine ⟨d, kk (fun e => ?_) (snew ht _ _ g1), kk (fun e => ?_) (snew ht _ _ g2)⟩
      · rw [e, s2 _ _ (s1 _ _ b4)] at g1
        unfold exo at g1
        cases g1
      · rw [e, s2 _ _ (s1 _ _ b4)] at g2
        unfold exd at g2
        cases g2
    refine MadeAll.snoc (kk (fun e => ?_) upd_same) (ke (e1.mono s2)) (ke e2) (b5.mono fun z o h => kk (ne_of_none h b2) (s12 _ _ (b3 _ _ h)))
    rw [e, s2 _ _ (s1 _ _ b4)] at ht
    cases ht
def spMade (K : PySem.W.Frag) (c : Nat → Addr) : Sp := fun vs H Q _ => ∃ y : V, vs = [y] ∧ ∀ fo H' xs, H fo = none → Same H H' → H' fo = some (.lst xs) → MadeAll H' y xs ((List.range 12).map c) → Q (.ref fo) H'
theorem ok_made {f : Addr} {fd : FuncData} (F : Fun K "_law_made" "_law_made" s_Lmade f fd) (T : TxE mg c) (ok : ∀ i, i < 13 → OexC K (c i) ∧ PySem.W.findIn K (.ref (c i)) "value" = some none) (m_InvalidSystem : MkE P w K mg base 1 "InvalidSystem" (c 0) (spErr K)) (m_InvalidName : MkE P w K mg base 1 "InvalidName" (c 1) (spErr K)) (m_InvalidAxes : MkE P w K mg base 1 "InvalidAxes" (c 2) (spErr K)) (m_UnknownTable : MkE P w K mg base 1 "UnknownTable" (c 3) (spErr K)) (m_InvalidCell : MkE P w K mg base 1 "InvalidCell" (c 4) (spErr K)) (m_InvalidRead : MkE P w K mg base 1 "InvalidRead" (c 5) (spErr K)) (m_InvalidShifts : MkE P w K mg base 1 "InvalidShifts" (c 6) (spErr K)) (m_InvalidNumber : MkE P w K mg base 1 "InvalidNumber" (c 7) (spErr K)) (m_NotReady : MkE P w K mg base 1 "NotReady" (c 8) (spErr K)) (m_NoFar : MkE P w K mg base 1 "NoFar" (c 9) (spErr K)) (m_NothingToUndo : MkE P w K mg base 1 "NothingToUndo" (c 10) (spErr K)) (m_Unreadable : MkE P w K mg base 1 "Unreadable" (c 11) (spErr K)) : FnOk P w K mg base CX0 3 f fd ["_law_thing"] (spMade K c) := by
  refine F.ok sc_Lmade (fun vs H Q E h => ?_) (fun cdv A outer sh H vs Q E hr h => ?_)
  · obtain ⟨y, rfl, _⟩ := h
    rfl
  · obtain ⟨y, rfl, q⟩ := h
    refine ⟨_, (pss_cons (ps_set (i := 1) sc_Lmade.nd rfl (by first | exact Or.inl rfl | exact Or.inr rfl) (pe_lst (pa_cons (pe_tup (pa_cons (pe_e m_InvalidSystem hr (by decide) (by rfl) (pa_cons (pv 0) pa_nil)) (pa_cons (pe_ek m_InvalidSystem hr (by decide) (by rfl) (pk_cons (pv 0) pk_nil)) pa_nil))) (pa_cons (pe_tup (pa_cons (pe_e m_InvalidName hr (by decide) (by rfl) (pa_cons (pv 0) pa_nil)) (pa_cons (pe_ek m_InvalidName hr (by decide) (by rfl) (pk_cons (pv 0) pk_nil)) pa_nil))) pa_nil))))
  (pss_cons (ps_expr (pe_bm PySem.F.plainAttrs_list PySem.F.slot_list_append PySem.F.type_list_append mt_append (pv 1) (pa_cons (pe_tup (pa_cons (pe_e m_InvalidAxes hr (by decide) (by rfl) (pa_cons (pv 0) pa_nil)) (pa_cons (pe_ek m_InvalidAxes hr (by decide) (by rfl) (pk_cons (pv 0) pk_nil)) pa_nil))) pa_nil)))
  (pss_cons (ps_expr (pe_bm PySem.F.plainAttrs_list PySem.F.slot_list_append PySem.F.type_list_append mt_append (pv 1) (pa_cons (pe_tup (pa_cons (pe_e m_UnknownTable hr (by decide) (by rfl) (pa_cons (pv 0) pa_nil)) (pa_cons (pe_ek m_UnknownTable hr (by decide) (by rfl) (pk_cons (pv 0) pk_nil)) pa_nil))) pa_nil)))
  (pss_cons (ps_expr (pe_bm PySem.F.plainAttrs_list PySem.F.slot_list_append PySem.F.type_list_append mt_append (pv 1) (pa_cons (pe_tup (pa_cons (pe_e m_InvalidCell hr (by decide) (by rfl) (pa_cons (pv 0) pa_nil)) (pa_cons (pe_ek m_InvalidCell hr (by decide) (by rfl) (pk_cons (pv 0) pk_nil)) pa_nil))) pa_nil)))
  (pss_cons (ps_expr (pe_bm PySem.F.plainAttrs_list PySem.F.slot_list_append PySem.F.type_list_append mt_append (pv 1) (pa_cons (pe_tup (pa_cons (pe_e m_InvalidRead hr (by decide) (by rfl) (pa_cons (pv 0) pa_nil)) (pa_cons (pe_ek m_InvalidRead hr (by decide) (by rfl) (pk_cons (pv 0) pk_nil)) pa_nil))) pa_nil)))
  (pss_cons (ps_expr (pe_bm PySem.F.plainAttrs_list PySem.F.slot_list_append PySem.F.type_list_append mt_append (pv 1) (pa_cons (pe_tup (pa_cons (pe_e m_InvalidShifts hr (by decide) (by rfl) (pa_cons (pv 0) pa_nil)) (pa_cons (pe_ek m_InvalidShifts hr (by decide) (by rfl) (pk_cons (pv 0) pk_nil)) pa_nil))) pa_nil)))
  (pss_cons (ps_expr (pe_bm PySem.F.plainAttrs_list PySem.F.slot_list_append PySem.F.type_list_append mt_append (pv 1) (pa_cons (pe_tup (pa_cons (pe_e m_InvalidNumber hr (by decide) (by rfl) (pa_cons (pv 0) pa_nil)) (pa_cons (pe_ek m_InvalidNumber hr (by decide) (by rfl) (pk_cons (pv 0) pk_nil)) pa_nil))) pa_nil)))
  (pss_cons (ps_expr (pe_bm PySem.F.plainAttrs_list PySem.F.slot_list_append PySem.F.type_list_append mt_append (pv 1) (pa_cons (pe_tup (pa_cons (pe_e m_NotReady hr (by decide) (by rfl) (pa_cons (pv 0) pa_nil)) (pa_cons (pe_ek m_NotReady hr (by decide) (by rfl) (pk_cons (pv 0) pk_nil)) pa_nil))) pa_nil)))
  (pss_cons (ps_expr (pe_bm PySem.F.plainAttrs_list PySem.F.slot_list_append PySem.F.type_list_append mt_append (pv 1) (pa_cons (pe_tup (pa_cons (pe_e m_NoFar hr (by decide) (by rfl) (pa_cons (pv 0) pa_nil)) (pa_cons (pe_ek m_NoFar hr (by decide) (by rfl) (pk_cons (pv 0) pk_nil)) pa_nil))) pa_nil)))
  (pss_cons (ps_expr (pe_bm PySem.F.plainAttrs_list PySem.F.slot_list_append PySem.F.type_list_append mt_append (pv 1) (pa_cons (pe_tup (pa_cons (pe_e m_NothingToUndo hr (by decide) (by rfl) (pa_cons (pv 0) pa_nil)) (pa_cons (pe_ek m_NothingToUndo hr (by decide) (by rfl) (pk_cons (pv 0) pk_nil)) pa_nil))) pa_nil)))
  (pss_cons (ps_expr (pe_bm PySem.F.plainAttrs_list PySem.F.slot_list_append PySem.F.type_list_append mt_append (pv 1) (pa_cons (pe_tup (pa_cons (pe_e m_Unreadable hr (by decide) (by rfl) (pa_cons (pv 0) pa_nil)) (pa_cons (pe_ek m_Unreadable hr (by decide) (by rfl) (pk_cons (pv 0) pk_nil)) pa_nil))) pa_nil)))
  (pss_one (ps_ret (pv 1)))))))))))))), ?_⟩
    refine ⟨_, rfl, (by show 1 ≤ 1000; decide), ?_⟩
    refine err_ans (ok 0 (by decide)).1 (ok 0 (by decide)).2 fun a1 H1 ha1 s1 e1 => ?_
    refine ⟨_, rfl, y, rfl, ?_⟩
    refine err_ans (ok 0 (by decide)).1 (ok 0 (by decide)).2 fun b1 H2 hb1 s2 e2 => ?_
    refine ⟨(by show 2 ≤ sizeLine; decide), fun t1 ht1 => ?_⟩
    refine ⟨_, rfl, (by show 1 ≤ 1000; decide), ?_⟩
    refine err_ans (ok 1 (by decide)).1 (ok 1 (by decide)).2 fun a2 H3 ha2 s3 e3 => ?_
    refine ⟨_, rfl, y, rfl, ?_⟩
    refine err_ans (ok 1 (by decide)).1 (ok 1 (by decide)).2 fun b2 H4 hb2 s4 e4 => ?_
    refine ⟨(by show 2 ≤ sizeLine; decide), fun t2 ht2 => ⟨(by show 2 ≤ sizeLine; decide), fun fo hfo => ?_⟩⟩
    have u1 := snew (o := HO.tup [.ref a1, .ref b1]) ht1
    have u2 := snew (o := HO.tup [.ref a2, .ref b2]) ht2
    have sA : Same H _ := same_tr s1 (same_tr s2 (same_tr u1 (same_tr s3 (same_tr s4 u2))))
    have M0 : MI H fo y [c 0, c 1] [some y, some (.ref fo)] (upd (upd H4 t2 (.tup [.ref a2, .ref b2])) fo (.lst [.ref t1, .ref t2])) := ⟨rfl, _, [.ref t1, .ref t2], sA, hfo, snew hfo, upd_same,
      .cons (u2 _ _ (s4 _ _ (s3 _ _ upd_same))) (e1.mono (same_tr s2 (same_tr u1 (same_tr s3 (same_tr s4 u2))))) (e2.mono (same_tr u1 (same_tr s3 (same_tr s4 u2)))) (.cons upd_same (e3.mono (same_tr s4 u2)) (e4.mono u2) .nil)⟩
    refine M0.pair (by simp) (ok 2 (by decide)).1 (ok 2 (by decide)).2 fun _ _ M => ?_
    refine M.pair (by simp) (ok 3 (by decide)).1 (ok 3 (by decide)).2 fun _ _ M => ?_
    refine M.pair (by simp) (ok 4 (by decide)).1 (ok 4 (by decide)).2 fun _ _ M => ?_
    refine M.pair (by simp) (ok 5 (by decide)).1 (ok 5 (by decide)).2 fun _ _ M => ?_
    refine M.pair (by simp) (ok 6 (by decide)).1 (ok 6 (by decide)).2 fun _ _ M => ?_
    refine M.pair (by simp) (ok 7 (by decide)).1 (ok 7 (by decide)).2 fun _ _ M => ?_
    refine M.pair (by simp) (ok 8 (by decide)).1 (ok 8 (by decide)).2 fun _ _ M => ?_
    refine M.pair (by simp) (ok 9 (by decide)).1 (ok 9 (by decide)).2 fun _ _ M => ?_
    refine M.pair (by simp) (ok 10 (by decide)).1 (ok 10 (by decide)).2 fun _ _ M => ?_
    refine M.pair (by simp) (ok 11 (by decide)).1 (ok 11 (by decide)).2 fun σ Hf M => ?_
    obtain ⟨rfl, B, xs, g1, g2, g3, g4, g5⟩ := M
    exact ⟨_, rfl, q fo Hf xs (free_of sA hfo) (same_tr g1 g3) g4 (g5.mono g3)⟩
end
end Fr

namespace Fr
open PySem PySem.Spec PyProof.Rows L2
abbrev s_law : Stmt := topS 19
theorem sc_law : FnScope ["_law_script", "_law_bag_here", "_law_turn", "_law_thing", "_law_made_here", "_law_place", "_law_e", "_law_spot"] ["_law_script"] (defScope s_law) := ⟨rfl, rfl, rfl, by decide +kernel, rfl, by decide +kernel, by decide +kernel⟩
-- slots: 0 _law_script, 1 _law_bag_here, 2 _law_turn, 3 _law_thing, 4 _law_made_here, 5 _law_place, 6 _law_e, 7 _law_spot
theorem ErrAt.put {H : Hp} {a C q : Addr} {fs : List (Str × V)} {xs : List V} {o : HO} (h : ErrAt H a C fs) (e : H q = some (.lst xs)) : ErrAt (upd H q o) a C fs := by
  obtain ⟨d, h1, h2⟩ := h
  refine ⟨d, ?_, ?_⟩
  · rw [upd_ne fun z => by
      rw [z, e] at h1
      unfold exo at h1
      cases h1]
    exact h1
  · rw [upd_ne fun z => by
      rw [z, e] at h2
      unfold exd at h2
      cases h2]
    exact h2
section
variable {P : Program} {w : World} {K : PySem.W.Frag} {mg : Str → Option Value} {base : Heap} {c : Nat → Addr}
/-- what isinstance says of each class -/
def spFlags (K : PySem.W.Frag) (c : Nat → Addr) : Sp := fun vs H Q _ => ∃ (a C : Addr) (fs : List (Str × V)) (bs : Nat → Bool), vs = [.ref a] ∧ ErrC K C ∧ ErrAt H a C fs ∧ (∀ j, j < 12 → PySem.W.kitOne K (.ref C) (.ref (c j)) = some (bs j)) ∧
  ∀ q H', H q = none → Same H H' → H' q = some (.lst ((List.range 12).map fun j => V.bl (bs j))) → Q (.ref q) H'
theorem ok_flags {f : Addr} {fd : FuncData} (F : Fun K "_law_flags" "_law_flags" s_Lflags f fd) (T : TxE mg c) : FnOk P w K mg base CX0 1 f fd ["_law_e"] (spFlags K c) := by
  refine F.ok sc_Lflags (fun vs H Q E h => ?_) (fun cdv A outer sh H vs Q E hr h => ?_)
  · obtain ⟨a, C, fs, bs, rfl, _⟩ := h
    rfl
  · obtain ⟨a, C, fs, bs, rfl, X, e, hk, q⟩ := h
    refine ⟨_, (pss_cons (ps_set (i := 1) sc_Lflags.nd rfl (by first | exact Or.inl rfl | exact Or.inr rfl) (pe_lst (pa_cons (pe_callB call_isX (by rfl) T.b_isinstance (by decide +kernel) (pa_cons (pv 0) (pa_cons (pe_glob (by rfl) T.g_InvalidSystem (relv_ref _)) pa_nil))) (pa_cons (pe_callB call_isX (by rfl) T.b_isinstance (by decide +kernel) (pa_cons (pv 0) (pa_cons (pe_glob (by rfl) T.g_InvalidName (relv_ref _)) pa_nil))) (pa_cons (pe_callB call_isX (by rfl) T.b_isinstance (by decide +kernel) (pa_cons (pv 0) (pa_cons (pe_glob (by rfl) T.g_InvalidAxes (relv_ref _)) pa_nil))) pa_nil)))))
  (pss_cons (ps_expr (pe_bm PySem.F.plainAttrs_list PySem.F.slot_list_extend PySem.F.type_list_extend mt_extend (pv 1) (pa_cons (pe_lst (pa_cons (pe_callB call_isX (by rfl) T.b_isinstance (by decide +kernel) (pa_cons (pv 0) (pa_cons (pe_glob (by rfl) T.g_UnknownTable (relv_ref _)) pa_nil))) (pa_cons (pe_callB call_isX (by rfl) T.b_isinstance (by decide +kernel) (pa_cons (pv 0) (pa_cons (pe_glob (by rfl) T.g_InvalidCell (relv_ref _)) pa_nil))) (pa_cons (pe_callB call_isX (by rfl) T.b_isinstance (by decide +kernel) (pa_cons (pv 0) (pa_cons (pe_glob (by rfl) T.g_InvalidRead (relv_ref _)) pa_nil))) pa_nil)))) pa_nil)))
  (pss_cons (ps_expr (pe_bm PySem.F.plainAttrs_list PySem.F.slot_list_extend PySem.F.type_list_extend mt_extend (pv 1) (pa_cons (pe_lst (pa_cons (pe_callB call_isX (by rfl) T.b_isinstance (by decide +kernel) (pa_cons (pv 0) (pa_cons (pe_glob (by rfl) T.g_InvalidShifts (relv_ref _)) pa_nil))) (pa_cons (pe_callB call_isX (by rfl) T.b_isinstance (by decide +kernel) (pa_cons (pv 0) (pa_cons (pe_glob (by rfl) T.g_InvalidNumber (relv_ref _)) pa_nil))) (pa_cons (pe_callB call_isX (by rfl) T.b_isinstance (by decide +kernel) (pa_cons (pv 0) (pa_cons (pe_glob (by rfl) T.g_NotReady (relv_ref _)) pa_nil))) pa_nil)))) pa_nil)))
  (pss_cons (ps_expr (pe_bm PySem.F.plainAttrs_list PySem.F.slot_list_extend PySem.F.type_list_extend mt_extend (pv 1) (pa_cons (pe_lst (pa_cons (pe_callB call_isX (by rfl) T.b_isinstance (by decide +kernel) (pa_cons (pv 0) (pa_cons (pe_glob (by rfl) T.g_NoFar (relv_ref _)) pa_nil))) (pa_cons (pe_callB call_isX (by rfl) T.b_isinstance (by decide +kernel) (pa_cons (pv 0) (pa_cons (pe_glob (by rfl) T.g_NothingToUndo (relv_ref _)) pa_nil))) (pa_cons (pe_callB call_isX (by rfl) T.b_isinstance (by decide +kernel) (pa_cons (pv 0) (pa_cons (pe_glob (by rfl) T.g_Unreadable (relv_ref _)) pa_nil))) pa_nil)))) pa_nil)))
  (pss_one (ps_ret (pv 1))))))), ?_⟩
    have z3 : 3 ≤ sizeLine := by decide
    refine ⟨_, rfl, a, C, fs, _, _, bs 0, rfl, X, e, .own _, hk 0 (by decide), _, rfl, a, C, fs, _, _, bs 1, rfl, X, e, .own _, hk 1 (by decide), _, rfl, a, C, fs, _, _, bs 2, rfl, X, e, .own _, hk 2 (by decide), z3, fun l hl => ?_⟩
    have e1 := e.mono (snew (o := HO.lst [.bl (bs 0), .bl (bs 1), .bl (bs 2)]) hl)
    have s1 := snew (o := HO.lst [.bl (bs 0), .bl (bs 1), .bl (bs 2)]) hl
    have l1 : (upd H l (.lst [.bl (bs 0), .bl (bs 1), .bl (bs 2)])) l = some (.lst [.bl (bs 0), .bl (bs 1), .bl (bs 2)]) := upd_same
    generalize upd H l (.lst [.bl (bs 0), .bl (bs 1), .bl (bs 2)]) = H1 at e1 s1 l1 ⊢
    refine ⟨_, rfl, Or.inl ⟨rfl, _, Or.inl (Or.inl l1)⟩, _, rfl, a, C, fs, _, _, bs 3, rfl, X, e1, .own _, hk 3 (by decide), _, rfl, a, C, fs, _, _, bs 4, rfl, X, e1, .own _, hk 4 (by decide), _, rfl, a, C, fs, _, _, bs 5, rfl, X, e1, .own _, hk 5 (by decide), z3, fun p1 hp1 => ?_⟩
    have e2 := e1.mono (snew (o := HO.lst [.bl (bs 3), .bl (bs 4), .bl (bs 5)]) hp1)
    have l2 := snew (o := HO.lst [.bl (bs 3), .bl (bs 4), .bl (bs 5)]) hp1 _ _ l1
    refine ⟨l, p1, _, _, rfl, rfl, l2, upd_same, (by show 3 + 3 ≤ sizeLine; decide), ?_⟩
    have e3 := e2.put (o := .lst ([.bl (bs 0), .bl (bs 1), .bl (bs 2)] ++ [.bl (bs 3), .bl (bs 4), .bl (bs 5)])) l2
    have s3 : Same H (upd (upd H1 p1 (.lst [.bl (bs 3), .bl (bs 4), .bl (bs 5)])) l (.lst ([.bl (bs 0), .bl (bs 1), .bl (bs 2)] ++ [.bl (bs 3), .bl (bs 4), .bl (bs 5)]))) := smut2 (same_tr s1 (snew hp1)) hl
    have l3 : (upd (upd H1 p1 (.lst [.bl (bs 3), .bl (bs 4), .bl (bs 5)])) l (.lst ([.bl (bs 0), .bl (bs 1), .bl (bs 2)] ++ [.bl (bs 3), .bl (bs 4), .bl (bs 5)]))) l = some (.lst ([.bl (bs 0), .bl (bs 1), .bl (bs 2)] ++ [.bl (bs 3), .bl (bs 4), .bl (bs 5)])) := upd_same
    generalize upd (upd H1 p1 (.lst [.bl (bs 3), .bl (bs 4), .bl (bs 5)])) l (.lst ([.bl (bs 0), .bl (bs 1), .bl (bs 2)] ++ [.bl (bs 3), .bl (bs 4), .bl (bs 5)])) = H3 at e3 s3 l3 ⊢
    refine ⟨_, rfl, Or.inl ⟨rfl, _, Or.inl (Or.inl l3)⟩, _, rfl, a, C, fs, _, _, bs 6, rfl, X, e3, .own _, hk 6 (by decide), _, rfl, a, C, fs, _, _, bs 7, rfl, X, e3, .own _, hk 7 (by decide), _, rfl, a, C, fs, _, _, bs 8, rfl, X, e3, .own _, hk 8 (by decide), z3, fun p2 hp2 => ?_⟩
    have e4 := e3.mono (snew (o := HO.lst [.bl (bs 6), .bl (bs 7), .bl (bs 8)]) hp2)
    have l4 := snew (o := HO.lst [.bl (bs 6), .bl (bs 7), .bl (bs 8)]) hp2 _ _ l3
    refine ⟨l, p2, _, _, rfl, rfl, l4, upd_same, (by show 6 + 3 ≤ sizeLine; decide), ?_⟩
    have e5 := e4.put (o := .lst (([.bl (bs 0), .bl (bs 1), .bl (bs 2)] ++ [.bl (bs 3), .bl (bs 4), .bl (bs 5)]) ++ [.bl (bs 6), .bl (bs 7), .bl (bs 8)])) l4
    have s5 : Same H (upd (upd H3 p2 (.lst [.bl (bs 6), .bl (bs 7), .bl (bs 8)])) l (.lst (([.bl (bs 0), .bl (bs 1), .bl (bs 2)] ++ [.bl (bs 3), .bl (bs 4), .bl (bs 5)]) ++ [.bl (bs 6), .bl (bs 7), .bl (bs 8)]))) := smut2 (same_tr s3 (snew hp2)) hl
    have l5 : (upd (upd H3 p2 (.lst [.bl (bs 6), .bl (bs 7), .bl (bs 8)])) l (.lst (([.bl (bs 0), .bl (bs 1), .bl (bs 2)] ++ [.bl (bs 3), .bl (bs 4), .bl (bs 5)]) ++ [.bl (bs 6), .bl (bs 7), .bl (bs 8)]))) l = some (.lst (([.bl (bs 0), .bl (bs 1), .bl (bs 2)] ++ [.bl (bs 3), .bl (bs 4), .bl (bs 5)]) ++ [.bl (bs 6), .bl (bs 7), .bl (bs 8)])) := upd_same
    generalize upd (upd H3 p2 (.lst [.bl (bs 6), .bl (bs 7), .bl (bs 8)])) l (.lst (([.bl (bs 0), .bl (bs 1), .bl (bs 2)] ++ [.bl (bs 3), .bl (bs 4), .bl (bs 5)]) ++ [.bl (bs 6), .bl (bs 7), .bl (bs 8)])) = H5 at e5 s5 l5 ⊢
    refine ⟨_, rfl, Or.inl ⟨rfl, _, Or.inl (Or.inl l5)⟩, _, rfl, a, C, fs, _, _, bs 9, rfl, X, e5, .own _, hk 9 (by decide), _, rfl, a, C, fs, _, _, bs 10, rfl, X, e5, .own _, hk 10 (by decide), _, rfl, a, C, fs, _, _, bs 11, rfl, X, e5, .own _, hk 11 (by decide), z3, fun p3 hp3 => ?_⟩
    have l6 := snew (o := HO.lst [.bl (bs 9), .bl (bs 10), .bl (bs 11)]) hp3 _ _ l5
    refine ⟨l, p3, _, _, rfl, rfl, l6, upd_same, (by show 9 + 3 ≤ sizeLine; decide), ?_⟩
    exact ⟨_, rfl, q l _ hl (smut2 (same_tr s5 (snew hp3)) hl) upd_same⟩
theorem bools_dps {H : Hp} : ∀ bs : List Bool, DpAll K H (bs.map V.bl) (bs.map PyData.bool)
  | [] => .nil
  | b :: bs => .cons (.bl b) (bools_dps bs)
theorem bools_eqv (bs : List Bool) : SeqAt.shaped (.list (bs.map PyData.bool)) = true ∧ PyData.eqv (.list (bs.map PyData.bool)) (.list (bs.map PyData.bool)) = true := by
  have hi : PyData.canLayAll0 (bs.map PyData.bool) = true ∧ PyData.depthAll (bs.map PyData.bool) = 0 := by
    induction bs with
    | nil => exact ⟨by simp [PyData.canLayAll0], by simp [PyData.depthAll]⟩
    | cons n ns ih => exact ⟨by simp [PyData.canLayAll0, PyData.canLay0, ih.1], by simp [PyData.depthAll, PyData.depth, ih.2]⟩
  have s : SeqAt.shaped (.list (bs.map PyData.bool)) = true := by
    unfold SeqAt.shaped
    rw [Bool.and_eq_true]
    exact ⟨by simpa [PyData.canLay0] using hi.1, decide_eq_true (by simp [PyData.depth, hi.2])⟩
  exact ⟨s, SeqAt.eqv_refl _ (SeqAt.canLay_of_shaped s)⟩
/-- a value whose repr may be asked -/
def Th (K : PySem.W.Frag) (H : Hp) (v : V) : Prop := ∃ d : PyData, Dp K H v d ∧ d.canLay0 = true ∧ d.showable = true ∧ d.depth ≤ 60 ∧ ((∃ i, d = .int i) ∨ d.shown.length ≤ sizeLine)
theorem th_non {H : Hp} : Th K H .non := ⟨.none, .non, by simp [PyData.canLay0], by simp [PyData.showable], by simp [PyData.depth], .inr (by simp only [PyData.shown]; decide +kernel)⟩
theorem th_int {H : Hp} {i : Int} (h : i.natAbs < 2 ^ 100) : Th K H (.int i) := ⟨.int i, .int i, by simp [PyData.canLay0], by simp only [PyData.showable]; exact decide_eq_true (Nat.lt_of_lt_of_le (PySem.Flt.log2_lt_of (by decide) h) (by decide)), by simp [PyData.depth], .inl ⟨i, rfl⟩⟩
theorem th_text {H : Hp} : Th K H (.str "text") := ⟨.str "text", .str _, by simp only [PyData.canLay0]; decide +kernel, by simp [PyData.showable], by simp [PyData.depth], .inr (by simp only [PyData.shown]; decide +kernel)⟩
theorem th_cell {H : Hp} {t1 t2 : Addr} (h1 : H t1 = some (.tup [.int 0])) (h2 : H t2 = some (.tup [.str "a", .ref t1])) : Th K H (.ref t2) :=
  ⟨.tuple [.str "a", .tuple [.int 0]], .tup (Or.inl (Or.inl h2)) (.cons (.str _) (.cons (.tup (Or.inl (Or.inl h1)) (.cons (.int _) .nil)) .nil)), by simp only [PyData.canLay0, PyData.canLayAll0]; decide +kernel, by simp only [PyData.showable, PyData.showableAll]; decide +kernel, by simp [PyData.depth, PyData.depthAll], .inr (by simp only [PyData.shown, PyData.shownAll]; decide +kernel)⟩
theorem Th.mono {H H' : Hp} {v : V} (h : Th K H v) (e : Same H H') : Th K H' v := by
  obtain ⟨d, h1, h2⟩ := h
  exact ⟨d, dpm e _ _ h1, h2⟩
end
end Fr

namespace Fr
open PySem PySem.Spec PyProof.Rows L2
theorem atI_in {α : Type} {xs : List α} {i : Int} (h0 : 0 ≤ i) (h1 : i < xs.length) : ∃ v, atI xs i = some v ∧ v ∈ xs := by
  have h2 : i.toNat < xs.length := by omega
  refine ⟨xs[i.toNat], ?_, List.getElem_mem h2⟩
  have := atI_nat (List.getElem?_eq_getElem h2)
  rw [Int.toNat_of_nonneg h0] at this
  exact this
theorem BagOk.new {H : Hp} {b g p : Addr} {o : HO} {m : Nat} (h : BagOk H b g m) (e : H p = none) : BagOk (upd H p o) b g m := by
  obtain ⟨ns, l, t, z, h1, h2, h3⟩ := h.ex
  exact ⟨ns, l, t, z, snew e _ _ h1, snew e _ _ h2, h3⟩
theorem BagOk.grow {H H' : Hp} {b g : Addr} {m : Nat} (h : BagOk H b g m) (e : Same H H') : BagOk H' b g m := by
  obtain ⟨ns, l, t, z, h1, h2, h3⟩ := h.ex
  exact ⟨ns, l, t, z, e _ _ h1, e _ _ h2, h3⟩
theorem BagOk.mono {H : Hp} {b g : Addr} {m m' : Nat} (h : BagOk H b g m) (e : m ≤ m') : BagOk H b g m' := by
  obtain ⟨ns, l, t, z, h1, h2, h3, h4, h5, h6, h7, h8⟩ := h.ex
  exact ⟨ns, l, t, z, h1, h2, h3, h4, h5, h6, by omega, h8⟩
theorem BagOk.ne {H : Hp} {b g p : Addr} {m : Nat} (h : BagOk H b g m) (e : H p = none) : p ≠ b ∧ p ≠ g := by
  obtain ⟨ns, l, t, z, h1, h2, _⟩ := h.ex
  exact ⟨(ne_of_none h1 e).symm, (ne_of_none h2 e).symm⟩
section
variable {P : Program} {w : World} {K : PySem.W.Frag} {mg : Str → Option Value} {base : Heap} {c : Nat → Addr}
structure ErrsOk (K : PySem.W.Frag) (c : Nat → Addr) : Prop where
  cl : ∀ i, i < 13 → ErrC K (c i)
  no : ∀ i, i < 13 → PySem.W.findIn K (.ref (c i)) "value" = some none
  sub : ∀ i j, i < 12 → j < 12 → PySem.W.kitOne K (.ref (c i)) (.ref (c j)) = some (decide (j = i))
  top : ∀ j, j < 12 → PySem.W.kitOne K (.ref (c 12)) (.ref (c j)) = some false
  re : ∀ i, i < 12 → PySem.W.kitOne K (.ref (c i)) (.ref (c 12)) = some true
  ve : ∀ i, i < 12 → PySem.W.kitOne K (.ref (c i)) (.type "ValueError") = some true
def spLawE (K : PySem.W.Frag) : Sp := fun vs H Q _ => ∃ (a : Addr) (ns : List Int), vs = [.ref a] ∧ SqL K H a (ns.map V.int) ∧ ns.length ≤ 63 ∧ ∀ H', Q (.bl true) H'
theorem ok_lawE {f : Addr} {fd : FuncData} (F : Fun K "law" "law" s_law f fd) (T : TxE mg c) (O : ErrsOk K c) (c_Lbag : C8.Cal P w K mg base 1 "_law_bag" (spBag K) []) (c_Ldraw : C8.Cal P w K mg base 1 "_law_draw" spDraw [])
    (c_Lmade : C8.Cal P w K mg base 3 "_law_made" (spMade K c) []) (c_Lflags : C8.Cal P w K mg base 1 "_law_flags" (spFlags K c) []) (m_ReadError : MkE P w K mg base 1 "ReadError" (c 12) (spErr K)) : FnG P w K mg base 5 f fd ["_law_script"] (spLawE K) := by
  refine Fun_okG F sc_law (fun vs H Q E h => ?_) (fun cdv A outer sh H vs Q E hr h => ?_)
  · obtain ⟨a, ns, rfl, _⟩ := h
    rfl
  · obtain ⟨a, ns, rfl, ha, hl, q⟩ := h
    refine ⟨_, (pss_cons (ps_set (i := 1) sc_law.nd rfl (by first | exact Or.inl rfl | exact Or.inr rfl) (C8.pe_c c_Lbag hr.room (by decide) (by rfl) (pa_cons (pv 0) pa_nil)))
  (pss_cons (ps_for PassesOwn.never rfl (pi_range1 (by rfl) T.b_range (pa_cons (pe_op op_add pe_int (pe_callB (call_min2 rfl) (by rfl) T.b_min (by decide +kernel) (pa_cons pe_int (pa_cons (pe_callB call_len_seq (by rfl) T.b_len PySem.boot_len (pa_cons (pv 0) pa_nil)) pa_nil)))) pa_nil)) (pg_name (i := 2) sc_law.nd rfl (by first | exact Or.inl rfl | exact Or.inr rfl))
    (pss_cons (ps_set (i := 3) sc_law.nd rfl (by first | exact Or.inl rfl | exact Or.inr rfl) (pe_ix ix_tup (pe_tup (pa_cons pe_non (pa_cons (pe_tup (pa_cons pe_str (pa_cons (pe_tup (pa_cons pe_int pa_nil)) pa_nil))) (pa_cons pe_str (pa_cons (C8.pe_c c_Ldraw hr.room (by decide) (by rfl) (pa_cons (pv 1) (pa_cons (pe_op op_pow pe_int pe_int) pa_nil))) (pa_cons pe_int (pa_cons (pe_un un_neg pe_int) pa_nil))))))) (C8.pe_c c_Ldraw hr.room (by decide) (by rfl) (pa_cons (pv 1) (pa_cons pe_int pa_nil))) (fun _ _ => rfl)))
    (pss_cons (ps_set (i := 4) sc_law.nd rfl (by first | exact Or.inl rfl | exact Or.inr rfl) (C8.pe_c c_Lmade hr.room (by decide) (by rfl) (pa_cons (pv 3) pa_nil)))
    (pss_cons (ps_for PassesOwn.never rfl (pi_range1 (by rfl) T.b_range (pa_cons pe_int pa_nil)) (pg_name (i := 5) sc_law.nd rfl (by first | exact Or.inl rfl | exact Or.inr rfl))
      (pss_one (ps_for PassesOwn.never rfl (pi_tup (pe_ix ix_list (pv 4) (pv 5) (fun _ _ => rfl))) (pg_name (i := 6) sc_law.nd rfl (by first | exact Or.inl rfl | exact Or.inr rfl))
        (pss_cons (ps_if (PW.pt (pw_or (pt_cmpR op_ne (pe_callB (call_reprD hr.free hr.room.units1) (by rfl) T.b_repr (by decide +kernel) (pa_cons (pe_errF (pv 6)) pa_nil)) (pe_callB (call_reprD hr.free hr.room.units1) (by rfl) T.b_repr (by decide +kernel) (pa_cons (pv 3) pa_nil)) (nomark _)) (pw_or (pt_not (pt_val (pe_callB call_isX (by rfl) T.b_isinstance (by decide +kernel) (pa_cons (pv 6) (pa_cons (pe_glob (by rfl) T.g_ReadError (relv_ref _)) pa_nil))))) (pw_or1 (pt_not (pt_val (pe_callB call_isX (by rfl) T.b_isinstance (by decide +kernel) (pa_cons (pv 6) (pa_cons (pe_bltn (by rfl) T.b_ValueError (by decide +kernel) (relv_ty "ValueError")) pa_nil)))))))))
          (pss_one (ps_ret pe_bl))
          pss_nil)
        (pss_one (ps_if (pt_cmpR (op_neD hr.room.units) (C8.pe_c c_Lflags hr.room (by decide) (by rfl) (pa_cons (pv 6) pa_nil)) (pe_lc (own := [("_law_spot", 7)]) (g := gName 7) (tt := tYes) (by rfl) sc_law.nd (pi_range1 (by rfl) T.b_range (pa_cons pe_int pa_nil)) (blkOk_by (N := ["_law_script", "_law_bag_here", "_law_turn", "_law_thing", "_law_made_here", "_law_place", "_law_e", "_law_spot"]) (sc := defScope s_law) (by decide +kernel)) (fun _ _ _ _ _ => (pg_name (i := 7) sc_law.nd rfl (by first | exact Or.inl rfl | exact Or.inr rfl))) (fun _ _ _ _ _ => pts_nil) (fun _ _ _ _ _ => (pe_cmpR op_eq (pv 7) (pv 5) (nomark _)))) (nomark _))
          (pss_one (ps_ret pe_bl))
          pss_nil))))))
    (pss_one (ps_if (PW.pt (pw_or (pt_cmpR op_ne (pe_callB (call_reprD hr.free hr.room.units1) (by rfl) T.b_repr (by decide +kernel) (pa_cons (pe_errF (pe_e m_ReadError hr.room (by decide) (by rfl) (pa_cons (pv 3) pa_nil))) pa_nil)) (pe_callB (call_reprD hr.free hr.room.units1) (by rfl) T.b_repr (by decide +kernel) (pa_cons (pv 3) pa_nil)) (nomark _)) (pw_or1 (pt_cmpR op_ne (pe_callB (call_reprD hr.free hr.room.units1) (by rfl) T.b_repr (by decide +kernel) (pa_cons (pe_errF (pe_ek m_ReadError hr.room (by decide) (by rfl) (pk_cons (pv 3) pk_nil))) pa_nil)) (pe_callB (call_reprD hr.free hr.room.units1) (by rfl) T.b_repr (by decide +kernel) (pa_cons (pv 3) pa_nil)) (nomark _)))))
      (pss_one (ps_ret pe_bl))
      pss_nil))))))
  (pss_one (ps_ret (pe_cmpR (op_eqD hr.room.units) (C8.pe_c c_Lflags hr.room (by decide) (by rfl) (pa_cons (pe_e m_ReadError hr.room (by decide) (by rfl) (pa_cons pe_str pa_nil)) pa_nil)) (pe_op op_rep (pe_lst (pa_cons pe_bl pa_nil)) pe_int) (nomark _)))))), ?_⟩
    refine ⟨_, rfl, a, ns, rfl, ha, hl, fun b g H1 hb hg s1 bo => ?_⟩
    have ngb : True := True.intro
    refine ⟨_, rfl, a, _, rfl, Or.inl (sql s1 ha), ?_⟩
    have hlap : (4 + (if ((ns.map V.int).length : Int) < 8 then ((ns.map V.int).length : Int) else 8)) ≤ 12 ∧ 0 ≤ (4 + (if ((ns.map V.int).length : Int) < 8 then ((ns.map V.int).length : Int) else 8)) := by
      split <;> omega
    refine ⟨8, _, rfl, _, _, rfl, rfl, _, rfl, by omega, by omega, ?_⟩
    generalize (4 + (if ((ns.map V.int).length : Int) < 8 then ((ns.map V.int).length : Int) else 8)) = laps at hlap
    refine for_range (fun i σ H' => ∃ (y2 y3 y4 y5 y6 y7 : Option V), σ = [some (.ref a), some (.ref b), y2, y3, y4, y5, y6, y7] ∧ BagOk H' b g (10 * i))
      ⟨none, none, none, none, none, none, rfl, bo⟩ ?_ ?_
    · rintro i σ H2 hi ⟨y2, y3, y4, y5, y6, y7, rfl, bo2⟩
      have hi12 : i < 12 := by omega
      -- the thing
      refine ⟨(by show 1 ≤ sizeLine; decide), fun t1 n1 => ⟨(by show 2 ≤ sizeLine; decide), fun t2 n2 => ?_⟩⟩
      have bo3 := (bo2.new (o := HO.tup [.int 0]) n1).new (o := HO.tup [.str "a", .ref t1]) n2
      have d1 := snew (o := HO.tup [.str "a", .ref t1]) n2 _ _ (upd_same (o := HO.tup [.int 0]))
      have d2 : (upd (upd H2 t1 (.tup [.int 0])) t2 (.tup [.str "a", .ref t1])) t2 = some (.tup [.str "a", .ref t1]) := upd_same
      generalize upd (upd H2 t1 (.tup [.int 0])) t2 (.tup [.str "a", .ref t1]) = H3 at bo3 d1 d2 ⊢
      refine ⟨_, rfl, 10, 20, rfl, rfl, ⟨by decide, by decide, by decide⟩, b, g, _, _, rfl, bo3, by omega, by decide +kernel, by decide +kernel, fun k1 H4 k10 k11 D4 => ⟨1, rfl, (by show 6 ≤ sizeLine; decide), fun t3 n3 => ?_⟩⟩
      have off : ∀ {z : Addr} {xs : List V}, H3 z = some (.tup xs) → z ≠ b ∧ z ≠ g := fun {z xs} hz => by
        obtain ⟨_, _, _, _, h1, h2, _⟩ := bo3.ex
        refine ⟨fun e => ?_, fun e => ?_⟩
        · rw [e, h1] at hz
          cases hz
        · rw [e, h2] at hz
          cases hz
      have f1 : H4 t1 = some (.tup [.int 0]) := by rw [D4.ne _ (off d1).1 (off d1).2]; exact d1
      have f2 : H4 t2 = some (.tup [.str "a", .ref t1]) := by rw [D4.ne _ (off d2).1 (off d2).2]; exact d2
      have bo5 := D4.ok.new (o := HO.tup [.non, .ref t2, .str "text", .int k1, .int 0, .int (-1)]) n3
      refine ⟨_, rfl, b, g, 6, _, rfl, bo5, by omega, by decide, by decide, fun k2 H6 k20 k21 D6 => ?_⟩
      have g3 : (upd H4 t3 (.tup [.non, .ref t2, .str "text", .int k1, .int 0, .int (-1)])) t3 = some (.tup [.non, .ref t2, .str "text", .int k1, .int 0, .int (-1)]) := upd_same
      have nn := D4.ok.ne n3
      have g6 : H6 t3 = some (.tup [.non, .ref t2, .str "text", .int k1, .int 0, .int (-1)]) := by rw [D6.ne _ nn.1 nn.2]; exact g3
      have g1 : H6 t1 = some (.tup [.int 0]) := by rw [D6.ne _ (off d1).1 (off d1).2]; exact snew n3 _ _ f1
      have g2 : H6 t2 = some (.tup [.str "a", .ref t1]) := by rw [D6.ne _ (off d2).1 (off d2).2]; exact snew n3 _ _ f2
      obtain ⟨th, e1, e2⟩ := atI_in (xs := [V.non, .ref t2, .str "text", .int k1, .int 0, .int (-1)]) k20 k21
      have hth : Th K H6 th := by
        simp only [List.mem_cons, List.not_mem_nil, or_false] at e2
        rcases e2 with rfl | rfl | rfl | rfl | rfl | rfl
        · exact th_non
        · exact th_cell g1 g2
        · exact th_text
        · refine th_int ?_
          have : (10 : Int) ^ ((20 : Int).toNat) = 100000000000000000000 := by decide +kernel
          rw [this] at k11
          omega
        · exact th_int (by decide)
        · exact th_int (by decide)
      refine ⟨t3, _, k2, th, rfl, rfl, Or.inl (Or.inl g6), e1, ?_⟩
      have bo6 := D6.ok
      -- made
      refine ⟨_, rfl, th, rfl, fun fo H7 xs hfo s7 hx M => ?_⟩
      have bo7 := bo6.grow s7
      have th7 := hth.mono s7
      have xl := M.len
      -- place by place
      refine ⟨12, rfl, by decide, by decide, for_range (fun j σ H' => ∃ (y5 y6 y7 : Option V), σ = [some (.ref a), some (.ref b), some (.int (0 + (i : Int))), some th, some (.ref fo), y5, y6, y7] ∧ Same H7 H')
        ⟨y5, y6, y7, rfl, same_refl⟩ ?_ ?_⟩
      · rintro j σ H8 hj ⟨y5, y6, y7, rfl, s8⟩
        have hj12 : j < 12 := hj
        obtain ⟨t, ea, eb, m1, m2, m3, m4⟩ := (M.mono s8).get (i := j) (C := c j) (by
          rw [List.getElem?_map, List.getElem?_range hj12]
          rfl)
        have hat : atI xs (0 + (j : Int)) = some (.ref t) := by
          rw [Int.zero_add]
          exact atI_nat m1
        refine ⟨_, rfl, _, rfl, fo, xs, _, _, rfl, rfl, Or.inl (Or.inl (s8 _ _ hx)), hat, t, rfl, ⟨_, Or.inl (Or.inl m2)⟩, for_it (walk_tup (K := K) (a := t) (xs := [V.ref ea, V.ref eb])) (fun n σ H' => ∃ (y6 y7 : Option V), σ = [some (.ref a), some (.ref b), some (.int (0 + (i : Int))), some th, some (.ref fo), some (.int (0 + (j : Int))), y6, y7] ∧ Same H8 H')
          ⟨y6, y7, rfl, same_refl⟩ (fun n σ H' _ ⟨_, _, _, s⟩ => Or.inl (Or.inl (s _ _ m2))) ?_ ?_⟩
        · rintro n y σ _ H9 hn ⟨y6, y7, rfl, s9⟩ ⟨rfl, hy⟩
          have he : ∃ e, y = .ref e ∧ ErrAt H9 e (c j) [(("value" : Str), th)] := by
            match n, hn with
            | 0, _ =>
              cases hy
              exact ⟨ea, rfl, m3.mono s9⟩
            | 1, _ =>
              cases hy
              exact ⟨eb, rfl, m4.mono s9⟩
          obtain ⟨e, rfl, err⟩ := he
          obtain ⟨dd, h1, h2, h3, h4, h5⟩ := (th7.mono s8).mono s9
          refine ⟨_, rfl, e, c j, _, th, rfl, O.cl j (by omega), err, O.no j (by omega), rfl, th, dd, rfl, h1, h2, h3, h4, h5, _, rfl, th, dd, rfl, h1, h2, h3, h4, h5, rfl, _, rfl, ?_⟩
          rw [decide_eq_true rfl]
          refine iteF ?_
          refine ⟨_, rfl, e, c j, _, _, _, true, rfl, O.cl j (by omega), err, .own _, O.re j hj12, _, rfl, ?_⟩
          refine iteF ?_
          refine ⟨_, rfl, e, c j, _, _, _, true, rfl, O.cl j (by omega), err, .ty _, O.ve j hj12, _, rfl, ?_⟩
          refine iteF ?_
          -- the flags
          refine ⟨_, rfl, e, c j, _, fun k => decide (k = j), rfl, O.cl j (by omega), err, fun k hk => O.sub j k hj12 hk, fun fl H10 hfl s10 fl10 => ?_⟩
          refine ⟨12, rfl, by decide, by decide, fun Dl hDl => lc_flat walk_range (fun k => V.bl (decide (V.int (0 + (k : Int)) = V.int (0 + (j : Int))))) (by decide) hDl (fun _ _ => True.intro) (fun i H x H' y => by
            obtain ⟨rfl, _⟩ := y
            exact same_refl) ?_ ?_⟩
          · rintro k x Ha Hb hk sm ⟨rfl, rfl⟩ R hR
            exact ⟨rfl, _, rfl, _, rfl, rfl, hR _ same_refl⟩
          · intro Hc sc hDc
            have eb : ((List.range (12 : Int).toNat).map fun k : Nat => V.bl (decide (V.int (0 + (k : Int)) = V.int (0 + (j : Int))))) = ((List.range 12).map fun k => decide (k = j)).map V.bl := by
              rw [List.map_map]
              refine List.map_congr_left fun k _ => congrArg V.bl (decide_eq_decide.mpr ⟨fun h => ?_, fun h => by rw [h]⟩)
              have := V.int.inj h
              omega
            rw [eb] at hDc
            have hf : Hc fl = some (.lst (((List.range 12).map fun k => decide (k = j)).map V.bl)) := by
              rw [List.map_map]
              exact sc _ _ fl10
            obtain ⟨q1, q2⟩ := bools_eqv ((List.range 12).map fun k => decide (k = j))
            refine ⟨_, _, .lst (Or.inl (Or.inl hf)) (bools_dps _), .lst (Or.inl (Or.inl hDc)) (bools_dps _), q1, q1, _, rfl, ?_⟩
            rw [q2]
            refine iteF ?_
            exact ⟨_, _, rfl, same_tr s9 (same_tr s10 sc)⟩
        · rintro σ H9 ⟨y6, y7, rfl, s9⟩
          exact ⟨_, _, _, rfl, same_tr s8 s9⟩
      · rintro σ H8 ⟨y5, y6, y7, rfl, s8⟩
        have oc := O.cl 12 (by decide)
        have on := O.no 12 (by decide)
        refine ⟨_, rfl, (by show 1 ≤ 1000; decide), ?_⟩
        refine err_ans oc.oex on fun x1 H9 hx1 s9 er1 => ?_
        obtain ⟨dd, h1, h2, h3, h4, h5⟩ := (th7.mono s8).mono s9
        refine ⟨x1, c 12, _, th, rfl, oc, er1, on, rfl, th, dd, rfl, h1, h2, h3, h4, h5, _, rfl, th, dd, rfl, h1, h2, h3, h4, h5, rfl, _, rfl, ?_⟩
        rw [decide_eq_true rfl]
        refine iteF ?_
        refine ⟨_, rfl, th, rfl, ?_⟩
        refine err_ans oc.oex on fun x2 H10 hx2 s10 er2 => ?_
        have h1' := dpm s10 _ _ h1
        refine ⟨x2, c 12, _, th, rfl, oc, er2, on, rfl, th, dd, rfl, h1', h2, h3, h4, h5, _, rfl, th, dd, rfl, h1', h2, h3, h4, h5, rfl, _, rfl, ?_⟩
        rw [decide_eq_true rfl]
        refine iteF ?_
        exact ⟨_, _, _, _, _, _, rfl, (((bo7.grow s8).grow s9).grow s10).mono (by omega)⟩
    · rintro σ H2 ⟨y2, y3, y4, y5, y6, y7, rfl, bo2⟩
      have oc := O.cl 12 (by decide)
      have on := O.no 12 (by decide)
      refine ⟨(by show 1 ≤ 1000; decide), ?_⟩
      refine err_ans oc.oex on fun x1 H3 hx1 s3 er1 => ?_
      refine ⟨x1, c 12, _, fun _ => false, rfl, oc, er1, O.top, fun fl H4 hfl s4 fl4 => ?_⟩
      refine ⟨(by show 1 ≤ sizeLine; decide), fun p hp => ?_⟩
      refine ⟨p, 12, [.bl false], rfl, rfl, upd_same, by decide, by decide, (by show 1 * 12 ≤ sizeLine; decide), fun p2 hp2 => ?_⟩
      obtain ⟨q1, q2⟩ := bools_eqv (List.replicate 12 false)
      have k1 := snew (o := HO.lst (List.replicate (12 : Int).toNat [V.bl false]).flatten) hp2 _ _ (snew hp _ _ fl4)
      refine ⟨.list ((List.replicate 12 false).map .bool), .list ((List.replicate 12 false).map .bool), .lst (Or.inl (Or.inl k1)) (bools_dps (List.replicate 12 false)), .lst (Or.inl (Or.inl upd_same)) (bools_dps (List.replicate 12 false)), q1, q1, ?_⟩
      rw [q2]
      exact q _
end
end Fr

namespace Fr
open PySem PySem.Spec PyProof.Rows L2
def cOf (l : List Addr) (i : Nat) : Addr := l.getD i 0
def ExcRow (K : PySem.W.Frag) (C : Addr) : Prop := ∃ nm q N bs bm sn sub ab col dd k0 k1 k2 k3 k5, K.lookup C = some (excClassObj nm q C N bs bm true sn sub ab col dd k0 k1 k2 k3 k5 "ValueError.__new__") ∧ PySem.HandSPX.refsVE bm = true
theorem excRow_of {K : PySem.W.Frag} {C N : Addr} {nm q : Str} {bs bm sub : List Value} {sn : List Str} {ab : Bool} {col : Option Bool} {dd : Option Addr} {k0 k1 k2 k3 k5 : Option Value} (l : K.lookup C = some (excClassObj nm q C N bs bm true sn sub ab col dd k0 k1 k2 k3 k5 "ValueError.__new__")) (r : PySem.HandSPX.refsVE bm = true) : ExcRow K C := ⟨_, _, _, _, _, _, _, _, _, _, _, _, _, _, _, l, r⟩
theorem all12 {p : Nat → Bool} (h : ((List.range 12).all p) = true) {i : Nat} (hi : i < 12) : p i = true := List.all_eq_true.mp h i (List.mem_range.mpr hi)
theorem all_mk {l : PySem.W.OpenLaw} {w : World} {K : PySem.W.Frag} {h : Heap} {mg : Str → Option Value} {fa : Addr} (X : K.In h) (G : h.Ns mainGlobals mg) (hfa : mg "law" = some (.ref fa))
    {D0 D1 D2 D3 D4 D5 D6 D7 D8 D9 D10 D11 D12 fE f1 f2 f3 f4 f5 : Addr} {od1 an1 od2 an2 od3 an3 od4 an4 od5 an5 odE anE : Option Addr} {sl1 sl2 sl3 sl4 sl5 slE : Array (Option Value)} {oc1 kV1 dc1 pm1 ct1 cd1 oc2 kV2 dc2 pm2 ct2 cd2 oc3 kV3 dc3 pm3 ct3 cd3 oc4 kV4 dc4 pm4 ct4 cd4 oc5 kV5 dc5 pm5 ct5 cd5 ocE kVE dcE pmE ctE cdE : Value}
    (a1 : PySem.W.nsIn K mainGlobals "_law_bag" = some (some (.ref f1)))
    (l1 : K.lookup f1 = some ⟨oc1, od1, .func (PySem.W.fnOf "_law_bag" "_law_bag" (defArgs s_Lbag) (defBody s_Lbag) (defScope s_Lbag) .none kV1 dc1 pm1 an1 cd1 ct1), sl1⟩)
    (e1 : PySem.W.codeIn K cd1 "_law_bag" = true)
    (k1 : PySem.W.keepIn K (.ref f1) = true)
    (a2 : PySem.W.nsIn K mainGlobals "_law_draw" = some (some (.ref f2)))
    (l2 : K.lookup f2 = some ⟨oc2, od2, .func (PySem.W.fnOf "_law_draw" "_law_draw" (defArgs s_Ldraw) (defBody s_Ldraw) (defScope s_Ldraw) .none kV2 dc2 pm2 an2 cd2 ct2), sl2⟩)
    (e2 : PySem.W.codeIn K cd2 "_law_draw" = true)
    (k2 : PySem.W.keepIn K (.ref f2) = true)
    (a3 : PySem.W.nsIn K mainGlobals "_law_made" = some (some (.ref f3)))
    (l3 : K.lookup f3 = some ⟨oc3, od3, .func (PySem.W.fnOf "_law_made" "_law_made" (defArgs s_Lmade) (defBody s_Lmade) (defScope s_Lmade) .none kV3 dc3 pm3 an3 cd3 ct3), sl3⟩)
    (e3 : PySem.W.codeIn K cd3 "_law_made" = true)
    (k3 : PySem.W.keepIn K (.ref f3) = true)
    (a4 : PySem.W.nsIn K mainGlobals "_law_flags" = some (some (.ref f4)))
    (l4 : K.lookup f4 = some ⟨oc4, od4, .func (PySem.W.fnOf "_law_flags" "_law_flags" (defArgs s_Lflags) (defBody s_Lflags) (defScope s_Lflags) .none kV4 dc4 pm4 an4 cd4 ct4), sl4⟩)
    (e4 : PySem.W.codeIn K cd4 "_law_flags" = true)
    (k4 : PySem.W.keepIn K (.ref f4) = true)
    (a5 : PySem.W.nsIn K mainGlobals "law" = some (some (.ref f5)))
    (l5 : K.lookup f5 = some ⟨oc5, od5, .func (PySem.W.fnOf "law" "law" (defArgs s_law) (defBody s_law) (defScope s_law) .none kV5 dc5 pm5 an5 cd5 ct5), sl5⟩)
    (e5 : PySem.W.codeIn K cd5 "law" = true)
    (k5 : PySem.W.keepIn K (.ref f5) = true)
    (c0 : PySem.W.nsIn K mainGlobals "InvalidSystem" = some (some (.ref D0)))
    (x0 : ExcRow K D0)
    (sa0 : PySem.W.findIn K (.ref D0) "__setattr__" = some (some (.builtin "object.__setattr__")))
    (ex0 : PySem.W.subIn K (.ref D0) (.type "BaseException") = some true)
    (ty0 : PySem.W.typeIn K (.ref D0) = some (.type "type"))
    (kp0 : PySem.W.keepIn K (.ref D0) = true)
    (ga0 : PySem.W.findIn K (.ref D0) "__getattribute__" = some (some (.builtin "BaseException.__getattribute__")))
    (gg0 : PySem.W.findIn K (.ref D0) "__getattr__" = some none)
    (hd0 : PySem.W.hasDictIn K D0 = true)
    (kc0 : PySem.W.findIn K (.ref D0) "__class__" = some (some (.builtin "object.__class__")))
    (km0 : PySem.W.mroIn K D0 (.type "object") = some true)
    (in0 : PySem.W.findIn K (.ref D0) "__init__" = some (some (.ref fE)))
    (no0 : PySem.W.findIn K (.ref D0) "value" = some none)
    (c1 : PySem.W.nsIn K mainGlobals "InvalidName" = some (some (.ref D1)))
    (x1 : ExcRow K D1)
    (sa1 : PySem.W.findIn K (.ref D1) "__setattr__" = some (some (.builtin "object.__setattr__")))
    (ex1 : PySem.W.subIn K (.ref D1) (.type "BaseException") = some true)
    (ty1 : PySem.W.typeIn K (.ref D1) = some (.type "type"))
    (kp1 : PySem.W.keepIn K (.ref D1) = true)
    (ga1 : PySem.W.findIn K (.ref D1) "__getattribute__" = some (some (.builtin "BaseException.__getattribute__")))
    (gg1 : PySem.W.findIn K (.ref D1) "__getattr__" = some none)
    (hd1 : PySem.W.hasDictIn K D1 = true)
    (kc1 : PySem.W.findIn K (.ref D1) "__class__" = some (some (.builtin "object.__class__")))
    (km1 : PySem.W.mroIn K D1 (.type "object") = some true)
    (in1 : PySem.W.findIn K (.ref D1) "__init__" = some (some (.ref fE)))
    (no1 : PySem.W.findIn K (.ref D1) "value" = some none)
    (c2 : PySem.W.nsIn K mainGlobals "InvalidAxes" = some (some (.ref D2)))
    (x2 : ExcRow K D2)
    (sa2 : PySem.W.findIn K (.ref D2) "__setattr__" = some (some (.builtin "object.__setattr__")))
    (ex2 : PySem.W.subIn K (.ref D2) (.type "BaseException") = some true)
    (ty2 : PySem.W.typeIn K (.ref D2) = some (.type "type"))
    (kp2 : PySem.W.keepIn K (.ref D2) = true)
    (ga2 : PySem.W.findIn K (.ref D2) "__getattribute__" = some (some (.builtin "BaseException.__getattribute__")))
    (gg2 : PySem.W.findIn K (.ref D2) "__getattr__" = some none)
    (hd2 : PySem.W.hasDictIn K D2 = true)
    (kc2 : PySem.W.findIn K (.ref D2) "__class__" = some (some (.builtin "object.__class__")))
    (km2 : PySem.W.mroIn K D2 (.type "object") = some true)
    (in2 : PySem.W.findIn K (.ref D2) "__init__" = some (some (.ref fE)))
    (no2 : PySem.W.findIn K (.ref D2) "value" = some none)
    (c3 : PySem.W.nsIn K mainGlobals "UnknownTable" = some (some (.ref D3)))
    (x3 : ExcRow K D3)
    (sa3 : PySem.W.findIn K (.ref D3) "__setattr__" = some (some (.builtin "object.__setattr__")))
    (ex3 : PySem.W.subIn K (.ref D3) (.type "BaseException") = some true)
    (ty3 : PySem.W.typeIn K (.ref D3) = some (.type "type"))
    (kp3 : PySem.W.keepIn K (.ref D3) = true)
    (ga3 : PySem.W.findIn K (.ref D3) "__getattribute__" = some (some (.builtin "BaseException.__getattribute__")))
    (gg3 : PySem.W.findIn K (.ref D3) "__getattr__" = some none)
    (hd3 : PySem.W.hasDictIn K D3 = true)
    (kc3 : PySem.W.findIn K (.ref D3) "__class__" = some (some (.builtin "object.__class__")))
    (km3 : PySem.W.mroIn K D3 (.type "object") = some true)
    (in3 : PySem.W.findIn K (.ref D3) "__init__" = some (some (.ref fE)))
    (no3 : PySem.W.findIn K (.ref D3) "value" = some none)
    (c4 : PySem.W.nsIn K mainGlobals "InvalidCell" = some (some (.ref D4)))
    (x4 : ExcRow K D4)
    (sa4 : PySem.W.findIn K (.ref D4) "__setattr__" = some (some (.builtin "object.__setattr__")))
    (ex4 : PySem.W.subIn K (.ref D4) (.type "BaseException") = some true)
    (ty4 : PySem.W.typeIn K (.ref D4) = some (.type "type"))
    (kp4 : PySem.W.keepIn K (.ref D4) = true)
    (ga4 : PySem.W.findIn K (.ref D4) "__getattribute__" = some (some (.builtin "BaseException.__getattribute__")))
    (gg4 : PySem.W.findIn K (.ref D4) "__getattr__" = some none)
    (hd4 : PySem.W.hasDictIn K D4 = true)
    (kc4 : PySem.W.findIn K (.ref D4) "__class__" = some (some (.builtin "object.__class__")))
    (km4 : PySem.W.mroIn K D4 (.type "object") = some true)
    (in4 : PySem.W.findIn K (.ref D4) "__init__" = some (some (.ref fE)))
    (no4 : PySem.W.findIn K (.ref D4) "value" = some none)
    (c5 : PySem.W.nsIn K mainGlobals "InvalidRead" = some (some (.ref D5)))
    (x5 : ExcRow K D5)
    (sa5 : PySem.W.findIn K (.ref D5) "__setattr__" = some (some (.builtin "object.__setattr__")))
    (ex5 : PySem.W.subIn K (.ref D5) (.type "BaseException") = some true)
    (ty5 : PySem.W.typeIn K (.ref D5) = some (.type "type"))
    (kp5 : PySem.W.keepIn K (.ref D5) = true)
    (ga5 : PySem.W.findIn K (.ref D5) "__getattribute__" = some (some (.builtin "BaseException.__getattribute__")))
    (gg5 : PySem.W.findIn K (.ref D5) "__getattr__" = some none)
    (hd5 : PySem.W.hasDictIn K D5 = true)
    (kc5 : PySem.W.findIn K (.ref D5) "__class__" = some (some (.builtin "object.__class__")))
    (km5 : PySem.W.mroIn K D5 (.type "object") = some true)
    (in5 : PySem.W.findIn K (.ref D5) "__init__" = some (some (.ref fE)))
    (no5 : PySem.W.findIn K (.ref D5) "value" = some none)
    (c6 : PySem.W.nsIn K mainGlobals "InvalidShifts" = some (some (.ref D6)))
    (x6 : ExcRow K D6)
    (sa6 : PySem.W.findIn K (.ref D6) "__setattr__" = some (some (.builtin "object.__setattr__")))
    (ex6 : PySem.W.subIn K (.ref D6) (.type "BaseException") = some true)
    (ty6 : PySem.W.typeIn K (.ref D6) = some (.type "type"))
    (kp6 : PySem.W.keepIn K (.ref D6) = true)
    (ga6 : PySem.W.findIn K (.ref D6) "__getattribute__" = some (some (.builtin "BaseException.__getattribute__")))
    (gg6 : PySem.W.findIn K (.ref D6) "__getattr__" = some none)
    (hd6 : PySem.W.hasDictIn K D6 = true)
    (kc6 : PySem.W.findIn K (.ref D6) "__class__" = some (some (.builtin "object.__class__")))
    (km6 : PySem.W.mroIn K D6 (.type "object") = some true)
    (in6 : PySem.W.findIn K (.ref D6) "__init__" = some (some (.ref fE)))
    (no6 : PySem.W.findIn K (.ref D6) "value" = some none)
    (c7 : PySem.W.nsIn K mainGlobals "InvalidNumber" = some (some (.ref D7)))
    (x7 : ExcRow K D7)
    (sa7 : PySem.W.findIn K (.ref D7) "__setattr__" = some (some (.builtin "object.__setattr__")))
    (ex7 : PySem.W.subIn K (.ref D7) (.type "BaseException") = some true)
    (ty7 : PySem.W.typeIn K (.ref D7) = some (.type "type"))
    (kp7 : PySem.W.keepIn K (.ref D7) = true)
    (ga7 : PySem.W.findIn K (.ref D7) "__getattribute__" = some (some (.builtin "BaseException.__getattribute__")))
    (gg7 : PySem.W.findIn K (.ref D7) "__getattr__" = some none)
    (hd7 : PySem.W.hasDictIn K D7 = true)
    (kc7 : PySem.W.findIn K (.ref D7) "__class__" = some (some (.builtin "object.__class__")))
    (km7 : PySem.W.mroIn K D7 (.type "object") = some true)
    (in7 : PySem.W.findIn K (.ref D7) "__init__" = some (some (.ref fE)))
    (no7 : PySem.W.findIn K (.ref D7) "value" = some none)
    (c8 : PySem.W.nsIn K mainGlobals "NotReady" = some (some (.ref D8)))
    (x8 : ExcRow K D8)
    (sa8 : PySem.W.findIn K (.ref D8) "__setattr__" = some (some (.builtin "object.__setattr__")))
    (ex8 : PySem.W.subIn K (.ref D8) (.type "BaseException") = some true)
    (ty8 : PySem.W.typeIn K (.ref D8) = some (.type "type"))
    (kp8 : PySem.W.keepIn K (.ref D8) = true)
    (ga8 : PySem.W.findIn K (.ref D8) "__getattribute__" = some (some (.builtin "BaseException.__getattribute__")))
    (gg8 : PySem.W.findIn K (.ref D8) "__getattr__" = some none)
    (hd8 : PySem.W.hasDictIn K D8 = true)
    (kc8 : PySem.W.findIn K (.ref D8) "__class__" = some (some (.builtin "object.__class__")))
    (km8 : PySem.W.mroIn K D8 (.type "object") = some true)
    (in8 : PySem.W.findIn K (.ref D8) "__init__" = some (some (.ref fE)))
    (no8 : PySem.W.findIn K (.ref D8) "value" = some none)
    (c9 : PySem.W.nsIn K mainGlobals "NoFar" = some (some (.ref D9)))
    (x9 : ExcRow K D9)
    (sa9 : PySem.W.findIn K (.ref D9) "__setattr__" = some (some (.builtin "object.__setattr__")))
    (ex9 : PySem.W.subIn K (.ref D9) (.type "BaseException") = some true)
    (ty9 : PySem.W.typeIn K (.ref D9) = some (.type "type"))
    (kp9 : PySem.W.keepIn K (.ref D9) = true)
    (ga9 : PySem.W.findIn K (.ref D9) "__getattribute__" = some (some (.builtin "BaseException.__getattribute__")))
    (gg9 : PySem.W.findIn K (.ref D9) "__getattr__" = some none)
    (hd9 : PySem.W.hasDictIn K D9 = true)
    (kc9 : PySem.W.findIn K (.ref D9) "__class__" = some (some (.builtin "object.__class__")))
    (km9 : PySem.W.mroIn K D9 (.type "object") = some true)
    (in9 : PySem.W.findIn K (.ref D9) "__init__" = some (some (.ref fE)))
    (no9 : PySem.W.findIn K (.ref D9) "value" = some none)
    (c10 : PySem.W.nsIn K mainGlobals "NothingToUndo" = some (some (.ref D10)))
    (x10 : ExcRow K D10)
    (sa10 : PySem.W.findIn K (.ref D10) "__setattr__" = some (some (.builtin "object.__setattr__")))
    (ex10 : PySem.W.subIn K (.ref D10) (.type "BaseException") = some true)
    (ty10 : PySem.W.typeIn K (.ref D10) = some (.type "type"))
    (kp10 : PySem.W.keepIn K (.ref D10) = true)
    (ga10 : PySem.W.findIn K (.ref D10) "__getattribute__" = some (some (.builtin "BaseException.__getattribute__")))
    (gg10 : PySem.W.findIn K (.ref D10) "__getattr__" = some none)
    (hd10 : PySem.W.hasDictIn K D10 = true)
    (kc10 : PySem.W.findIn K (.ref D10) "__class__" = some (some (.builtin "object.__class__")))
    (km10 : PySem.W.mroIn K D10 (.type "object") = some true)
    (in10 : PySem.W.findIn K (.ref D10) "__init__" = some (some (.ref fE)))
    (no10 : PySem.W.findIn K (.ref D10) "value" = some none)
    (c11 : PySem.W.nsIn K mainGlobals "Unreadable" = some (some (.ref D11)))
    (x11 : ExcRow K D11)
    (sa11 : PySem.W.findIn K (.ref D11) "__setattr__" = some (some (.builtin "object.__setattr__")))
    (ex11 : PySem.W.subIn K (.ref D11) (.type "BaseException") = some true)
    (ty11 : PySem.W.typeIn K (.ref D11) = some (.type "type"))
    (kp11 : PySem.W.keepIn K (.ref D11) = true)
    (ga11 : PySem.W.findIn K (.ref D11) "__getattribute__" = some (some (.builtin "BaseException.__getattribute__")))
    (gg11 : PySem.W.findIn K (.ref D11) "__getattr__" = some none)
    (hd11 : PySem.W.hasDictIn K D11 = true)
    (kc11 : PySem.W.findIn K (.ref D11) "__class__" = some (some (.builtin "object.__class__")))
    (km11 : PySem.W.mroIn K D11 (.type "object") = some true)
    (in11 : PySem.W.findIn K (.ref D11) "__init__" = some (some (.ref fE)))
    (no11 : PySem.W.findIn K (.ref D11) "value" = some none)
    (c12 : PySem.W.nsIn K mainGlobals "ReadError" = some (some (.ref D12)))
    (x12 : ExcRow K D12)
    (sa12 : PySem.W.findIn K (.ref D12) "__setattr__" = some (some (.builtin "object.__setattr__")))
    (ex12 : PySem.W.subIn K (.ref D12) (.type "BaseException") = some true)
    (ty12 : PySem.W.typeIn K (.ref D12) = some (.type "type"))
    (kp12 : PySem.W.keepIn K (.ref D12) = true)
    (ga12 : PySem.W.findIn K (.ref D12) "__getattribute__" = some (some (.builtin "BaseException.__getattribute__")))
    (gg12 : PySem.W.findIn K (.ref D12) "__getattr__" = some none)
    (hd12 : PySem.W.hasDictIn K D12 = true)
    (kc12 : PySem.W.findIn K (.ref D12) "__class__" = some (some (.builtin "object.__class__")))
    (km12 : PySem.W.mroIn K D12 (.type "object") = some true)
    (in12 : PySem.W.findIn K (.ref D12) "__init__" = some (some (.ref fE)))
    (no12 : PySem.W.findIn K (.ref D12) "value" = some none)
    (kg : PySem.W.specialIn K (.builtin "object.__class__") "__get__" = some (some (.builtin "getset_descriptor.__get__")))
    (kt : PySem.W.takesIn K (.builtin "object.__class__") = some true)
    (lE : K.lookup fE = some ⟨ocE, odE, .func (PySem.W.fnOf "__init__" "ReadError.__init__" (defArgs s_err_init) (defBody s_err_init) (defScope s_err_init) .none kVE dcE pmE anE cdE ctE), slE⟩)
    (eE : PySem.W.codeIn K cdE "ReadError.__init__" = true)
    (kE : PySem.W.keepIn K (.ref fE) = true)
    (tyE : PySem.W.typeIn K (.ref fE) = some (.type "function"))
    (z_len : PySem.W.nsIn K mainGlobals "len" = some none)
    (z_abs : PySem.W.nsIn K mainGlobals "abs" = some none)
    (z_min : PySem.W.nsIn K mainGlobals "min" = some none)
    (z_range : PySem.W.nsIn K mainGlobals "range" = some none)
    (z_repr : PySem.W.nsIn K mainGlobals "repr" = some none)
    (z_isinstance : PySem.W.nsIn K mainGlobals "isinstance" = some none)
    (z_ValueError : PySem.W.nsIn K mainGlobals "ValueError" = some none)
    (sub : ((List.range 12).all fun i => (List.range 12).all fun j => PySem.W.kitOne K (.ref (cOf [D0, D1, D2, D3, D4, D5, D6, D7, D8, D9, D10, D11, D12] i)) (.ref (cOf [D0, D1, D2, D3, D4, D5, D6, D7, D8, D9, D10, D11, D12] j)) == some (decide (j = i))) = true)
    (top : ((List.range 12).all fun j => PySem.W.kitOne K (.ref D12) (.ref (cOf [D0, D1, D2, D3, D4, D5, D6, D7, D8, D9, D10, D11, D12] j)) == some false) = true)
    (rr : ((List.range 12).all fun i => PySem.W.kitOne K (.ref (cOf [D0, D1, D2, D3, D4, D5, D6, D7, D8, D9, D10, D11, D12] i)) (.ref D12) == some true) = true)
    (vv : ((List.range 12).all fun i => PySem.W.kitOne K (.ref (cOf [D0, D1, D2, D3, D4, D5, D6, D7, D8, D9, D10, D11, D12] i)) (.type "ValueError") == some true) = true)
    : LawAtG l w K 5 63 "_law_script" mg fa h := by
  have e := hfa.symm.trans (PySem.W.mg_of X G a5)
  cases e
  have T0 : Txt mg := ⟨PySem.W.mg_none_of X G z_len, PySem.W.mg_none_of X G z_abs, PySem.W.mg_none_of X G z_min, PySem.W.mg_none_of X G z_range⟩
  have T : TxE mg (cOf [D0, D1, D2, D3, D4, D5, D6, D7, D8, D9, D10, D11, D12]) := ⟨T0, PySem.W.mg_none_of X G z_len, PySem.W.mg_none_of X G z_abs, PySem.W.mg_none_of X G z_min, PySem.W.mg_none_of X G z_range, PySem.W.mg_none_of X G z_repr, PySem.W.mg_none_of X G z_isinstance, PySem.W.mg_none_of X G z_ValueError, PySem.W.mg_of X G c0, PySem.W.mg_of X G c1, PySem.W.mg_of X G c2, PySem.W.mg_of X G c3, PySem.W.mg_of X G c4, PySem.W.mg_of X G c5, PySem.W.mg_of X G c6, PySem.W.mg_of X G c7, PySem.W.mg_of X G c8, PySem.W.mg_of X G c9, PySem.W.mg_of X G c10, PySem.W.mg_of X G c11, PySem.W.mg_of X G c12⟩
  have E0 : ErrC K D0 := ⟨⟨x0, sa0, ex0, ty0, kp0⟩, ga0, gg0, hd0, kc0, kg, kt, km0⟩
  have E1 : ErrC K D1 := ⟨⟨x1, sa1, ex1, ty1, kp1⟩, ga1, gg1, hd1, kc1, kg, kt, km1⟩
  have E2 : ErrC K D2 := ⟨⟨x2, sa2, ex2, ty2, kp2⟩, ga2, gg2, hd2, kc2, kg, kt, km2⟩
  have E3 : ErrC K D3 := ⟨⟨x3, sa3, ex3, ty3, kp3⟩, ga3, gg3, hd3, kc3, kg, kt, km3⟩
  have E4 : ErrC K D4 := ⟨⟨x4, sa4, ex4, ty4, kp4⟩, ga4, gg4, hd4, kc4, kg, kt, km4⟩
  have E5 : ErrC K D5 := ⟨⟨x5, sa5, ex5, ty5, kp5⟩, ga5, gg5, hd5, kc5, kg, kt, km5⟩
  have E6 : ErrC K D6 := ⟨⟨x6, sa6, ex6, ty6, kp6⟩, ga6, gg6, hd6, kc6, kg, kt, km6⟩
  have E7 : ErrC K D7 := ⟨⟨x7, sa7, ex7, ty7, kp7⟩, ga7, gg7, hd7, kc7, kg, kt, km7⟩
  have E8 : ErrC K D8 := ⟨⟨x8, sa8, ex8, ty8, kp8⟩, ga8, gg8, hd8, kc8, kg, kt, km8⟩
  have E9 : ErrC K D9 := ⟨⟨x9, sa9, ex9, ty9, kp9⟩, ga9, gg9, hd9, kc9, kg, kt, km9⟩
  have E10 : ErrC K D10 := ⟨⟨x10, sa10, ex10, ty10, kp10⟩, ga10, gg10, hd10, kc10, kg, kt, km10⟩
  have E11 : ErrC K D11 := ⟨⟨x11, sa11, ex11, ty11, kp11⟩, ga11, gg11, hd11, kc11, kg, kt, km11⟩
  have E12 : ErrC K D12 := ⟨⟨x12, sa12, ex12, ty12, kp12⟩, ga12, gg12, hd12, kc12, kg, kt, km12⟩
  have O : ErrsOk K (cOf [D0, D1, D2, D3, D4, D5, D6, D7, D8, D9, D10, D11, D12]) := ⟨fun i hi => (match i, hi with
    | 0, _ => E0
    | 1, _ => E1
    | 2, _ => E2
    | 3, _ => E3
    | 4, _ => E4
    | 5, _ => E5
    | 6, _ => E6
    | 7, _ => E7
    | 8, _ => E8
    | 9, _ => E9
    | 10, _ => E10
    | 11, _ => E11
    | 12, _ => E12
    | _ + 13, hi => absurd hi (by omega)), fun i hi => (match i, hi with
    | 0, _ => no0
    | 1, _ => no1
    | 2, _ => no2
    | 3, _ => no3
    | 4, _ => no4
    | 5, _ => no5
    | 6, _ => no6
    | 7, _ => no7
    | 8, _ => no8
    | 9, _ => no9
    | 10, _ => no10
    | 11, _ => no11
    | 12, _ => no12
    | _ + 13, hi => absurd hi (by omega)), fun i j hi hj => eq_of_beq (all12 (all12 sub hi) hj), fun j hj => eq_of_beq (all12 top hj), fun i hi => eq_of_beq (all12 rr hi), fun i hi => eq_of_beq (all12 vv hi)⟩
  have F1 := fun_mk (st := s_Lbag) l1 e1 k1
  have b1 := F1.binds (ps := ["_law_script"]) fun _ _ _ _ _ _ us hl => match us, hl with | [_], _ => rfl
  have F2 := fun_mk (st := s_Ldraw) l2 e2 k2
  have b2 := F2.binds (ps := ["_law_bag_here", "_law_many"]) fun _ _ _ _ _ _ us hl => match us, hl with | [_, _], _ => rfl
  have F3 := fun_mk (st := s_Lmade) l3 e3 k3
  have b3 := F3.binds (ps := ["_law_thing"]) fun _ _ _ _ _ _ us hl => match us, hl with | [_], _ => rfl
  have F4 := fun_mk (st := s_Lflags) l4 e4 k4
  have b4 := F4.binds (ps := ["_law_e"]) fun _ _ _ _ _ _ us hl => match us, hl with | [_], _ => rfl
  have F5 := fun_mk (st := s_law) l5 e5 k5
  have FE := fun_mk (st := s_err_init) lE eE kE
  have bE := FE.binds (ps := ["self", "value"]) fun _ _ _ _ _ _ us hl => match us, hl with | [_, _], _ => rfl
  refine ⟨PySem.W.fnOf "law" "law" (defArgs s_law) (defBody s_law) (defScope s_law) .none kV5 dc5 pm5 an5 cd5 ct5, [], spLawE K, ⟨fun p hp => absurd hp List.not_mem_nil, fun p hp => absurd hp List.not_mem_nil, fun p hp => absurd hp List.not_mem_nil⟩, fun s v => .of_eq rfl, fun H a ns hl _ hS => ⟨a, ns, rfl, hS, hl, fun _ => rfl⟩, fun base KB GB _ => ?_⟩
  have m_InvalidSystem : MkE l.prog w K mg base 1 "InvalidSystem" (cOf [D0, D1, D2, D3, D4, D5, D6, D7, D8, D9, D10, D11, D12] 0) (spErr K) := ⟨_, _, _, E0, in0, tyE, ok_err FE, bE, fun s a u _ => .of_eq (by rfl), PySem.W.mg_of X G c0⟩
  have m_InvalidName : MkE l.prog w K mg base 1 "InvalidName" (cOf [D0, D1, D2, D3, D4, D5, D6, D7, D8, D9, D10, D11, D12] 1) (spErr K) := ⟨_, _, _, E1, in1, tyE, ok_err FE, bE, fun s a u _ => .of_eq (by rfl), PySem.W.mg_of X G c1⟩
  have m_InvalidAxes : MkE l.prog w K mg base 1 "InvalidAxes" (cOf [D0, D1, D2, D3, D4, D5, D6, D7, D8, D9, D10, D11, D12] 2) (spErr K) := ⟨_, _, _, E2, in2, tyE, ok_err FE, bE, fun s a u _ => .of_eq (by rfl), PySem.W.mg_of X G c2⟩
  have m_UnknownTable : MkE l.prog w K mg base 1 "UnknownTable" (cOf [D0, D1, D2, D3, D4, D5, D6, D7, D8, D9, D10, D11, D12] 3) (spErr K) := ⟨_, _, _, E3, in3, tyE, ok_err FE, bE, fun s a u _ => .of_eq (by rfl), PySem.W.mg_of X G c3⟩
  have m_InvalidCell : MkE l.prog w K mg base 1 "InvalidCell" (cOf [D0, D1, D2, D3, D4, D5, D6, D7, D8, D9, D10, D11, D12] 4) (spErr K) := ⟨_, _, _, E4, in4, tyE, ok_err FE, bE, fun s a u _ => .of_eq (by rfl), PySem.W.mg_of X G c4⟩
  have m_InvalidRead : MkE l.prog w K mg base 1 "InvalidRead" (cOf [D0, D1, D2, D3, D4, D5, D6, D7, D8, D9, D10, D11, D12] 5) (spErr K) := ⟨_, _, _, E5, in5, tyE, ok_err FE, bE, fun s a u _ => .of_eq (by rfl), PySem.W.mg_of X G c5⟩
  have m_InvalidShifts : MkE l.prog w K mg base 1 "InvalidShifts" (cOf [D0, D1, D2, D3, D4, D5, D6, D7, D8, D9, D10, D11, D12] 6) (spErr K) := ⟨_, _, _, E6, in6, tyE, ok_err FE, bE, fun s a u _ => .of_eq (by rfl), PySem.W.mg_of X G c6⟩
  have m_InvalidNumber : MkE l.prog w K mg base 1 "InvalidNumber" (cOf [D0, D1, D2, D3, D4, D5, D6, D7, D8, D9, D10, D11, D12] 7) (spErr K) := ⟨_, _, _, E7, in7, tyE, ok_err FE, bE, fun s a u _ => .of_eq (by rfl), PySem.W.mg_of X G c7⟩
  have m_NotReady : MkE l.prog w K mg base 1 "NotReady" (cOf [D0, D1, D2, D3, D4, D5, D6, D7, D8, D9, D10, D11, D12] 8) (spErr K) := ⟨_, _, _, E8, in8, tyE, ok_err FE, bE, fun s a u _ => .of_eq (by rfl), PySem.W.mg_of X G c8⟩
  have m_NoFar : MkE l.prog w K mg base 1 "NoFar" (cOf [D0, D1, D2, D3, D4, D5, D6, D7, D8, D9, D10, D11, D12] 9) (spErr K) := ⟨_, _, _, E9, in9, tyE, ok_err FE, bE, fun s a u _ => .of_eq (by rfl), PySem.W.mg_of X G c9⟩
  have m_NothingToUndo : MkE l.prog w K mg base 1 "NothingToUndo" (cOf [D0, D1, D2, D3, D4, D5, D6, D7, D8, D9, D10, D11, D12] 10) (spErr K) := ⟨_, _, _, E10, in10, tyE, ok_err FE, bE, fun s a u _ => .of_eq (by rfl), PySem.W.mg_of X G c10⟩
  have m_Unreadable : MkE l.prog w K mg base 1 "Unreadable" (cOf [D0, D1, D2, D3, D4, D5, D6, D7, D8, D9, D10, D11, D12] 11) (spErr K) := ⟨_, _, _, E11, in11, tyE, ok_err FE, bE, fun s a u _ => .of_eq (by rfl), PySem.W.mg_of X G c11⟩
  have m_ReadError : MkE l.prog w K mg base 1 "ReadError" (cOf [D0, D1, D2, D3, D4, D5, D6, D7, D8, D9, D10, D11, D12] 12) (spErr K) := ⟨_, _, _, E12, in12, tyE, ok_err FE, bE, fun s a u _ => .of_eq (by rfl), PySem.W.mg_of X G c12⟩
  have c_Lbag : C8.Cal l.prog w K mg base 1 "_law_bag" (spBag K) [] := ⟨_, _, _, _, ok_bag F1 T0, PySem.W.mg_of X G a1, k1, b1, .nil⟩
  have c_Ldraw : C8.Cal l.prog w K mg base 1 "_law_draw" spDraw [] := ⟨_, _, _, _, ok_draw F2 T0, PySem.W.mg_of X G a2, k2, b2, .nil⟩
  have c_Lmade : C8.Cal l.prog w K mg base 3 "_law_made" (spMade K (cOf [D0, D1, D2, D3, D4, D5, D6, D7, D8, D9, D10, D11, D12])) [] := ⟨_, _, _, _, ok_made F3 T (fun i hi => ⟨(O.cl i hi).oex, O.no i hi⟩) m_InvalidSystem m_InvalidName m_InvalidAxes m_UnknownTable m_InvalidCell m_InvalidRead m_InvalidShifts m_InvalidNumber m_NotReady m_NoFar m_NothingToUndo m_Unreadable, PySem.W.mg_of X G a3, k3, b3, .nil⟩
  have c_Lflags : C8.Cal l.prog w K mg base 1 "_law_flags" (spFlags K (cOf [D0, D1, D2, D3, D4, D5, D6, D7, D8, D9, D10, D11, D12])) [] := ⟨_, _, _, _, ok_flags F4 T, PySem.W.mg_of X G a4, k4, b4, .nil⟩
  exact ok_lawE F5 T O c_Lbag c_Ldraw c_Lmade c_Lflags m_ReadError
end Fr

open PySem PySem.W PyProof.Rows
set_option maxRecDepth 100000 in
set_option maxHeartbeats 0 in
theorem PySem.Challenge.cw_farreads_k66_errors_made_holds : PySem.Challenge.rw_farreads_k66_errors_made.Holds := by
  w_on; o_law; k_head; (case hw => w_witness2)
  k_fill
  refine Fr.walk_ofG (n := 63) (k := 5) (x := "_law_script") (l := PySem.Challenge.rw_farreads_k66_errors_made) rfl (by decide) rfl ⟨rfl, by decide, by decide⟩ (fun w h Y => PySem.W.kIn_of Y) ?F
  case F =>
    intro w mg fa h Y KX G hmg
    refine' Fr.all_mk KX G hmg ?a1 ?l1 ?e1 ?k1 ?a2 ?l2 ?e2 ?k2 ?a3 ?l3 ?e3 ?k3 ?a4 ?l4 ?e4 ?k4 ?a5 ?l5 ?e5 ?k5 ?c0 ?x0 ?sa0 ?ex0 ?ty0 ?kp0 ?ga0 ?gg0 ?hd0 ?kc0 ?km0 ?in0 ?no0 ?c1 ?x1 ?sa1 ?ex1 ?ty1 ?kp1 ?ga1 ?gg1 ?hd1 ?kc1 ?km1 ?in1 ?no1 ?c2 ?x2 ?sa2 ?ex2 ?ty2 ?kp2 ?ga2 ?gg2 ?hd2 ?kc2 ?km2 ?in2 ?no2 ?c3 ?x3 ?sa3 ?ex3 ?ty3 ?kp3 ?ga3 ?gg3 ?hd3 ?kc3 ?km3 ?in3 ?no3 ?c4 ?x4 ?sa4 ?ex4 ?ty4 ?kp4 ?ga4 ?gg4 ?hd4 ?kc4 ?km4 ?in4 ?no4 ?c5 ?x5 ?sa5 ?ex5 ?ty5 ?kp5 ?ga5 ?gg5 ?hd5 ?kc5 ?km5 ?in5 ?no5 ?c6 ?x6 ?sa6 ?ex6 ?ty6 ?kp6 ?ga6 ?gg6 ?hd6 ?kc6 ?km6 ?in6 ?no6 ?c7 ?x7 ?sa7 ?ex7 ?ty7 ?kp7 ?ga7 ?gg7 ?hd7 ?kc7 ?km7 ?in7 ?no7 ?c8 ?x8 ?sa8 ?ex8 ?ty8 ?kp8 ?ga8 ?gg8 ?hd8 ?kc8 ?km8 ?in8 ?no8 ?c9 ?x9 ?sa9 ?ex9 ?ty9 ?kp9 ?ga9 ?gg9 ?hd9 ?kc9 ?km9 ?in9 ?no9 ?c10 ?x10 ?sa10 ?ex10 ?ty10 ?kp10 ?ga10 ?gg10 ?hd10 ?kc10 ?km10 ?in10 ?no10 ?c11 ?x11 ?sa11 ?ex11 ?ty11 ?kp11 ?ga11 ?gg11 ?hd11 ?kc11 ?km11 ?in11 ?no11 ?c12 ?x12 ?sa12 ?ex12 ?ty12 ?kp12 ?ga12 ?gg12 ?hd12 ?kc12 ?km12 ?in12 ?no12 ?kg ?kt ?lE ?eE ?kE ?tyE ?z_len ?z_abs ?z_min ?z_range ?z_repr ?z_isinstance ?z_ValueError ?sub ?top ?rr ?vv
    (case a1 => k_is)
    (case l1 => k_is)
    (case e1 => k_is)
    (case k1 => k_is)
    (case a2 => k_is)
    (case l2 => k_is)
    (case e2 => k_is)
    (case k2 => k_is)
    (case a3 => k_is)
    (case l3 => k_is)
    (case e3 => k_is)
    (case k3 => k_is)
    (case a4 => k_is)
    (case l4 => k_is)
    (case e4 => k_is)
    (case k4 => k_is)
    (case a5 => k_is)
    (case l5 => k_is)
    (case e5 => k_is)
    (case k5 => k_is)
    (case c0 => k_is)
    (case x0 => (refine' Fr.excRow_of ?l ?r; (case l => k_is); (case r => decide +kernel)))
    (case sa0 => k_is)
    (case ex0 => k_is)
    (case ty0 => k_is)
    (case kp0 => k_is)
    (case ga0 => k_is)
    (case gg0 => k_is)
    (case hd0 => k_is)
    (case kc0 => k_is)
    (case km0 => k_is)
    (case in0 => k_is)
    (case no0 => k_is)
    (case c1 => k_is)
    (case x1 => (refine' Fr.excRow_of ?l ?r; (case l => k_is); (case r => decide +kernel)))
    (case sa1 => k_is)
    (case ex1 => k_is)
    (case ty1 => k_is)
    (case kp1 => k_is)
    (case ga1 => k_is)
    (case gg1 => k_is)
    (case hd1 => k_is)
    (case kc1 => k_is)
    (case km1 => k_is)
    (case in1 => k_is)
    (case no1 => k_is)
    (case c2 => k_is)
    (case x2 => (refine' Fr.excRow_of ?l ?r; (case l => k_is); (case r => decide +kernel)))
    (case sa2 => k_is)
    (case ex2 => k_is)
    (case ty2 => k_is)
    (case kp2 => k_is)
    (case ga2 => k_is)
    (case gg2 => k_is)
    (case hd2 => k_is)
    (case kc2 => k_is)
    (case km2 => k_is)
    (case in2 => k_is)
    (case no2 => k_is)
    (case c3 => k_is)
    (case x3 => (refine' Fr.excRow_of ?l ?r; (case l => k_is); (case r => decide +kernel)))
    (case sa3 => k_is)
    (case ex3 => k_is)
    (case ty3 => k_is)
    (case kp3 => k_is)
    (case ga3 => k_is)
    (case gg3 => k_is)
    (case hd3 => k_is)
    (case kc3 => k_is)
    (case km3 => k_is)
    (case in3 => k_is)
    (case no3 => k_is)
    (case c4 => k_is)
    (case x4 => (refine' Fr.excRow_of ?l ?r; (case l => k_is); (case r => decide +kernel)))
    (case sa4 => k_is)
    (case ex4 => k_is)
    (case ty4 => k_is)
    (case kp4 => k_is)
    (case ga4 => k_is)
    (case gg4 => k_is)
    (case hd4 => k_is)
    (case kc4 => k_is)
    (case km4 => k_is)
    (case in4 => k_is)
    (case no4 => k_is)
    (case c5 => k_is)
    (case x5 => (refine' Fr.excRow_of ?l ?r; (case l => k_is); (case r => decide +kernel)))
    (case sa5 => k_is)
    (case ex5 => k_is)
    (case ty5 => k_is)
    (case kp5 => k_is)
    (case ga5 => k_is)
    (case gg5 => k_is)
    (case hd5 => k_is)
    (case kc5 => k_is)
    (case km5 => k_is)
    (case in5 => k_is)
    (case no5 => k_is)
    (case c6 => k_is)
    (case x6 => (refine' Fr.excRow_of ?l ?r; (case l => k_is); (case r => decide +kernel)))
    (case sa6 => k_is)
    (case ex6 => k_is)
    (case ty6 => k_is)
    (case kp6 => k_is)
    (case ga6 => k_is)
    (case gg6 => k_is)
    (case hd6 => k_is)
    (case kc6 => k_is)
    (case km6 => k_is)
    (case in6 => k_is)
    (case no6 => k_is)
    (case c7 => k_is)
    (case x7 => (refine' Fr.excRow_of ?l ?r; (case l => k_is); (case r => decide +kernel)))
    (case sa7 => k_is)
    (case ex7 => k_is)
    (case ty7 => k_is)
    (case kp7 => k_is)
    (case ga7 => k_is)
    (case gg7 => k_is)
    (case hd7 => k_is)
    (case kc7 => k_is)
    (case km7 => k_is)
    (case in7 => k_is)
    (case no7 => k_is)
    (case c8 => k_is)
    (case x8 => (refine' Fr.excRow_of ?l ?r; (case l => k_is); (case r => decide +kernel)))
    (case sa8 => k_is)
    (case ex8 => k_is)
    (case ty8 => k_is)
    (case kp8 => k_is)
    (case ga8 => k_is)
    (case gg8 => k_is)
    (case hd8 => k_is)
    (case kc8 => k_is)
    (case km8 => k_is)
    (case in8 => k_is)
    (case no8 => k_is)
    (case c9 => k_is)
    (case x9 => (refine' Fr.excRow_of ?l ?r; (case l => k_is); (case r => decide +kernel)))
    (case sa9 => k_is)
    (case ex9 => k_is)
    (case ty9 => k_is)
    (case kp9 => k_is)
    (case ga9 => k_is)
    (case gg9 => k_is)
    (case hd9 => k_is)
    (case kc9 => k_is)
    (case km9 => k_is)
    (case in9 => k_is)
    (case no9 => k_is)
    (case c10 => k_is)
    (case x10 => (refine' Fr.excRow_of ?l ?r; (case l => k_is); (case r => decide +kernel)))
    (case sa10 => k_is)
    (case ex10 => k_is)
    (case ty10 => k_is)
    (case kp10 => k_is)
    (case ga10 => k_is)
    (case gg10 => k_is)
    (case hd10 => k_is)
    (case kc10 => k_is)
    (case km10 => k_is)
    (case in10 => k_is)
    (case no10 => k_is)
    (case c11 => k_is)
    (case x11 => (refine' Fr.excRow_of ?l ?r; (case l => k_is); (case r => decide +kernel)))
    (case sa11 => k_is)
    (case ex11 => k_is)
    (case ty11 => k_is)
    (case kp11 => k_is)
    (case ga11 => k_is)
    (case gg11 => k_is)
    (case hd11 => k_is)
    (case kc11 => k_is)
    (case km11 => k_is)
    (case in11 => k_is)
    (case no11 => k_is)
    (case c12 => k_is)
    (case x12 => (refine' Fr.excRow_of ?l ?r; (case l => k_is); (case r => decide +kernel)))
    (case sa12 => k_is)
    (case ex12 => k_is)
    (case ty12 => k_is)
    (case kp12 => k_is)
    (case ga12 => k_is)
    (case gg12 => k_is)
    (case hd12 => k_is)
    (case kc12 => k_is)
    (case km12 => k_is)
    (case in12 => k_is)
    (case no12 => k_is)
    (case kg => k_is)
    (case kt => k_is)
    (case lE => k_is)
    (case eE => k_is)
    (case kE => k_is)
    (case tyE => k_is)
    (case z_len => k_is)
    (case z_abs => k_is)
    (case z_min => k_is)
    (case z_range => k_is)
    (case z_repr => k_is)
    (case z_isinstance => k_is)
    (case z_ValueError => k_is)
    (case sub => kernel_rfl)
    (case top => kernel_rfl)
    (case rr => kernel_rfl)
    (case vv => kernel_rfl)
