import PyProof.Rows.All
import Wide.All
import OpenK.AllK
import Wide.FinOn
import HandS.Base
import HandS.Call
import HandS.List
import HandS.Comp
import HandS.Ends
import HandS.Dict
import HandS.Iter
import HandS.Text
import HandS.Words
import HandS.WordsList
import PyProof.ReprRoads
import HandS.EndBits
import HandS.IsInst
import HandS.StrMore
import HandS.TupAny
import HandS.Conv
import PyProof.ReprLen
import PyProof.StrLawsRepr
import HandS.Exc
import HandS.ExcInit
import HandS.ExcField
import HandS.ExcIs
import HandS.MakeKwOnly
import HandS.More
import HandS.TupMul
import PyProof.StrLaws
import KE.LtData
import PyProof.Rows.StrMul
import HandS.Style
import HandS.Zip
import HandS.Replace
import KE.KDictKeyed
import HandS.DictComp
import HandS.TupLen
import HandS.SlotsOwn
import HandS.Property
import KE.KDictCopyH
import PyProof.InstNe
import KE.SortKeyHeap
import HandS.SortKw
import KE.DatumOrd
import HandS.Defaults
import HandS.Rev
import HandS.Codes
import PyProof.Rows.TupTab
import PyProof.Rows.TupDisplay
import HandS.Star
import KE.DataCmp
import PyProof.TupleOfSeq
import HandS.Lambda
import KE.DataMinKey
import KE.KDictZip
import PyProof.ListNew
import PyProof.NeKinds
import HandS.OwnEq
import HandS.Flow
import KE.KEqDict
import HandS.Deep
import HandS.EndTab
import PySem.Challenge.RW_leadsever_k49_visits_for_free_walks
set_option Elab.async false
set_option linter.all false
set_option maxRecDepth 100000
set_option maxHeartbeats 8000000
/-! Own rules, for any of the laws of this package. -/
namespace Ld
open PySem L2 PyProof.Rows
/-! ### heaps: all stands but the well -/
/-- all that is tracked stays, but what is at wa -/
def Sb (wa : Addr) (H H' : Hp) : Prop := ∀ b o, b ≠ wa → H b = some o → H' b = some o
theorem Sb.refl (wa : Addr) (H : Hp) : Sb wa H H := fun _ _ _ e => e
theorem Sb.trans {wa : Addr} {H1 H2 H3 : Hp} (a : Sb wa H1 H2) (b : Sb wa H2 H3) : Sb wa H1 H3 := fun c o n e => b c o n (a c o n e)
theorem Sb.of {wa : Addr} {H H' : Hp} (s : Same H H') : Sb wa H H' := fun b o _ e => s b o e
theorem Sb.put (wa : Addr) (H : Hp) (o : HO) : Sb wa H (upd H wa o) := fun b u n e => by
  rw [upd_ne n]
  exact e
theorem Same.new {H : Hp} {p : Addr} {o : HO} (h : H p = none) : Same H (upd H p o) := fun b u e => by
  rw [upd_ne (ne_of_none e h)]
  exact e
/-- the well: its two numbers -/
def wellKv (d m : Int) : List (Key × V) := [(Sum.inr "digits", .int d), (Sum.inr "mixed", .int m)]
def Well (H : Hp) (wa : Addr) : Prop := ∃ d m : Int, H wa = some (.dK (wellKv d m)) ∧ 0 ≤ d ∧ 0 ≤ m ∧ m < 2 ^ 40
theorem Well.same {H H' : Hp} {wa : Addr} (W : Well H wa) (s : Same H H') : Well H' wa := by
  obtain ⟨d, m, h, r⟩ := W
  exact ⟨d, m, s _ _ h, r⟩
/-- what the well is not -/
def NotWell : HO → Prop
  | .dK kvs => kvs.length ≠ 2
  | _ => True
theorem Well.ne {H : Hp} {wa b : Addr} {o : HO} (W : Well H wa) (e : H b = some o) (n : NotWell o) : b ≠ wa := by
  obtain ⟨d, m, h, _⟩ := W
  intro z
  subst z
  rw [h] at e
  cases e
  exact n rfl
theorem Well.lst {H : Hp} {wa b : Addr} {xs : List V} (W : Well H wa) (e : H b = some (.lst xs)) : b ≠ wa := W.ne e trivial
section
variable {K : PySem.W.Frag} {H H' : Hp} {wa a : Addr} {xs : List V}
theorem rd_keep {u : HO} (W : Well H wa) (s : Sb wa H H') (n : NotWell u) (h : Rd H a u) : Rd H' a u := by
  rcases h with h | ⟨o, h⟩
  · exact .inl (s a _ (W.ne h n) h)
  · exact .inr ⟨o, s a _ (W.ne h trivial) h⟩
theorem seqL (W : Well H wa) (s : Sb wa H H') (h : SqL K H a xs) : SqL K H' a xs := by
  rcases h with h | h
  · exact .inl (rd_keep W s trivial h)
  · exact .inr h
theorem seqT (W : Well H wa) (s : Sb wa H H') (h : SqT K H a xs) : SqT K H' a xs := by
  rcases h with h | h
  · exact .inl (rd_keep W s trivial h)
  · exact .inr h
theorem same_T (s : Same H H') (h : SqT K H a xs) : SqT K H' a xs := by
  rcases h with (h | ⟨o, h⟩) | h
  · exact .inl (.inl (s _ _ h))
  · exact .inl (.inr ⟨o, s _ _ h⟩)
  · exact .inr h
end
/-! ### data that stays -/
section
variable {K : PySem.W.Frag} {H H' : Hp}
mutual
theorem dp_mono (hL : ∀ a xs, SqL K H a xs → SqL K H' a xs) (hT : ∀ a xs, SqT K H a xs → SqT K H' a xs) : ∀ (d : PyData) (v : V), Dp K H v d → Dp K H' v d
  | .none, _, h => by cases h; exact .non
  | .bool _, _, h => by cases h; exact .bl _
  | .int _, _, h => by cases h; exact .int _
  | .str _, _, h => by cases h; exact .str _
  | .list ds, _, h => by
    cases h with
    | lst a b => exact .lst (hL _ _ a) (dpAll_mono hL hT ds _ b)
  | .tuple ds, _, h => by
    cases h with
    | tup a b => exact .tup (hT _ _ a) (dpAll_mono hL hT ds _ b)
  | .dict _, _, h => by cases h
theorem dpAll_mono (hL : ∀ a xs, SqL K H a xs → SqL K H' a xs) (hT : ∀ a xs, SqT K H a xs → SqT K H' a xs) : ∀ (ds : List PyData) (vs : List V), DpAll K H vs ds → DpAll K H' vs ds
  | [], _, h => by cases h; exact .nil
  | d :: ds, _, h => by
    cases h with
    | cons a b => exact .cons (dp_mono hL hT d _ a) (dpAll_mono hL hT ds _ b)
end
theorem dp_same {v : V} {d : PyData} (s : Same H H') (h : Dp K H v d) : Dp K H' v d := dp_mono (fun _ _ q => s.seq q) (fun _ _ q => same_T s q) d v h
theorem dp_sb {wa : Addr} {v : V} {d : PyData} (W : Well H wa) (s : Sb wa H H') (h : Dp K H v d) : Dp K H' v d := dp_mono (fun _ _ q => seqL W s q) (fun _ _ q => seqT W s q) d v h
theorem dp_strs : ∀ ws : List Str, DpAll K H (ws.map V.str) (ws.map PyData.str)
  | [] => .nil
  | w :: ws => .cons (.str w) (dp_strs ws)
theorem dp_bools : ∀ ws : List Bool, DpAll K H (ws.map V.bl) (ws.map PyData.bool)
  | [] => .nil
  | w :: ws => .cons (.bl w) (dp_bools ws)
theorem dp_append : ∀ {vs ws : List V} {ds es : List PyData}, DpAll K H vs ds → DpAll K H ws es → DpAll K H (vs ++ ws) (ds ++ es)
  | [], _, _, _, .nil, h => h
  | _ :: _, _, _, _, .cons a b, h => .cons a (dp_append b h)
end
/-! ### numbers of any size that a script may give -/
section
variable {X : Cx}
def CMulB (i j : Int) : Prop := Builtin.Int.intBits i + Builtin.Int.intBits j ≤ 2 ^ 27
def CPowB (i j : Int) : Prop := 0 ≤ j ∧ (Builtin.Int.intBits i : Int) * j ≤ 2 ^ 27
theorem mulB_ok {i j : Int} (h : CMulB i j) : IntMulOk i j := by
  intro z
  have z2 := (Bool.and_eq_true_iff.mp z).2
  have z3 := of_decide_eq_true (show decide (((Builtin.Int.intBits i + Builtin.Int.intBits j : Nat) : Int) > bitsLine) = true from z2)
  have e : bitsLine = 2 ^ 27 := rfl
  rw [e] at z3
  have h' : Builtin.Int.intBits i + Builtin.Int.intBits j ≤ 2 ^ 27 := h
  omega
theorem op_mulB : OpR X (binaryOp .Mult) (rI CMulB fun i j => .int (i * j)) := opI fun i j t u s Q E hc q => mul_int q (mulB_ok hc)
theorem op_powB : OpR X (binaryOp .Pow) (rI CPowB fun i j => .int (i ^ j.toNat)) := opI fun i j t u s Q E hc q => pow_int hc.1 hc.2 q
theorem bits_of {i : Int} {n : Nat} (h : i.natAbs < 2 ^ n) : Builtin.Int.intBits i ≤ n := by
  unfold Builtin.Int.intBits
  split
  · exact Nat.zero_le _
  · rename_i hz
    have hz : ¬ i = 0 := fun e => hz (by rw [e]; rfl)
    have h0 : i.natAbs ≠ 0 := fun e => hz (Int.natAbs_eq_zero.mp e)
    have := (Nat.log2_lt h0).mpr h
    omega
theorem of_bits {i : Int} {n : Nat} (h : Builtin.Int.intBits i ≤ n) : i.natAbs < 2 ^ n := by
  unfold Builtin.Int.intBits at h
  by_cases hz : i = 0
  · subst hz
    exact Nat.two_pow_pos n
  · rw [if_neg (by simpa using hz)] at h
    exact (Nat.log2_lt (fun e => hz (Int.natAbs_eq_zero.mp e))).mp (by omega)
end
end Ld
/-! Defs that need to know that no repr runs around them. -/
namespace Ld
open PySem L2 PyProof.Rows
/-- the promise of a def, wherever no repr runs around -/
structure FnG (P : Program) (w : World) (K : PySem.W.Frag) (mg : Str → Option Value) (base : Heap) (k : Nat) (f : Addr) (fd : FuncData) (ps : List Str) (sp : Sp) : Prop where
  long : ∀ vs H Q E, sp vs H Q E → vs.length = ps.length
  goes : ∀ (A : Around) (outer : List Env) (s : Shared) (H : Hp) (args : Args) (us : List Value) (vs : List V) (Q : VK) (E : XK), A.guards = some [] → Room k A → Env0 P w K mg base A outer s H →
    BindsTo s fd args (ps.zip us) → Vals vs us → sp vs H Q E → codeAny (model P w) A (.call (.ref f) args) (CR CX0 outer P w H s Q E) s
section
variable {P : Program} {w : World} {K : PySem.W.Frag} {mg : Str → Option Value} {base : Heap} {k : Nat} {f : Addr} {fd : FuncData} {ps : List Str} {sp : Sp}
theorem FnG.of (F : FnOk P w K mg base CX0 k f fd ps sp) : FnG P w K mg base k f fd ps sp := ⟨F.len, fun A outer s H args us vs Q E _ => F.run A outer s H args us vs Q E⟩
/-- what a body leaves is what the call leaves -/
theorem ends_of {X : Cx} {pins : List (Addr × Obj)} {s' : Shared} {Q : VK} (hx : X.ex = []) {σ' : L2.St} {H' : Hp} {v : V} {u : Value} (J : Inv X pins σ' H' s') (r : RelV v u) (q : Q v H') :
    CE X.outer X.prog X.w X.H_0 X.s_0 Q u s' := by
  have b := J.base
  rw [hx] at b
  exact ⟨v, H', J.os, J.bare, b, J.hok, r, q⟩
/-- a def of the text by its body -/
theorem Fun.okG {x qual : Str} {st : Stmt} {N : List Str} (F : Fun K x qual st f fd) (S : FnScope N ps (defScope st)) (long : ∀ vs H Q E, sp vs H Q E → vs.length = ps.length)
    (body : ∀ (cdv : Value) (A : Around) (outer : List Env) (s : Shared) (H : Hp) (vs : List V) (Q : VK) (E : XK), A.guards = some [] → Room k (A.deeper (envOfC qual (defScope st) s.heap.objs.size f cdv)) → sp vs H Q E →
      ∃ t, PSs (cxOf CX0 P w K mg base N qual (defScope st) f cdv A outer s H E).nox (defBody st) t ∧ t { nx := fun _ H' => Q .non H', rt := Q } (start N vs) H) : FnG P w K mg base (k + 1) f fd ps sp := by
  obtain ⟨oc, od, kV, doc, pm, an, cdv, ct, osl, rfl, lk, hcd⟩ := F.ex
  refine ⟨long, fun A outer s H args us vs Q E hg hr e0 hb r hsp => ?_⟩
  have up : ∀ b o, base.get? b = some o → s.heap.get? b = some o := fun b o e => (e0.bs b o e).1
  have KX : K.In s.heap := e0.mod.kin.keeps up
  have kinds : ∀ y ∈ ps.zip us, (defScope st).names.lookup y.1 = some .local ∨ ((defScope st).names.lookup y.1 = some .cell ∧ ((cellsFrom (s.heap.objs.size + 1) (defScope st).names []).lookup y.1).isSome = true) := by
    rintro ⟨n, v⟩ hy
    rcases S.par n (List.of_mem_zip hy).1 with q | q
    · exact Or.inl q
    · exact Or.inr ⟨q, PySem.W.cellsFrom_some _ _ _ (Or.inl q)⟩
  refine codeAny_call_function hr.depth (KX _ _ lk) rfl S.co S.gen rfl (PySem.W.codeRec_of KX hcd) (hb _ _ _ _ ?_)
  refine wpAny_newFunctionEnv_cells S.kind kinds fun env he s1 x => ?_
  subst he
  refine ⟨(e0.mod.nolimit.keeps up).keeps x.toInCall.keep, codeAny_func ?_⟩
  obtain ⟨t, ht, hq⟩ := body cdv A outer s H vs Q E hg (hr.deeper _) hsp
  refine wpAny_mono (ht.nox.run [] s1 (start N vs) H _ (inv_start S hr.hd e0 (long _ _ _ _ hsp) r x) hq) (fun fl s' hs => ?_) fun e s' hs => hs
  cases fl with
  | ret u =>
    obtain ⟨v, σ', H', J, r, q⟩ := hs
    exact ends_of rfl J r q
  | next =>
    obtain ⟨σ', H', J, q⟩ := hs
    exact ends_of (v := .non) rfl J rfl q
  | brk =>
    obtain ⟨_, _, _, q⟩ := hs
    exact q.elim
  | cont =>
    obtain ⟨_, _, _, q⟩ := hs
    exact q.elim
end
section
variable {X : Cx} {k : Nat} {f : Addr} {fd : FuncData} {ps : List Str} {sp : Sp} {x : Str} {p pos : Pos} {e : Expr} {es : List Expr} {t : TA}
/-- f(e, ..) of such a def -/
theorem pe_callG (F : FnG X.prog X.w X.K X.mg X.base k f fd ps sp) (hG : X.A.guards = some []) (hr : Room k X.A) (hg : Gl X x) (hm : X.mg x = some (.ref f)) (hk : PySem.W.keepIn X.K (.ref f) = true) (hb : Binds X.K fd ps [])
    (ha : PA X (e :: es) t) (hdb : (x == ("__debug__" : Str)) = false := by decide) (he : starEach (e :: es) X.env = (false, eval e X.env) :: starEach es X.env := by rfl)
    (hpl : (backTo pos (starEach es X.env)).any (·.1) = false := by rfl) : PE X (.Call (.Name x p) (e :: es) [] pos) (tCall sp [] E0 t) := by
  refine ⟨fun pins s σ H Q I h => wpAny_Call_Name_kw (ld_glob I hg hm ?_ hdb)⟩
  refine PySem.W.callWith_K (h₀ := X.base) I.ok.mod.kin hk (thn (ha.run pos pins s σ H _ I h) fun us s1 ⟨vs, H1, I1, r, q⟩ => ⟨I1.kIn, ?_⟩) he hpl
  have q : sp (vs ++ []) H1 Q E0 := q
  rw [List.append_nil] at q
  have hl : us.length = ps.length := by
    rw [← r.length]
    exact F.long _ _ _ _ q
  have hb1 := hb s1 us I1.kIn (by rw [List.append_nil]; exact hl)
  rw [List.append_nil] at hb1
  refine wpAny_call (codeAny_mono (F.goes X.A X.stack s1 H1 ⟨us, []⟩ us vs Q E0 hG hr I1.env0 hb1 r q) fun z s2 hq => ?_)
  match z, hq with
  | .ok (.ret u), hq => exact I1.after hq
  | .ok .next, hq => exact False.elim hq
  | .ok .brk, hq => exact False.elim hq
  | .ok .cont, hq => exact False.elim hq
  | .error e, hq => exact False.elim hq
/-- repr of data -/
def Rds (K : PySem.W.Frag) (P : Program) (w : World) (H : Hp) (v : V) (d : PyData) : Prop := ∀ h : Heap, HOk P w H h → K.In h → ∀ u, RelV v u → ∃ as, Reads h u d as ∧ (d.hasDict = true → ¬ sysModules ∈ as)
def Small (d : PyData) : Prop := d.showable = true ∧ d.depth ≤ 40 ∧ d.shown.length ≤ sizeLine
theorem call_repr (hG : X.A.guards = some []) (hu : X.A.units + 64 < cLine) : CallR X (.builtin "repr") (fun xs H Q => ∃ v d, xs = [v] ∧ Rds X.K X.prog X.w H v d ∧ Small d ∧ Q (.str d.shown) H) := by
  intro pins s σ H xs us Q I r h
  obtain ⟨v, d, rfl, hR, ⟨h1, h2, h3⟩, q⟩ := h
  obtain ⟨u, rfl, ru⟩ := vals1 r
  obtain ⟨as, rd, hs⟩ := hR s.heap I.hok I.kIn u ru
  have fin : ∀ h' t tk, (∀ b o, s.heap.get? b = some o → h'.get? b = some o) → EP X pins σ Q (.str d.shown t) { s with heap := h', toks := tk } := fun h' t tk kp =>
    ⟨.str d.shown, H, I.kept kp, ⟨t, rfl⟩, q⟩
  cases v with
  | ref a =>
    cases ru
    exact repr_of_reads' rd h1 hs hG (by omega) (fun _ _ e => e) fin h3
  | non =>
    cases ru
    cases rd
    simp only [PyData.shown] at fin
    exact P.repr_of_none (fin s.heap _ _ fun _ _ e => e)
  | bl b =>
    cases ru
    cases rd
    simp only [PyData.shown] at fin
    exact P.repr_of_bool (fin s.heap _ _ fun _ _ e => e)
  | int i =>
    obtain ⟨t, rfl⟩ := ru
    cases rd
    simp only [PyData.shown] at fin
    exact P.repr_of_int (by simpa [PyData.showable] using h1) (fin s.heap _ _ fun _ _ e => e)
  | str x =>
    obtain ⟨t, rfl⟩ := ru
    cases rd
    simp only [PyData.shown] at fin h3
    exact P.repr_of_str (fin s.heap _ _ fun _ _ e => e) h3
  | byt b =>
    obtain ⟨t, rfl⟩ := ru
    cases rd
  | flt b =>
    obtain ⟨t, rfl⟩ := ru
    cases rd
  | ty n =>
    cases ru
    cases rd
end
end Ld
/-! The end of a law whose defs are of the kind FnG; the script's bits are told. -/
namespace Ld
open PySem L2 PyProof.Rows
section
variable {P : Program} {w : World} {K : PySem.W.Frag} {mg mb : Str → Option Value} {k : Nat} {fa a : Addr} {fd : FuncData} {x : Str} {sp : Sp} {s : Shared} {vs : List Value} {ns : List Int}
/-- what stands behind the law's call -/
def Behind (s : Shared) (r : Result) (s' : Shared) : Prop := r = .ok (.ret (.bool true)) ∧ OldK s.heap s'.heap ∧ s'.os = s.os ∧ AllBare s'.gens
/-- with nothing tracked but (perhaps) the script, locked -/
structure Quiet (P : Program) (w : World) (K : PySem.W.Frag) (a : Addr) (H : Hp) (s : Shared) : Prop where
  ok : HOk P w H s.heap
  one : ∀ b o, H b = some o → b = a ∧ K.lookup a = none ∧ ∃ ob xs, o = .frz ob (.lst xs) ∧ ∃ its n, ob.data = .seq its n
theorem law_goes {H : Hp} (KX : K.In s.heap) (hns : s.heap.Ns mainGlobals mg) (hb : s.heap.Ns builtinsNs mb) (hbb : ∀ x : Str, x ≠ "__name__" → mb x = bootBuiltins x) (hlim : s.heap.NoLimit) (hg : s.gens = #[])
    (q : Quiet P w K a H s) (hr : Room k callerA) (F : ∀ base : Heap, K.In base → base.Ns mainGlobals mg → FnG P w K mg base k fa fd [x] sp) (hbind : ∀ (s : Shared) (u : Value), BindsTo s fd ⟨[u], []⟩ [(x, u)])
    (hsp : sp [.ref a] H (fun v _ => v = .bl true) E0) : codeAny (model P w) callerA (.call (.ref fa) ⟨[.ref a], []⟩) (Behind s) s := by
  have free : ∀ {b : Addr} {o : Obj}, s.heap.get? b = some o → (∀ its n, o.data ≠ .seq its n) → H b = none := fun {b o} e d => by
    cases z : H b with
    | none => rfl
    | some u =>
      obtain ⟨rfl, _, ob, xs, rfl, its, n, hd⟩ := q.one b u z
      obtain ⟨e2, _⟩ := q.ok b _ z
      rw [e] at e2
      cases e2
      exact absurd hd (d its n)
  have nsb : ∀ {b : Addr} {m : Str → Option Value}, s.heap.Ns b m → (hidT s.heap H).Ns b m := fun {b m} ⟨o, es, ep, e, d, r⟩ =>
    ⟨o, es, ep, hidT_get e (free e fun its n z => by rw [d] at z; cases z), d, r⟩
  have Kb : K.In (hidT s.heap H) := fun b o e => hidT_get (KX b o e) (by
    cases z : H b with
    | none => rfl
    | some u =>
      obtain ⟨rfl, hk, _⟩ := q.one b u z
      rw [hk] at e
      cases e)
  have md : Mod K mg (hidT s.heap H) := ⟨Kb, nsb hns, ⟨mb, nsb hb, hbb⟩, let ⟨mc, h1, h2⟩ := hlim; ⟨mc, nsb h1, h2⟩⟩
  have none_in : ∀ b : Addr, ¬ b ∈ ([] : List Addr) := fun b z => nomatch z
  have e0 : Env0 P w K mg (hidT s.heap H) callerA [] s H := ⟨rfl, md, fun b o e => of_hidT e, Nat.le_of_eq (hidT_size _ _), trivial, fun b hb => absurd hb (none_in b), q.ok, .of_eq hg⟩
  refine codeAny_mono ((F _ Kb (nsb hns)).goes callerA [] s H ⟨[.ref a], []⟩ [.ref a] [.ref a] _ E0 rfl hr e0 (hbind s (.ref a)) (.cons rfl .nil) hsp) fun r s' h => ?_
  match r, h with
  | .error e, h => exact False.elim h
  | .ok .next, h => exact False.elim h
  | .ok .brk, h => exact False.elim h
  | .ok .cont, h => exact False.elim h
  | .ok (.ret u), h =>
    obtain ⟨v, H', os, bare, un, ok', rv, (rfl : v = .bl true)⟩ := h
    cases (show u = Value.bool true from rv)
    refine ⟨rfl, OldK.of_keep fun b o e => ?_, os, bare⟩
    cases z : H b with
    | none => exact un.keep b o e z (none_in b) (none_in b)
    | some u =>
      obtain ⟨_, _, ob, xs, rfl, _⟩ := q.one b u z
      obtain ⟨e1, _⟩ := q.ok b _ z
      obtain ⟨e2, _⟩ := ok' b _ (un.frzs b ob _ z)
      rw [e] at e1
      cases e1
      exact e2
theorem ints_vals : ∀ {vs : List Value} {ns : List Int}, IntsAre vs ns → Vals (ns.map V.int) vs
  | _, _, .nil => .nil
  | _, _, .cons n t h => .cons ⟨t, rfl⟩ (ints_vals h)
theorem law_goes_any (KX : K.In s.heap) (hns : s.heap.Ns mainGlobals mg) (hb : s.heap.Ns builtinsNs mb) (hbb : ∀ x : Str, x ≠ "__name__" → mb x = bootBuiltins x) (hlim : s.heap.NoLimit) (hg : s.gens = #[])
    (ha : s.heap.get? a = some { cls := .type "list", data := .seq vs.toArray }) (hi : IntsAre vs ns) (hl : ns.length ≤ sizeLine) (hr : Room k callerA)
    (F : ∀ base : Heap, K.In base → base.Ns mainGlobals mg → FnG P w K mg base k fa fd [x] sp) (hbind : ∀ (s : Shared) (u : Value), BindsTo s fd ⟨[u], []⟩ [(x, u)])
    (hsp : ∀ H : Hp, SqL K H a (ns.map V.int) → sp [.ref a] H (fun v _ => v = .bl true) E0) : codeAny (model P w) callerA (.call (.ref fa) ⟨[.ref a], []⟩) (Behind s) s := by
  have rv := ints_vals hi
  cases hk : K.lookup a with
  | some o =>
    have e := KX a o hk
    rw [ha] at e
    cases e
    have sq : SqL K (fun _ => none) a (ns.map V.int) := .inr ⟨_, vs.toArray, _, hk, rfl, rfl, rfl, by rw [List.size_toArray, hi.length]; exact hl, by simpa using rv⟩
    refine law_goes KX hns hb hbb hlim hg ⟨fun b u z => ?_, fun b u z => ?_⟩ hr F hbind (hsp _ sq)
    · exact absurd (show (none : Option HO) = some u from z) (by simp)
    · exact absurd (show (none : Option HO) = some u from z) (by simp)
  | none =>
    have get : ∀ b u, (fun b => if b = a then some (HO.frz { cls := .type "list", data := .seq vs.toArray } (.lst (ns.map V.int))) else none : Hp) b = some u → b = a ∧ u = .frz { cls := .type "list", data := .seq vs.toArray } (.lst (ns.map V.int)) := fun b u z => by
      have z : (if b = a then some (HO.frz { cls := .type "list", data := .seq vs.toArray } (.lst (ns.map V.int))) else none) = some u := z
      by_cases h : b = a
      · rw [if_pos h] at z
        exact ⟨h, (Option.some.inj z).symm⟩
      · rw [if_neg h] at z
        cases z
    refine law_goes (H := fun b => if b = a then some (.frz { cls := .type "list", data := .seq vs.toArray } (.lst (ns.map V.int))) else none) KX hns hb hbb hlim hg ⟨fun b u z => ?_, fun b u z => ?_⟩ hr F hbind (hsp _ (.inl (.inr ⟨_, if_pos rfl⟩)))
    · obtain ⟨rfl, rfl⟩ := get b u z
      exact ⟨ha, by rw [List.length_map]; exact hl, vs, _, rv, ha⟩
    · obtain ⟨rfl, rfl⟩ := get b u z
      exact ⟨rfl, hk, _, _, rfl, _, _, rfl⟩
end
/-- what k_head leaves open -/
theorem walk_G {l : PySem.W.OpenLaw} {n k : Nat} {q : Program} {loose : List Str} {XP : (Str → Option Value) → Heap → Prop} {YP : World → Heap → Prop} {d : DefRec} {K : Params → PySem.W.Frag} {sp : World → Sp} {x : Str}
    (hn : l.most = some n) (hn2 : n ≤ sizeLine) (hdf : d.params.defaults = []) (hr : Room k callerA) (hY : ∀ (w : World) (h : Heap), YP w h → (K w.params).In h)
    (F : ∀ (w : World) (mg : Str → Option Value) (fa : Addr) (h : Heap), (K w.params).In h → h.Ns mainGlobals mg → mg d.name = some (.ref fa) → ∃ fd : FuncData, (∀ (s : Shared) (u : Value), BindsTo s fd ⟨[u], []⟩ [(x, u)]) ∧
      ∀ base : Heap, (K w.params).In base → base.Ns mainGlobals mg → FnG l.prog w (K w.params) mg base k fa fd [x] (sp w))
    (hsp : ∀ (w : World) (H : Hp) (a : Addr) (ns : List Int), ns.length ≤ n → (∀ z ∈ ns, Builtin.Int.intBits z ≤ 1048576) → SqL (K w.params) H a (ns.map V.int) → sp w [.ref a] H (fun v _ => v = .bl true) E0) :
    PySem.W.WalkO q loose XP YP l.row.toRowW d [] (fun f vs => PySem.call f vs) := by
  refine Att.attach_callB hn hdf fun w s₀ s₁ mg mb fa o pm cd doc a vs ns G Y ho hd hcd hmg hobj hints hlen hbits hg => ?_
  have KX := hY w _ Y
  obtain ⟨fd, hb, hF⟩ := F w mg fa _ KX G.T.g hmg
  exact law_goes_any KX G.T.g G.T.b G.T.builtins G.T.nolimit hg hobj hints (Nat.le_trans hlen hn2) hr hF hb fun H hS => hsp w H a ns hlen hbits hS
end Ld
/-! Things that a law draws: data, with a small dict at most. -/
namespace Ld
open PySem L2 PyProof.Rows
/-- data without a dict, or a dict of at most one text -/
inductive Lf (K : PySem.W.Frag) (H : Hp) : V → PyData → Prop
  | dat {v : V} {d : PyData} : Dp K H v d → Lf K H v d
  | dct0 {a : Addr} : H a = some (.dK []) → Lf K H (.ref a) (.dict [])
  | dct1 {a : Addr} {x y : Str} : H a = some (.dK [(Sum.inr x, .str y)]) → Lf K H (.ref a) (.dict [(.str x, .str y)])
/-- such a one, or a tuple of words with such a one among them -/
inductive Th (K : PySem.W.Frag) (H : Hp) : V → PyData → Prop
  | lf {v : V} {d : PyData} : Lf K H v d → Th K H v d
  | tup {a : Addr} {ws us : List Str} {v : V} {d : PyData} : SqT K H a (ws.map V.str ++ v :: us.map V.str) → Lf K H v d → Th K H (.ref a) (.tuple (ws.map PyData.str ++ d :: us.map PyData.str))
section
variable {K : PySem.W.Frag} {H H' : Hp} {v : V} {d : PyData} {wa : Addr}
theorem Lf.same (s : Same H H') (h : Lf K H v d) : Lf K H' v d := by
  cases h with
  | dat h => exact .dat (dp_same s h)
  | dct0 h => exact .dct0 (s _ _ h)
  | dct1 h => exact .dct1 (s _ _ h)
theorem Th.same (s : Same H H') (h : Th K H v d) : Th K H' v d := by
  cases h with
  | lf h => exact .lf (h.same s)
  | tup a h => exact .tup (same_T s a) (h.same s)
theorem Lf.sb (W : Well H wa) (s : Sb wa H H') (h : Lf K H v d) : Lf K H' v d := by
  cases h with
  | dat h => exact .dat (dp_sb W s h)
  | dct0 h => exact .dct0 (s _ _ (W.ne h (by show (0 : Nat) ≠ 2; decide)) h)
  | dct1 h => exact .dct1 (s _ _ (W.ne h (by show (1 : Nat) ≠ 2; decide)) h)
theorem Th.sb (W : Well H wa) (s : Sb wa H H') (h : Th K H v d) : Th K H' v d := by
  cases h with
  | lf h => exact .lf (h.sb W s)
  | tup a h => exact .tup (seqT W s a) (h.sb W s)
end
/-! ### what repr needs of it -/
mutual
theorem dp_nodict {K : PySem.W.Frag} {H : Hp} : ∀ (d : PyData) (v : V), Dp K H v d → d.hasDict = false
  | .none, _, _ => rfl
  | .bool _, _, _ => rfl
  | .int _, _, _ => rfl
  | .str _, _, _ => rfl
  | .list ds, _, h => by
    cases h with
    | lst a b => simpa [PyData.hasDict] using dpAll_nodict ds _ b
  | .tuple ds, _, h => by
    cases h with
    | tup a b => simpa [PyData.hasDict] using dpAll_nodict ds _ b
  | .dict _, _, h => by cases h
theorem dpAll_nodict {K : PySem.W.Frag} {H : Hp} : ∀ (ds : List PyData) (vs : List V), DpAll K H vs ds → PyData.hasDictAll ds = false
  | [], _, _ => rfl
  | d :: ds, _, h => by
    cases h with
    | cons a b => simp [PyData.hasDictAll, dp_nodict d _ a, dpAll_nodict ds _ b]
end
section
variable {K : PySem.W.Frag} {P : Program} {w : World} {H : Hp} {h : Heap}
mutual
theorem dp_reads (ok : HOk P w H h) (kin : K.In h) : ∀ (d : PyData) (v : V) (u : Value), Dp K H v d → RelV v u → ∃ as, Reads h u d as
  | .none, _, _, z, r => by cases z; cases r; exact ⟨_, .none⟩
  | .bool b, _, _, z, r => by cases z; cases r; exact ⟨_, .bool b⟩
  | .int i, _, _, z, r => by cases z; obtain ⟨t, rfl⟩ := r; exact ⟨_, .int i t⟩
  | .str x, _, _, z, r => by cases z; obtain ⟨t, rfl⟩ := r; exact ⟨_, .str x t⟩
  | .list ds, _, _, z, r => by
    cases z with
    | lst hs ha =>
      cases r
      rcases hs with hs | ⟨o, its, n, hk, hc, hd, hs, hz, rv⟩
      · obtain ⟨z, its, n, rv, e⟩ := hs.ok ok
        obtain ⟨as, hr⟩ := dpAll_reads ok kin ds _ its ha rv
        exact ⟨_, .list e rfl rfl hr⟩
      · obtain ⟨as, hr⟩ := dpAll_reads ok kin ds _ its.toList ha rv
        exact ⟨_, .list (kin _ o hk) hc hs hr⟩
  | .tuple ds, _, _, z, r => by
    cases z with
    | tup hs ha =>
      cases r
      rcases hs with hs | ⟨o, its, n, hk, hc, hs, hz, rv⟩
      · obtain ⟨z, its, rv, o, e, c, n, dt⟩ := hs.ok ok
        obtain ⟨as, hr⟩ := dpAll_reads ok kin ds _ its ha rv
        exact ⟨_, .tuple e c dt hr⟩
      · obtain ⟨as, hr⟩ := dpAll_reads ok kin ds _ its.toList ha rv
        exact ⟨_, .tuple (kin _ o hk) hc hs hr⟩
  | .dict _, _, _, z, _ => by cases z
theorem dpAll_reads (ok : HOk P w H h) (kin : K.In h) : ∀ (ds : List PyData) (vs : List V) (us : List Value), DpAll K H vs ds → Vals vs us → ∃ as, ReadsAll h us ds as
  | [], _, _, z, r => by cases z; cases r; exact ⟨_, .nil⟩
  | d :: ds, _, _, z, r => by
    cases z with
    | cons h1 h2 =>
      cases r with
      | cons r1 r2 =>
        obtain ⟨as, q1⟩ := dp_reads ok kin d _ _ h1 r1
        obtain ⟨bs, q2⟩ := dpAll_reads ok kin ds _ _ h2 r2
        exact ⟨_, .cons q1 q2⟩
end
theorem reads_strs : ∀ (ws : List Str) (us : List Value), Vals (ws.map V.str) us → ReadsAll h us (ws.map PyData.str) []
  | [], _, r => by cases r; exact .nil
  | w :: ws, _, r => by
    cases r with
    | cons r1 r2 =>
      obtain ⟨t, rfl⟩ := r1
      exact .cons (as := []) (bs := []) (.str w t) (reads_strs ws _ r2)
theorem readsAll_append : ∀ {us vs : List Value} {ds es : List PyData} {as bs : List Addr}, ReadsAll h us ds as → ReadsAll h vs es bs → ReadsAll h (us ++ vs) (ds ++ es) (as ++ bs)
  | _, _, _, _, _, _, .nil, r => r
  | _, _, _, _, _, bs, .cons (as := as) (bs := cs) a b, r => by
    rw [List.append_assoc]
    exact .cons a (readsAll_append b r)
theorem Lf.rds {v : V} {d : PyData} (z : Lf K H v d) : Rds K P w H v d := fun h ok kin u r => by
  cases z with
  | dat z =>
    obtain ⟨as, q⟩ := dp_reads ok kin d v u z r
    exact ⟨as, q, fun e => by rw [dp_nodict d v z] at e; cases e⟩
  | @dct0 a z =>
    cases r
    obtain ⟨_, hm, vs, kv, o, es, ep, e1, e2, e3, _, e4, _⟩ := dk_of ok z
    cases kv
    have e5 : es.toList = [] := by
      cases hh : es.toList with
      | nil => rfl
      | cons x y => rw [hh] at e4; cases e4
    refine ⟨_, .dict (kvs := []) (as := []) (bs := []) e1 e2.1 e3 (by rw [e5]; exact .nil) (by rw [e5]; exact .nil), fun _ hin => ?_⟩
    rcases List.mem_cons.mp hin with q | q
    · rw [← q] at hm
      exact absurd hm (by decide)
    · cases q
  | @dct1 a x y z =>
    cases r
    obtain ⟨_, hm, vs, kv, o, es, ep, e1, e2, e3, _, e4, _⟩ := dk_of ok z
    cases kv with
    | @cons _ kv1 _ _ q kv2 =>
      cases kv2
      obtain ⟨q1, q2⟩ := q
      obtain ⟨k1, v1⟩ := kv1
      cases q1
      obtain ⟨t, (rfl : v1 = _)⟩ := q2
      cases hh : es.toList with
      | nil => rw [hh] at e4; cases e4
      | cons x1 x2 =>
        rw [hh] at e4
        cases e4 with
        | cons g1 g2 g3 =>
          cases g3
          have g4 : ∃ t', x1.key = .str x t' := by
            rcases keyIs_shape (show keyIs (.inr x) x1.key = true from g1) with ⟨i, t', z1, _⟩ | ⟨y', t', z1, z2⟩
            · cases z1
            · cases z1
              exact ⟨t', z2⟩
          obtain ⟨t', g4⟩ := g4
          refine ⟨_, .dict (kvs := [(.str x, .str y)]) (as := []) (bs := []) e1 e2.1 e3 ?_ ?_, fun _ hin => ?_⟩
          · rw [hh]
            show ReadsAll h [x1.key] [PyData.str x] []
            rw [g4]
            exact .cons (as := []) (bs := []) (.str x t') .nil
          · rw [hh]
            show ReadsAll h [x1.val] [PyData.str y] []
            rw [g2]
            exact .cons (as := []) (bs := []) (.str y t) .nil
          · rcases List.mem_cons.mp hin with q | q
            · rw [← q] at hm
              exact absurd hm (by decide)
            · cases q
theorem reads_cut (ws us : List Str) {v : V} {l : List Value} (r : Vals (ws.map V.str ++ v :: us.map V.str) l) : ∃ l1 u l2, l = l1 ++ u :: l2 ∧ Vals (ws.map V.str) l1 ∧ RelV v u ∧ Vals (us.map V.str) l2 := by
  induction ws generalizing l with
  | nil =>
    cases r with
    | cons r1 r2 => exact ⟨[], _, _, rfl, .nil, r1, r2⟩
  | cons w ws ih =>
    cases r with
    | cons r1 r2 =>
      obtain ⟨l1, u, l2, e, a, b, c⟩ := ih r2
      exact ⟨_ :: l1, u, l2, by rw [e]; rfl, .cons r1 a, b, c⟩
theorem hasDict_strs : ∀ ws : List Str, PyData.hasDictAll (ws.map PyData.str) = false
  | [] => rfl
  | w :: ws => by simp [PyData.hasDictAll, PyData.hasDict, hasDict_strs ws]
theorem hasDict_append : ∀ ds es : List PyData, PyData.hasDictAll (ds ++ es) = (PyData.hasDictAll ds || PyData.hasDictAll es)
  | [], es => by simp [PyData.hasDictAll]
  | d :: ds, es => by
    rw [List.cons_append]
    simp only [PyData.hasDictAll, hasDict_append ds es, Bool.or_assoc]
theorem Th.rds {v : V} {d : PyData} (z : Th K H v d) : Rds K P w H v d := fun h ok kin u r => by
  cases z with
  | lf z => exact z.rds h ok kin u r
  | @tup a ws us v d ha hv =>
    cases r
    have core : ∀ l, Vals (ws.map V.str ++ v :: us.map V.str) l → ∃ as, ReadsAll h l (ws.map PyData.str ++ d :: us.map PyData.str) as ∧ (d.hasDict = true → ¬ sysModules ∈ as) := fun l rl => by
      obtain ⟨l1, u, l2, rfl, r1, r2, r3⟩ := reads_cut ws us rl
      obtain ⟨as, q1, q2⟩ := hv.rds (P := P) (w := w) h ok kin u r2
      refine ⟨[] ++ (as ++ []), readsAll_append (reads_strs ws l1 r1) (.cons q1 (reads_strs us l2 r3)), ?_⟩
      simpa using q2
    have hd : (PyData.tuple (ws.map PyData.str ++ d :: us.map PyData.str)).hasDict = d.hasDict := by
      show PyData.hasDictAll (ws.map PyData.str ++ d :: us.map PyData.str) = _
      rw [hasDict_append, hasDict_strs]
      simp [PyData.hasDictAll, hasDict_strs]
    rcases ha with hs | ⟨o, its, n, hk, hc, hs, hz, rv⟩
    · obtain ⟨z, its, rv, o, e, c, n, dt⟩ := hs.ok ok
      obtain ⟨as, q1, q2⟩ := core its rv
      exact ⟨as, .tuple e c dt q1, by rw [hd]; exact q2⟩
    · obtain ⟨as, q1, q2⟩ := core its.toList rv
      exact ⟨as, .tuple (kin _ o hk) hc hs q1, by rw [hd]; exact q2⟩
end
/-! ### its kind -/
def kindOf : PyData → String
  | .none => "NoneType"
  | .bool _ => "bool"
  | .int _ => "int"
  | .str _ => "str"
  | .list _ => "list"
  | .tuple _ => "tuple"
  | .dict _ => "dict"
section
variable {K : PySem.W.Frag} {H : Hp} {v : V} {d : PyData}
theorem Dp.ty (z : Dp K H v d) : TyX K H v (.type (kindOf d)) := by
  cases z with
  | non => exact .base .non
  | bl b => exact .base (.bl b)
  | int i => exact .base (.int i)
  | str x => exact .base (.str x)
  | lst hs _ =>
    rcases hs with (hs | ⟨o, hs⟩) | ⟨o, its, n, hk, hc, _⟩
    · exact .base (.lst hs)
    · exact .base (.frz hs)
    · exact .kList hk hc
  | tup hs _ =>
    rcases hs with (hs | ⟨o, hs⟩) | ⟨o, its, n, hk, hc, _⟩
    · exact .base (.tup hs)
    · exact .fTuple hs
    · exact .kTuple hk hc
theorem Lf.ty (z : Lf K H v d) : TyX K H v (.type (kindOf d)) := by
  cases z with
  | dat z => exact Dp.ty z
  | dct0 z => exact .base (.dK z)
  | dct1 z => exact .base (.dK z)
theorem Th.ty (z : Th K H v d) : TyX K H v (.type (kindOf d)) := by
  cases z with
  | lf z => exact z.ty
  | tup hs _ =>
    rcases hs with (hs | ⟨o, hs⟩) | ⟨o, its, n, hk, hc, _⟩
    · exact .base (.tup hs)
    · exact .fTuple hs
    · exact .kTuple hk hc
def isStrD : PyData → Bool
  | .str _ => true
  | _ => false
def isTupD : PyData → Bool
  | .tuple _ => true
  | _ => false
def isIntD : PyData → Bool
  | .int _ => true
  | .bool _ => true
  | _ => false
def isBoolD : PyData → Bool
  | .bool _ => true
  | _ => false
theorem kit_str (d : PyData) : PySem.W.kitOne K (.type (kindOf d)) (.type "str") = some (isStrD d) := by
  cases d <;> (simp only [kindOf, isStrD, isTupD, isIntD, isBoolD]; exact kit_ty (by decide +kernel))
theorem kit_tuple (d : PyData) : PySem.W.kitOne K (.type (kindOf d)) (.type "tuple") = some (isTupD d) := by
  cases d <;> (simp only [kindOf, isStrD, isTupD, isIntD, isBoolD]; exact kit_ty (by decide +kernel))
theorem kit_int (d : PyData) : PySem.W.kitOne K (.type (kindOf d)) (.type "int") = some (isIntD d) := by
  cases d <;> (simp only [kindOf, isStrD, isTupD, isIntD, isBoolD]; exact kit_ty (by decide +kernel))
theorem kit_bool (d : PyData) : PySem.W.kitOne K (.type (kindOf d)) (.type "bool") = some (isBoolD d) := by
  cases d <;> (simp only [kindOf, isStrD, isTupD, isIntD, isBoolD]; exact kit_ty (by decide +kernel))
/-- the items of a tuple, each with its data -/
def Its (K : PySem.W.Frag) (H : Hp) (xs : List V) (ds : List PyData) : Prop := xs.length = ds.length ∧ ∀ (i : Nat) (x : V), xs[i]? = some x → ∃ d, ds[i]? = some d ∧ Lf K H x d
theorem its_of : ∀ {xs : List V} {ds : List PyData}, DpAll K H xs ds → Its K H xs ds
  | _, _, .nil => ⟨rfl, fun i x e => by simp at e⟩
  | _, _, .cons a b => by
    obtain ⟨h1, h2⟩ := its_of b
    refine ⟨by simp [h1], fun i x e => ?_⟩
    cases i with
    | zero =>
      simp at e
      subst e
      exact ⟨_, rfl, .dat a⟩
    | succ i =>
      obtain ⟨d, q1, q2⟩ := h2 i x (by simpa using e)
      exact ⟨d, by simpa using q1, q2⟩
theorem Th.its {ds : List PyData} (z : Th K H v (.tuple ds)) : ∃ a xs, v = .ref a ∧ SqT K H a xs ∧ Its K H xs ds := by
  cases z with
  | lf z =>
    cases z with
    | dat z =>
      cases z with
      | tup hs ha => exact ⟨_, _, rfl, hs, its_of ha⟩
  | @tup a ws us v d ha hv =>
    refine ⟨_, _, rfl, ha, by simp, fun i x e => ?_⟩
    by_cases h1 : i < ws.length
    · rw [List.getElem?_append_left (by simpa using h1), List.getElem?_map] at e
      cases g : ws[i]? with
      | none => rw [g] at e; cases e
      | some y =>
        rw [g] at e
        cases e
        exact ⟨.str y, by rw [List.getElem?_append_left (by simpa using h1), List.getElem?_map, g]; rfl, .dat (.str y)⟩
    · rw [List.getElem?_append_right (by simpa using h1), List.length_map] at e
      cases h2 : i - ws.length with
      | zero =>
        rw [h2] at e
        cases e
        exact ⟨d, by rw [List.getElem?_append_right (by simpa using h1), List.length_map, h2]; rfl, hv⟩
      | succ j =>
        rw [h2] at e
        have e : (us.map V.str)[j]? = some x := by simpa using e
        rw [List.getElem?_map] at e
        cases g : us[j]? with
        | none => rw [g] at e; cases e
        | some y =>
          rw [g] at e
          cases e
          refine ⟨.str y, ?_, .dat (.str y)⟩
          rw [List.getElem?_append_right (by simpa using h1), List.length_map, h2]
          show (us.map PyData.str)[j]? = some (PyData.str y)
          rw [List.getElem?_map, g]
          rfl
end
end Ld
/-! Words, letter by letter. -/
namespace Ld
open PySem L2 PyProof.Rows
def low (c : Nat) : Bool := decide (97 ≤ c) && decide (c ≤ 122)
def lows (z : Str) : Bool := z.cps.toList.all low
def wordS (z : Str) : Bool := decide (1 ≤ z.length) && decide (z.length ≤ 12) && lows z
theorem sign_facts : ∀ c : Fin 128, (Unicode.isAlpha c.val && !(Unicode.isUpper c.val || Unicode.isTitle c.val)) = low c.val ∧ (low c.val = true → Unicode.isLower c.val = true) := by decide +kernel
theorem sign_fact {c : Nat} (h : c < 128) : (Unicode.isAlpha c && !(Unicode.isUpper c || Unicode.isTitle c)) = low c ∧ (low c = true → Unicode.isLower c = true) := sign_facts ⟨c, h⟩
theorem low_lt {c : Nat} (h : low c = true) : c < 128 := by
  simp only [low, Bool.and_eq_true, decide_eq_true_eq] at h
  omega
theorem arr_all (z : Str) (p : Nat → Bool) : z.cps.all p = z.cps.toList.all p := by simp
theorem arr_any (z : Str) (p : Nat → Bool) : z.cps.any p = z.cps.toList.any p := by simp
theorem lows_eq {z : Str} (h : 1 ≤ z.length) : (Txt.isascii z && (Txt.isalpha z && Txt.islower z)) = lows z := by
  unfold Txt.isascii Txt.isalpha Txt.islower lows
  rw [arr_all, arr_all, arr_any, arr_any]
  have hl : (decide (z.length > 0)) = true := decide_eq_true h
  have hl2 : z.cps.toList.length = z.length := by simp [Str.length]
  rw [hl, Bool.true_and]
  generalize z.cps.toList = l at hl2
  rw [Bool.eq_iff_iff]
  simp only [Bool.and_eq_true, List.all_eq_true, List.any_eq_true, Bool.not_eq_true', decide_eq_true_eq]
  constructor
  · rintro ⟨h1, h2, _, h4⟩ c hc
    have f := (sign_fact (h1 c hc)).1
    rw [← f, Bool.and_eq_true]
    refine ⟨h2 c hc, ?_⟩
    have h5 := List.any_eq_false.mp h4 c hc
    simpa using h5
  · intro hh
    have f : ∀ c ∈ l, c < 128 ∧ Unicode.isAlpha c = true ∧ (Unicode.isUpper c || Unicode.isTitle c) = false ∧ Unicode.isLower c = true := fun c hc => by
      have h0 := hh c hc
      have h1 := low_lt h0
      obtain ⟨f1, f2⟩ := sign_fact h1
      rw [h0, Bool.and_eq_true] at f1
      exact ⟨h1, f1.1, by simpa using f1.2, f2 h0⟩
    refine ⟨fun c hc => (f c hc).1, fun c hc => (f c hc).2.1, ?_, List.any_eq_false.mpr fun c hc => by rw [(f c hc).2.2.1]; simp⟩
    cases l with
    | nil =>
      simp at hl2
      omega
    | cons c r => exact ⟨c, List.mem_cons_self, (f c List.mem_cons_self).2.2.2⟩
theorem one_lt (a b : Nat) : decide (([a] : List Nat) < [b]) = decide (a < b) := by
  by_cases h : a < b
  · rw [decide_eq_true h, decide_eq_true]
    exact List.Lex.rel h
  · rw [decide_eq_false h, decide_eq_false]
    intro z
    cases z with
    | rel q => exact h q
    | cons q => cases q
/-- what the data says -/
def numD (hi : Int) : PyData → Bool
  | .int i => decide (0 ≤ i) && decide (i ≤ hi)
  | _ => false
def wordD : PyData → Bool
  | .str z => wordS z
  | _ => false
def addrD : PyData → Bool
  | .tuple ds => ds.all wordD
  | _ => false
/-- a short text of plain signs -/
def Asc (z : Str) : Prop := z.length ≤ 100 ∧ ∀ c ∈ z.cps.toList, c < 128
def FitS (d : PyData) : Prop := ∀ z, d = .str z → Asc z
def Fits (d : PyData) : Prop := FitS d ∧ ∀ ds, d = .tuple ds → ds.length ≤ 10000 ∧ ∀ e ∈ ds, FitS e
theorem Asc.size {z : Str} (h : Asc z) : z.length ≤ sizeLine := Nat.le_trans h.1 (by decide)
theorem FitS.of {d : PyData} (h : ∀ z, d ≠ .str z) : FitS d := fun z e => absurd e (h z)
end Ld
/-! Short rules. -/
namespace Ld
open PySem L2 PyProof.Rows
section
variable {X : Cx}
theorem PE.conv {e : Expr} {t t' : TE} (h : PE X e t') (c : ∀ σ H Q, t σ H Q → t' σ H Q) : PE X e t := ⟨fun pins s σ H Q I z => h.run pins s σ H Q I (c σ H Q z)⟩
theorem PT.conv {e : Expr} {t t' : TT} (h : PT X e t') (c : ∀ σ H Q, t σ H Q → t' σ H Q) : PT X e t := ⟨fun pins s σ H Q I z => h.run pins s σ H Q I (c σ H Q z)⟩
theorem OpR.conv {f : Value → Value → Sem Value} {r r' : R2} (h : OpR X f r') (c : ∀ x y H Q, r x y H Q → r' x y H Q) : OpR X f r := fun pins s σ H x y v u Q I rx ry z => h pins s σ H x y v u Q I rx ry (c x y H Q z)
theorem CallR.conv {f : Value} {r r' : List V → Hp → VK → Prop} (h : CallR X f r') (c : ∀ xs H Q, r xs H Q → r' xs H Q) : CallR X f r := fun pins s σ H xs us Q I r z => h pins s σ H xs us Q I r (c xs H Q z)
/-- isinstance(a, T) -/
def rIsa (K : PySem.W.Frag) (T : String) (x : V) (H : Hp) (Q : VK) : Prop := ∃ t b, TyX K H x t ∧ PySem.W.kitOne K t (.type T) = some b ∧ Q (.bl b) H
theorem call_isa (T : String) : CallR X (.builtin "isinstance") (fun xs H Q => ∃ x, xs = [x, .ty T] ∧ rIsa X.K T x H Q) := CallR.conv call_isi fun xs H Q ⟨x, e, t, b, h1, h2, q⟩ => ⟨x, .ty T, t, .type T, b, e, .ty T, h1, h2, q⟩
/-- t[lo:hi], whatever object it is -/
def rSlW (K : PySem.W.Frag) : V → Option Int → Option Int → Hp → VK → Prop := fun x lo hi H Q => ∃ a xs, x = .ref a ∧ SqT K H a xs ∧ ∀ r H', Same H H' → SqT K H' r (cutV xs lo hi) → Q (.ref r) H'
theorem cut_whole {xs : List V} {lo hi : Option Int} (h : HT.sIx xs.length 0 lo = 0 ∧ HT.sIx xs.length xs.length hi = xs.length) : cutV xs lo hi = xs := by
  unfold cutV
  rw [h.1, h.2, List.drop_zero, Nat.sub_zero, List.take_length]
theorem sl_tupW : SlR X (rSlW X.K) := by
  intro pins s σ H x v vl vu lo hi sl Q I rx hs pl pu h
  obtain ⟨a, xs, rfl, hx, q⟩ := h
  exact sl_tupA pins s σ H _ v vl vu lo hi sl Q I rx hs pl pu ⟨a, xs, rfl, hx, fun hw => q a H (Same.refl H) (by rw [cut_whole hw]; exact hx), fun _ p hp => q p _ (Same.new hp) (.of upd_same)⟩
/-- t + u, whatever object it is -/
def rCatW (K : PySem.W.Frag) : R2 := fun x y H Q => ∃ a b xs ys, x = .ref a ∧ y = .ref b ∧ SqT K H a xs ∧ SqT K H b ys ∧ xs.length + ys.length ≤ sizeLine ∧ ∀ r H', Same H H' → SqT K H' r (xs ++ ys) → Q (.ref r) H'
theorem op_catW : OpR X (binaryOp .Add) (rCatW X.K) := OpR.conv op_catA fun x y H Q ⟨a, b, xs, ys, e1, e2, h1, h2, hz, q⟩ => by
  refine ⟨a, b, xs, ys, e1, e2, h1, h2, hz, fun e => ?_, fun _ e => ?_, fun _ _ p hp => q p _ (Same.new hp) (.of upd_same)⟩
  · subst e
    exact q b H (Same.refl H) h2
  · subst e
    exact q a H (Same.refl H) (by rw [List.append_nil]; exact h1)
/-- a tuple displayed, a list displayed: what is said of them -/
theorem bootN : bootBuiltins "isinstance" = some (.builtin "isinstance") := by decide +kernel
end
end Ld
namespace Ld
open PySem L2 PyProof.Rows
/-- f(..) of a def without default values that lets nothing out -/
structure Df (P : Program) (w : World) (K : PySem.W.Frag) (mg : Str → Option Value) (base : Heap) (k : Nat) (x : Str) (ps : List Str) (sp : Sp) : Prop where
  ex : ∃ f fd, mg x = some (.ref f) ∧ PySem.W.keepIn K (.ref f) = true ∧ Binds K fd ps [] ∧ FnOk P w K mg base CX0 k f fd ps sp
structure DfG (P : Program) (w : World) (K : PySem.W.Frag) (mg : Str → Option Value) (base : Heap) (k : Nat) (x : Str) (ps : List Str) (sp : Sp) : Prop where
  ex : ∃ f fd, mg x = some (.ref f) ∧ PySem.W.keepIn K (.ref f) = true ∧ Binds K fd ps [] ∧ FnG P w K mg base k f fd ps sp
def tDf (sp : Sp) (t : TA) : TE := fun σ H Q => t σ H fun vs H1 => sp vs H1 Q E0
section
variable {X : Cx} {k : Nat} {ps : List Str} {sp : Sp} {x : Str} {p pos : Pos} {e : Expr} {es : List Expr} {t : TA}
theorem pe_df {j : Nat} (D : Df X.prog X.w X.K X.mg X.base k x ps sp) (hr : Room j X.A) (ha : PA X (e :: es) t) (hj : k ≤ j := by decide) (hg : Gl X x := by rfl) (hdb : (x == ("__debug__" : Str)) = false := by decide) (he : starEach (e :: es) X.env = (false, eval e X.env) :: starEach es X.env := by rfl)
    (hpl : (backTo pos (starEach es X.env)).any (·.1) = false := by rfl) : PE X (.Call (.Name x p) (e :: es) [] pos) (tDf sp t) := by
  obtain ⟨f, fd, h1, h2, h3, h4⟩ := D.ex
  have z := pe_call (pos := pos) (p := p) h4 (hr.mono hj) hg h1 h2 h3 .nil pass0 ha hdb he hpl
  have e : tCall sp [] E0 t = tDf sp t := by
    funext σ H Q
    unfold tCall tDf
    simp only [List.append_nil]
  rw [e] at z
  exact z
theorem pe_dfG {j : Nat} (D : DfG X.prog X.w X.K X.mg X.base k x ps sp) (hG : X.A.guards = some []) (hr : Room j X.A) (ha : PA X (e :: es) t) (hj : k ≤ j := by decide) (hg : Gl X x := by rfl) (hdb : (x == ("__debug__" : Str)) = false := by decide)
    (he : starEach (e :: es) X.env = (false, eval e X.env) :: starEach es X.env := by rfl) (hpl : (backTo pos (starEach es X.env)).any (·.1) = false := by rfl) : PE X (.Call (.Name x p) (e :: es) [] pos) (tDf sp t) := by
  obtain ⟨f, fd, h1, h2, h3, h4⟩ := D.ex
  have z := pe_callG (pos := pos) (p := p) h4 hG (hr.mono hj) hg h1 h2 h3 ha hdb he hpl
  have e : tCall sp [] E0 t = tDf sp t := by
    funext σ H Q
    unfold tCall tDf
    simp only [List.append_nil]
  rw [e] at z
  exact z
end
section
variable {K : PySem.W.Frag} {H : Hp} {v : V}
theorem Th.int_v {i : Int} (h : Th K H v (.int i)) : v = .int i := by
  cases h with
  | lf h => cases h with
    | dat h => cases h; rfl
theorem Th.str_v {z : Str} (h : Th K H v (.str z)) : v = .str z := by
  cases h with
  | lf h => cases h with
    | dat h => cases h; rfl
end
end Ld
namespace Ld
open PySem L2 PyProof.Rows
/-! ### over the signs of a text -/
theorem lc_str {x : Str} {g : TG} {tt : TT} {te : TE} {vs : List Nat} {σ : L2.St} {H1 : Hp} {D : Addr} {Qd : Hp → Prop} (Pv : Nat → Hp → Prop) (h0 : Pv 0 (upd H1 D (.lst [])))
    (hs : ∀ i c H, x.cps[i]? = some c → Pv i H → g (.str ⟨#[c]⟩) (wipe σ vs) H fun σ2 H2 => wipe σ2 vs = wipe σ vs ∧ tt σ2 H2 fun b H3 =>
      if b = true then te σ2 H3 fun y H4 => ∃ acc, H4 D = some (.lst acc) ∧ acc.length < sizeLine ∧ Pv (i + 1) (upd H4 D (.lst (acc ++ [y]))) else Pv (i + 1) H3) (hd : ∀ H, Pv x.cps.size H → Qd H) :
    ∃ W : Nat → Nat → Hp → Prop, (∃ m, W 0 m (upd H1 D (.lst []))) ∧ ∀ i m H, W i m H →
      ((L2.Its x).stop i H ∧ Qd H) ∨ ((L2.Its x).go i H ∧ ∃ Nx : Hp → Prop, (∀ H', Nx H' → ∃ m', m' < m ∧ W (i + 1) m' H') ∧ ∀ v H', (L2.Its x).yld i H v H' → g v (wipe σ vs) H' fun σ2 H2 => wipe σ2 vs = wipe σ vs ∧ tt σ2 H2 fun b H3 =>
        if b = true then te σ2 H3 fun y H4 => ∃ acc, H4 D = some (.lst acc) ∧ acc.length < sizeLine ∧ Nx (upd H4 D (.lst (acc ++ [y]))) else Nx H3) := by
  refine ⟨fun i m H => m + i = x.cps.size ∧ Pv i H, ⟨x.cps.size, rfl, h0⟩, fun i m H ⟨e, p⟩ => ?_⟩
  by_cases hlt : i < x.cps.size
  · refine Or.inr ⟨hlt, Pv (i + 1), fun H' p' => ⟨m - 1, by omega, by omega, p'⟩, fun v H' y => ?_⟩
    obtain ⟨rfl, c, hc, rfl⟩ := y
    exact hs i c H' hc p
  · have e2 : i = x.cps.size := by omega
    subst e2
    exact Or.inl ⟨Nat.le_refl _, hd H p⟩
theorem for_str {x : Str} {g : TG} {tb : TS} {D : Ends} {σ : L2.St} {H : Hp} (Pv : Nat → L2.St → Hp → Prop) (h0 : Pv 0 σ H)
    (hs : ∀ i c σ H, x.cps[i]? = some c → Pv i σ H → g (.str ⟨#[c]⟩) σ H fun σ2 H2 => tb { D with nx := Pv (i + 1), ct := Pv (i + 1), bk := D.nx } σ2 H2) (hd : ∀ σ H, Pv x.cps.size σ H → D.nx σ H) :
    ∃ W : Nat → Nat → L2.St → Hp → Prop, (∃ m, W 0 m σ H) ∧ ∀ i m σ H, W i m σ H → ((L2.Its x).stop i H ∧ D.nx σ H) ∨ ((L2.Its x).go i H ∧ ∃ N : L2.St → Hp → Prop, (∀ σ' H', N σ' H' → ∃ m', m' < m ∧ W (i + 1) m' σ' H') ∧
      ∀ v H', (L2.Its x).yld i H v H' → g v σ H' fun σ2 H2 => tb { D with nx := N, ct := N, bk := D.nx } σ2 H2) := by
  refine ⟨fun i m σ H => m + i = x.cps.size ∧ Pv i σ H, ⟨x.cps.size, rfl, h0⟩, fun i m σ H ⟨e, p⟩ => ?_⟩
  by_cases hlt : i < x.cps.size
  · refine Or.inr ⟨hlt, Pv (i + 1), fun σ' H' p' => ⟨m - 1, by omega, by omega, p'⟩, fun v H' y => ?_⟩
    obtain ⟨rfl, c, hc, rfl⟩ := y
    exact hs i c σ H' hc p
  · have e2 : i = x.cps.size := by omega
    subst e2
    exact Or.inl ⟨Nat.le_refl _, hd σ H p⟩
/-! ### a list compared with the empty one -/
theorem eqv_nil_tuple (ds : List PyData) : PyData.eqv (.list ds) (.list []) = ds.isEmpty := by
  cases ds <;> rfl
end Ld
namespace Ld
open PySem L2 PyProof.Rows
/-- a list against an empty one, whatever is in it -/
def rEq0 : R2 := fun x y H Q => ∃ a b xs, x = .ref a ∧ y = .ref b ∧ H a = some (.lst xs) ∧ H b = some (.lst []) ∧ Q (.bl xs.isEmpty) H
theorem op_eq0 {X : Cx} (hu : X.A.units + 64 < cLine) : OpR X (compareOp .Eq) rEq0 := by
  intro pins s σ H x y v u Q I rx ry h
  obtain ⟨a, b, xs, rfl, rfl, ha, hb, q⟩ := h
  cases xs with
  | nil => exact op_eqD hu pins s σ H _ _ v u Q I rx ry ⟨.list [], .list [], .lst (.of ha) .nil, .lst (.of hb) .nil, by decide, by decide, q⟩
  | cons y ys =>
    cases rx
    cases ry
    obtain ⟨_, its, n, r, e1⟩ := (show ObjOk X.prog X.w H s.heap a (.lst (y :: ys)) from I.hok a _ ha)
    obtain ⟨_, its2, n2, r2, e2⟩ := (show ObjOk X.prog X.w H s.heap b (.lst []) from I.hok b _ hb)
    cases r2
    refine SeqAt.eq_list_lengthsAt (items := its.toArray) (items2 := ([] : List Value).toArray) ⟨_, e1, rfl, n, rfl⟩ ⟨_, e2, rfl, n2, rfl⟩ ?_ (by omega) ⟨.bl false, H, I, rfl, q⟩
    have := r.length
    simp at this
    simp
    cases its with
    | nil => simp at this
    | cons a b => simp
end Ld
/-! The well's two numbers, and numbers of a script squared. -/
namespace Ld
open PySem L2 PyProof.Rows
def kd : Key := Sum.inr (Str.ofString "digits")
def km : Key := Sum.inr (Str.ofString "mixed")
theorem keys_ne : ¬ (kd = km) := by decide +kernel
theorem keys_ne' : ¬ (km = kd) := fun e => keys_ne e.symm
theorem wellKv_eq (d m : Int) : wellKv d m = [(kd, V.int d), (km, V.int m)] := rfl
theorem well_dig (d m : Int) : valV (wellKv d m) kd = some (.int d) := by
  rw [wellKv_eq]
  exact valV_pos rfl
theorem well_mix (d m : Int) : valV (wellKv d m) km = some (.int m) := by
  rw [wellKv_eq]
  rw [valV_neg keys_ne]
  exact valV_pos rfl
theorem put_dig (d m x : Int) : putK (wellKv d m) kd (.int x) = wellKv x m := by
  unfold putK
  rw [valV_any, well_dig]
  show (if true = true then _ else _) = _
  rw [if_pos rfl]
  rw [wellKv_eq, wellKv_eq]
  show [if kd = kd then (kd, V.int x) else _, if km = kd then (km, V.int x) else (km, V.int m)] = _
  rw [if_pos rfl, if_neg keys_ne']
theorem put_mix (d m x : Int) : putK (wellKv d m) km (.int x) = wellKv d x := by
  unfold putK
  rw [valV_any, well_mix]
  show (if true = true then _ else _) = _
  rw [if_pos rfl]
  rw [wellKv_eq, wellKv_eq]
  show [if kd = km then (kd, V.int x) else (kd, V.int d), if km = km then (km, V.int x) else _] = _
  rw [if_neg keys_ne, if_pos rfl]
theorem merge_well (d m : Int) : mergeK [] [(kd, V.int d), (km, V.int m)] = wellKv d m := by
  show putK (putK [] kd (V.int d)) km (V.int m) = _
  rw [putK_new (kvs := []) _ rfl, List.nil_append, putK_new _ (by rw [valV_neg keys_ne]; rfl)]
  rfl
theorem sq_wide {m e : Int} {n : Nat} (h : e.natAbs < 2 ^ n) (hm : m.natAbs < 2 ^ 60) (hn : 60 ≤ n) : (m + e * e + 59).natAbs < 2 ^ (2 * n + 2) := by
  have h1 : (e * e).natAbs < 2 ^ (2 * n) := by
    rw [Int.natAbs_mul, Nat.two_mul, Nat.pow_add]
    exact Nat.mul_lt_mul'' h h
  have h2 : 2 ^ 60 ≤ 2 ^ (2 * n) := Nat.pow_le_pow_right (by decide) (by omega)
  have h3 : (2 : Nat) ^ (2 * n + 2) = 4 * 2 ^ (2 * n) := by
    rw [Nat.pow_add]
    omega
  rw [h3]
  generalize (2 : Nat) ^ (2 * n) = z at h1 h2
  generalize e * e = s at h1
  have h4 : (2 : Nat) ^ 60 = 1152921504606846976 := by decide
  omega
theorem mul_small {m c : Int} (h0 : 0 ≤ m) (h1 : m < 2 ^ 40) (c0 : 0 ≤ c) (c1 : c < 2 ^ 17) : (m * c).natAbs < 2 ^ 60 := by
  rw [Int.natAbs_mul]
  have a : m.natAbs < 2 ^ 40 := by omega
  have b : c.natAbs < 2 ^ 17 := by omega
  have := Nat.mul_lt_mul'' a b
  exact Nat.lt_of_lt_of_le this (by decide)
theorem bits_small {m : Int} (h0 : 0 ≤ m) (h1 : m < 2 ^ 40) : Builtin.Int.intBits m ≤ 40 := bits_of (by omega)
theorem list_get {ns : List Int} {i : Nat} {x : V} (h : (ns.map V.int)[i]? = some x) : ∃ z, ns[i]? = some z ∧ x = .int z := by
  rw [List.getElem?_map] at h
  cases e : ns[i]? with
  | none => rw [e] at h; cases h
  | some z =>
    rw [e] at h
    exact ⟨z, rfl, (Option.some.inj h).symm⟩
end Ld
/-! Small things: what is drawn is short. -/
namespace Ld
open PySem L2 PyProof.Rows
def ascB (z : Str) : Bool := decide (z.length ≤ 100) && z.cps.toList.all (fun c => decide (c < 128))
theorem asc_of {z : Str} (h : ascB z = true) : Asc z := by
  simp only [ascB, Bool.and_eq_true, decide_eq_true_eq, List.all_eq_true] at h
  exact h
/-- short enough to stand in something -/
structure Part (d : PyData) : Prop where
  fit : FitS d
  sh : d.showable = true
  dp : d.depth ≤ 20
  len : d.shown.length ≤ 2000
def partB (d : PyData) : Bool := (match d with | .str z => ascB z | _ => true) && d.showable && decide (d.depth ≤ 20) && decide (d.shown.length ≤ 2000)
theorem part_of {d : PyData} (h : partB d = true) : Part d := by
  simp only [partB, Bool.and_eq_true, decide_eq_true_eq] at h
  obtain ⟨⟨⟨h1, h2⟩, h3⟩, h4⟩ := h
  refine ⟨fun z e => ?_, h2, h3, h4⟩
  subst e
  exact asc_of h1
theorem part_str {z : Str} (h : Asc z) : Part (.str z) := by
  refine ⟨fun y e => by cases e; exact h, rfl, by show 0 ≤ 20; decide, ?_⟩
  have := PySem.StrLaws.reprText_len z fun c hc => Nat.lt_of_lt_of_le (h.2 c hc) (by decide)
  show (reprText z).length ≤ 2000
  have := h.1
  omega
theorem Part.small {d : PyData} (h : Part d) : Small d := ⟨h.sh, Nat.le_trans h.dp (by decide), Nat.le_trans h.len (by decide)⟩
theorem shows_all : ∀ {ds : List PyData}, (∀ d ∈ ds, Part d) → PyData.showableAll ds = true
  | [], _ => rfl
  | d :: ds, h => by
    simp only [PyData.showableAll, (h d List.mem_cons_self).sh, shows_all fun x hx => h x (List.mem_cons_of_mem _ hx), Bool.and_self]
theorem depth_all : ∀ {ds : List PyData}, (∀ d ∈ ds, Part d) → PyData.depthAll ds ≤ 20
  | [], _ => by show 0 ≤ 20; decide
  | d :: ds, h => by
    have h1 := (h d List.mem_cons_self).dp
    have h2 := depth_all fun x hx => h x (List.mem_cons_of_mem _ hx)
    simp only [PyData.depthAll]
    omega
theorem len_all : ∀ {ds : List PyData}, (∀ d ∈ ds, Part d) → ((PyData.shownAll ds).map (·.length)).sum ≤ 2000 * ds.length ∧ (PyData.shownAll ds).length = ds.length
  | [], _ => ⟨Nat.le_refl _, rfl⟩
  | d :: ds, h => by
    have h1 := (h d List.mem_cons_self).len
    obtain ⟨h2, h3⟩ := len_all fun x hx => h x (List.mem_cons_of_mem _ hx)
    simp only [PyData.shownAll, List.map_cons, List.sum_cons, List.length_cons]
    omega
theorem small_list {ds : List PyData} (h : ∀ d ∈ ds, Part d) (hn : ds.length ≤ 1000) : Small (.list ds) := by
  obtain ⟨h2, h3⟩ := len_all h
  refine ⟨by simpa only [PyData.showable] using shows_all h, ?_, ?_⟩
  · have := depth_all h
    simp only [PyData.depth]
    omega
  · have := listText_len_le (PyData.shownAll ds)
    simp only [PyData.shown]
    rw [sizeLine_eq]
    omega
theorem small_tuple {ds : List PyData} (h : ∀ d ∈ ds, Part d) (hn : ds.length ≤ 1000) : Small (.tuple ds) := by
  obtain ⟨h2, h3⟩ := len_all h
  refine ⟨by simpa only [PyData.showable] using shows_all h, ?_, ?_⟩
  · have := depth_all h
    simp only [PyData.depth]
    omega
  · have := tupleText_len_le (PyData.shownAll ds)
    simp only [PyData.shown]
    rw [sizeLine_eq]
    omega
theorem fits_list {ds : List PyData} : Fits (.list ds) := ⟨(fun z e => by cases e), (fun ds e => by cases e)⟩
theorem fits_tuple {ds : List PyData} (h : ∀ d ∈ ds, Part d) (hn : ds.length ≤ 1000) : Fits (.tuple ds) := ⟨(fun z e => by cases e), (fun es e => by cases e; exact ⟨Nat.le_trans hn (by decide), fun d hd => (h d hd).fit⟩)⟩
theorem Part.fits {d : PyData} (h : Part d) (n : ∀ ds, d ≠ .tuple ds) : Fits d := ⟨h.fit, fun ds e => absurd e (n ds)⟩
theorem parts_strs {ws : List Str} (h : ∀ w ∈ ws, Asc w) : ∀ d ∈ ws.map PyData.str, Part d := fun d hd => by
  obtain ⟨w, hw, rfl⟩ := List.mem_map.mp hd
  exact part_str (h w hw)
/-- a drawn thing: it stands, it is short -/
def Good (K : PySem.W.Frag) (H : Hp) (v : V) : Prop := ∃ d, Th K H v d ∧ Fits d ∧ Small d
theorem Good.sb {K : PySem.W.Frag} {H H' : Hp} {wa : Addr} {v : V} (W : Well H wa) (s : Sb wa H H') (h : Good K H v) : Good K H' v := by
  obtain ⟨d, h1, h2⟩ := h
  exact ⟨d, h1.sb W s, h2⟩
theorem Good.same {K : PySem.W.Frag} {H H' : Hp} {v : V} (s : Same H H') (h : Good K H v) : Good K H' v := by
  obtain ⟨d, h1, h2⟩ := h
  exact ⟨d, h1.same s, h2⟩
/-- any of the menu -/
def Any (K : PySem.W.Frag) (H : Hp) (v : V) : Prop := ∃ d, Lf K H v d ∧ Part d ∧ Fits d
theorem Any.sb {K : PySem.W.Frag} {H H' : Hp} {wa : Addr} {v : V} (W : Well H wa) (s : Sb wa H H') (h : Any K H v) : Any K H' v := by
  obtain ⟨d, h1, h2⟩ := h
  exact ⟨d, h1.sb W s, h2⟩
theorem Any.same {K : PySem.W.Frag} {H H' : Hp} {v : V} (s : Same H H') (h : Any K H v) : Any K H' v := by
  obtain ⟨d, h1, h2⟩ := h
  exact ⟨d, h1.same s, h2⟩
theorem Any.good {K : PySem.W.Frag} {H : Hp} {v : V} (h : Any K H v) : Good K H v := by
  obtain ⟨d, h1, h2, h3⟩ := h
  exact ⟨d, .lf h1, h3, h2.small⟩
theorem any_int {K : PySem.W.Frag} {H : Hp} (i : Int) (h : partB (.int i) = true) : Any K H (.int i) := ⟨_, .dat (.int i), part_of h, (part_of h).fits (fun _ e => by cases e)⟩
theorem any_str {K : PySem.W.Frag} {H : Hp} (z : Str) (h : ascB z = true) : Any K H (.str z) := ⟨_, .dat (.str z), part_str (asc_of h), (part_str (asc_of h)).fits (fun _ e => by cases e)⟩
theorem any_non {K : PySem.W.Frag} {H : Hp} : Any K H .non := ⟨_, .dat .non, part_of (by decide +kernel), (part_of (by decide +kernel)).fits (fun _ e => by cases e)⟩
theorem any_bl {K : PySem.W.Frag} {H : Hp} (b : Bool) : Any K H (.bl b) := ⟨_, .dat (.bl b), part_of (by cases b <;> decide +kernel), (part_of (d := .bool b) (by cases b <;> decide +kernel)).fits (fun _ e => by cases e)⟩
theorem any_tup {K : PySem.W.Frag} {H : Hp} {a : Addr} {xs : List V} {ds : List PyData} (h : SqT K H a xs) (hd : DpAll K H xs ds) (p : partB (.tuple ds) = true) (q : ds.all partB = true) (hn : ds.length ≤ 1000) : Any K H (.ref a) :=
  ⟨_, .dat (.tup h hd), part_of p, fits_tuple (fun d h => part_of (List.all_eq_true.mp q d h)) hn⟩
theorem any_lst {K : PySem.W.Frag} {H : Hp} {a : Addr} {xs : List V} {ds : List PyData} (h : SqL K H a xs) (hd : DpAll K H xs ds) (p : partB (.list ds) = true) : Any K H (.ref a) := ⟨_, .dat (.lst h hd), part_of p, fits_list⟩
theorem any_dct0 {K : PySem.W.Frag} {H : Hp} {a : Addr} (h : H a = some (.dK [])) : Any K H (.ref a) := ⟨_, .dct0 h, part_of (by decide +kernel), (part_of (d := .dict []) (by decide +kernel)).fits (fun _ e => by cases e)⟩
theorem any_dct1 {K : PySem.W.Frag} {H : Hp} {a : Addr} {x y : Str} (h : H a = some (.dK [(Sum.inr x, .str y)])) (p : partB (.dict [(.str x, .str y)]) = true) : Any K H (.ref a) := ⟨_, .dct1 h, part_of p, (part_of p).fits (fun _ e => by cases e)⟩
end Ld
/-! Data of any depth, with dicts by texts. -/
namespace Ld
open PySem L2 PyProof.Rows
def noWell (kvs : List (Key × V)) : Prop := kvs.map (·.1) ≠ [(Sum.inr (Str.ofString "digits") : Key), Sum.inr (Str.ofString "mixed")]
mutual
inductive Dd (K : PySem.W.Frag) (H : Hp) : V → PyData → Prop
  | non : Dd K H .non .none
  | bl (b : Bool) : Dd K H (.bl b) (.bool b)
  | int (i : Int) : Dd K H (.int i) (.int i)
  | str (x : Str) : Dd K H (.str x) (.str x)
  | lst {a : Addr} {xs : List V} {ds : List PyData} : SqL K H a xs → a ≠ sysModules → DdAll K H xs ds → Dd K H (.ref a) (.list ds)
  | tup {a : Addr} {xs : List V} {ds : List PyData} : SqT K H a xs → DdAll K H xs ds → Dd K H (.ref a) (.tuple ds)
  | dct {a : Addr} {kvs : List (Key × V)} {ds : List (PyData × PyData)} : H a = some (.dK kvs) → noWell kvs → DdKv K H kvs ds → Dd K H (.ref a) (.dict ds)
inductive DdAll (K : PySem.W.Frag) (H : Hp) : List V → List PyData → Prop
  | nil : DdAll K H [] []
  | cons {v : V} {d : PyData} {vs : List V} {ds : List PyData} : Dd K H v d → DdAll K H vs ds → DdAll K H (v :: vs) (d :: ds)
inductive DdKv (K : PySem.W.Frag) (H : Hp) : List (Key × V) → List (PyData × PyData) → Prop
  | nil : DdKv K H [] []
  | cons {x : Str} {v : V} {d : PyData} {vs : List (Key × V)} {ds : List (PyData × PyData)} : Dd K H v d → DdKv K H vs ds → DdKv K H ((Sum.inr x, v) :: vs) ((.str x, d) :: ds)
end
section
variable {K : PySem.W.Frag} {H H' : Hp}
mutual
theorem dd_mono (hL : ∀ a xs, SqL K H a xs → SqL K H' a xs) (hT : ∀ a xs, SqT K H a xs → SqT K H' a xs) (hD : ∀ a kvs, H a = some (.dK kvs) → noWell kvs → H' a = some (.dK kvs)) : ∀ {v : V} {d : PyData}, Dd K H v d → Dd K H' v d
  | _, _, .non => .non
  | _, _, .bl b => .bl b
  | _, _, .int i => .int i
  | _, _, .str x => .str x
  | _, _, .lst a n b => .lst (hL _ _ a) n (ddAll_mono hL hT hD b)
  | _, _, .tup a b => .tup (hT _ _ a) (ddAll_mono hL hT hD b)
  | _, _, .dct a n b => .dct (hD _ _ a n) n (ddKv_mono hL hT hD b)
theorem ddAll_mono (hL : ∀ a xs, SqL K H a xs → SqL K H' a xs) (hT : ∀ a xs, SqT K H a xs → SqT K H' a xs) (hD : ∀ a kvs, H a = some (.dK kvs) → noWell kvs → H' a = some (.dK kvs)) : ∀ {v : List V} {d : List PyData}, DdAll K H v d → DdAll K H' v d
  | _, _, .nil => .nil
  | _, _, .cons a b => .cons (dd_mono hL hT hD a) (ddAll_mono hL hT hD b)
theorem ddKv_mono (hL : ∀ a xs, SqL K H a xs → SqL K H' a xs) (hT : ∀ a xs, SqT K H a xs → SqT K H' a xs) (hD : ∀ a kvs, H a = some (.dK kvs) → noWell kvs → H' a = some (.dK kvs)) : ∀ {v : List (Key × V)} {d : List (PyData × PyData)}, DdKv K H v d → DdKv K H' v d
  | _, _, .nil => .nil
  | _, _, .cons a b => .cons (dd_mono hL hT hD a) (ddKv_mono hL hT hD b)
end
theorem Dd.same {v : V} {d : PyData} (h : Dd K H v d) (s : Same H H') : Dd K H' v d := dd_mono (fun _ _ q => s.seq q) (fun _ _ q => same_T s q) (fun _ _ q _ => s _ _ q) h
theorem Well.neD {wa b : Addr} {kvs : List (Key × V)} (W : Well H wa) (e : H b = some (.dK kvs)) (n : noWell kvs) : b ≠ wa := by
  obtain ⟨d, m, h, _⟩ := W
  intro z
  subst z
  rw [h] at e
  cases e
  exact n rfl
theorem Dd.sb {v : V} {d : PyData} {wa : Addr} (h : Dd K H v d) (W : Well H wa) (s : Sb wa H H') : Dd K H' v d := dd_mono (fun _ _ q => seqL W s q) (fun _ _ q => seqT W s q) (fun _ _ q n => s _ _ (W.neD q n) q) h
theorem Dd.ty {v : V} {d : PyData} (z : Dd K H v d) : TyX K H v (.type (kindOf d)) := by
  cases z with
  | non => exact .base .non
  | bl b => exact .base (.bl b)
  | int i => exact .base (.int i)
  | str x => exact .base (.str x)
  | lst hs _ _ =>
    rcases hs with (hs | ⟨o, hs⟩) | ⟨o, its, n, hk, hc, _⟩
    · exact .base (.lst hs)
    · exact .base (.frz hs)
    · exact .kList hk hc
  | tup hs _ =>
    rcases hs with (hs | ⟨o, hs⟩) | ⟨o, its, n, hk, hc, _⟩
    · exact .base (.tup hs)
    · exact .fTuple hs
    · exact .kTuple hk hc
  | dct z _ _ => exact .base (.dK z)
theorem DdAll.append : ∀ {xs ys : List V} {ds es : List PyData}, DdAll K H xs ds → DdAll K H ys es → DdAll K H (xs ++ ys) (ds ++ es)
  | _, _, _, _, .nil, h => h
  | _, _, _, _, .cons a b, h => .cons a (b.append h)
theorem DdAll.get : ∀ {xs : List V} {ds : List PyData}, DdAll K H xs ds → ∀ (i : Nat) (x : V), xs[i]? = some x → ∃ d, ds[i]? = some d ∧ Dd K H x d
  | _, _, .nil, i, x, e => by simp at e
  | _, _, .cons a b, 0, x, e => by
    simp at e
    subst e
    exact ⟨_, rfl, a⟩
  | _, _, .cons a b, i + 1, x, e => by
    obtain ⟨d, q1, q2⟩ := b.get i x (by simpa using e)
    exact ⟨d, by simpa using q1, q2⟩
theorem DdAll.len : ∀ {xs : List V} {ds : List PyData}, DdAll K H xs ds → xs.length = ds.length
  | _, _, .nil => rfl
  | _, _, .cons a b => by simp [b.len]
end
/-! ### repr of it -/
section
variable {K : PySem.W.Frag} {P : Program} {w : World} {H : Hp} {h : Heap}
def NoSys (as : List Addr) : Prop := ¬ sysModules ∈ as
mutual
theorem dd_reads (ok : HOk P w H h) (kin : K.In h) : ∀ {v : V} {d : PyData} {u : Value}, Dd K H v d → RelV v u → ∃ as, Reads h u d as ∧ NoSys as
  | _, _, _, .non, r => by cases r; exact ⟨_, .none, fun z => nomatch z⟩
  | _, _, _, .bl b, r => by cases r; exact ⟨_, .bool b, fun z => nomatch z⟩
  | _, _, _, .int i, r => by obtain ⟨t, rfl⟩ := r; exact ⟨_, .int i t, fun z => nomatch z⟩
  | _, _, _, .str x, r => by obtain ⟨t, rfl⟩ := r; exact ⟨_, .str x t, fun z => nomatch z⟩
  | _, _, _, .lst hs ns ha, r => by
    cases r
    rcases hs with hs | ⟨o, its, n, hk, hc, hd, hs, hz, rv⟩
    · obtain ⟨z, its, n, rv, e⟩ := hs.ok ok
      obtain ⟨as, hr, hn⟩ := ddAll_reads ok kin ha rv
      refine ⟨_, .list e rfl rfl hr, fun q => ?_⟩
      rcases List.mem_cons.mp q with q | q
      · exact ns q.symm
      · exact hn q
    · obtain ⟨as, hr, hn⟩ := ddAll_reads ok kin ha rv
      refine ⟨_, .list (kin _ o hk) hc hs hr, fun q => ?_⟩
      rcases List.mem_cons.mp q with q | q
      · exact ns q.symm
      · exact hn q
  | _, _, _, .tup hs ha, r => by
    cases r
    rcases hs with hs | ⟨o, its, n, hk, hc, hs, hz, rv⟩
    · obtain ⟨z, its, rv, o, e, c, n, dt⟩ := hs.ok ok
      obtain ⟨as, hr, hn⟩ := ddAll_reads ok kin ha rv
      exact ⟨_, .tuple e c dt hr, hn⟩
    · obtain ⟨as, hr, hn⟩ := ddAll_reads ok kin ha rv
      exact ⟨_, .tuple (kin _ o hk) hc hs hr, hn⟩
  | _, _, _, .dct z n kv, r => by
    cases r
    obtain ⟨_, hm, vs, kvr, o, es, ep, e1, e2, e3, _, e4, _⟩ := dk_of ok z
    obtain ⟨as, bs, h1, h2, n1, n2⟩ := ddKv_reads ok kin kv kvr e4
    refine ⟨_, .dict (as := as) (bs := bs) e1 e2.1 e3 h1 h2, fun hin => ?_⟩
    rcases List.mem_append.mp hin with q | q
    · rcases List.mem_cons.mp q with q | q
      · rw [← q] at hm
        exact absurd hm (by decide)
      · exact n1 q
    · exact n2 q
theorem ddAll_reads (ok : HOk P w H h) (kin : K.In h) : ∀ {vs : List V} {ds : List PyData} {us : List Value}, DdAll K H vs ds → Vals vs us → ∃ as, ReadsAll h us ds as ∧ NoSys as
  | _, _, _, .nil, r => by cases r; exact ⟨_, .nil, fun z => nomatch z⟩
  | _, _, _, .cons a b, r => by
    cases r with
    | cons r1 r2 =>
      obtain ⟨as, q1, n1⟩ := dd_reads ok kin a r1
      obtain ⟨bs, q2, n2⟩ := ddAll_reads ok kin b r2
      exact ⟨_, .cons q1 q2, fun z => (List.mem_append.mp z).elim n1 n2⟩
theorem ddKv_reads (ok : HOk P w H h) (kin : K.In h) : ∀ {kvs : List (Key × V)} {ds : List (PyData × PyData)} {vs : List (Key × Value)} {es : List DictEntry}, DdKv K H kvs ds → KV kvs vs → Pairs (mixKind P w) es vs →
    ∃ as bs, ReadsAll h (es.map (·.key)) (ds.map (·.1)) as ∧ ReadsAll h (es.map (·.val)) (ds.map (·.2)) bs ∧ NoSys as ∧ NoSys bs
  | _, _, _, es, .nil, kv, e4 => by
    cases kv
    cases es with
    | nil => exact ⟨_, _, .nil, .nil, (fun z => nomatch z), fun z => nomatch z⟩
    | cons x y => cases e4
  | _, _, _, es, .cons (x := x) a b, kv, e4 => by
    cases kv with
    | @cons _ kv1 _ _ q kv2 =>
      obtain ⟨q1, q2⟩ := q
      obtain ⟨k1, v1⟩ := kv1
      cases q1
      cases es with
      | nil => cases e4
      | cons x1 x2 =>
        cases e4 with
        | cons g1 g2 g3 =>
          have g4 : ∃ t', x1.key = .str x t' := by
            rcases keyIs_shape (show keyIs (.inr x) x1.key = true from g1) with ⟨i, t', z1, _⟩ | ⟨y', t', z1, z2⟩
            · cases z1
            · cases z1
              exact ⟨t', z2⟩
          obtain ⟨t', g4⟩ := g4
          obtain ⟨as, r1, n1⟩ := dd_reads ok kin a q2
          obtain ⟨bs, cs, r2, r3, n2, n3⟩ := ddKv_reads ok kin b kv2 g3
          refine ⟨[] ++ bs, as ++ cs, ?_, ?_, n2, fun z => (List.mem_append.mp z).elim n1 n3⟩
          · show ReadsAll h (x1.key :: x2.map (·.key)) _ _
            rw [g4]
            exact .cons (.str x t') r2
          · show ReadsAll h (x1.val :: x2.map (·.val)) _ _
            rw [g2]
            exact .cons r1 r3
end
theorem Dd.rds {v : V} {d : PyData} (z : Dd K H v d) : Rds K P w H v d := fun h ok kin u r => by
  obtain ⟨as, q, n⟩ := dd_reads ok kin z r
  exact ⟨as, q, fun _ => n⟩
end
end Ld
/-! Own exceptions as values: made by place or by name, their fields, isinstance. -/
namespace Ld
namespace EX
open PySem PySem.HandSPX PySem.Builtin PySem.Builtin.ObjectAttr
section
variable {M : Model} {prog : Program} {w : World} {A : Around} {E : Value → Shared → Prop} {R : Result → Shared → Prop} {h : Heap} {g : Array GenState} {d : Drawn} {t : Nat} {os : OsState}
variable {nm q : Str} {C N : Addr} {bs bm bmB : List Value} {hdct : Bool} {sn : List Str} {sub : List Value} {ab : Bool} {col : Option Bool} {dd : Option Addr} {k0 k1 k2 k3 k5 : Option Value} {B newId initId : String}
theorem check_newK (F : ExcBaseFacts B newId initId bmB) (hT : ∀ X : String, bm.contains (.type X) = bmB.contains (.type X)) {rest : List Value} {ks : List (Str × Value)} {Q : Unit → Shared → Prop}
    (hC : h.get? C = some (excClassObj nm q C N bs bm hdct sn sub ab col dd k0 k1 k2 k3 k5 newId)) (hq : Q () ⟨h, g, d, t, os⟩) : wpAny M A (checkBuiltinCall newId ⟨.ref C :: rest, ks⟩) Q E ⟨h, g, d, t, os⟩ := by
  have hcont : (Value.ref C :: bm).contains (.type B) = true := by rw [List.contains_cons, hT, F.hasB, Bool.or_true]
  have hstar := F.noStar
  simp only [checkBuiltinCall, F.newKind, F.newSplit, F.newRow]
  repeat (first | refine wpAny_loadPart_at hC ?_ | (refine wpAny_isSubtype_exc hC ?_; rw [hcont]) | refine wpAny_staticBase_exc hC ?_ | refine wpAny_madeBy_exc hC ?_ | simp only [bne_self_eq_false, Bool.false_eq_true, if_false] | wp_step)
  exact hq
theorem new_ownK (F : ExcBaseFacts B newId initId bmB) (hT : ∀ X : String, bm.contains (.type X) = bmB.contains (.type X)) {rest : List Value} {ks : List (Str × Value)}
    (hC : h.get? C = some (excClassObj nm q C N bs bm hdct sn sub ab col dd k0 k1 k2 k3 k5 newId))
    (hq : R (.ok (.ret (.ref (h.objs.size + 1)))) ⟨(h.push { cls := .type "tuple", data := .seq rest.toArray }).push
      { cls := .ref C, data := .fields #[.ref h.objs.size, .none, .none, .none, .bool false, .none] }, g, d, t, os⟩) (hrest : rest.length ≤ sizeLine) :
    codeAny (model prog w) A (.builtin newId ⟨.ref C :: rest, ks⟩) R ⟨h, g, d, t, os⟩ := by
  have hends := F.ends
  have hcB : (Value.ref C :: bm).contains (.type B) = true := by rw [List.contains_cons, hT, F.hasB, Bool.or_true]
  have hcA : (Value.ref C :: bm).contains (.type "AttributeError") = false := by rw [List.contains_cons, hT, F.noAttr]; rfl
  have hcN : (Value.ref C :: bm).contains (.type "NameError") = false := by rw [List.contains_cons, hT, F.noName]; rfl
  refine codeAny_builtinAt F.entry ?_
  unfold Builtin.«BaseException.__new__»
  refine wpAt_bind ?_
  show wpAt _ _ _ (stack >>= _) _ _ _
  refine wpAt_bind (wpAt_stack fun p below => wpAt_of_wpAny ?_)
  wp_walk
  refine wpAt_of_wpAny ?_
  rw [F.owner]
  repeat (first | with_reducible refine wpAny_madeHere_exc F.canon hC ?_ | with_reducible refine wpAny_loadPart_at hC ?_ | (with_reducible refine wpAny_isSubtype_exc hC ?_; first | rw [hcB] | rw [hcA] | rw [hcN]) | wp_step)
  show R _ _
  rw [Heap.size_push]
  exact hq
theorem type_callK (F : ExcBaseFacts B newId initId bmB) (hT : ∀ X : String, bm.contains (.type X) = bmB.contains (.type X)) {rest : List Value} {ks : List (Str × Value)} {fI : Addr} {Q : Fin → Shared → Prop}
    (hC : h.get? C = some (excClassObj nm q C N bs bm hdct sn sub ab col dd k0 k1 k2 k3 k5 newId))
    (hi : W.Looks (model prog w) h (typeLookup (.ref C) "__init__") (some (.ref fI))) (hb : ∀ self, W.Looks (model prog w) h (bindSpecial (.ref fI) self) (.ref fI, [self])) (hrest : rest.length ≤ sizeLine)
    (hq : codeAny (model prog w) A (.call (.ref fI) ⟨.ref (h.objs.size + 1) :: rest, ks⟩)
      (fun r s' => match r with | .ok (.ret v) => v = .none ∧ Q (.done (.ret (.ref (h.objs.size + 1)))) s' | .ok _ => False | .error e => E e s')
      ⟨(h.push (W.kdv_tup rest)).push (excO C h.objs.size), g, d, t, os⟩) :
    wpAny (model prog w) A (Builtin.«type.__call__» ⟨.ref C :: rest, ks⟩) Q E ⟨h, g, d, t, os⟩ := by
  repeat (first | with_reducible refine wpAny_loadPart_at hC ?_ | with_reducible refine wpAny_madeBy_exc hC ?_ | wp_step)
  refine codeAny_call_builtin_code (Code.quiet_builtin _ F.quiet) (check_newK F hT hC ?_)
  refine new_ownK F hT hC ?_ hrest
  show wpAny _ _ _ _ _ _
  have k : ∀ b o, h.get? b = some o → ((h.push (W.kdv_tup rest)).push (excO C h.objs.size)).get? b = some o := fun b o e => Heap.get?_push_of_some _ (Heap.get?_push_of_some _ e)
  have hC₁ := k _ _ hC
  have hget : ((h.push (W.kdv_tup rest)).push (excO C h.objs.size)).get? (h.objs.size + 1) = some (excO C h.objs.size) := by heap_get
  have hcC : (Value.ref C :: bm).contains (.ref C) = true := by simp
  have i1 := hi.keeps k
  have b1 := (hb (.ref (h.objs.size + 1))).keeps k
  unfold isInstance
  repeat (first | with_reducible refine wpAny_loadPart_at hget ?_ | (with_reducible refine wpAny_isSubtype_exc hC₁ ?_; rw [hcC]) | wp_step)
  show wpAny _ _ (typeLookup (.ref C) _) _ _ _
  refine i1.at ?_
  refine wpAny_holding (wpAny_bind (b1.at ?_))
  refine wpAny_bind (wpAny_call (codeAny_mono hq fun r s' z => ?_))
  rcases r with e | (v | _ | _ | _) <;> first | exact z | exact z.elim | skip
  obtain ⟨rfl, z⟩ := z
  first
    | exact wpAny_pure (wpAny_pure z)
    | (wp_walk; exact z)
theorem call_ownK (F : ExcBaseFacts B newId initId bmB) (hT : ∀ X : String, bm.contains (.type X) = bmB.contains (.type X)) {rest : List Value} {ks : List (Str × Value)} {fI : Addr}
    (hC : h.get? C = some (excClassObj nm q C N bs bm hdct sn sub ab col dd k0 k1 k2 k3 k5 newId))
    (hi : W.Looks (model prog w) h (typeLookup (.ref C) "__init__") (some (.ref fI))) (hb : ∀ self, W.Looks (model prog w) h (bindSpecial (.ref fI) self) (.ref fI, [self])) (hrest : rest.length ≤ sizeLine)
    (hq : codeAny (model prog w) (A.under (.builtin "type.__call__" ⟨.ref C :: rest, ks⟩)) (.call (.ref fI) ⟨.ref (h.objs.size + 1) :: rest, ks⟩) (W.InitBack (h.objs.size + 1) R)
      ⟨(h.push (W.kdv_tup rest)).push (excO C h.objs.size), g, d, t, os⟩) :
    codeAny (model prog w) A (.call (.ref C) ⟨rest, ks⟩) R ⟨h, g, d, t, os⟩ := by
  have f1 := tc_lookup
  have f2 := tc_bind (.ref C)
  have hTy : (⟨h, g, d, t, os⟩ : Shared).TypeIs (.ref C) "type" := ⟨_, hC, rfl⟩
  refine codeAny_of_tree ?_
  show wpAny _ _ (callAny (.ref C) _) _ _ _
  repeat (any_goals (first | assumption | with_reducible refine wpAny_loadPart_at hC ?_ | wp_step))
  refine ⟨rfl, ?_⟩
  refine codeAny_call_builtin_at (Code.quiet_builtin _ (by decide +kernel)) entry_typeCall (wpAny_check_type_call_sub hC (type_callK F hT hC hi hb hrest ?_))
  refine codeAny_mono hq fun r s' z => ?_
  rcases r with e | (v | _ | _ | _) <;> exact z
end
end EX
end Ld
/-! Own exceptions as values: the rules. -/
namespace Ld
open PySem PySem.Spec PyProof.Rows L2
/-- a new exception, its own __init__ keeping sp -/
def tMkX (C : Addr) (n m : Nat) (sp : Sp) (gV : List V → List V → List V) (ta tk : TA) : TE := fun σ H Q => ta σ H fun vs H1 => tk σ H1 fun zs H2 => vs.length = n ∧ zs.length = m ∧ ∀ a, H2 a = none →
  sp (gV (.ref a :: vs) zs) (upd H2 a (exo a C none)) (fun v H3 => v = .non ∧ Q (.ref a) H3) E0
/-- what the class must say to make -/
structure XMk (K : PySem.W.Frag) (C fI : Addr) : Prop where
  T : OexC K C
  iC : PySem.W.findIn K (.ref C) "__init__" = some (some (.ref fI))
  tI : PySem.W.typeIn K (.ref fI) = some (.type "function")
section
variable {X : Cx} {k n : Nat} {C fI : Addr} {fd : FuncData} {ps ks : List Str} {sp : Sp} {x : Str} {p pos : Pos} {e : Expr} {es : List Expr} {kws : List Keyword} {ta tk : TA} {g : List Value → List Value → List Value} {gV : List V → List V → List V}
theorem run_mkx {pins : List (Addr × Obj)} {σ : L2.St} {H : Hp} {s : Shared} {Q : VK} {us ws : List Value} {vs zs : List V} (M : XMk X.K C fI) (F : FnOk X.prog X.w X.K X.mg X.base CX0 k fI fd ps sp) (hr : Room (k + 1) X.A) (hb : KBn X.K fd ps (n + 1) ks g gV)
    (I : Inv X pins σ H s) (r : Vals vs us) (rz : Vals zs ws) (l1 : vs.length = n) (l2 : zs.length = ks.length) (hn : n ≤ 1000)
    (h : ∀ a, H a = none → sp (gV (.ref a :: vs) zs) (upd H a (exo a C none)) (fun v H2 => v = .non ∧ Q (.ref a) H2) E0) :
    wpAny (model X.prog X.w) X.A (call (.ref C) us (ks.zip ws)) (EP X pins σ Q) X.xe s := by
  obtain ⟨nm, q, N, bs, bm, sn, sub, ab, col, dd, k0, k1, k2, k3, k5, hC, hbm⟩ := M.T.cls
  obtain ⟨hp, gs, dr, tk, os⟩ := s
  have hsz : hp.objs.size ≤ hp.objs.size + 1 := Nat.le_succ _
  have hn0 : H (hp.objs.size + 1) = none := I.hok.fresh hsz
  have hq := h (hp.objs.size + 1) hn0
  have kk : ∀ b o, hp.get? b = some o → ((hp.push (PySem.W.kdv_tup us)).push (PySem.HandSPX.excO C hp.objs.size)).get? b = some o := fun b o e => Heap.get?_push_of_some _ (Heap.get?_push_of_some _ e)
  have hget : ((hp.push (PySem.W.kdv_tup us)).push (PySem.HandSPX.excO C hp.objs.size)).get? (hp.objs.size + 1) = some (PySem.HandSPX.excO C hp.objs.size) := by heap_get
  have I2 : Inv X pins σ (upd H (hp.objs.size + 1) (exo (hp.objs.size + 1) C none)) ⟨(hp.push (PySem.W.kdv_tup us)).push (PySem.HandSPX.excO C hp.objs.size), gs, dr, tk, os⟩ :=
    I.laid (t' := tk) (a := hp.objs.size + 1) (o := exo (hp.objs.size + 1) C none) (h' := (hp.push (PySem.W.kdv_tup us)).push (PySem.HandSPX.excO C hp.objs.size)) kk hsz (exo_ok hget)
  have r1 : Vals (V.ref (hp.objs.size + 1) :: vs) (Value.ref (hp.objs.size + 1) :: us) := .cons rfl r
  have r2 := hb.rel r1 rz
  have e1 : (Value.ref (hp.objs.size + 1) :: us).length = n + 1 := r1.length.symm.trans (congrArg Nat.succ l1)
  have e2 : ws.length = ks.length := rz.length.symm.trans l2
  have hus : us.length ≤ sizeLine := by
    rw [← Paired.length r, l1, sizeLine_eq]
    omega
  refine wpAny_call (EX.call_ownK PySem.F.excBase_ValueError (fun Y => PySem.HandSPX.refsVE_contains Y bm hbm) (I.kIn _ _ hC) (PySem.W.looks_findIn I.kIn M.iC) (fun self => PySem.W.bind_fn I.kIn self M.tI) hus
    (codeAny_mono (F.run _ X.stack _ _ ⟨Value.ref (hp.objs.size + 1) :: us, ks.zip ws⟩ (g (Value.ref (hp.objs.size + 1) :: us) ws) _ _ E0 (hr.make C us (ks.zip ws)) (I2.env0.make C us (ks.zip ws)) (hb.to _ (Value.ref (hp.objs.size + 1) :: us) ws I2.kIn e1 e2) r2 hq) fun r s' hq' => ?_))
  cases r with
  | error er => exact pass0 pins σ _ _ er s' I2 hq'
  | ok fl =>
    cases fl with
    | ret u =>
      obtain ⟨v, H', I3, rv, ev, q3⟩ := I2.after hq'
      subst ev
      exact ⟨rv, ⟨V.ref (hp.objs.size + 1), H', I3, rfl, q3⟩⟩
    | next => exact False.elim hq'
    | brk => exact False.elim hq'
    | cont => exact False.elim hq'
/-- C(e) -/
theorem kbn0 {K : PySem.W.Frag} (hb : Binds K fd ps []) : KBn K fd ps ps.length [] (fun us _ => us) (fun vs _ => vs) where
  to := fun s us ws X l1 l2 => by
    have z := hb s us X (by rw [List.append_nil]; exact l1)
    rw [List.append_nil] at z
    exact z
  rel := fun r _ => r
theorem pe_mkx (M : XMk X.K C fI) (F : FnOk X.prog X.w X.K X.mg X.base CX0 k fI fd ps sp) (hr : Room (k + 1) X.A) (hb : KBn X.K fd ps (n + 1) [] (fun us _ => us) (fun vs _ => vs)) (hg : Gl X x) (hm : X.mg x = some (.ref C)) (ha : PA X (e :: es) ta) (hn : n ≤ 1000 := by decide)
    (hdb : (x == ("__debug__" : Str)) = false := by decide) (he : starEach (e :: es) X.env = (false, eval e X.env) :: starEach es X.env := by rfl) (hpl : (backTo pos (starEach es X.env)).any (·.1) = false := by rfl) :
    PE X (.Call (.Name x p) (e :: es) [] pos) (tMkX C n 0 sp (fun vs _ => vs) ta (fun σ H R => R [] H)) := by
  refine ⟨fun pins s σ H Q I h => ?_⟩
  refine wpAny_Call_Name_kw (ld_glob I hg hm ?_ hdb)
  refine PySem.W.callWith_K (h₀ := X.base) I.ok.mod.kin M.T.kC (thn (ha.run pos pins s σ H _ I h) fun us s1 ⟨vs, H1, I1, r1, l1, l2, q1⟩ => ⟨I1.kIn, ?_⟩) he hpl
  exact run_mkx (ws := []) (zs := []) (ks := []) M F hr hb I1 r1 .nil l1 rfl hn q1
/-- C(k = v) -/
theorem pe_mkxK (M : XMk X.K C fI) (F : FnOk X.prog X.w X.K X.mg X.base CX0 k fI fd ps sp) (hr : Room (k + 1) X.A) (hb : KBn X.K fd ps 1 ks g gV) (hg : Gl X x) (hm : X.mg x = some (.ref C)) (hkw : PK X kws tk)
    (hall : (backToKw pos (keywordEach kws X.env)).all (·.1.isSome) = true := by rfl) (hks : (backToKw pos (keywordEach kws X.env)).filterMap (·.1) = ks := by rfl) (hdb : (x == ("__debug__" : Str)) = false := by decide)
    (hpl : ((backTo pos (starEach [] X.env)).any (·.1) || (backToKw pos (keywordEach kws X.env)).any (·.1.isNone)) = false := by rfl) :
    PE X (.Call (.Name x p) [] kws pos) (tMkX C 0 ks.length sp gV tNil tk) := by
  refine ⟨fun pins s σ H Q I h => ?_⟩
  refine wpAny_Call_Name_kw (ld_glob I hg hm ?_ hdb)
  refine PySem.W.callWith_KW0 (h₀ := X.base) I.ok.mod.kin M.T.kC hall ?_ hpl
  refine thn (hkw.run pos pins s σ H _ I h) fun ws s2 ⟨zs, H2, I2, rz, l1, l2, q2⟩ => ⟨I2.kIn, ?_⟩
  rw [hks]
  exact run_mkx (us := []) (vs := []) M F hr hb I2 .nil rz rfl l2 (Nat.zero_le _) q2
/-- f(k = v, ..) of a def -/
def tDfK (m : Nat) (sp : Sp) (gV : List V → List V → List V) (tk : TA) : TE := fun σ H Q => tk σ H fun zs H2 => zs.length = m ∧ sp (gV [] zs) H2 Q E0
theorem pe_dfK {f : Addr} (F : FnOk X.prog X.w X.K X.mg X.base CX0 k f fd ps sp) (hr : Room k X.A) (hg : Gl X x) (hm : X.mg x = some (.ref f)) (hk : PySem.W.keepIn X.K (.ref f) = true) (hb : KBn X.K fd ps 0 ks g gV) (hkw : PK X kws tk)
    (hall : (backToKw pos (keywordEach kws X.env)).all (·.1.isSome) = true := by rfl) (hks : (backToKw pos (keywordEach kws X.env)).filterMap (·.1) = ks := by rfl) (hdb : (x == ("__debug__" : Str)) = false := by decide)
    (hpl : ((backTo pos (starEach [] X.env)).any (·.1) || (backToKw pos (keywordEach kws X.env)).any (·.1.isNone)) = false := by rfl) :
    PE X (.Call (.Name x p) [] kws pos) (tDfK ks.length sp gV tk) := by
  refine ⟨fun pins s σ H Q I h => ?_⟩
  refine wpAny_Call_Name_kw (ld_glob I hg hm ?_ hdb)
  refine PySem.W.callWith_KW0 (h₀ := X.base) I.ok.mod.kin hk hall ?_ hpl
  refine thn (hkw.run pos pins s σ H _ I h) fun ws s2 ⟨zs, H2, I2, rz, l2, q2⟩ => ⟨I2.kIn, ?_⟩
  rw [hks]
  exact run_fnN (us := []) (vs := []) F hr hb pass0 I2 .nil rz rfl l2 q2
end
/-! ### an exception that stands -/
/-- at a stands an exception of C with the fields fs -/
def ExV (H : Hp) (a C d : Addr) (fs : List (Str × V)) : Prop := H a = some (exo a C (some d)) ∧ H d = some (exd d fs)
theorem ExV.same {H H' : Hp} {a C d : Addr} {fs : List (Str × V)} (h : ExV H a C d fs) (s : Same H H') : ExV H' a C d fs := ⟨s _ _ h.1, s _ _ h.2⟩
theorem ExV.inst {P : Program} {w : World} {H : Hp} {h : Heap} {a C d : Addr} {fs : List (Str × V)} (hok : HOk P w H h) (z : ExV H a C d fs) :
    ∃ (oe od : Obj) (mA : Str → Option Value), PySem.W.InstAt h a oe C (some od) ∧ h.get? d = some od ∧ (∀ n, PySem.W.lookIn n od = some (mA n)) ∧ ∀ f, RelO (fs.lookup f) (mA f) := by
  obtain ⟨t1, he⟩ := exo_at hok z.1
  obtain ⟨mA, hns, hr⟩ := exd_at hok z.2
  obtain ⟨od, ho, hl⟩ := lookIn_ns hns
  exact ⟨_, od, mA, ⟨he, rfl, rfl, ho⟩, ho, hl, hr⟩
/-- e.f -/
def tXv (K : PySem.W.Frag) (n : Str) (te : TE) : TE := fun σ H Q => te σ H fun x H1 => ∃ (a C d : Addr) (fs : List (Str × V)) (v : V), x = .ref a ∧ ExV H1 a C d fs ∧ XfC K C ∧ PySem.W.findIn K (.ref C) n = some none ∧ fs.lookup n = some v ∧ Q v H1
theorem pe_xv {X : Cx} {K : PySem.W.Frag} {e : Expr} {te : TE} {pos : Pos} {n : Str} (he : PE X e te) (hK : X.K = K := by rfl) (hb : attributeBase e n X.env (eval e X.env) = eval e X.env := by rfl) : PE X (.Attribute e n pos) (tXv K n te) := by
  subst hK
  refine ⟨fun pins s σ H Q I h => ?_⟩
  refine attr_of hb (thn (he.run pins s σ H _ I h) fun u s1 hh => ?_)
  obtain ⟨x, H1, I1, rx, a, C, d, fs, v, ex, z, T, hno, l, q⟩ := hh
  subst ex
  obtain rfl : u = Value.ref a := rx
  obtain ⟨oe, od, mA, J, ho, hl, hr⟩ := z.inst I1.hok
  obtain ⟨u, hu, ru⟩ := RelO.some_of (v := v) (o := mA n) (by rw [← l]; exact hr n)
  exact HandSPX.exc_get I1.kIn J T.ga T.gg T.exC (PySem.W.findObj_own T.hdC hno rfl (by rw [hl, hu])) (handed_of ru) ⟨v, H1, I1.tok _, ru, q⟩
end Ld
namespace Ld
namespace EX
open PySem PySem.Spec PySem.Calls PyProof.Rows PySem.W
section
variable {prog : Program} {w : World} {A : Around} {E : Value → Shared → Prop} {s : Shared} {K : Frag} {x D : Addr} {ox : Obj} {od : Option Obj}
theorem findObj_dataO {C : Addr} {name : Str} {a g : Value} (hc : (clsIn K C).isSome = true) (ha : findIn K (.ref C) name = some (some a)) (hg : specialIn K a "__get__" = some (some g)) (ht : takesIn K a = some true) : findObj K C od name = some (.bind g a) := by
  obtain ⟨cd, hc⟩ := Option.isSome_iff_exists.mp hc
  unfold findObj
  rw [hc, Option.bind_some, ha, Option.bind_some]
  simp [hg, ht]
theorem kin_classX {Q : Option Value → Shared → Prop} (hga : findIn K (.ref D) "__getattribute__" = some (some (.builtin "BaseException.__getattribute__"))) (hgt : findIn K (.ref D) "__getattr__" = some none) (hsub : subIn K (.ref D) (.type "BaseException") = some true)
    (hdct : hasDictIn K D = true) (ha : findIn K (.ref D) "__class__" = some (some (.builtin "object.__class__")))
    (hn : specialIn K (.builtin "object.__class__") "__get__" = some (some (.builtin "getset_descriptor.__get__"))) (htk : takesIn K (.builtin "object.__class__") = some true) (hm : mroIn K D (.type "object") = some true)
    (X : K.In s.heap) (I : InstAt s.heap x ox D od) (h : Q (some (.ref D)) { s with toks := s.toks + 1 }) : wpAny (model prog w) A (getAttr? (.ref x) "__class__") Q E s := by
  have hf : findObj K D od "__class__" = some (.bind (.builtin "getset_descriptor.__get__") (.builtin "object.__class__")) := findObj_dataO (by obtain ⟨cd, hc, _⟩ := any_some hdct; rw [hc]; rfl) ha hn htk
  obtain ⟨hp, g, d, t, os⟩ := s
  have L0 := I.type (M := model prog w)
  have L1 := looks_findIn (M := model prog w) X hga
  have L2 := looks_findIn (M := model prog w) X hgt
  have L3 := looks_find (M := model prog w) X I hf
  have sub : Looks (model prog w) hp (isInstance (.ref x) (.type "BaseException")) true := L0.andThen (looks_subIn X hsub)
  have hx0 : (false && onTheHeap (Value.builtin "BaseException.__getattribute__")) = false := rfl
  have hx2 : (Value.builtin "BaseException.__getattribute__" == Value.builtin "object.__getattribute__") = false := by decide +kernel
  have hx1 : (onTheHeap (Value.ref D) && Value.builtin "BaseException.__getattribute__" == Value.builtin "object.__getattribute__") = false := by rw [hx2]; rfl
  unfold getAttr? getAttrBy? getAttrBy
  refine wpAny_bind (wpAny_mkText (wpAny_bind (wpAny_attempt (wpAny_holding (wpAny_bind (L0.at (wpAny_bind (L1.at ?_))))))))
  show wpAny _ _ (if (onTheHeap (Value.ref D) && Value.builtin "BaseException.__getattribute__" == Value.builtin "object.__getattribute__") = true then _ else _) _ _ _
  rw [hx1, if_neg Bool.false_ne_true]
  unfold getAttrByItsOwn hookBefore
  refine wpAny_bind ?_
  rw [if_pos (show onTheHeap (Value.ref D) = true from rfl)]
  refine L2.at ?_
  refine wpAny_bind (wpAny_attempt (wpAny_holding ?_))
  unfold callGetattribute
  rw [hx0, if_neg Bool.false_ne_true]
  unfold boundAndCalled
  rw [PySem.F.excAttr_ValueError.ga.bind (.ref x)]
  refine wpAny_bind (wpAny_pure ?_)
  show wpAny _ _ (call (.builtin "BaseException.__getattribute__") [.ref x, .str "__class__" t]) _ _ _
  refine wpAny_call (codeAny_call_builtin PySem.F.excAttr_ValueError.ga.plain PySem.F.entry_bexc_ga ?_)
  refine @check_slot (model prog w) _ _ ⟨hp, g, d, t + 1, os⟩ "BaseException.__getattribute__" "BaseException" "__getattribute__" (.ref x) [.str "__class__" t] [] _ (by decide +kernel) (by decide +kernel) sub (PySem.F.args_bexc_ga (.ref x) (.str "__class__" t)) ?_
  unfold Builtin.«object.__getattribute__»
  refine wpAny_bind (wpAny_of_eq (a := ((Value.ref x : Value), [Value.str "__class__" t])) (by first | rfl | (simp only [slotArgs]; rfl)) ?_)
  refine wpAny_bind (wpAny_pure (wpAny_bind (L0.at (wpAny_bind (L3.at ?_)))))
  show wpAny _ _ (holding [Value.builtin "object.__class__"] (call (.builtin "getset_descriptor.__get__") [.builtin "object.__class__", .ref x, .ref D]) >>= ret) _ _ _
  refine wpAny_bind (wpAny_holding (wpAny_call (class_get (s := ⟨hp, g, d, t + 1, os⟩) (ox := ox) (od := od) X I hm ?_)))
  refine wpAny_pure ?_
  show wpAny _ _ (handedOut (.ref D)) _ _ _
  rw [handedOut_of (v := .ref D) rfl]
  first
    | exact wpAny_pure (wpAny_pure h)
    | exact wpAny_pure h
    | exact wpAny_pure (wpAny_bind (wpAny_pure (wpAny_pure h)))
theorem kitx_exo (hga : findIn K (.ref D) "__getattribute__" = some (some (.builtin "BaseException.__getattribute__"))) (hgt : findIn K (.ref D) "__getattr__" = some none) (hsub : subIn K (.ref D) (.type "BaseException") = some true) (hdct : hasDictIn K D = true) (ha : findIn K (.ref D) "__class__" = some (some (.builtin "object.__class__")))
    (hn : specialIn K (.builtin "object.__class__") "__get__" = some (some (.builtin "getset_descriptor.__get__"))) (htk : takesIn K (.builtin "object.__class__") = some true) (hm : mroIn K D (.type "object") = some true) :
    KitX K (.ref x) (.ref D) (fun h => ∃ ox od, InstAt h x ox D od) where
  ty := fun _ _ _ ⟨_, _, I⟩ => I.type
  it := fun _ _ X _ => by
    obtain ⟨cdD, hcD, _⟩ := any_some hdct
    unfold clsIn at hcD
    split at hcD
    · rename_i c' d' cd' sl' ho
      intro A' Q' E' s' k q
      unfold isType loadHead
      exact wpAny_bind (wpAny_loadPart (k _ _ (X _ _ ho)) (wpAny_pure q))
    · cases hcD
  ne := fun h tp dd its n sl X htp => by
    obtain ⟨cdD, hcD, _⟩ := any_some hdct
    refine Bool.eq_false_iff.mpr fun q => ?_
    have e : D = tp := Value.ref.inj (beq_iff_eq.mp q)
    subst e
    unfold clsIn at hcD
    split at hcD
    · rename_i c' d' cd' sl' ho
      have z := (X _ _ ho).symm.trans htp
      cases z
    · cases hcD
  ca := fun X ⟨_, _, I⟩ k => kin_classX hga hgt hsub hdct ha hn htk hm X I k
end
end EX
end Ld
namespace Ld
open PySem PySem.Spec PyProof.Rows L2
/-- isinstance(e, c) of an exception that stands -/
def rIsX (K : PySem.W.Frag) : List V → Hp → VK → Prop := fun xs H Q => ∃ (a C d : Addr) (fs : List (Str × V)) (c : V) (cv : Value) (b : Bool), xs = [.ref a, c] ∧ ExV H a C d fs ∧ ExcC K C ∧ (∀ u, RelV c u → u = cv) ∧ PySem.W.kitOne K (.ref C) cv = some b ∧ Q (.bl b) H
theorem call_isX {X : Cx} {K : PySem.W.Frag} (hK : X.K = K := by rfl) : CallR X (.builtin "isinstance") (rIsX K) := by
  subst hK
  intro pins s σ H xs us Q I r h
  obtain ⟨a, D, d, fs, c, cv, b, rfl, z, C, hcv, e, q⟩ := h
  cases r with
  | cons rx rr =>
    cases rr with
    | cons rt rr =>
      cases rr
      cases rx
      have ec := hcv _ rt
      subst ec
      obtain ⟨oe, od, mA, J, _, _, _⟩ := z.inst I.hok
      exact PySem.W.kia_one (EX.kitx_exo C.hg C.hk C.hs C.hd C.ha C.hn C.ht C.hm) I.kIn ⟨oe, some od, J⟩ e (fun z => nomatch z) fun tk => ⟨.bl b, H, I.kept (t' := tk) fun _ _ z => z, rfl, q⟩
end Ld
/-! New lists, apart from the table of modules. -/
namespace Ld
open PySem L2 PyProof.Rows
section
variable {X : Cx}
def tLstN (t : TA) : TE := fun σ H Q => t σ H fun xs H1 => xs.length ≤ sizeLine ∧ ∀ p, H1 p = none → p ≠ sysModules → Q (.ref p) (upd H1 p (.lst xs))
theorem pe_lstN {es : List Expr} {t : TA} {pos : Pos} (h : PA X es t) : PE X (.List es pos) (tLstN t) := by
  refine ⟨fun pins s σ H Q I hq => ?_⟩
  refine wpAny_List_spliced (thn (h.run pos pins s σ H _ I hq) fun us s1 ⟨xs, H1, I1, r, z, q⟩ => ⟨by rw [← r.length]; exact z, ?_⟩)
  have hf : H1 s1.heap.objs.size = none := I1.hok.fresh (Nat.le_refl _)
  refine ⟨.ref s1.heap.objs.size, upd H1 s1.heap.objs.size (.lst xs), I1.laid (t' := s1.toks) (fun b u e => Heap.get?_push_of_some _ e) (Nat.le_refl _) ?_, rfl, q _ hf (Nat.ne_of_gt I1.big)⟩
  exact ⟨z, us, 0, r, Heap.get?_push_size _ rfl⟩
def rCatN : R2 := fun x y H Q => ∃ l b xs zs, x = .ref l ∧ y = .ref b ∧ H l = some (.lst xs) ∧ H b = some (.lst zs) ∧ xs.length + zs.length ≤ sizeLine ∧ ∀ p, H p = none → p ≠ sysModules → Q (.ref p) (upd H p (.lst (xs ++ zs)))
theorem op_catN : OpR X (binaryOp .Add) rCatN := by
  intro pins s σ H x y v u Q I rx ry h
  obtain ⟨l, b, xs, zs, rfl, rfl, hH, hB, hz, q⟩ := h
  cases rx
  cases ry
  obtain ⟨z, its, n, r, hl, e⟩ := I.lstM hH
  obtain ⟨z2, its2, n2, r2, hl2, e2⟩ := I.lstM hB
  refine PySem.P.add_list e e2 ?_ (by rw [List.size_toArray, List.size_toArray]; omega)
  have ea : its.toArray ++ its2.toArray = (its ++ its2).toArray := by simp
  rw [ea]
  exact ⟨.ref _, _, I.lnew (t' := s.toks) (r.append r2) (by rw [List.length_append]; omega), rfl, q _ I.fresh (Nat.ne_of_gt I.big)⟩
def rRepN : R2 := fun x y H Q => ∃ l k xs, x = .ref l ∧ y = .int k ∧ H l = some (.lst xs) ∧ -(2 ^ 63) ≤ k ∧ k < 2 ^ 63 ∧ xs.length * k.toNat ≤ sizeLine ∧
  ∀ p, H p = none → p ≠ sysModules → Q (.ref p) (upd H p (.lst (List.replicate k.toNat xs).flatten))
theorem op_repN : OpR X (binaryOp .Mult) rRepN := by
  intro pins s σ H x y v u Q I rx ry h
  obtain ⟨l, k, xs, rfl, rfl, hH, h1, h2, hz, q⟩ := h
  cases rx
  obtain ⟨t, rfl⟩ := ry
  obtain ⟨z, its, n, r, hl, e⟩ := I.lstM hH
  have hlen : its.toArray.size * k.toNat ≤ sizeLine := by rw [List.size_toArray, ← hl]; exact hz
  have hcap : ¬ its.toArray.size * k.toNat > (2 ^ 63 - 1) / 8 := by
    have : (sizeLine : Nat) ≤ (2 ^ 63 - 1) / 8 := by decide
    omega
  have hfit : ¬ (!Builtin.List.listFitsIndex k) = true := by
    rw [fitsIndex_both h1 h2]
    exact Bool.false_ne_true
  have hlong : ¬ Builtin.List.listTooLong (its.toArray.size * k.toNat) = true := by
    rw [notLongL hlen]
    exact Bool.false_ne_true
  have hnew : List.foldl (fun x1 x2 => x1 ++ x2) #[] (List.replicate (if its.toArray.isEmpty = true then 0 else k.toNat) its.toArray) = (List.replicate k.toNat its).flatten.toArray := by
    have f0 : ∀ m : Nat, List.foldl (fun x1 x2 => x1 ++ x2) #[] (List.replicate m its.toArray) = (List.replicate m its).flatten.toArray := fun m => by
      have := foldl_rep its m []
      rw [List.nil_append] at this
      exact this
    rw [f0]
    cases its with
    | nil => simp
    | cons a r' => rw [if_neg (by simp)]
  refine wpAny_binaryOp_repeat_ref (T := "list") (U := "int") (by decide) ⟨_, e, rfl⟩ (fun s' => typeIs_int s' k t) noFill_list_mul F.fills_int_mul F.slot_int_rmul repeat_list F.slot_int_index.lookup
    (call_meets F.slot_int_rmul (typeIs_int s k t) F.entry_int_rmul (F.args_int_rmul_2 _ _) (int___rmul___int_list k t l its.toArray n)
      ⟨e, rfl, ⟨_, e, rfl⟩, call_meets F.slot_list_mul ⟨_, e, rfl⟩ F.entry_list_mul (F.args_list_mul_2 _ _) (AutoListH.list___mul___list_int_3 l its.toArray n k t hfit hcap hlong) ⟨e, ?_⟩⟩)
  rw [hnew]
  exact ⟨.ref _, _, I.lnew (t' := s.toks) (r.rep k.toNat) (by rw [PyProof.Rows.lm_len_rep_flat, Nat.mul_comm]; exact hz), rfl, q _ I.fresh (Nat.ne_of_gt I.big)⟩
end
section
variable {K : PySem.W.Frag} {H : Hp} {v : V}
theorem Dd.int_v {i : Int} (h : Dd K H v (.int i)) : v = .int i := by
  cases h
  rfl
theorem Dd.str_v {z : Str} (h : Dd K H v (.str z)) : v = .str z := by
  cases h
  rfl
theorem Dd.its {ds : List PyData} (z : Dd K H v (.tuple ds)) : ∃ a xs, v = .ref a ∧ SqT K H a xs ∧ xs.length = ds.length ∧ ∀ (i : Nat) (x : V), xs[i]? = some x → ∃ d, ds[i]? = some d ∧ Dd K H x d := by
  cases z with
  | tup hs ha => exact ⟨_, _, rfl, hs, ha.len, ha.get⟩
end
end Ld
namespace K49
open PySem L2 Ld
def top (i : Nat) : Stmt := PySem.Challenge.pw_leadsever_k49_visits_for_free_walks.main.body.getD i (.Pass ⟨0, 0, 0, 0⟩)
abbrev sNum : Stmt := top 10
abbrev sWord : Stmt := top 12
abbrev sAddr : Stmt := top 13
abbrev sPlace : Stmt := top 14
/-- what is left of the top -/
structure Tx (mg : Str → Option Value) : Prop where
  isi : mg "isinstance" = none
  int : mg "int" = none
  bool : mg "bool" = none
  str : mg "str" = none
  tuple : mg "tuple" = none
  list : mg "list" = none
  len : mg "len" = none
  range : mg "range" = none
  repr : mg "repr" = none
  max : mg "max" = none
  min : mg "min" = none
  wl : ∃ t, mg "WORD_LETTERS" = some (.int 12 t)
  pw : ∃ t, mg "PLACE_WORDS" = some (.int 4 t)
  md : ∃ t, mg "MOST_DAYS" = some (.int 10000 t)
section
variable {P : Program} {w : World} {K : PySem.W.Frag} {mg : Str → Option Value} {base : Heap} {f : Addr} {fd : FuncData}
def spNum (K : PySem.W.Frag) : Sp := fun vs H Q _ => ∃ (v : V) (d : PyData) (hi : Int), vs = [v, .int hi] ∧ Dd K H v d ∧ Q (.bl (numD hi d)) H
theorem scN : FnScope ["value", "highest"] ["value", "highest"] (defScope sNum) := ⟨rfl, rfl, rfl, by decide +kernel, rfl, by decide +kernel, by decide +kernel⟩
theorem ok_num (F : Fun K "is_number_to" "is_number_to" sNum f fd) (T : Tx mg) : FnOk P w K mg base CX0 1 f fd ["value", "highest"] (spNum K) := by
  refine F.ok scN (fun vs H Q E h => ?_) (fun cdv A outer s H vs Q E hr h => ?_)
  · obtain ⟨v, d, hi, rfl, _⟩ := h
    rfl
  · obtain ⟨v, d, hi, rfl, hT, q⟩ := h
    refine ⟨_, pss_one (ps_ret (pe_and (pe_callB (call_isa "int") (by rfl) T.isi bootN (pa_cons (pv 0) (pa_cons (pe_bltn (v := .ty "int") (by rfl) T.int (by decide +kernel) rfl) pa_nil)))
      (pe_and (pe_not (pe_callB (call_isa "bool") (by rfl) T.isi bootN (pa_cons (pv 0) (pa_cons (pe_bltn (v := .ty "bool") (by rfl) T.bool (by decide +kernel) rfl) pa_nil)))) (pe_one (pe_chain op_le op_le pe_int (pv 0) (pv 1)))))), ?_⟩
    refine ⟨_, rfl, _, rfl, _, _, hT.ty, kit_int d, _, rfl, ?_⟩
    by_cases hi1 : isIntD d = true
    · rw [hi1]
      refine iteT ⟨_, rfl, _, rfl, _, _, hT.ty, kit_bool d, _, rfl, _, rfl, ?_⟩
      cases d with
      | int i =>
        have e := hT.int_v
        subst e
        refine iteT ⟨_, rfl, _, _, rfl, rfl, _, rfl, ?_⟩
        by_cases h0 : 0 ≤ i
        · rw [decide_eq_true h0]
          refine iteT ⟨_, rfl, _, _, rfl, rfl, ?_⟩
          have e : numD hi (.int i) = decide (i ≤ hi) := by simp [numD, h0]
          rw [e] at q
          exact q
        · rw [decide_eq_false h0]
          have e : numD hi (.int i) = false := by simp [numD, h0]
          rw [e] at q
          exact iteF q
      | bool b => exact iteF q
      | none => cases hi1
      | str z => cases hi1
      | list ds => cases hi1
      | tuple ds => cases hi1
      | dict ds => cases hi1
    · have hi2 : isIntD d = false := by simpa using hi1
      rw [hi2]
      have e : numD hi d = false := by
        cases d <;> first | rfl | (simp [isIntD] at hi2)
      rw [e] at q
      exact iteF q
def spWord (K : PySem.W.Frag) : Sp := fun vs H Q _ => ∃ (v : V) (d : PyData), vs = [v] ∧ Dd K H v d ∧ FitS d ∧ Q (.bl (wordD d)) H
theorem scW : FnScope ["value"] ["value"] (defScope sWord) := ⟨rfl, rfl, rfl, by decide +kernel, rfl, by decide +kernel, by decide +kernel⟩
theorem ok_word (F : Fun K "is_word" "is_word" sWord f fd) (T : Tx mg) : FnOk P w K mg base CX0 1 f fd ["value"] (spWord K) := by
  refine F.ok scW (fun vs H Q E h => ?_) (fun cdv A outer s H vs Q E hr h => ?_)
  · obtain ⟨v, d, rfl, _⟩ := h
    rfl
  · obtain ⟨v, d, rfl, hT, hf, q⟩ := h
    obtain ⟨t, hl⟩ := T.wl
    refine ⟨_, pss_cons (ps_if (PW.pt (pw_or (pt_not (pt_val (pe_callB (call_isa "str") (by rfl) T.isi bootN (pa_cons (pv 0) (pa_cons (pe_bltn (v := .ty "str") (by rfl) T.str (by decide +kernel) rfl) pa_nil)))))
        (pw_or1 (pt_not (pt_chain op_le op_le pe_int (pe_callB call_len_str (by rfl) T.len PySem.boot_len (pa_cons (pv 0) pa_nil)) (pe_glob (v := .int 12) (by rfl) hl ⟨_, rfl⟩))))))
        (pss_one (ps_ret pe_bl)) pss_nil)
      (pss_one (ps_ret (pe_and (pe_m0 PySem.F.slot_str_isascii PySem.F.type_str_isascii mt_isascii (pv 0)) (pe_and (pe_m0 PySem.F.slot_str_isalpha PySem.F.type_str_isalpha mt_isalpha (pv 0)) (pe_one (pe_m0 PySem.F.slot_str_islower PySem.F.type_str_islower mt_islower (pv 0))))))), ?_⟩
    refine ⟨_, rfl, _, rfl, _, _, hT.ty, kit_str d, _, rfl, ?_⟩
    cases d with
    | str z =>
      have e := hT.str_v
      subst e
      have hf : z.length ≤ sizeLine := (hf z rfl).size
      refine iteF ⟨_, rfl, _, rfl, hf, _, _, rfl, rfl, _, rfl, ?_⟩
      have bad : (decide (1 ≤ z.length) && decide (z.length ≤ 12)) = false → wordD (.str z) = false := fun e => by
        show wordS z = false
        unfold wordS
        rw [e, Bool.false_and]
      by_cases h1 : (1 : Int) ≤ (z.length : Int)
      · rw [decide_eq_true h1]
        refine iteT ⟨_, _, rfl, rfl, _, rfl, ?_⟩
        by_cases h2 : (z.length : Int) ≤ 12
        · rw [decide_eq_true h2]
          refine iteF ⟨_, rfl, ⟨_, rfl⟩, _, rfl, rfl, trivial, _, rfl, ?_⟩
          have e : wordD (.str z) = (Txt.isascii z && (Txt.isalpha z && Txt.islower z)) := by
            rw [lows_eq (by omega)]
            show wordS z = _
            unfold wordS
            rw [decide_eq_true (show 1 ≤ z.length by omega), decide_eq_true (show z.length ≤ 12 by omega)]
            rfl
          rw [e] at q
          cases ea : Txt.isascii z with
          | false =>
            rw [ea] at q
            exact iteF q
          | true =>
            rw [ea] at q
            refine iteT ⟨_, rfl, ⟨_, rfl⟩, _, rfl, rfl, trivial, _, rfl, ?_⟩
            cases eb : Txt.isalpha z with
            | false =>
              rw [eb] at q
              exact iteF q
            | true =>
              rw [eb] at q
              exact iteT ⟨_, rfl, ⟨_, rfl⟩, _, rfl, rfl, trivial, q⟩
        · rw [decide_eq_false h2]
          rw [bad (by rw [decide_eq_false (show ¬ z.length ≤ 12 by omega), Bool.and_false])] at q
          exact iteT q
      · rw [decide_eq_false h1]
        rw [bad (by rw [decide_eq_false (show ¬ 1 ≤ z.length by omega), Bool.false_and])] at q
        exact iteF ⟨_, rfl, iteT q⟩
    | _ => exact iteT q
def spAddr (K : PySem.W.Frag) : Sp := fun vs H Q _ => ∃ (v : V) (d : PyData), vs = [v] ∧ Dd K H v d ∧ Fits d ∧ Q (.bl (addrD d)) H
theorem scA : FnScope ["value", "word"] ["value"] (defScope sAddr) := ⟨rfl, rfl, rfl, by decide +kernel, rfl, by decide +kernel, by decide +kernel⟩
theorem all_take {ds : List PyData} {p : PyData → Bool} {i : Nat} {d : PyData} (h : ds[i]? = some d) : (ds.take (i + 1)).all p = ((ds.take i).all p && p d) := by
  rw [List.take_succ, h]
  simp
theorem ok_addr (Fd : Fun K "is_address" "is_address" sAddr f fd) (T : Tx mg) (D : Df P w K mg base 1 "is_word" ["value"] (spWord K)) : FnOk P w K mg base CX0 2 f fd ["value"] (spAddr K) := by
  refine Fd.ok scA (fun vs H Q E h => ?_) (fun cdv A outer s H vs Q E hr h => ?_)
  · obtain ⟨v, d, rfl, _⟩ := h
    rfl
  · obtain ⟨v, d, rfl, hT, hf, q⟩ := h
    refine ⟨_, pss_cons (ps_if (pt_not (pt_val (pe_callB (call_isa "tuple") (by rfl) T.isi bootN (pa_cons (pv 0) (pa_cons (pe_bltn (v := .ty "tuple") (by rfl) T.tuple (by decide +kernel) rfl) pa_nil))))) (pss_one (ps_ret pe_bl)) pss_nil)
      (pss_cons (ps_for PassesOwn.never rfl (pi_tup (pv 0)) (pg_name (i := 1) scA.nd rfl (Or.inl rfl)) (pss_one (ps_if (pt_not (pt_val (pe_df D hr (pa_cons (pv 1) pa_nil)))) (pss_one (ps_ret pe_bl)) pss_nil)))
      (pss_one (ps_ret pe_bl))), ?_⟩
    refine ⟨_, rfl, _, rfl, _, _, hT.ty, kit_tuple d, _, rfl, ?_⟩
    cases d with
    | tuple ds =>
      obtain ⟨a, xs, rfl, hs, hl, hi⟩ := hT.its
      refine iteF ⟨_, rfl, a, rfl, ⟨_, hs⟩, for_tup (K := K) (a := a) (xs := xs) (fun i σ H2 => H2 = H ∧ (∃ u, σ = [some (.ref a), u]) ∧ (ds.take i).all wordD = true) ⟨rfl, ⟨none, rfl⟩, by simp⟩ (fun i σ H2 _ h => by rw [h.1]; exact hs) ?_ ?_⟩
      · rintro i x σ H2 hx ⟨rfl, ⟨u, rfl⟩, ha⟩
        obtain ⟨d, h1, h2⟩ := hi i x hx
        refine ⟨_, rfl, x, d, rfl, h2, (hf.2 ds rfl).2 d (List.mem_of_getElem? h1), _, rfl, ?_⟩
        cases e : wordD d with
          | true =>
            refine iteF ⟨rfl, ⟨_, rfl⟩, ?_⟩
            rw [all_take h1, ha, e]
            rfl
          | false =>
            refine iteT ?_
            have e2 : addrD (.tuple ds) = false := by
              show ds.all wordD = false
              exact List.all_eq_false.mpr ⟨d, List.mem_of_getElem? h1, by rw [e]; exact Bool.false_ne_true⟩
            rw [e2] at q
            exact q
      · rintro σ H2 ⟨rfl, ⟨u, rfl⟩, ha⟩
        have e2 : addrD (.tuple ds) = true := by
          show ds.all wordD = true
          rw [hl, List.take_length] at ha
          exact ha
        rw [e2] at q
        exact q
    | _ => exact iteT q
end
section
variable {P : Program} {w : World} {K : PySem.W.Frag} {mg : Str → Option Value} {base : Heap} {f : Addr} {fd : FuncData}
def placeD : PyData → Bool
  | .tuple ds => decide (ds.length ≤ 4) && ds.all wordD
  | _ => false
def spPlace (K : PySem.W.Frag) : Sp := fun vs H Q _ => ∃ (v : V) (d : PyData), vs = [v] ∧ Dd K H v d ∧ Fits d ∧ Q (.bl (placeD d)) H
theorem scP : FnScope ["value"] ["value"] (defScope sPlace) := ⟨rfl, rfl, rfl, by decide +kernel, rfl, by decide +kernel, by decide +kernel⟩
theorem ok_place (Fd : Fun K "is_place" "is_place" sPlace f fd) (T : Tx mg) (D : Df P w K mg base 2 "is_address" ["value"] (spAddr K)) : FnOk P w K mg base CX0 3 f fd ["value"] (spPlace K) := by
  refine Fd.ok scP (fun vs H Q E h => ?_) (fun cdv A outer s H vs Q E hr h => ?_)
  · obtain ⟨v, d, rfl, _⟩ := h
    rfl
  · obtain ⟨v, d, rfl, hT, hf, q⟩ := h
    obtain ⟨t, hl⟩ := T.pw
    refine ⟨_, pss_one (ps_ret (pe_and (pe_callB (call_isa "tuple") (by rfl) T.isi bootN (pa_cons (pv 0) (pa_cons (pe_bltn (v := .ty "tuple") (by rfl) T.tuple (by decide +kernel) rfl) pa_nil)))
      (pe_and (pe_cmpR op_le (pe_callB call_len_seq (by rfl) T.len PySem.boot_len (pa_cons (pv 0) pa_nil)) (pe_glob (v := .int 4) (by rfl) hl ⟨_, rfl⟩) (nomark _)) (pe_one (pe_df D hr (pa_cons (pv 0) pa_nil)))))), ?_⟩
    refine ⟨_, rfl, _, rfl, _, _, hT.ty, kit_tuple d, _, rfl, ?_⟩
    cases d with
    | tuple ds =>
      obtain ⟨a, xs, rfl, hs, hl, hi⟩ := hT.its
      refine iteT ⟨_, rfl, a, xs, rfl, .inr hs, _, _, rfl, rfl, _, rfl, ?_⟩
      by_cases h4 : ds.length ≤ 4
      · rw [decide_eq_true (by omega)]
        refine iteT ⟨_, rfl, _, .tuple ds, rfl, hT, hf, ?_⟩
        have e : placeD (.tuple ds) = addrD (.tuple ds) := by
          show (decide (ds.length ≤ 4) && ds.all wordD) = ds.all wordD
          rw [decide_eq_true h4, Bool.true_and]
        rw [e] at q
        exact q
      · rw [decide_eq_false (by omega)]
        have e : placeD (.tuple ds) = false := by
          show (decide (ds.length ≤ 4) && ds.all wordD) = false
          rw [decide_eq_false h4, Bool.false_and]
        rw [e] at q
        exact iteF q
    | _ => exact iteF q
end
end K49
/-! The stream of draws: a list of two numbers, which the draws change. -/
namespace Ld
open PySem L2 PyProof.Rows
/-- the stream: its two numbers -/
def Sm (H : Hp) (wa : Addr) : Prop := ∃ d m : Int, H wa = some (.lst [.int d, .int m]) ∧ 0 ≤ d ∧ 0 ≤ m ∧ m < 2 ^ 40
/-- what no stream is -/
def NotSm : HO → Prop
  | .lst [.int _, .int _] => False
  | _ => True
theorem Sm.same {H H' : Hp} {wa : Addr} (W : Sm H wa) (s : Same H H') : Sm H' wa := by
  obtain ⟨d, m, h, r⟩ := W
  exact ⟨d, m, s _ _ h, r⟩
theorem Sm.ne {H : Hp} {wa b : Addr} {o : HO} (W : Sm H wa) (e : H b = some o) (n : NotSm o) : b ≠ wa := by
  obtain ⟨d, m, h, _⟩ := W
  intro z
  subst z
  rw [h] at e
  cases e
  exact n
/-- what stands at another place -/
theorem Sm.off {H H' : Hp} {wa D : Addr} (W : Sm H wa) (n : wa ≠ D) (fr : ∀ c o, c ≠ D → H c = some o → H' c = some o) : Sm H' wa := by
  obtain ⟨d, m, h, r⟩ := W
  exact ⟨d, m, fr _ _ n h, r⟩
theorem notSm_strs : ∀ zs : List Str, NotSm (.lst (zs.map V.str))
  | [] => trivial
  | [_] => trivial
  | _ :: _ :: _ => trivial
theorem notSm_refs : ∀ {xs : List V}, (∀ x ∈ xs, ∃ p, x = V.ref p) → NotSm (.lst xs)
  | [], _ => trivial
  | x :: xs, h => by
    obtain ⟨p, rfl⟩ := h x List.mem_cons_self
    trivial
section
variable {K : PySem.W.Frag} {H H' : Hp} {wa a : Addr} {xs : List V}
theorem smR {u : HO} (W : Sm H wa) (s : Sb wa H H') (n : NotSm u) (h : Rd H a u) : Rd H' a u := by
  rcases h with h | ⟨o, h⟩
  · exact .inl (s a _ (W.ne h n) h)
  · exact .inr ⟨o, s a _ (W.ne h trivial) h⟩
theorem smL (W : Sm H wa) (s : Sb wa H H') (n : NotSm (.lst xs)) (h : SqL K H a xs) : SqL K H' a xs := by
  rcases h with h | h
  · exact .inl (smR W s n h)
  · exact .inr h
theorem smT (W : Sm H wa) (s : Sb wa H H') (h : SqT K H a xs) : SqT K H' a xs := by
  rcases h with h | h
  · exact .inl (smR W s trivial h)
  · exact .inr h
end
/-! numbers of any size, cubed -/
theorem cube_wide {m e : Int} {n : Nat} (h : e.natAbs < 2 ^ n) (hm : m.natAbs < 2 ^ 60) (hn : 60 ≤ n) : (m + e).natAbs < 2 ^ (n + 1) := by
  have h2 : 2 ^ 60 ≤ 2 ^ n := Nat.pow_le_pow_right (by decide) hn
  have h3 : (2 : Nat) ^ (n + 1) = 2 * 2 ^ n := by
    rw [Nat.pow_succ]
    omega
  rw [h3]
  generalize (2 : Nat) ^ n = z at h h2
  omega
end Ld
namespace K49
open PySem L2 Ld PyProof.Rows
abbrev sStream : Stmt := top 35
abbrev sDraw : Stmt := top 36
abbrev sChoose : Stmt := top 37
section
variable {P : Program} {w : World} {K : PySem.W.Frag} {mg : Str → Option Value} {base : Heap} {f : Addr} {fd : FuncData}
def spStream (K : PySem.W.Frag) : Sp := fun vs H Q _ => ∃ (a : Addr) (ns : List Int) (j : Int) (B : Nat), vs = [.ref a, .int j] ∧ SqL K H a (ns.map V.int) ∧ ns.length ≤ 63 ∧ 60 ≤ B ∧ B ≤ 2000000 ∧ (∀ z ∈ ns, Builtin.Int.intBits z ≤ B) ∧ 0 ≤ j ∧ j < 100 ∧
  ∀ wa H', H wa = none → Sm H' wa → Same H H' → Q (.ref wa) H'
def strN : List Str := ["_law_script", "_law_start", "_law_seed", "_law_cell", "_law_digits"]
theorem scStream : FnScope strN ["_law_script", "_law_start"] (defScope sStream) := ⟨rfl, rfl, rfl, by decide +kernel, rfl, by decide +kernel, by decide +kernel⟩
theorem ok_stream (Fd : Fun K "_law_stream" "_law_stream" sStream f fd) (T : Tx mg) : FnOk P w K mg base CX0 1 f fd ["_law_script", "_law_start"] (spStream K) := by
  refine Fd.ok scStream (fun vs H Q E h => ?_) (fun cdv A outer s H vs Q E hr h => ?_)
  · obtain ⟨a, ns, j, B, rfl, _⟩ := h
    rfl
  · obtain ⟨a, ns, j, B, rfl, hS, hlen, hB, hB2, hb, hj0, hj, q⟩ := h
    have nd := scStream.nd
    refine ⟨_, pss_cons (ps_set (i := 2) nd rfl (Or.inl rfl) (pe_op op_add pe_int (pv 1)))
      (pss_cons (ps_for PassesOwn.never rfl (pi_list (pv 0)) (pg_name (i := 3) nd rfl (Or.inl rfl))
        (pss_one (ps_set (i := 2) nd rfl (Or.inl rfl) (pe_op op_add (pe_op op_mod (pe_callTy call_int1 (by rfl) T.int (by decide +kernel) (pa_cons (pe_op op_powB (pe_op op_add (pe_op op_mulB (pv 2) pe_int) (pe_callTy call_int1 (by rfl) T.int (by decide +kernel) (pa_cons (pv 3) pa_nil))) pe_int) pa_nil)) pe_int) pe_int))))
      (pss_cons (ps_set (i := 4) nd rfl (Or.inl rfl) pe_int)
      (pss_cons (ps_if (PW.pt (pw_and (pt_cmpR op_lt (pv 1) (pe_callB call_len_seq (by rfl) T.len PySem.boot_len (pa_cons (pv 0) pa_nil)) (nomark _))
          (pw_and1 (pt_cmpR op_ge (pe_ix ix_list (pv 0) (pv 1) (fun _ _ => rfl)) (pe_op op_pow pe_int pe_int) (nomark _)))))
          (pss_one (ps_set (i := 4) nd rfl (Or.inl rfl) (pe_op op_sub (pe_ix ix_list (pv 0) (pv 1) (fun _ _ => rfl)) (pe_op op_pow pe_int pe_int)))) pss_nil)
      (pss_one (ps_ret (pe_lst (pa_cons (pv 4) (pa_cons (pv 2) pa_nil)))))))), ?_⟩
    refine ⟨_, rfl, _, _, rfl, rfl, ?_⟩
    refine ⟨_, rfl, a, rfl, ⟨_, hS⟩, for_list (K := K) (a := a) (xs := ns.map V.int) (fun i σ H2 => H2 = H ∧ ∃ (m : Int) (u : Option V), σ = [some (.ref a), some (.int j), some (.int m), u, none] ∧ 0 ≤ m ∧ m < 2 ^ 40)
      ⟨rfl, _, none, rfl, by omega, by omega⟩ (fun i σ H2 _ h => by rw [h.1]; exact hS) ?_ ?_⟩
    · rintro i y σ H2 hi ⟨rfl, m, u, rfl, h0, h1⟩
      obtain ⟨z, hz, rfl⟩ := list_get hi
      have bz := hb z (List.mem_of_getElem? hz)
      have hm := mul_small (c := 40127) h0 h1 (by decide) (by decide)
      have hw := cube_wide (of_bits bz) hm hB
      have hbw := bits_of hw
      refine ⟨_, rfl, _, _, rfl, rfl, ?_, _, rfl, .inl ⟨_, rfl, _, _, rfl, rfl, _, _, rfl, rfl, ?_, .inl ⟨_, rfl, _, _, rfl, rfl, (show (0 : Int) < 2147483629 by decide), _, _, rfl, rfl, ?_⟩⟩⟩
      · have := bits_small h0 h1
        show Builtin.Int.intBits m + Builtin.Int.intBits 40127 ≤ 2 ^ 27
        have e : Builtin.Int.intBits 40127 ≤ 17 := by decide +kernel
        omega
      · refine ⟨by decide, ?_⟩
        omega
      · refine ⟨rfl, _, _, rfl, ?_, ?_⟩
        · have := Int.emod_nonneg ((m * 40127 + z) ^ (3 : Int).toNat) (show (2147483629 : Int) ≠ 0 by decide)
          omega
        · have := Int.emod_lt_of_pos ((m * 40127 + z) ^ (3 : Int).toNat) (show (0 : Int) < 2147483629 by decide)
          omega
    · rintro σ H2 ⟨rfl, m, u, rfl, h0, h1⟩
      have last : ∀ dg : Int, 0 ≤ dg → ∀ p, H2 p = none → Q (.ref p) (upd H2 p (.lst [.int dg, .int m])) := fun dg hd p hp => q p _ hp ⟨dg, m, upd_same, hd, h0, h1⟩ (Same.new hp)
      refine ⟨_, rfl, _, rfl, a, _, rfl, .inl hS, _, _, rfl, rfl, _, rfl, ?_⟩
      by_cases hjl : j < (((ns.map V.int).length : Nat) : Int)
      · rw [decide_eq_true hjl]
        rw [List.length_map] at hjl
        obtain ⟨z, hz⟩ : ∃ z, ns[j.toNat]? = some z := ⟨ns[j.toNat]'(by omega), List.getElem?_eq_getElem _⟩
        have hat : atI (ns.map V.int) j = some (.int z) := at_of (j := j.toNat) (by omega) (by rw [List.getElem?_map, hz]; rfl)
        have cp : CPow 10 18 := ⟨by decide, by decide, by decide⟩
        refine iteT ⟨_, rfl, _, rfl, a, _, _, _, rfl, rfl, hS, hat, _, _, rfl, rfl, cp, _, _, rfl, rfl, _, rfl, ?_⟩
        by_cases hz2 : (10 : Int) ^ (18 : Int).toNat ≤ z
        · rw [decide_eq_true hz2]
          exact iteT ⟨_, rfl, _, rfl, a, _, _, _, rfl, rfl, hS, hat, _, _, rfl, rfl, cp, _, _, rfl, rfl, _, rfl, _, rfl, (show 2 ≤ sizeLine by decide), last _ (by omega)⟩
        · rw [decide_eq_false hz2]
          exact iteF ⟨_, rfl, _, rfl, (show 2 ≤ sizeLine by decide), last 0 (by decide)⟩
      · rw [decide_eq_false hjl]
        exact iteF ⟨_, rfl, _, rfl, (show 2 ≤ sizeLine by decide), last 0 (by decide)⟩
def spDraw : Sp := fun vs H Q _ => ∃ (wa : Addr) (n : Int), vs = [.ref wa, .int n] ∧ Sm H wa ∧ 0 < n ∧ n < 1073741824 ∧ ∀ (k : Int) H', 0 ≤ k → k < n → Sm H' wa → Sb wa H H' → Q (.int k) H'
theorem scDraw : FnScope ["_law_stream_here", "_law_size", "_law_found"] ["_law_stream_here", "_law_size"] (defScope sDraw) := ⟨rfl, rfl, rfl, by decide +kernel, rfl, by decide +kernel, by decide +kernel⟩
theorem ok_draw (Fd : Fun K "_law_draw" "_law_draw" sDraw f fd) (T : Tx mg) : FnOk P w K mg base CX0 1 f fd ["_law_stream_here", "_law_size"] spDraw := by
  refine Fd.ok scDraw (fun vs H Q E h => ?_) (fun cdv A outer s H vs Q E hr h => ?_)
  · obtain ⟨wa, n, rfl, _⟩ := h
    rfl
  · obtain ⟨wa, n, rfl, ⟨d, m, hw, hd, hm0, hm1⟩, hn0, hn1, q⟩ := h
    refine ⟨_, pss_cons (ps_if (pt_cmpR op_ge (pe_ix ix_list (pv 0) pe_int (fun _ _ => rfl)) (pv 1) (nomark _))
        (pss_cons (ps_set (i := 2) scDraw.nd rfl (Or.inl rfl) (pe_op op_mod (pe_callTy call_int1 (by rfl) T.int (by decide +kernel) (pa_cons (pe_ix ix_list (pv 0) pe_int (fun _ _ => rfl)) pa_nil)) (pv 1)))
        (pss_cons (ps_asg (pe_op op_fdiv (pe_ix ix_list (pv 0) pe_int (fun _ _ => rfl)) (pv 1)) (pg_sub (pv 0) pe_int set_list))
        (pss_one (ps_ret (pv 2))))) pss_nil)
      (pss_cons (ps_asg (pe_op op_mod (pe_op op_add (pe_op op_mul (pe_callTy call_int1 (by rfl) T.int (by decide +kernel) (pa_cons (pe_ix ix_list (pv 0) pe_int (fun _ _ => rfl)) pa_nil)) pe_int) pe_int) pe_int) (pg_sub (pv 0) pe_int set_list))
      (pss_one (ps_ret (pe_op op_mod (pe_callTy call_int1 (by rfl) T.int (by decide +kernel) (pa_cons (pe_op op_fdiv (pe_op op_mod (pe_op op_pow (pe_op op_mod (pe_op op_pow (pe_callTy call_int1 (by rfl) T.int (by decide +kernel) (pa_cons (pe_ix ix_list (pv 0) pe_int (fun _ _ => rfl)) pa_nil)) pe_int) pe_int) pe_int) pe_int) pe_int) pa_nil)) (pv 1))))), ?_⟩
    have hL : SqL K H wa [.int d, .int m] := .of hw
    refine ⟨_, rfl, wa, _, _, _, rfl, rfl, hL, at_of (j := 0) rfl rfl, _, rfl, _, _, rfl, rfl, _, rfl, ?_⟩
    by_cases hdn : n ≤ d
    · rw [decide_eq_true hdn]
      refine iteT ⟨_, rfl, wa, _, _, _, rfl, rfl, hL, at_of (j := 0) rfl rfl, .inl ⟨_, rfl, _, rfl, _, _, rfl, rfl, hn0, ?_⟩⟩
      refine ⟨_, rfl, wa, _, _, _, rfl, rfl, hL, at_of (j := 0) rfl rfl, _, rfl, _, _, rfl, rfl, ⟨hn0, hn1⟩, ?_⟩
      refine ⟨_, rfl, wa, _, 0, 0, rfl, rfl, hw, rfl, _, rfl, ?_⟩
      exact q _ _ (Int.emod_nonneg _ (by omega)) (Int.emod_lt_of_pos _ hn0) ⟨_, m, upd_same, Int.ediv_nonneg hd (by omega), hm0, hm1⟩ (.put wa H _)
    · rw [decide_eq_false hdn]
      have m0 := Int.emod_nonneg (m * 48271 + 12345) (show (2147483647 : Int) ≠ 0 by decide)
      have m1 := Int.emod_lt_of_pos (m * 48271 + 12345) (show (0 : Int) < 2147483647 by decide)
      refine iteF ⟨_, rfl, wa, _, _, _, rfl, rfl, hL, at_of (j := 1) rfl rfl, .inl ⟨_, rfl, _, _, rfl, rfl, .inr ⟨by decide, by decide⟩, _, _, rfl, rfl, _, _, rfl, rfl, (show (0 : Int) < 2147483647 by decide), ?_⟩⟩
      refine ⟨_, rfl, wa, _, 1, 1, rfl, rfl, hw, rfl, ?_⟩
      change (_ : Hp → Prop) (upd H wa (.lst [V.int d, V.int ((m * 48271 + 12345) % 2147483647)]))
      generalize (m * 48271 + 12345) % 2147483647 = m' at m0 m1 ⊢
      have k2 : (upd H wa (.lst [V.int d, V.int m'])) wa = some (.lst [.int d, .int m']) := upd_same
      have sP : Sb wa H (upd H wa (.lst [V.int d, V.int m'])) := .put wa H _
      generalize upd H wa (.lst [V.int d, V.int m']) = G at k2 sP ⊢
      have n0 := Int.emod_nonneg (m' ^ (3 : Int).toNat) (show (2147483629 : Int) ≠ 0 by decide)
      have n1 := Int.emod_lt_of_pos (m' ^ (3 : Int).toNat) (show (0 : Int) < 2147483629 by decide)
      refine ⟨_, rfl, wa, _, _, _, rfl, rfl, .of k2, at_of (j := 1) rfl rfl, .inl ⟨_, rfl, _, _, rfl, rfl, ⟨by decide, by decide, by omega⟩, _, _, rfl, rfl, (show (0 : Int) < 2147483629 by decide), ?_⟩⟩
      generalize m' ^ (3 : Int).toNat % 2147483629 = k at n0 n1 ⊢
      refine ⟨_, _, rfl, rfl, ⟨by decide, by decide, by omega⟩, _, _, rfl, rfl, (show (0 : Int) < 1000000007 by decide), _, _, rfl, rfl, ⟨by decide, by decide⟩, .inl ⟨_, rfl, _, rfl, _, _, rfl, rfl, hn0, ?_⟩⟩
      exact q _ _ (Int.emod_nonneg _ (by omega)) (Int.emod_lt_of_pos _ hn0) ⟨d, m', k2, hd, m0, by omega⟩ sP
/-- a list of things of which none is a number, at least not two of them -/
def spChoose (K : PySem.W.Frag) : Sp := fun vs H Q _ => ∃ (wa la : Addr) (xs : List V), vs = [.ref wa, .ref la] ∧ Sm H wa ∧ SqL K H la xs ∧ NotSm (.lst xs) ∧ xs ≠ [] ∧ xs.length ≤ 1000 ∧ ∀ v H', v ∈ xs → Sm H' wa → Sb wa H H' → Q v H'
theorem scChoose : FnScope ["_law_stream_here", "_law_items"] ["_law_stream_here", "_law_items"] (defScope sChoose) := ⟨rfl, rfl, rfl, by decide +kernel, rfl, by decide +kernel, by decide +kernel⟩
theorem ok_choose (Fd : Fun K "_law_choose" "_law_choose" sChoose f fd) (T : Tx mg) (D : Df P w K mg base 1 "_law_draw" ["_law_stream_here", "_law_size"] spDraw) : FnOk P w K mg base CX0 2 f fd ["_law_stream_here", "_law_items"] (spChoose K) := by
  refine Fd.ok scChoose (fun vs H Q E h => ?_) (fun cdv A outer s H vs Q E hr h => ?_)
  · obtain ⟨wa, la, xs, rfl, _⟩ := h
    rfl
  · obtain ⟨wa, la, xs, rfl, hw, hS, hno, hne, hlen, q⟩ := h
    refine ⟨_, pss_one (ps_ret (pe_ix ix_list (pv 1) (pe_df D hr (pa_cons (pv 0) (pa_cons (pe_callB call_len_seq (by rfl) T.len PySem.boot_len (pa_cons (pv 1) pa_nil)) pa_nil))) (fun _ _ => rfl))), ?_⟩
    have hl : 0 < xs.length := List.length_pos_iff.mpr hne
    refine ⟨_, rfl, _, rfl, _, rfl, la, xs, rfl, .inl hS, wa, _, rfl, hw, by omega, by omega, fun k H' h0 h1 W' s' => ?_⟩
    obtain ⟨v, hv⟩ : ∃ v, xs[k.toNat]? = some v := ⟨xs[k.toNat]'(by omega), List.getElem?_eq_getElem _⟩
    exact ⟨la, xs, _, v, rfl, rfl, smL hw s' hno hS, at_of (j := k.toNat) (by omega) hv, q v H' (List.mem_of_getElem? hv) W' s'⟩
end
end K49
/-! Data of any kind against a text. -/
namespace Ld
namespace EQ
open PySem PySem.Builtin PyProof.Rows PySem.SeqAt PySem.MeetsSeq
section
variable {A : Around} {s : Shared}
theorem dict_declines_str (l : Addr) (es : Array DictEntry) (ep : Nat) (dd : Option Addr) (sl : Array (Option Value)) (b : Str) (u : Tok) :
    Meets (Builtin.«dict.__eq__» ⟨[.ref l, .str b u], []⟩) (fun _ R s => s.heap.get? l = some { cls := .type "dict", dict := dd, data := .dict es ep, slots := sl } ∧ R (.ok (.ret .notImplemented)) s) :=
  .of_wp fun prog w A R s h => by obtain ⟨hp, g, d, tk, os⟩ := s; obtain ⟨hl, h⟩ := h; have f1 := F.sub_str_dict; wp_walk using wpAny_loadPart' hl; exact ⟨_, rfl, h⟩
theorem str_declines_dict (b : Str) (u : Tok) (l : Addr) (es : Array DictEntry) (ep : Nat) (dd : Option Addr) (sl : Array (Option Value)) :
    Meets (Builtin.«str.__eq__» ⟨[.str b u, .ref l], []⟩) (fun _ R s => s.heap.get? l = some { cls := .type "dict", dict := dd, data := .dict es ep, slots := sl } ∧ R (.ok (.ret .notImplemented)) s) :=
  .of_wp fun prog w A R s h => by obtain ⟨hp, g, d, tk, os⟩ := s; obtain ⟨hl, h⟩ := h; wp_walk using wpAny_loadPart' hl, wpAny_load hl; exact ⟨_, rfl, h⟩
theorem rc_dict_str {l : Addr} {es : Array DictEntry} {ep : Nat} {dd : Option Addr} {sl : Array (Option Value)} (b : Str) (u : Tok) (ho : s.heap.get? l = some { cls := .type "dict", dict := dd, data := .dict es ep, slots := sl }) (hu : A.units < cLine) : RcAt A s (.ref l) (.str b u) false := fun prog w E Q h => by
  exact rc_eq_decline_or (k := false) ⟨_, ho, rfl⟩ (typeIs_str s b u) (by decide) F.sub_str_dict F.slot_dict_eq F.slot_str_eq_refl
    (fun _ hq => call_meets F.slot_dict_eq ⟨_, ho, rfl⟩ F.entry_dict_eq (F.args_dict_eq_2 _ _) (dict_declines_str l es ep dd sl b u) ⟨ho, hq⟩)
    (fun _ hq => call_meets F.slot_str_eq_refl (typeIs_str s b u) F.entry_str_eq (F.args_str_eq_2 _ _) (str_declines_dict b u l es ep dd sl) ⟨ho, hq⟩)
    (fun _ hq => wpAny_of_eq (rfl : isSame (.ref l) (.str b u) = pure false) hq) (.inr hu) h
end
end EQ
end Ld
namespace Ld
open PySem L2 PyProof.Rows
def txtD : PyData → Str → Bool
  | .str x, z => decide (x = z)
  | _, _ => false
/-- any data == a text -/
def rEqTx (K : PySem.W.Frag) : R2 := fun x y H Q => ∃ d z, Dd K H x d ∧ y = .str z ∧ Q (.bl (txtD d z)) H
theorem op_eqTx {X : Cx} (hu : X.A.units < cLine) : OpR X (compareOp .Eq) (rEqTx X.K) := by
  intro pins s σ H x y v u Q I rx ry h
  obtain ⟨d, z, hd, rfl, q⟩ := h
  have flat : ∀ b : Bool, flatV x = true → (decide (x = V.str z)) = b → txtD d z = b → EP X pins σ Q (.bool b) s := fun b _ _ e => by
    rw [e] at q
    exact ⟨.bl b, H, I, rfl, q⟩
  cases hd with
  | non => exact op_eq pins s σ H _ _ v u Q I rx ry ⟨rfl, q⟩
  | bl b => exact op_eq pins s σ H _ _ v u Q I rx ry ⟨rfl, q⟩
  | int i => exact op_eq pins s σ H _ _ v u Q I rx ry ⟨rfl, q⟩
  | str x0 =>
    refine op_eq pins s σ H _ _ v u Q I rx ry ⟨rfl, ?_⟩
    have e : decide (V.str x0 = V.str z) = txtD (.str x0) z := by
      show decide (V.str x0 = V.str z) = decide (x0 = z)
      by_cases h : x0 = z
      · subst h
        simp
      · have : ¬ V.str x0 = V.str z := fun e => h (V.str.inj e)
        rw [decide_eq_false this, decide_eq_false h]
    rw [e]
    exact q
  | lst hs _ _ =>
    cases rx
    obtain ⟨t, rfl⟩ := ry
    obtain ⟨its, r, ht, hz⟩ := I.list hs
    exact SeqAt.RcAt.list_str z t ht.isList hu X.prog X.w X.xe _ ⟨.bl false, H, I, rfl, q⟩
  | tup hs _ =>
    cases rx
    obtain ⟨t, rfl⟩ := ry
    obtain ⟨its, r, ht, hz⟩ := I.tuple hs
    exact SeqAt.RcAt.tuple_str z t ht hu X.prog X.w X.xe _ ⟨.bl false, H, I, rfl, q⟩
  | dct hk _ _ =>
    cases rx
    obtain ⟨t, rfl⟩ := ry
    obtain ⟨_, hm, vs, kvr, o, es, ep, e1, e2, e3, _⟩ := dk_of I.hok hk
    obtain ⟨oc, od, odt, osl⟩ := o
    dsimp only at e2 e3
    subst e3
    obtain ⟨e4, e5⟩ := e2
    dsimp only at e4
    subst e4
    exact EQ.rc_dict_str z t e1 hu X.prog X.w X.xe _ ⟨.bl false, H, I, rfl, q⟩
end Ld
namespace K49
open PySem L2 Ld
abbrev sRule : Stmt := top 21
abbrev sAnswer : Stmt := top 22
/-! ### what is a rule, over data -/
mutual
/-- all texts are short and plain, all tuples short -/
def fitB : PyData → Bool
  | .str z => ascB z
  | .tuple ds => decide (ds.length ≤ 1000) && fitAll ds
  | .list ds => fitAll ds
  | _ => true
def fitAll : List PyData → Bool
  | [] => true
  | d :: ds => fitB d && fitAll ds
end
theorem fitAll_mem : ∀ {ds : List PyData}, fitAll ds = true → ∀ d ∈ ds, fitB d = true
  | [], _, d, h => nomatch h
  | e :: ds, z, d, h => by
    have z2 := Bool.and_eq_true_iff.mp (show (fitB e && fitAll ds) = true from z)
    rcases List.mem_cons.mp h with h | h
    · rw [h]
      exact z2.1
    · exact fitAll_mem z2.2 d h
theorem fitS_of {d : PyData} (h : fitB d = true) : FitS d := fun z e => by
  subst e
  exact asc_of h
theorem fits_of {d : PyData} (h : fitB d = true) : Fits d := ⟨fitS_of h, fun ds e => by
  subst e
  have z := Bool.and_eq_true_iff.mp (show (decide (ds.length ≤ 1000) && fitAll ds) = true from h)
  exact ⟨Nat.le_trans (of_decide_eq_true z.1) (by decide), fun e he => fitS_of (fitAll_mem z.2 e he)⟩⟩
theorem fit_mem {ds : List PyData} (h : fitB (.tuple ds) = true) : ∀ d ∈ ds, fitB d = true := fitAll_mem (Bool.and_eq_true_iff.mp (show (decide (ds.length ≤ 1000) && fitAll ds) = true from h)).2
def toD : List PyData → Bool
  | [p, n] => placeD p && numD 10000 n
  | _ => false
def ownD : List PyData → Bool
  | [x] => wordD x
  | _ => false
def answerD (own : Str) : PyData → Bool
  | .tuple (k :: r) => if txtD k "gone" = true then r.isEmpty else if txtD k "to" = true then toD r else txtD k own && ownD r
  | _ => false
theorem answerD_cons (own : Str) (k : PyData) (r : List PyData) : answerD own (.tuple (k :: r)) = if txtD k "gone" = true then r.isEmpty else if txtD k "to" = true then toD r else txtD k own && ownD r := rfl
def ruleT (s p a : PyData) : Bool := match s with
  | .str z => (decide (z = "exact") && (placeD p && answerD "page" a)) || (decide (z = "open") && (placeD p && answerD "section" a))
  | _ => false
def ruleL : List PyData → Bool
  | [s, p, a] => ruleT s p a
  | _ => false
def ruleD : PyData → Bool
  | .tuple ds => ruleL ds
  | _ => false
section
variable {P : Program} {w : World} {K : PySem.W.Frag} {mg : Str → Option Value} {base : Heap} {f : Addr} {fd : FuncData}
def spAnswer (K : PySem.W.Frag) : Sp := fun vs H Q _ => ∃ (v : V) (d : PyData) (own : Str), vs = [v, .str own] ∧ Dd K H v d ∧ fitB d = true ∧ Q (.bl (answerD own d)) H
theorem scAn : FnScope ["value", "own_kind", "kind"] ["value", "own_kind"] (defScope sAnswer) := ⟨rfl, rfl, rfl, by decide +kernel, rfl, by decide +kernel, by decide +kernel⟩
theorem at0 {x : V} {xs : List V} : atI (x :: xs) 0 = some x := at_of (j := 0) rfl rfl
theorem at1 {x y : V} {xs : List V} : atI (x :: y :: xs) 1 = some y := at_of (j := 1) rfl rfl
theorem at2 {x y z : V} {xs : List V} : atI (x :: y :: z :: xs) 2 = some z := at_of (j := 2) rfl rfl
theorem len_is {xs : List V} {n : Nat} : decide (V.int (xs.length : Int) = V.int (n : Int)) = decide (xs.length = n) := by
  by_cases h : xs.length = n
  · rw [h]
    simp
  · rw [decide_eq_false h, decide_eq_false (fun e => h (by injection e with e; omega))]
theorem ok_answer (Fd : Fun K "_is_answer" "_is_answer" sAnswer f fd) (T : Tx mg) (DN : Df P w K mg base 1 "is_number_to" ["value", "highest"] (spNum K)) (DW : Df P w K mg base 1 "is_word" ["value"] (spWord K)) (DP : Df P w K mg base 3 "is_place" ["value"] (spPlace K)) :
    FnOk P w K mg base CX0 4 f fd ["value", "own_kind"] (spAnswer K) := by
  refine Fd.ok scAn (fun vs H Q E h => ?_) (fun cdv A outer s H vs Q E hr h => ?_)
  · obtain ⟨v, d, own, rfl, _⟩ := h
    rfl
  · obtain ⟨v, d, own, rfl, hT, hf, q⟩ := h
    obtain ⟨t, hl⟩ := T.md
    have hu := Nat.lt_of_le_of_lt (Nat.le_add_right _ 64) hr.units
    refine ⟨_, pss_cons (ps_if (PW.pt (pw_or (pt_not (pt_val (pe_callB (call_isa "tuple") (by rfl) T.isi bootN (pa_cons (pv 0) (pa_cons (pe_bltn (v := .ty "tuple") (by rfl) T.tuple (by decide +kernel) rfl) pa_nil)))))
        (pw_or1 (pt_not (pt_truth (pv 0) (fun _ => rfl)))))) (pss_one (ps_ret pe_bl)) pss_nil)
      (pss_cons (ps_set (i := 2) scAn.nd rfl (Or.inl rfl) (pe_ix ix_tup (pv 0) pe_int (fun _ _ => rfl)))
      (pss_cons (ps_if (pt_cmpR (op_eqTx hu) (pv 2) pe_str (nomark _)) (pss_one (ps_ret (pe_cmpR op_eq (pe_callB call_len_seq (by rfl) T.len PySem.boot_len (pa_cons (pv 0) pa_nil)) pe_int (nomark _)))) pss_nil)
      (pss_cons (ps_if (pt_cmpR (op_eqTx hu) (pv 2) pe_str (nomark _)) (pss_one (ps_ret (pe_and (pe_cmpR op_eq (pe_callB call_len_seq (by rfl) T.len PySem.boot_len (pa_cons (pv 0) pa_nil)) pe_int (nomark _))
          (pe_and (pe_df DP hr (pa_cons (pe_ix ix_tup (pv 0) pe_int (fun _ _ => rfl)) pa_nil)) (pe_one (pe_df DN hr (pa_cons (pe_ix ix_tup (pv 0) pe_int (fun _ _ => rfl)) (pa_cons (pe_glob (v := .int 10000) (by rfl) hl ⟨_, rfl⟩) pa_nil)))))))) pss_nil)
      (pss_one (ps_ret (pe_and (pe_cmpR (op_eqTx hu) (pv 2) (pv 1) (nomark _)) (pe_and (pe_cmpR op_eq (pe_callB call_len_seq (by rfl) T.len PySem.boot_len (pa_cons (pv 0) pa_nil)) pe_int (nomark _))
          (pe_one (pe_df DW hr (pa_cons (pe_ix ix_tup (pv 0) pe_int (fun _ _ => rfl)) pa_nil)))))))))), ?_⟩
    refine ⟨_, rfl, _, rfl, _, _, hT.ty, kit_tuple d, _, rfl, ?_⟩
    cases d with
    | tuple ds =>
      obtain ⟨a, xs, rfl, hs, hl2, hi⟩ := hT.its
      have hfm := fit_mem hf
      refine iteF ⟨_, rfl, _, .inr (.inl ⟨xs, hs, rfl⟩), ?_⟩
      cases ds with
      | nil =>
        have e := List.length_eq_zero_iff.mp hl2
        subst e
        exact iteT q
      | cons k r =>
        cases xs with
        | nil => cases hl2
        | cons x xr =>
          obtain ⟨d0, z0, D0⟩ := hi 0 x rfl
          cases z0
          refine iteF ⟨_, rfl, a, _, _, _, rfl, rfl, hs, at0, ?_⟩
          rw [answerD_cons] at q
          refine ⟨_, rfl, k, _, D0, rfl, _, rfl, ?_⟩
          by_cases g : txtD k "gone" = true
          · rw [if_pos g] at q
            rw [g]
            refine iteT ⟨_, rfl, a, _, rfl, .inr hs, rfl, ?_⟩
            show Q (.bl (decide (V.int ((x :: xr).length : Int) = V.int ((1 : Nat) : Int)))) H
            rw [len_is, hl2]
            cases r with
            | nil => exact q
            | cons _ _ => 
              rw [decide_eq_false (by simp)]
              exact q
          · rw [if_neg g] at q
            rw [Bool.eq_false_iff.mpr g]
            refine iteF ⟨_, rfl, k, _, D0, rfl, _, rfl, ?_⟩
            by_cases g2 : txtD k "to" = true
            · rw [if_pos g2] at q
              rw [g2]
              refine iteT ⟨_, rfl, a, _, rfl, .inr hs, rfl, _, rfl, ?_⟩
              show if (decide (V.int ((x :: xr).length : Int) = V.int ((3 : Nat) : Int))) = true then _ else _
              rw [len_is, hl2]
              have no : toD r = false → Q (.bl false) H := fun e => by
                rw [e] at q
                exact q
              match r, hl2, hi, hfm, q, no with
              | [], _, _, _, _, no => exact iteF (no rfl)
              | [p], _, _, _, _, no => exact iteF (no rfl)
              | [p, n], hl2, hi, hfm, q, _ =>
                match xr, hl2, hi with
                | [y, z], _, hi =>
                  obtain ⟨d1, z1, D1⟩ := hi 1 y rfl
                  cases z1
                  obtain ⟨d2, z2, D2⟩ := hi 2 z rfl
                  cases z2
                  refine iteT ⟨_, rfl, a, _, _, _, rfl, rfl, hs, at1, _, p, rfl, D1, fits_of (hfm _ (by simp)), _, rfl, ?_⟩
                  have q : Q (.bl (placeD p && numD 10000 n)) H := q
                  cases e : placeD p with
                  | false =>
                    rw [e] at q
                    exact iteF q
                  | true =>
                    rw [e] at q
                    exact iteT ⟨_, rfl, a, _, _, _, rfl, rfl, hs, at2, _, n, _, rfl, D2, q⟩
              | p :: n :: m :: r2, _, _, _, _, no =>
                rw [decide_eq_false (by simp)]
                exact iteF (no rfl)
            · rw [if_neg g2] at q
              rw [Bool.eq_false_iff.mpr g2]
              refine iteF ⟨_, rfl, _, rfl, k, _, D0, rfl, _, rfl, ?_⟩
              cases g3 : txtD k own with
              | false =>
                rw [g3] at q
                exact iteF q
              | true =>
                rw [g3] at q
                refine iteT ⟨_, rfl, a, _, rfl, .inr hs, rfl, _, rfl, ?_⟩
                show if (decide (V.int ((x :: xr).length : Int) = V.int ((2 : Nat) : Int))) = true then _ else _
                rw [len_is, hl2]
                have no : ownD r = false → Q (.bl false) H := fun e => by
                  rw [e] at q
                  exact q
                match r, hl2, hi, hfm, q, no with
                | [], _, _, _, _, no => exact iteF (no rfl)
                | [p], hl2, hi, hfm, q, _ =>
                  match xr, hl2, hi with
                  | [y], _, hi =>
                    obtain ⟨d1, z1, D1⟩ := hi 1 y rfl
                    cases z1
                    exact iteT ⟨_, rfl, a, _, _, _, rfl, rfl, hs, at1, _, p, rfl, D1, fitS_of (hfm _ (by simp)), q⟩
                | p :: n :: r2, _, _, _, _, no =>
                  rw [decide_eq_false (by simp)]
                  exact iteF (no rfl)
    | _ => exact iteT q
end
end K49
namespace K49
open PySem L2 Ld
/-- the two kinds, as the module holds them -/
structure Kinds (K : PySem.W.Frag) (w : World) (mg : Str → Option Value) (d : Addr) (es : Array DictEntry) (n : Nat) : Prop where
  at_ : mg "OWN_KINDS" = some (.ref d)
  kd : KDict K w d es n
  two : ∃ (e1 e2 : DictEntry) (t1 t2 u1 u2 : Tok), es.toList = [e1, e2] ∧ e1.key = .str "exact" t1 ∧ e1.val = .str "page" u1 ∧ e2.key = .str "open" t2 ∧ e2.val = .str "section" u2
theorem isStr_lit {x z : Str} {t : Tok} : (Value.str x t).isStr z = decide (z = x) := by
  show (x == z) = decide (z = x)
  by_cases h : z = x
  · subst h
    simp
  · rw [decide_eq_false h]
    exact beq_false_of_ne fun e => h e.symm
theorem open_exact : ¬ (("open" : Str) = "exact") := by decide +kernel
theorem exact_open : ¬ (("exact" : Str) = "open") := by decide +kernel
theorem ruleT_exact (p a : PyData) : ruleT (.str "exact") p a = (placeD p && answerD "page" a) := by
  show ((decide (("exact" : Str) = "exact") && (placeD p && answerD "page" a)) || (decide (("exact" : Str) = "open") && (placeD p && answerD "section" a))) = _
  rw [decide_eq_false exact_open, Bool.false_and, Bool.or_false, decide_eq_true rfl, Bool.true_and]
theorem ruleT_open (p a : PyData) : ruleT (.str "open") p a = (placeD p && answerD "section" a) := by
  show ((decide (("open" : Str) = "exact") && (placeD p && answerD "page" a)) || (decide (("open" : Str) = "open") && (placeD p && answerD "section" a))) = _
  rw [decide_eq_false open_exact, Bool.false_and, Bool.false_or, decide_eq_true rfl, Bool.true_and]
theorem ruleT_none {s : Str} (h1 : ¬ s = "exact") (h2 : ¬ s = "open") (p a : PyData) : ruleT (.str s) p a = false := by
  show ((decide (s = "exact") && (placeD p && answerD "page" a)) || (decide (s = "open") && (placeD p && answerD "section" a))) = _
  rw [decide_eq_false h1, decide_eq_false h2]
  rfl
theorem Kinds.get {K : PySem.W.Frag} {w : World} {mg : Str → Option Value} {d : Addr} {es : Array DictEntry} {n : Nat} (Z : Kinds K w mg d es n) : ∃ u1 u2 : Tok, ∀ z : Str, PySem.W.nsIn K d z = if z = "exact" then some (some (.str "page" u1)) else if z = "open" then some (some (.str "section" u2)) else some none := by
  obtain ⟨e1, e2, t1, t2, u1, u2, he, k1, v1, k2, v2⟩ := Z.two
  refine ⟨u1, u2, fun z => ?_⟩
  unfold PySem.W.nsIn
  rw [Z.kd.at_]
  dsimp only
  rw [he]
  have s1 : e1.key.isStr z = decide (z = "exact") := by
    rw [k1]
    exact isStr_lit
  have s2 : e2.key.isStr z = decide (z = "open") := by
    rw [k2]
    exact isStr_lit
  have r1 : [e1, e2].any (·.refKey) = false := by
    simp [DictEntry.refKey, k1, k2]
  simp only [List.find?, s1, s2]
  by_cases h1 : z = "exact"
  · simp [h1, v1]
  · by_cases h2 : z = "open"
    · have n := open_exact
      simp [h2, v2, n]
    · simp [h1, h2, r1]
section
variable {P : Program} {w : World} {K : PySem.W.Frag} {mg : Str → Option Value} {base : Heap} {f : Addr} {fd : FuncData} {kd : Addr} {es : Array DictEntry} {kn : Nat}
def spRule (K : PySem.W.Frag) : Sp := fun vs H Q _ => ∃ (v : V) (d : PyData), vs = [v] ∧ Dd K H v d ∧ fitB d = true ∧ Q (.bl (ruleD d)) H
theorem scRu : FnScope ["value", "sort", "place", "answer"] ["value"] (defScope sRule) := ⟨rfl, rfl, rfl, by decide +kernel, rfl, by decide +kernel, by decide +kernel⟩
theorem ok_rule (Fd : Fun K "is_rule" "is_rule" sRule f fd) (T : Tx mg) (Z : Kinds K w mg kd es kn) (DP : Df P w K mg base 3 "is_place" ["value"] (spPlace K)) (DA : Df P w K mg base 4 "_is_answer" ["value", "own_kind"] (spAnswer K)) :
    FnOk P w K mg base CX0 5 f fd ["value"] (spRule K) := by
  refine Fd.ok scRu (fun vs H Q E h => ?_) (fun cdv A outer s H vs Q E hr h => ?_)
  · obtain ⟨v, d, rfl, _⟩ := h
    rfl
  · obtain ⟨v, d, rfl, hT, hf, q⟩ := h
    obtain ⟨u1, u2, hget⟩ := Z.get
    refine ⟨_, pss_cons (ps_if (PW.pt (pw_or (pt_not (pt_val (pe_callB (call_isa "tuple") (by rfl) T.isi bootN (pa_cons (pv 0) (pa_cons (pe_bltn (v := .ty "tuple") (by rfl) T.tuple (by decide +kernel) rfl) pa_nil)))))
        (pw_or1 (pt_cmpR op_ne (pe_callB call_len_seq (by rfl) T.len PySem.boot_len (pa_cons (pv 0) pa_nil)) pe_int (nomark _))))) (pss_one (ps_ret pe_bl)) pss_nil)
      (pss_cons (ps_asg (pv 0) (pg_tup rfl (pgs_cons (pg_name (i := 1) scRu.nd rfl (Or.inl rfl)) (pgs_cons (pg_name (i := 2) scRu.nd rfl (Or.inl rfl)) (pgs_cons (pg_name (i := 3) scRu.nd rfl (Or.inl rfl)) pgs_nil)))))
      (pss_cons (ps_if (PW.pt (pw_or (pt_not (pt_val (pe_callB (call_isa "str") (by rfl) T.isi bootN (pa_cons (pv 1) (pa_cons (pe_bltn (v := .ty "str") (by rfl) T.str (by decide +kernel) rfl) pa_nil)))))
        (pw_or1 (pt_cmpR (op_notIn_kd Z.kd) (pv 1) (pe_glob (v := .ref kd) (by rfl) Z.at_ rfl) rfl)))) (pss_one (ps_ret pe_bl)) pss_nil)
      (pss_one (ps_ret (pe_and (pe_df DP hr (pa_cons (pv 2) pa_nil)) (pe_one (pe_df DA hr (pa_cons (pv 3) (pa_cons (pe_ix ix_kdict (pe_glob (v := .ref kd) (by rfl) Z.at_ rfl) (pv 1) (fun _ _ => rfl)) pa_nil))))))))), ?_⟩
    refine ⟨_, rfl, _, rfl, _, _, hT.ty, kit_tuple d, _, rfl, ?_⟩
    cases d with
    | tuple ds =>
      obtain ⟨a, xs, rfl, hs, hl2, hi⟩ := hT.its
      have hfm := fit_mem hf
      refine iteF ⟨_, rfl, a, _, rfl, .inr hs, rfl, _, rfl, ?_⟩
      show if (!decide (V.int (xs.length : Int) = V.int ((3 : Nat) : Int))) = true then _ else _
      rw [len_is, hl2]
      have no : ruleD (.tuple ds) = false → Q (.bl false) H := fun e => by
        rw [e] at q
        exact q
      match ds, hl2, hi, hfm, q, no with
      | [], _, _, _, _, no => exact iteT (no rfl)
      | [_], _, _, _, _, no => exact iteT (no rfl)
      | [_, _], _, _, _, _, no => exact iteT (no rfl)
      | k :: n :: m :: b :: r2, _, _, _, _, no =>
        rw [decide_eq_false (by simp)]
        exact iteT (no rfl)
      | [k, p, b], hl2, hi, hfm, q, no =>
        match xs, hl2, hs, hi with
        | [x, y, z], _, hs, hi =>
          obtain ⟨d0, z0, D0⟩ := hi 0 x rfl
          cases z0
          obtain ⟨d1, z1, D1⟩ := hi 1 y rfl
          cases z1
          obtain ⟨d2, z2, D2⟩ := hi 2 z rfl
          cases z2
          refine iteF ⟨_, rfl, a, _, rfl, hs, rfl, _, _, rfl, _, _, rfl, _, _, rfl, ?_⟩
          refine ⟨rfl, ?_⟩
          refine ⟨_, rfl, _, rfl, _, _, D0.ty, kit_str k, _, rfl, ?_⟩
          cases k with
          | str s =>
            have es := D0.str_v
            subst es
            have go : ∀ (own : Str) (u : Value), PySem.W.nsIn K kd s = some (some u) → RelV (.str own) u → (placeD p && answerD own b) = ruleT (.str s) p b → tAndV (tDf (spPlace K) (tCons (tVar 2) tNil)) (tDf (spAnswer K) (tCons (tVar 3) (tCons (tOp (rIxD K w) (tC (.ref kd)) (tVar 1)) tNil)))
                [some (.ref a), some (.str s), some y, some z] H Q := fun own u e1 e2 e3 => by
              refine ⟨_, rfl, _, p, rfl, D1, fits_of (hfm _ (by simp)), _, rfl, ?_⟩
              have q : Q (.bl (ruleT (.str s) p b)) H := q
              rw [← e3] at q
              cases e : placeD p with
              | false =>
                rw [e] at q
                exact iteF q
              | true =>
                rw [e] at q
                refine iteT ⟨_, rfl, _, rfl, _, s, .str own, rfl, rfl, ⟨es, kn, u, Z.kd.at_, Z.kd.lit, e1, e2⟩, _, b, own, rfl, D2, hfm _ (by simp), q⟩
            by_cases h1 : s = "exact"
            · have e := (hget s).trans (if_pos h1)
              exact iteF ⟨_, rfl, s, _, rfl, rfl, e, _, rfl, iteF (go "page" _ e ⟨_, rfl⟩ (by rw [h1, ruleT_exact]))⟩
            · by_cases h2 : s = "open"
              · have e := (hget s).trans ((if_neg h1).trans (if_pos h2))
                exact iteF ⟨_, rfl, s, _, rfl, rfl, e, _, rfl, iteF (go "section" _ e ⟨_, rfl⟩ (by rw [h2, ruleT_open]))⟩
              · have e := (hget s).trans ((if_neg h1).trans (if_neg h2))
                exact iteF ⟨_, rfl, s, _, rfl, rfl, e, _, rfl, iteT (no (ruleT_none h1 h2 p b))⟩
          | _ => exact iteT (no rfl)
    | _ => exact iteT q
end
end K49
/-! A tuple many times; texts joined. -/
namespace Ld
open PySem L2 PyProof.Rows
/-- t * k, up to a hundred thousand items -/
def rRepL (K : PySem.W.Frag) : R2 := fun x y H Q => ∃ l k xs, x = .ref l ∧ y = .int (k : Nat) ∧ SqT K H l xs ∧ xs ≠ [] ∧ 2 ≤ k ∧ xs.length * k ≤ 100000 ∧ ∀ p, H p = none → Q (.ref p) (upd H p (.tup (List.replicate k xs).flatten))
theorem op_repL {X : Cx} : OpR X (binaryOp .Mult) (rRepL X.K) := by
  intro pins s σ H x y v u Q I rx ry h
  obtain ⟨l, k, xs, rfl, rfl, hT, hne, h2, hk, q⟩ := h
  cases rx
  obtain ⟨t, rfl⟩ := ry
  obtain ⟨its, r, ⟨⟨c, dd, dt, sl⟩, ho, (rfl : c = _), n, (rfl : dt = _)⟩, _⟩ := I.tuple hT
  have hlen : its.length = xs.length := r.length.symm
  have hpos : 0 < xs.length := List.length_pos_iff.mpr hne
  have hbig : k ≤ 100000 := Nat.le_trans (Nat.le_mul_of_pos_left k hpos) hk
  have emp : its.toArray.isEmpty = false := by
    cases its with
    | nil =>
      simp at hlen
      omega
    | cons _ _ => rfl
  have siz : its.toArray.size = xs.length := by rw [List.size_toArray, hlen]
  have prod : ((its.toArray.size : Nat) : Int) * (k : Int) = ((xs.length * k : Nat) : Int) := by
    rw [siz]
    exact (Int.natCast_mul _ _).symm
  have flat : (List.replicate k its).flatten.length = xs.length * k := by
    rw [PyProof.Rows.lm_len_rep_flat, hlen, Nat.mul_comm]
  have tk : ((k : Int)).toNat = k := Int.toNat_natCast k
  have one : (its.toArray.isEmpty || (k : Int) == 1) = false := by
    rw [emp]
    exact beq_eq_false_iff_ne.mpr (by omega)
  have zero : (decide ((k : Int) ≤ 0) || its.toArray.isEmpty) = false := by
    rw [emp, decide_eq_false (by omega)]
    rfl
  have wide : (decide ((k : Int) < -(2 ^ 63)) || decide ((k : Int) ≥ 2 ^ 63)) = false := by
    rw [decide_eq_false (show ¬ ((k : Int) < -(2 ^ 63)) by omega), decide_eq_false (show ¬ ((k : Int) ≥ 2 ^ 63) by omega)]
    rfl
  have many : Builtin.Tuple.tupleTooMany (((its.toArray.size : Nat) : Int) * (k : Int)) = false := by
    rw [prod]
    unfold Builtin.Tuple.tupleTooMany
    rw [sizeLine_eq]
    exact decide_eq_false (by omega)
  have room : (List.foldl (fun x1 x2 => x1 ++ x2) #[] (List.replicate (k : Int).toNat its.toArray)).size ≤ sizeLine := by
    rw [size_rep, List.size_toArray, tk, flat, sizeLine_eq]
    omega
  have far : ¬ ((its.toArray.size : Nat) : Int) * (k : Int) > (2 ^ 63 - 1) / 8 := by
    rw [prod]
    omega
  have ty : s.TypeIs (.ref l) "tuple" := ⟨_, ho, rfl⟩
  have done : EP X pins σ Q (Value.ref s.heap.objs.size) { s with heap := s.heap.push { cls := Value.type "tuple", data := Data.seq (List.foldl (fun x1 x2 => x1 ++ x2) #[] (List.replicate (k : Int).toNat its.toArray)) }, toks := s.toks } := by
    rw [size_rep, tk]
    refine ⟨.ref s.heap.objs.size, _, I.laid (t' := s.toks) (o := .tup (List.replicate k xs).flatten) (fun b ob e => Heap.get?_push_of_some _ e) (Nat.le_refl _) ⟨?_, _, r.rep k, IsTup.new _ _⟩, rfl, q _ (I.hok.fresh (Nat.le_refl _))⟩
    rw [PyProof.Rows.lm_len_rep_flat, Nat.mul_comm, sizeLine_eq]
    omega
  have mul := call_meets F.slot_tuple_mul ty F.entry_tuple_mul (F.args_tuple_mul_2 _ _) (tuple_mulW l its.toArray n dd sl (k : Int) t wide one zero far many room) (prog := X.prog) (w := X.w) (A := X.A) (E := X.xe) ⟨ho, done⟩
  exact wpAny_binaryOp_repeat_ref (T := "tuple") (U := "int") (by decide) ty (fun s' => typeIs_int s' _ t) noFill_tuple_mul F.fills_int_mul F.slot_int_rmul repeat_tuple F.slot_int_index.lookup
    (call_meets F.slot_int_rmul (typeIs_int s _ t) F.entry_int_rmul (F.args_int_rmul_2 _ _) (int_rmul_tuple _ t l its.toArray n dd sl) ⟨ho, rfl, ty, mul⟩)
theorem rep_one (x : V) : ∀ n : Nat, (List.replicate n [x]).flatten = List.replicate n x
  | 0 => rfl
  | n + 1 => by rw [List.replicate_succ, List.replicate_succ, List.flatten_cons, rep_one x n]; rfl
theorem join_asc : ∀ ws : List Str, (∀ z ∈ ws, ∀ c ∈ z.cps.toList, c < 128) → (Str.join (Str.ofString "") ws).length = (ws.map (·.length)).sum ∧ ∀ c ∈ (Str.join (Str.ofString "") ws).cps.toList, c < 128
  | [], _ => ⟨rfl, fun c hc => by cases hc⟩
  | [x], h => ⟨by show x.length = x.length + 0; omega, h x List.mem_cons_self⟩
  | x :: y :: r, h => by
    obtain ⟨h1, h2⟩ := join_asc (y :: r) fun z hz => h z (List.mem_cons_of_mem _ hz)
    have e : Str.join (Str.ofString "") (x :: y :: r) = x ++ Str.ofString "" ++ Str.join (Str.ofString "") (y :: r) := rfl
    rw [e]
    refine ⟨?_, fun c hc => ?_⟩
    · rw [strLen_append, strLen_append, h1]
      have e0 : (Str.ofString "").length = 0 := by decide +kernel
      rw [e0, List.map_cons (l := y :: r), List.sum_cons]
      omega
    · have hc : c ∈ ((x.cps ++ (Str.ofString "").cps) ++ (Str.join (Str.ofString "") (y :: r)).cps).toList := hc
      rw [Array.toList_append, Array.toList_append] at hc
      rcases List.mem_append.mp hc with g | g
      · rcases List.mem_append.mp g with g | g
        · exact h x List.mem_cons_self c g
        · have e0 : (Str.ofString "").cps.toList = [] := by decide +kernel
          rw [e0] at g
          cases g
      · exact h2 c g
theorem join_is (ws : List Str) : Txt.join (Str.ofString "") ws = Str.join (Str.ofString "") ws := PySem.StrLaws.glued_eq_join _ ws
theorem sum_le {ws : List Str} {b : Nat} (h : ∀ z ∈ ws, z.length ≤ b) : (ws.map (·.length)).sum ≤ b * ws.length := by
  induction ws with
  | nil => exact Nat.zero_le _
  | cons x r ih =>
    have h1 := h x List.mem_cons_self
    have h2 := ih fun z hz => h z (List.mem_cons_of_mem _ hz)
    rw [List.map_cons, List.sum_cons, List.length_cons, Nat.mul_add]
    omega
theorem good_int {K : PySem.W.Frag} {H : Hp} (i : Int) (h : i.natAbs < 2 ^ 64) : Good K H (.int i) := by
  have l : i.natAbs.log2 < 1920 := by
    by_cases z : i.natAbs = 0
    · rw [z]
      decide
    · exact Nat.lt_trans ((Nat.log2_lt z).mpr h) (by decide)
  refine ⟨.int i, .lf (.dat (.int i)), ⟨(fun z e => by cases e), (fun ds e => by cases e)⟩, ?_, by show 0 ≤ 40; decide, ?_⟩
  · simp only [PyData.showable]
    exact decide_eq_true l
  · simp only [PyData.shown]
    exact int_text_fits l
end Ld
/-! Order of tuples, texts many times, data of words. -/
namespace Ld
open PySem L2 PyProof.Rows
section
variable {X : Cx}
/-- a < b of data that is alike -/
def rLtD (K : PySem.W.Frag) : R2 := fun x y H Q => ∃ d e, Dp K H x d ∧ Dp K H y e ∧ PySem.W.alike d e = true ∧ d ≠ .none ∧ d.depth ≤ 64 ∧ Q (.bl (PySem.W.dataLt d e)) H
theorem op_ltD (hu : X.A.units + 64 < cLine) : OpR X (compareOp .Lt) (rLtD X.K) := by
  intro pins s σ H x y v u Q I rx ry h
  obtain ⟨d, e, hd, he, ha, hn, hp, q⟩ := h
  obtain ⟨as, r1⟩ := dp_reads I.hok I.kIn d x v hd rx
  obtain ⟨bs, r2⟩ := dp_reads I.hok I.kIn e y u he ry
  have m : min d.depth e.depth ≤ d.depth := Nat.min_le_left _ _
  exact PySem.W.rcLt_alike d e X.A s v u as bs r1 r2 ha hn (by omega) X.prog X.w X.xe _ ⟨.bl _, H, I, rfl, q⟩
/-- 'a' * n -/
def rMulS : R2 := fun x y H Q => ∃ (z : Str) (n : Nat), x = .str z ∧ y = .int (n : Int) ∧ z.length ≤ 1000 ∧ n ≤ 1000 ∧ Q (.str (Txt.mul z n)) H
theorem op_mulS : OpR X (binaryOp .Mult) rMulS := by
  intro pins s σ H x y v u Q I rx ry h
  obtain ⟨z, n, rfl, rfl, h1, h2, q⟩ := h
  obtain ⟨t, rfl⟩ := rx
  obtain ⟨t2, rfl⟩ := ry
  exact SB.mul (mulOk_of 1000 1000 h1 (by omega) (by omega) (by decide) (by decide)) fun t' k => ⟨.str _, H, I.tok k, ⟨t', rfl⟩, q⟩
/-- repr of a bool -/
def boolText (b : Bool) : Str := if b then "True" else "False"
theorem call_reprB : CallR X (.builtin "repr") (fun xs H Q => ∃ b, xs = [.bl b] ∧ Q (.str (boolText b)) H) := by
  intro pins s σ H xs us Q I r h
  obtain ⟨b, rfl, q⟩ := h
  obtain ⟨u, rfl, ru⟩ := vals1 r
  cases ru
  refine P.repr_of_bool ⟨.str (boolText b), H, I.tok _, ⟨s.toks, ?_⟩, q⟩
  unfold boolText
  cases b <;> rfl
end
section
variable {X : Cx} {K : PySem.W.Frag}
theorem sl_tupK (h : X.K = K := by rfl) : SlR X (rSlW K) := by
  subst h
  exact sl_tupW
def rTup (K : PySem.W.Frag) : List V → Hp → VK → Prop := fun xs H Q => ∃ p ys, xs = [.ref p] ∧ ((SqL K H p ys ∧ ∀ l, H l = none → Q (.ref l) (upd H l (.tup ys))) ∨ (SqT K H p ys ∧ Q (.ref p) H))
theorem call_tupK (h : X.K = K := by rfl) : CallR X (.type "tuple") (rTup K) := by
  subst h
  exact call_tuple_of
end
theorem boolText_inj (a b : Bool) : decide (V.str (boolText a) = V.str (boolText b)) = decide (a = b) := by
  cases a <;> cases b <;> decide +kernel
/-! ### tuples of words -/
def wt (ws : List Str) : PyData := .tuple (ws.map PyData.str)
theorem lay_words : ∀ {ws : List Str}, (∀ z ∈ ws, ∀ c ∈ z.cps.toList, c < 128) → PyData.canLayAll0 (ws.map PyData.str) = true
  | [], _ => rfl
  | z :: ws, h => by
    have h2 := lay_words fun y hy => h y (List.mem_cons_of_mem _ hy)
    have h1 : PyData.strOk z = true := by
      unfold PyData.strOk
      rw [arr_all]
      exact List.all_eq_true.mpr fun c hc => decide_eq_true (Nat.lt_trans (h z List.mem_cons_self c hc) (by decide))
    simp only [List.map_cons, PyData.canLayAll0, PyData.canLay0, h1, h2, Bool.and_self]
theorem depth_words : ∀ ws : List Str, PyData.depthAll (ws.map PyData.str) = 0
  | [] => rfl
  | z :: ws => by simp [PyData.depthAll, PyData.depth, depth_words ws]
theorem shaped_wt {ws : List Str} (h : ∀ z ∈ ws, ∀ c ∈ z.cps.toList, c < 128) : SeqAt.shaped (wt ws) = true := by
  unfold SeqAt.shaped wt
  simp only [PyData.canLay0, lay_words h, PyData.depth, depth_words]
  decide
theorem shaped_wl {ws : List Str} (h : ∀ z ∈ ws, ∀ c ∈ z.cps.toList, c < 128) : SeqAt.shaped (.list (ws.map PyData.str)) = true := by
  unfold SeqAt.shaped
  simp only [PyData.canLay0, lay_words h, PyData.depth, depth_words]
  decide
theorem eqv_words : ∀ ws us : List Str, PyData.eqvAll (ws.map PyData.str) (us.map PyData.str) = decide (ws = us)
  | [], [] => rfl
  | [], _ :: _ => rfl
  | _ :: _, [] => rfl
  | a :: ws, b :: us => by
    simp only [List.map_cons, PyData.eqvAll, eqv_words ws us, PyData.eqv]
    by_cases h1 : a = b
    · subst h1
      by_cases h2 : ws = us
      · subst h2
        simp
      · rw [decide_eq_false h2, decide_eq_false (fun e => h2 (List.cons.inj e).2), Bool.and_false]
    · have hb : (a == b) = false := beq_eq_false_iff_ne.mpr h1
      rw [decide_eq_false (fun e => h1 (List.cons.inj e).1)]
      first
        | rw [hb, Bool.false_and]
        | simp [hb, h1]
theorem eqv_wt (ws us : List Str) : PyData.eqv (wt ws) (wt us) = decide (ws = us) := by
  unfold wt
  simp only [PyData.eqv]
  exact eqv_words ws us
theorem eqv_wl (ws us : List Str) : PyData.eqv (.list (ws.map PyData.str)) (.list (us.map PyData.str)) = decide (ws = us) := by
  simp only [PyData.eqv]
  exact eqv_words ws us
/-! ### the order of addresses -/
def wordsLt : List Str → List Str → Bool
  | a :: ws, b :: us => if a = b then wordsLt ws us else decide (a.cps.toList < b.cps.toList)
  | [], b => !b.isEmpty
  | _ :: _, [] => false
def keyD (ws : List Str) : PyData := .tuple [.int ws.length, wt ws]
def keyLt (ws us : List Str) : Bool := if ws.length = us.length then wordsLt ws us else decide (ws.length < us.length)
theorem alike_words : ∀ ws us : List Str, PySem.W.alikeAll (ws.map PyData.str) (us.map PyData.str) = true
  | [], _ => by simp [PySem.W.alikeAll]
  | _ :: _, [] => by simp [PySem.W.alikeAll]
  | a :: ws, b :: us => by simp [PySem.W.alikeAll, PySem.W.alike, alike_words ws us]
theorem alike_key (ws us : List Str) : PySem.W.alike (keyD ws) (keyD us) = true := by
  simp [keyD, wt, PySem.W.alike, PySem.W.alikeAll, alike_words]
theorem cps_inj {a b : Str} (h : a.cps.toList = b.cps.toList) : a = b := PySem.W.str_of_cps h
theorem lt_words : ∀ ws us : List Str, lexLt itemOrd (PySem.W.keyToksAll (ws.map PyData.str)) (PySem.W.keyToksAll (us.map PyData.str)) = wordsLt ws us
  | [], [] => by decide
  | [], b :: us => by
    simp only [List.map_nil, List.map_cons, PySem.W.keyToksAll, wordsLt]
    rw [PySem.W.lex_atom (by decide)]
    rfl
  | a :: ws, [] => by
    simp only [List.map_nil, List.map_cons, PySem.W.keyToksAll, wordsLt]
    rw [PySem.W.lex_atom (by decide)]
    rfl
  | a :: ws, b :: us => by
    have al : PySem.W.alike (.str a) (.str b) = true := by simp [PySem.W.alike]
    unfold wordsLt
    by_cases h : a = b
    · subst h
      rw [if_pos rfl, List.map_cons, List.map_cons, PySem.W.dataLt_all_yes al (by simp [PyData.eqv])]
      exact lt_words ws us
    · rw [if_neg h, List.map_cons, List.map_cons, PySem.W.dataLt_all_no al (by simp [PyData.eqv, h]), PySem.W.dataLt_str]
theorem wordsLt_self : ∀ ws : List Str, wordsLt ws ws = false
  | [] => rfl
  | a :: ws => by
    unfold wordsLt
    rw [if_pos rfl]
    exact wordsLt_self ws
theorem lt_key (ws us : List Str) : PySem.W.dataLt (keyD ws) (keyD us) = keyLt ws us := by
  unfold keyD keyLt
  rw [PySem.W.dataLt_tuple]
  have al : PySem.W.alike (.int (ws.length : Int)) (.int (us.length : Int)) = true := by simp [PySem.W.alike]
  have al2 : PySem.W.alike (wt ws) (wt us) = true := by simp [wt, PySem.W.alike, alike_words]
  by_cases h : ws.length = us.length
  · rw [if_pos h, PySem.W.dataLt_all_yes al (by simp [PyData.eqv, h])]
    by_cases h2 : ws = us
    · subst h2
      rw [PySem.W.dataLt_all_yes al2 (by rw [eqv_wt]; simp)]
      rw [wordsLt_self]
      decide
    · rw [PySem.W.dataLt_all_no al2 (by rw [eqv_wt]; exact decide_eq_false h2)]
      unfold wt
      rw [PySem.W.dataLt_tuple]
      exact lt_words ws us
  · rw [if_neg h, PySem.W.dataLt_all_no al (by simp [PyData.eqv]; omega), PySem.W.dataLt_int]
    by_cases h3 : ws.length < us.length
    · rw [decide_eq_true h3, decide_eq_true (by omega)]
    · rw [decide_eq_false h3, decide_eq_false (by omega)]
end Ld
namespace K49
open PySem L2 Ld
abbrev sRest : Stmt := top 15
abbrev sKey : Stmt := top 16

section
variable {P : Program} {w : World} {K : PySem.W.Frag} {mg : Str → Option Value} {base : Heap} {f : Addr} {fd : FuncData}
theorem cut_lo (ws : List Str) (k : Nat) : cutV (ws.map V.str) none (some (k : Int)) = (ws.take k).map V.str := by
  unfold cutV
  rw [HT.sIx_none, HT.sIx_nat, List.drop_zero, Nat.sub_zero, List.length_map, ← List.map_take]
  by_cases h : k ≤ ws.length
  · rw [Nat.min_eq_left h]
  · rw [Nat.min_eq_right (by omega), List.take_of_length_le (Nat.le_refl _), List.take_of_length_le (by omega)]
theorem cut_hi (ws : List Str) (k : Nat) : cutV (ws.map V.str) (some (k : Int)) none = (ws.drop k).map V.str := by
  unfold cutV
  rw [HT.sIx_none, HT.sIx_nat, List.length_map]
  by_cases h : k ≤ ws.length
  · rw [Nat.min_eq_left h, ← List.map_drop, List.take_of_length_le (by simp)]
  · rw [Nat.min_eq_right (by omega), ← List.map_drop, List.drop_of_length_le (Nat.le_refl _), List.drop_of_length_le (by omega)]
    simp
theorem dp_wt {H : Hp} {a : Addr} {ws : List Str} (h : SqT K H a (ws.map V.str)) : Dp K H (.ref a) (wt ws) := .tup h (dp_strs ws)
def spRest (K : PySem.W.Frag) : Sp := fun vs H Q _ => ∃ (a b : Addr) (ws us : List Str), vs = [.ref a, .ref b] ∧ SqT K H a (ws.map V.str) ∧ SqT K H b (us.map V.str) ∧ ∀ r H', Same H H' → SqT K H' r ((ws.drop us.length).map V.str) → Q (.ref r) H'
theorem scRest : FnScope ["address", "beginning"] ["address", "beginning"] (defScope sRest) := ⟨rfl, rfl, rfl, by decide +kernel, rfl, by decide +kernel, by decide +kernel⟩
theorem ok_rest (Fd : Fun K "rest_of" "rest_of" sRest f fd) (T : Tx mg) : FnOk P w K mg base CX0 1 f fd ["address", "beginning"] (spRest K) := by
  refine Fd.ok scRest (fun vs H Q E h => ?_) (fun cdv A outer s H vs Q E hr h => ?_)
  · obtain ⟨a, b, ws, us, rfl, _⟩ := h
    rfl
  · obtain ⟨a, b, ws, us, rfl, ha, hb, q⟩ := h
    refine ⟨_, pss_one (ps_ret (pe_callTy call_tuple_of (by rfl) T.tuple (by decide +kernel) (pa_cons (pe_callTy call_list_of (by rfl) T.list (by decide +kernel) (pa_cons (pe_slice sl_tupW (pv 0) (po_some (pe_callB call_len_seq (by rfl) T.len PySem.boot_len (pa_cons (pv 1) pa_nil))) po_none) pa_nil)) pa_nil))), ?_⟩
    refine ⟨_, rfl, _, rfl, b, _, rfl, .inr hb, _, rfl, a, _, rfl, ha, fun r H1 s1 h1 => ?_⟩
    rw [List.length_map, cut_hi] at h1
    refine ⟨r, _, rfl, .inr h1, fun l hl => ?_⟩
    refine ⟨l, _, rfl, .inl ⟨.of upd_same, fun p hp => ?_⟩⟩
    exact q p _ (s1.trans ((Ld.Same.new hl).trans (Ld.Same.new hp))) (.of upd_same)
def spKey (K : PySem.W.Frag) : Sp := fun vs H Q _ => ∃ (a : Addr) (ws : List Str), vs = [.ref a] ∧ SqT K H a (ws.map V.str) ∧ ∀ r H', Same H H' → Dp K H' (.ref r) (keyD ws) → Q (.ref r) H'
theorem scKey : FnScope ["address"] ["address"] (defScope sKey) := ⟨rfl, rfl, rfl, by decide +kernel, rfl, by decide +kernel, by decide +kernel⟩
theorem ok_key (Fd : Fun K "address_key" "address_key" sKey f fd) (T : Tx mg) : FnOk P w K mg base CX0 1 f fd ["address"] (spKey K) := by
  refine Fd.ok scKey (fun vs H Q E h => ?_) (fun cdv A outer s H vs Q E hr h => ?_)
  · obtain ⟨a, ws, rfl, _⟩ := h
    rfl
  · obtain ⟨a, ws, rfl, ha, q⟩ := h
    refine ⟨_, pss_one (ps_ret (pe_tup (pa_cons (pe_callB call_len_seq (by rfl) T.len PySem.boot_len (pa_cons (pv 0) pa_nil)) (pa_cons (pe_callTy call_tuple_of (by rfl) T.tuple (by decide +kernel) (pa_cons (pv 0) pa_nil)) pa_nil)))), ?_⟩
    refine ⟨_, rfl, a, _, rfl, .inr ha, _, rfl, a, _, rfl, .inr ⟨ha, (show 2 ≤ sizeLine by decide), fun p hp => ?_⟩⟩
    have s1 := Same.new (o := .tup [.int (((ws.map V.str).length : Nat) : Int), .ref a]) hp
    refine q p _ s1 ?_
    rw [List.length_map]
    exact .tup (.of upd_same) (.cons (.int _) (.cons (dp_wt (same_T (by rw [List.length_map] at s1; exact s1) ha)) .nil))
/-- the beginnings, as data -/
def begD (ws : List Str) (n : Nat) : List PyData := (List.range n).map fun k => wt (ws.take k)
/-- tuples that stand -/
def Tups (K : PySem.W.Frag) (H : Hp) (ps : List Addr) (ws : List Str) : Prop := ∀ (j : Nat) (p : Addr), ps[j]? = some p → SqT K H p ((ws.take j).map V.str)
theorem tups_dp {H : Hp} {ws : List Str} : ∀ {ps : List Addr} {k : Nat}, (∀ (j : Nat) (p : Addr), ps[j]? = some p → SqT K H p ((ws.take (k + j)).map V.str)) → DpAll K H (ps.map V.ref) ((List.range' k ps.length).map fun k => wt (ws.take k))
  | [], k, _ => .nil
  | p :: ps, k, h => by
    show DpAll K H (V.ref p :: ps.map V.ref) ((List.range' k (ps.length + 1)).map fun k => wt (ws.take k))
    rw [List.range'_succ, List.map_cons]
    exact .cons (dp_wt (h 0 p rfl)) (tups_dp fun j q e => by
      have := h (j + 1) q (by simpa using e)
      rw [show k + (j + 1) = k + 1 + j from by omega] at this
      exact this)
theorem tups_beg {H : Hp} {ws : List Str} {ps : List Addr} (h : Tups K H ps ws) : DpAll K H (ps.map V.ref) (begD ws ps.length) := by
  unfold begD
  rw [List.range_eq_range']
  exact tups_dp (k := 0) fun j p e => by rw [Nat.zero_add]; exact h j p e
theorem sqT_list {H : Hp} {D p : Addr} {acc acc' xs : List V} (hD : H D = some (.lst acc)) (h : SqT K H p xs) : SqT K (upd H D (.lst acc')) p xs := by
  rcases h with (h | ⟨o, h⟩) | h
  · refine .inl (.inl ?_)
    rw [upd_ne (ne_of h hD (fun e => nomatch e))]
    exact h
  · refine .inl (.inr ⟨o, ?_⟩)
    rw [upd_ne (ne_of h hD (fun e => nomatch e))]
    exact h
  · exact .inr h
def spBegs (K : PySem.W.Frag) : Sp := fun vs H Q _ => ∃ (a : Addr) (ws : List Str), vs = [.ref a] ∧ SqT K H a (ws.map V.str) ∧ ws.length ≤ 12 ∧ ∀ r xs H', H r = none → Same H H' → H' r = some (.lst xs) → xs.length = ws.length + 1 → Dp K H' (.ref r) (.list (begD ws (ws.length + 1))) → Q (.ref r) H'
end
end K49
/-! Dicts whose keys are tuples of any depth. -/
namespace Ld
open PySem L2 PyProof.Rows
/-! ### keys -/
mutual
inductive NIs (K : PySem.W.Frag) (H : Hp) : NestedKey → V → Prop
  | none : NIs K H .none .non
  | num (i : Int) : NIs K H (.num i) (.int i)
  | text (x : Str) : NIs K H (.text x) (.str x)
  | tup {a : Addr} {xs : List V} {ks : List NestedKey} : SqT K H a xs → NAll K H ks xs → NIs K H (.tup ks) (.ref a)
inductive NAll (K : PySem.W.Frag) (H : Hp) : List NestedKey → List V → Prop
  | nil : NAll K H [] []
  | cons {k : NestedKey} {v : V} {ks : List NestedKey} {vs : List V} : NIs K H k v → NAll K H ks vs → NAll K H (k :: ks) (v :: vs)
end
section
variable {K : PySem.W.Frag} {H H' : Hp} {P : Program} {w : World} {h : Heap}
mutual
theorem nis_mono (hT : ∀ a xs, SqT K H a xs → SqT K H' a xs) : ∀ {k : NestedKey} {v : V}, NIs K H k v → NIs K H' k v
  | _, _, .none => .none
  | _, _, .num i => .num i
  | _, _, .text x => .text x
  | _, _, .tup a b => .tup (hT _ _ a) (nall_mono hT b)
theorem nall_mono (hT : ∀ a xs, SqT K H a xs → SqT K H' a xs) : ∀ {ks : List NestedKey} {vs : List V}, NAll K H ks vs → NAll K H' ks vs
  | _, _, .nil => .nil
  | _, _, .cons a b => .cons (nis_mono hT a) (nall_mono hT b)
end
theorem NIs.same {k : NestedKey} {v : V} (z : NIs K H k v) (s : Same H H') : NIs K H' k v := nis_mono (fun _ _ q => same_T s q) z
theorem NIs.sb {k : NestedKey} {v : V} {wa : Addr} (z : NIs K H k v) (W : Well H wa) (s : Sb wa H H') : NIs K H' k v := nis_mono (fun _ _ q => seqT W s q) z
mutual
theorem nis_is (ok : HOk P w H h) (kin : K.In h) : ∀ {k : NestedKey} {v : V} {u : Value}, NIs K H k v → RelV v u → NestedIs h k u
  | _, _, _, .none, r => by cases r; exact .none
  | _, _, _, .num i, r => by obtain ⟨t, rfl⟩ := r; exact .int i t
  | _, _, _, .text x, r => by obtain ⟨t, rfl⟩ := r; exact .text x t
  | _, _, _, .tup hs ha, r => by
    cases r
    rcases hs with hs | ⟨o, its, n, hk, hc, hs, hz, rv⟩
    · obtain ⟨z, its, rv, o, e', c, n, dt⟩ := hs.ok ok
      exact .tup e' c dt (by simpa using nall_is ok kin ha rv)
    · exact .tup (kin _ o hk) hc hs (by simpa using nall_is ok kin ha rv)
theorem nall_is (ok : HOk P w H h) (kin : K.In h) : ∀ {ks : List NestedKey} {vs : List V} {us : List Value}, NAll K H ks vs → Vals vs us → NestedAll h ks us
  | _, _, _, .nil, r => by cases r; exact .nil
  | _, _, _, .cons a b, r => by
    cases r with
    | cons r1 r2 => exact .cons (nis_is ok kin a r1) (nall_is ok kin b r2)
end
theorem nall_strs : ∀ ws : List Str, NAll K H (ws.map NestedKey.text) (ws.map V.str)
  | [] => .nil
  | w :: ws => .cons (.text w) (nall_strs ws)
end
/-! ### rows -/
abbrev Rw : Type := NestedKey × Addr × V
def KR (x : Rw) (y : NestedKey × Addr × Value) : Prop := x.1 = y.1 ∧ x.2.1 = y.2.1 ∧ RelV x.2.2 y.2.2
def kGet (xs : List Rw) (k : NestedKey) : Option V := (xs.find? fun x => decide (x.1 = k)).map (·.2.2)
def kSet (k : NestedKey) (v : V) (x : Rw) : Rw := if x.1 = k then (x.1, x.2.1, v) else x
def kPut (xs : List Rw) (k : NestedKey) (b : Addr) (v : V) : List Rw := if (kGet xs k).isSome then xs.map (kSet k v) else xs ++ [(k, b, v)]
theorem kGet_cons (x : Rw) (xs : List Rw) (k : NestedKey) : kGet (x :: xs) k = if x.1 = k then some x.2.2 else kGet xs k := by
  unfold kGet
  by_cases h : x.1 = k
  · simp [List.find?, h]
  · simp [List.find?, h]
theorem at_cons (y : NestedKey × Addr × Value) (ys : List (NestedKey × Addr × Value)) (k : NestedKey) : atKey (y :: ys) k = if y.1 = k then some y.2 else atKey ys k := by
  unfold atKey
  by_cases h : y.1 = k
  · simp [List.find?, h]
  · simp [List.find?, h]
theorem rows_get (k : NestedKey) : ∀ {xs : List Rw} {ys : List (NestedKey × Addr × Value)}, Paired KR xs ys → (atKey ys k).isSome = (kGet xs k).isSome ∧ ∀ v, kGet xs k = some v → ∃ p, atKey ys k = some p ∧ RelV v p.2
  | [], _, r => by
    cases r
    exact ⟨rfl, fun v e => by cases e⟩
  | x :: xs, _, r => by
    cases r with
    | @cons _ y _ ys a b =>
      obtain ⟨e1, e2, e3⟩ := a
      rw [kGet_cons, at_cons, ← e1]
      by_cases h : x.1 = k
      · rw [if_pos h, if_pos h]
        exact ⟨rfl, fun v e => ⟨_, rfl, by cases e; exact e3⟩⟩
      · rw [if_neg h, if_neg h]
        exact rows_get k b
theorem paired_append {α β : Type} {F : α → β → Prop} : ∀ {as cs : List α} {bs ds : List β}, Paired F as bs → Paired F cs ds → Paired F (as ++ cs) (bs ++ ds)
  | _, _, _, _, .nil, h => h
  | _, _, _, _, .cons a b, h => .cons a (paired_append b h)
theorem rows_set (k : NestedKey) {v : V} {u : Value} (r : RelV v u) : ∀ {xs : List Rw} {ys : List (NestedKey × Addr × Value)}, Paired KR xs ys → Paired KR (xs.map (kSet k v)) (ys.map (putAt k u))
  | _, _, .nil => .nil
  | _, _, .cons (a := x) (b := y) a b => by
    obtain ⟨e1, e2, e3⟩ := a
    refine .cons ?_ (rows_set k r b)
    unfold kSet putAt
    rw [← e1]
    by_cases h : x.1 = k
    · rw [if_pos h, if_pos h]
      exact ⟨rfl, e2, r⟩
    · rw [if_neg h, if_neg h]
      exact ⟨e1, e2, e3⟩
theorem rows_put (k : NestedKey) (b : Addr) {v : V} {u : Value} (r : RelV v u) {xs : List Rw} {ys : List (NestedKey × Addr × Value)} (p : Paired KR xs ys) : Paired KR (kPut xs k b v) (storedH ys k b u) := by
  unfold kPut storedH
  rw [(rows_get k p).1]
  split
  · exact rows_set k r p
  · exact paired_append p (.cons ⟨rfl, rfl, r⟩ .nil)
theorem kPut_len (xs : List Rw) (k : NestedKey) (b : Addr) (v : V) : (kPut xs k b v).length ≤ xs.length + 1 := by
  unfold kPut
  split <;> simp
/-! ### the dict -/
def kdO (P : Program) (w : World) (d : Addr) (xs : List Rw) : HO := .ext fun h => ∃ ys : List (NestedKey × Addr × Value), Paired KR xs ys ∧ ∃ o es ep, h.get? d = some o ∧ o.ExactDict ∧ o.data = .dict es ep ∧ es.toList = ys.map (entryOfKey (nestedKind P w)) ∧ (ys.map (·.1)).Nodup
theorem kdO_ok {P : Program} {w : World} {H : Hp} {h : Heap} {d : Addr} {xs : List Rw} {ys : List (NestedKey × Addr × Value)} (p : Paired KR xs ys) (m : h.DictOfH (nestedKind P w) d ys) : ObjOk P w H h d (kdO P w d xs) := by
  obtain ⟨o, es, ep, ho, hc, hd, he, _, hn⟩ := m
  refine ⟨⟨ys, p, o, es, ep, ho, hc, hd, he, hn⟩, ⟨o, ho⟩, fun h1 h2 z kp => ?_⟩
  obtain ⟨ys, p, o, es, ep, ho, r⟩ := z
  exact ⟨ys, p, o, es, ep, kp o ho, r⟩
/-- at d: a dict of the rows xs -/
structure KD (P : Program) (w : World) (K : PySem.W.Frag) (H : Hp) (d : Addr) (xs : List Rw) : Prop where
  at_ : H d = some (kdO P w d xs)
  low : (d == sysModules) = false -- apart from the modules
  few : xs.length ≤ 1000
  key : ∀ x ∈ xs, NIs K H x.1 (.ref x.2.1) ∧ x.1.depth ≤ 8
theorem kdO_ne {P : Program} {w : World} {d : Addr} {xs : List Rw} {o : HO} (n : ∀ φ, HO.ext φ ≠ o) : kdO P w d xs ≠ o := n _
section
variable {P : Program} {w : World} {K : PySem.W.Frag} {H H' : Hp} {h : Heap} {d : Addr} {xs : List Rw}
theorem KD.same (z : KD P w K H d xs) (s : Same H H') : KD P w K H' d xs := ⟨s _ _ z.at_, z.low, z.few, fun x hx => ⟨(z.key x hx).1.same s, (z.key x hx).2⟩⟩
theorem KD.sb {wa : Addr} (z : KD P w K H d xs) (W : Well H wa) (s : Sb wa H H') : KD P w K H' d xs := ⟨s _ _ (W.ne z.at_ trivial) z.at_, z.low, z.few, fun x hx => ⟨(z.key x hx).1.sb W s, (z.key x hx).2⟩⟩
theorem KD.dict (z : KD P w K H d xs) (ok : HOk P w H h) (kin : K.In h) : ∃ ys, Paired KR xs ys ∧ h.DictOfH (nestedKind P w) d ys := by
  have x : ObjOk P w H h d (kdO P w d xs) := ok d _ z.at_
  obtain ⟨⟨ys, p, o, es, ep, ho, hc, hd, he, hn⟩, _⟩ := x
  refine ⟨ys, p, o, es, ep, ho, hc, hd, he, fun y hy => ?_, hn⟩
  have key : ∀ {l : List Rw} {m : List (NestedKey × Addr × Value)}, Paired KR l m → ∀ y ∈ m, ∃ x ∈ l, KR x y := by
    intro l m q
    induction q with
    | nil => exact fun y hy => nomatch hy
    | cons a b ih =>
      intro y hy; rcases List.mem_cons.mp hy with e | e
      · rw [e]
        exact ⟨_, List.mem_cons_self, a⟩
      · obtain ⟨x, h1, h2⟩ := ih y e
        exact ⟨x, List.mem_cons_of_mem _ h1, h2⟩
  obtain ⟨x, hx, e1, e2, e3⟩ := key p y hy
  rw [← e1, ← e2]
  exact ⟨nis_is ok kin (z.key x hx).1 rfl, (z.key x hx).2⟩
end
section
variable {X : Cx}
theorem kroom (hu : X.A.units + 16 < cLine) : (nestedKind X.prog X.w).room X.A.in1 := by
  show X.A.units + 1 + 8 < cLine
  omega
/-- key in d -/
def rInN (P : Program) (w : World) (K : PySem.W.Frag) : R2 := fun x y H Q => ∃ (b d : Addr) (k : NestedKey) (xs : List Rw), x = .ref b ∧ y = .ref d ∧ NIs K H k (.ref b) ∧ k.depth ≤ 8 ∧ KD P w K H d xs ∧ Q (.bl (kGet xs k).isSome) H
theorem op_inN (hu : X.A.units + 16 < cLine) : OpR X (compareOp .In) (rInN X.prog X.w X.K) := by
  intro pins0 s0 σ0 H0 x0 y0 v0 u0 Q0 I0 rx0 ry0 ⟨b, d, k, xs, e1, e2, hk, hd, z, q0⟩
  subst e1 e2
  cases rx0
  cases ry0
  obtain ⟨ys, p, m⟩ := z.dict I0.hok I0.kIn
  refine wpAny_in_heap (kroom hu) ⟨nis_is I0.hok I0.kIn hk rfl, hd⟩ z.low m ?_
  rw [(rows_get k p).1]
  exact ⟨.bl _, H0, I0.tok _, rfl, q0⟩
/-- d[key] -/
theorem ix_kd (hu : X.A.units + 16 < cLine) : IxR X (fun x y H Q => ∃ (b d : Addr) (k : NestedKey) (xs : List Rw) (v : V), x = .ref d ∧ y = .ref b ∧ NIs X.K H k (.ref b) ∧ k.depth ≤ 8 ∧ KD X.prog X.w X.K H d xs ∧ kGet xs k = some v ∧ Q v H) := by
  intro value slice pins0 s0 σ0 H0 x0 y0 v0 u0 Q0 I0 rx0 ry0 ⟨b, d, k, xs, v, e1, e2, hk, hd, z, hv, q0⟩ hs0
  subst e1 e2
  cases rx0
  cases ry0
  obtain ⟨ys, p, m⟩ := z.dict I0.hok I0.kIn
  obtain ⟨pp, hp, rp⟩ := (rows_get k p).2 v hv
  exact tail_any m.typeIs slot_dict_getitem.lookup (wpAny_getItem_heap (kroom hu) ⟨nis_is I0.hok I0.kIn hk rfl, hd⟩ m hp ⟨v, H0, I0.tok _, rp, q0⟩) hs0
/-- {} of this kind -/
theorem pe_dnewN {pos : Pos} : PE X (.Dict [] [] pos) (fun _ H Q => ∀ d, H d = none → (d == sysModules) = false → Q (.ref d) (upd H d (kdO X.prog X.w d []))) := ⟨fun pins0 s0 σ0 H0 Q0 I0 h0 =>
  wpAny_Dict_empty ⟨.ref s0.heap.objs.size, _, I0.laid (a := s0.heap.objs.size) (o := kdO X.prog X.w s0.heap.objs.size []) (t' := s0.toks) (fun b0 o0 q => Heap.get?_push_of_some _ q) (Nat.le_refl _) (kdO_ok .nil (Heap.DictOfH.new s0.heap)), rfl, h0 _ I0.fresh (beq_eq_false_iff_ne.mpr (Nat.ne_of_gt I0.big))⟩⟩
/-- d[key] = v -/
def putN (P : Program) (w : World) (K : PySem.W.Frag) : TSet := fun o i v H Q => ∃ (b d : Addr) (k : NestedKey) (xs : List Rw), o = .ref d ∧ i = .ref b ∧ NIs K H k (.ref b) ∧ k.depth ≤ 8 ∧ KD P w K H d xs ∧ Q (upd H d (kdO P w d (kPut xs k b v)))
theorem pset_kd (hu : X.A.units + 16 < cLine) : PSet X (putN X.prog X.w X.K) := by
  intro pins0 s0 σ0 H0 o0 i0 v0 ov iv u0 Q0 I0 ro ri rv ⟨b, d, k, xs, e1, e2, hk, hd, z, q0⟩
  subst e1 e2
  cases ro
  cases ri
  obtain ⟨ys, p, m⟩ := z.dict I0.hok I0.kIn
  have ln : ys.length ≤ sizeLine := by
    rw [← p.length]
    exact Nat.le_trans z.few (by decide)
  refine wpAny_setItem_heap (hsz := ln) (kroom hu) ⟨nis_is I0.hok I0.kIn hk rfl, hd⟩ m fun h1 m1 sb => ?_
  have ex : ∃ q, h1.get? d = some q := let ⟨q, _, _, hq, _⟩ := m1; ⟨q, hq⟩
  exact ⟨_, d_write (t' := s0.toks + (nestedKind X.prog X.w).draws k) I0 (by rw [z.at_]; exact True.intro) sb ex (kdO_ok (rows_put k b rv p) m1), q0⟩
theorem dset_kd {pins : List (Addr × Obj)} {σ : L2.St} {H : Hp} {s : Shared} {E : Value → Shared → Prop} {b d : Addr} {k : NestedKey} {xs : List Rw} {v : V} {u : Value} {Q : Unit → Shared → Prop} (hu : X.A.units + 16 < cLine) (I : Inv X pins σ H s) (hk : NIs X.K H k (.ref b)) (hd : k.depth ≤ 8) (z : KD X.prog X.w X.K H d xs)
    (rv : RelV v u) (q : ∀ s1, Inv X pins σ (upd H d (kdO X.prog X.w d (kPut xs k b v))) s1 → Q () s1) : wpAny (model X.prog X.w) X.A (dictSet d (.ref b) u) Q E s := by
  obtain ⟨ys, p, m⟩ := z.dict I.hok I.kIn
  have ln : ys.length ≤ sizeLine := by
    rw [← p.length]
    exact Nat.le_trans z.few (by decide)
  refine wpAny_dictSet_heap (knd := nestedKind X.prog X.w) (hsz := ln) (show X.A.units + 8 < cLine by omega) ⟨nis_is I.hok I.kIn hk rfl, hd⟩ m fun h1 m1 sb => q _ ?_
  have ex : ∃ q, h1.get? d = some q := let ⟨q, _, _, hq, _⟩ := m1; ⟨q, hq⟩
  exact d_write (t' := s.toks + (nestedKind X.prog X.w).draws k) I (by rw [z.at_]; exact True.intro) sb ex (kdO_ok (rows_put k b rv p) m1)
end
end Ld
/-! {k: v for ..}, the keys tuples of any depth. -/
namespace Ld
open L2 PySem PySem.Spec PyProof.Rows
/-- one more row -/
def moreN (P : Program) (w : World) (K : PySem.W.Frag) (D : Addr) (y z : V) (H : Hp) (Nx : Hp → Prop) : Prop := ∃ (b : Addr) (k : NestedKey) (rs : List Rw), y = .ref b ∧ NIs K H k (.ref b) ∧ k.depth ≤ 8 ∧ KD P w K H D rs ∧ Nx (upd H D (kdO P w D (kPut rs k b z)))
def tDcN (P : Program) (w : World) (K : PySem.W.Frag) (wi : TI) (g : TG) (tk tv : TE) (own : List Nat) : TE := fun σ H Q => wi σ H fun J H1 => ∀ D, H1 D = none → (D == sysModules) = false → ∃ W : Nat → Nat → Hp → Prop, (∃ m, W 0 m (upd H1 D (kdO P w D []))) ∧ ∀ i m G, W i m G →
  (J.stop i G ∧ Q (.ref D) G) ∨ (J.go i G ∧ ∃ Nx : Hp → Prop, (∀ G', Nx G' → ∃ m', m' < m ∧ W (i + 1) m' G') ∧ ∀ x G', J.yld i G x G' → g x (wipe σ own) G' fun σ2 G2 => wipe σ2 own = wipe σ own ∧ tk σ2 G2 fun y G4 => tv σ2 G4 fun z G5 => moreN P w K D y z G5 Nx)
section
variable {X : Cx}
theorem dcN_core {pins0 : List (Addr × Obj)} {s0 : Shared} {σ0 : L2.St} {H0 : Hp} {Q0 : VK} {kx vx tg iter : Expr} {scope : Scope} {own : List (Str × Nat)} {pos pos2 : Pos} {wi : TI} {g : TG} {tk tv : TE} {use : Option (Value → Sem Unit)} {Qf : Value → Shared → Prop} (hu : X.A.units + 16 < cLine) (hc : X.calm = true) (hN : X.N.Nodup)
    (I0 : Inv X pins0 σ0 H0 s0) (hi : PI X tg iter wi) (ok : BlkOk X.N X.env.scope scope own)
    (hg : ∀ (s : Shared) (H : Hp) (C : Addr) (cl : List (Str × Addr)) (fp : List Addr), PG (X.blk s H scope (compEnvC scope cl C X.env) fp) tg g)
    (hk : ∀ (s9 : Shared) (H9 : Hp) (C9 : Addr) (cl : List (Str × Addr)) (fp : List Addr), PE (X.blk s9 H9 scope (compEnvC scope cl C9 X.env) fp) kx tk)
    (he : ∀ (s9 : Shared) (H9 : Hp) (C9 : Addr) (cl : List (Str × Addr)) (fp : List Addr), PE (X.blk s9 H9 scope (compEnvC scope cl C9 X.env) fp) vx tv) (hs : ∀ x, foldedSetIterable iter X.env x = pure x)
    (h0 : tDcN X.prog X.w X.K wi g tk tv (own.map (·.2)) σ0 H0 Q0)
    (back : ∀ D C s' m H', Inv X pins0 σ0 H' s' → Q0 (.ref D) H' → s'.heap.Ns C m → FpOk X pins0 H' C → compPost (model X.prog X.w) X.A X.xe use Qf (.ref D) C (.ok .next) s') :
    wpAny (model X.prog X.w) X.A (comprehension (.DictComp kx vx [⟨tg, iter, [], 0⟩] scope pos) scope X.env pos2 newDict false (eval iter X.env) use) Qf X.xe s0 := by
  have cells0 : ∀ y ∈ scope.names, y.2 = .free → ∃ c, X.env.cells.lookup y.1 = some c := fun y hy e => (ok.free y hy e).elim (fun q => I0.ok.has _ (.inl q)) fun q => I0.ok.has _ (.inr q)
  refine wpAny_comprehension_free (use := use) rfl hs (closure_ok cells0) ok.kind (fun y hy e => by rw [ok.uniq y hy, e]) (thn (hi.run pins0 s0 σ0 H0 _ I0 h0) fun xv s1 hx => thn hx fun itv s2 h2 => ?_)
  obtain ⟨it, fp, tn, J, H2, e2, I2, T, st2, f2, q2⟩ := h2
  subst e2
  refine wpAny_newObj_type (newEnv_comp ?block); have low2 : (s2.heap.objs.size == sysModules) = false := beq_eq_false_iff_ne.mpr (Nat.ne_of_gt I2.big)
  obtain ⟨W, ⟨m0, w0⟩, turn⟩ := q2 _ I2.fresh low2
  have J3 : Inv X pins0 σ0 (upd H2 s2.heap.objs.size (kdO X.prog X.w s2.heap.objs.size [])) { s2 with heap := s2.heap.push { cls := .type "dict", data := .dict #[] } } :=
    I2.laid (t' := s2.toks) (fun b0 o0 q => Heap.get?_push_of_some _ q) (Nat.le_refl _) (kdO_ok .nil (Heap.DictOfH.new s2.heap))
  have old2 : ∀ b ∈ fp, b < s2.heap.objs.size := fun b hb => let ⟨_, e, _⟩ := T.obj _ _ st2 b hb; Heap.lt_size e
  have fp3 : ∀ b ∈ fp, FpOk X pins0 (upd H2 s2.heap.objs.size (kdO X.prog X.w s2.heap.objs.size [])) b ∧ b < (s2.heap.push { cls := .type "dict", data := .dict #[] }).objs.size := fun b hb =>
    ⟨⟨by rw [upd_ne (Nat.ne_of_lt (old2 b hb))]; exact (f2 b hb).1, (f2 b hb).2⟩, by rw [Heap.size_push]; exact Nat.lt_succ_of_lt (old2 b hb)⟩
  have st3 : tn 0 (s2.heap.push { cls := .type "dict", data := .dict #[] }) := T.keep _ _ _ st2 fun b _ o e => Heap.get?_push_of_some _ e
  generalize hD : s2.heap.objs.size = D at *
  generalize hH3 : upd H2 D (kdO X.prog X.w D []) = H3 at *
  generalize hs3 : ({ s2 with heap := s2.heap.push { cls := .type "dict", data := .dict #[] } } : Shared) = s3 at J3 ⊢
  have hp3 : s3.heap = s2.heap.push { cls := .type "dict", data := .dict #[] } := by rw [← hs3]
  rw [← hp3] at fp3 st3
  have B4 := block_start J3 ok hN fp3
  have gg := hg s3 H3 s3.heap.objs.size (cellsFrom (s3.heap.objs.size + 1) scope.names (cloFrom X.env.cells scope.names [])) fp
  have gk := hk s3 H3 s3.heap.objs.size (cellsFrom (s3.heap.objs.size + 1) scope.names (cloFrom X.env.cells scope.names [])) fp
  have ge := he s3 H3 s3.heap.objs.size (cellsFrom (s3.heap.objs.size + 1) scope.names (cloFrom X.env.cells scope.names [])) fp
  show codeAny _ _ (.compStart (.DictComp kx vx [⟨tg, iter, [], 0⟩] scope pos) 0 (.ref it) (.ref D) (compEnvC scope (cellsFrom (s3.heap.objs.size + 1) scope.names (cloFrom X.env.cells scope.names [])) s3.heap.objs.size X.env)) (compPost (model X.prog X.w) X.A X.xe use Qf (.ref D) s3.heap.objs.size) { s3 with heap := pushCells (s3.heap.push { cls := .type "dict", data := .dict #[] }) scope.names }
  generalize hce : compEnvC scope (cellsFrom (s3.heap.objs.size + 1) scope.names (cloFrom X.env.cells scope.names [])) s3.heap.objs.size X.env = ce at B4 gg gk ge ⊢
  have ceL : ce.locals = s3.heap.objs.size := by rw [← hce]; rfl
  generalize hs4 : ({ s3 with heap := pushCells (s3.heap.push { cls := .type "dict", data := .dict #[] }) scope.names } : Shared) = s4 at B4 ⊢
  have st4 : tn 0 s4.heap := T.keep _ _ _ st3 fun b0 _ o0 e0 => by rw [← hs4]; exact pushCells_keeps _ _ _ _ (Heap.get?_push_of_some _ e0)
  have apart : ∀ {σ' : L2.St} {H' : Hp} {s' : Shared}, Inv (X.blk s3 H3 scope ce fp) [] σ' H' s' → (∀ b ∈ fp, H' b = none) → ∀ b ∈ fp, FpOk (X.blk s3 H3 scope ce fp) [] H' b := fun {σ' H' s'} I' hn b hb =>
    ⟨hn b hb, (I'.ok.exf b hb).1, I'.ok.exfs b hb, .inl hb, (I'.ok.exf b hb).2, fun q hq => absurd (show q ∈ ([] : List (Addr × Obj)) ++ [] from hq) (by simp)⟩
  have loop : codeAny (model X.prog X.w) X.A (.compLoop (.DictComp kx vx [⟨tg, iter, [], 0⟩] scope pos) 0 (.ref it) (.ref D) ce) (compPost (model X.prog X.w) X.A X.xe use Qf (.ref D) s3.heap.objs.size) s4 := by
    refine compLoop_anyD (fun n s' => ∃ i G, Inv (X.blk s3 H3 scope ce fp) [] (wipe σ0 (own.map (·.2))) G s' ∧ tn i s'.heap ∧ (∀ b ∈ fp, G b = none) ∧ W i n G) ?_ m0 ⟨0, H3, B4, st4, fun b hb => (fp3 b hb).1.1, w0⟩
    rintro n s5 ⟨i, G, B5, st5, n5, w5⟩
    rcases turn i n G w5 with ⟨stop, qq⟩ | ⟨go, Nx, hNx, step⟩
    · refine thnF (T.done (X.blk s3 H3 scope ce fp) rfl rfl rfl hc i [] s5 _ G (fun _ _ => False) B5 (apart B5 n5) st5 stop) fun r s6 ⟨hr, B6⟩ => ?_
      subst hr
      have I7 : Inv X pins0 σ0 G s6 := J3.call' (ch := fp) B6.os B6.base B6.hok B6.bare fun b hb => ⟨(fp3 b hb).1.2.2.2.1, (fp3 b hb).1.2.1, (fp3 b hb).1.2.2.2.2.1, (fp3 b hb).1.2.2.2.2.2⟩
      have nC : G s3.heap.objs.size = none := by
        have z : G ce.locals = none := B6.free
        rw [ceL] at z
        exact z
      obtain ⟨m, hn, _⟩ := B6.loc
      have hn : s6.heap.Ns s3.heap.objs.size m := ceL ▸ (show s6.heap.Ns ce.locals m from hn)
      exact back D s3.heap.objs.size s6 m G I7 qq hn (J3.fpOk (Nat.le_refl _) nC)
    · refine thnF (T.item (X.blk s3 H3 scope ce fp) rfl rfl rfl hc i [] s5 _ G (fun _ _ => False) B5 (apart B5 n5) st5 go) fun r s6 ⟨u, hr, h6⟩ => ?_
      subst hr
      refine thnF h6 fun _ s7 ⟨x, G7, B7, r7, y7, st7, n7⟩ => ?_
      refine thnF (gg.run _ s7 _ G7 x u _ (B7.pinned (apart B7 n7) (T.obj _ _ st7)) r7 (step x G7 y7)) fun _ s8 ⟨σ8, G8, B8, hw8, q8⟩ => ?_
      refine thnF ((pts_nil (X := X.blk s3 H3 scope ce fp)).run _ s8 σ8 G8 (fun b G9 => b = true ∧ G9 = G8) B8 ⟨rfl, rfl⟩) fun b s9 ⟨G9, B9, eb, eG⟩ => ?_
      subst eb eG
      refine thnF (gk.run _ s9 σ8 _ _ B9 q8) fun z1 s10 ⟨yk, G10, B10, r10, q10⟩ => ?_
      refine thnF (ge.run _ s10 σ8 G10 _ B10 q10) fun z2 s11 ⟨yv, G11, B11, r11, kb, kk, rs, ek, hkk, hkd, hkD, nx⟩ => ?_
      subst ek
      cases r10
      refine dset_kd (X := X.blk s3 H3 scope ce fp) hu B11 hkk hkd hkD r11 fun s12 B12 => ?_
      obtain ⟨m', hm, w'⟩ := hNx _ nx
      have pin' : ∀ b ∈ fp, ∀ o, s7.heap.get? b = some o → s12.heap.get? b = some o ∧ (upd G11 D (kdO X.prog X.w D (kPut rs kk kb yv))) b = none := fun b hb o e =>
        let z := B12.pin (b, o) (List.mem_append_right _ (List.mem_append_right _ (mem_pinsAt hb e)))
        ⟨z.1, z.2.1⟩
      have hl : (wipe σ0 (own.map (·.2))).length = σ8.length := by rw [← hw8, wipe_length]
      refine ⟨m', hm, i + 1, _, (B12.unpinned (pins := [])).weak hl (fun j v e => ?_), T.keep _ _ _ st7 fun b hb o e => (pin' b hb o e).1, fun b hb => ?_, w'⟩
      · rw [← hw8] at e
        exact (wipe_some e).1
      · exact let ⟨o7, e7, _⟩ := T.obj _ _ st7 b hb; (pin' b hb o7 e7).2
  exact codeAny_compStart_dict loop  (T.self (X.A) 0 _ _ _ (st4) loop)
theorem pe_dcN {kx vx tg iter : Expr} {scope : Scope} {own : List (Str × Nat)} {pos : Pos} {wi : TI} {g : TG} {tk tv : TE} (hu : X.A.units + 16 < cLine) (hc : X.calm = true) (hN : X.N.Nodup) (hi : PI X tg iter wi) (ok : BlkOk X.N X.env.scope scope own)
    (hg : ∀ (s : Shared) (H : Hp) (C : Addr) (cl : List (Str × Addr)) (fp : List Addr), PG (X.blk s H scope (compEnvC scope cl C X.env) fp) tg g)
    (hk : ∀ (s9 : Shared) (H9 : Hp) (C9 : Addr) (cl : List (Str × Addr)) (fp : List Addr), PE (X.blk s9 H9 scope (compEnvC scope cl C9 X.env) fp) kx tk)
    (he : ∀ (s9 : Shared) (H9 : Hp) (C9 : Addr) (cl : List (Str × Addr)) (fp : List Addr), PE (X.blk s9 H9 scope (compEnvC scope cl C9 X.env) fp) vx tv) (hs : ∀ x, foldedSetIterable iter X.env x = pure x := by intro _; rfl) :
    PE X (.DictComp kx vx [⟨tg, iter, [], 0⟩] scope pos) (tDcN X.prog X.w X.K wi g tk tv (own.map (·.2))) := by
  refine ⟨fun pins0 s0 σ0 H0 Q0 I0 h0 => ?_⟩
  rw [arm_eval_DictComp]
  refine dcN_core hu hc hN I0 hi ok hg hk he hs h0 fun D C s1 m G I1 q hn f => ⟨m, hn, fun h2 sb => ?_⟩
  obtain ⟨f0, f1, f2', f3, f4, f5⟩ := f
  exact ⟨.ref D, G, I1.turned (t' := s1.toks) (fun b o hb e => (sb.2 b hb).trans e) f0 f1 f3 f4 f5, rfl, q⟩
/-- name = {..} on one line -/
theorem ps_setDcN {i : Nat} {y : Str} {py : Pos} {kx vx tg iter : Expr} {scope : Scope} {own : List (Str × Nat)} {pos spos : Pos} {wi : TI} {g : TG} {tk tv : TE} (hu : X.A.units + 16 < cLine) (hc : X.calm = true) (hN : X.N.Nodup) (hy : X.N[i]? = some y) (hyl : X.env.scope.names.lookup y = some .local)
    (hsw : swapsWith (.DictComp kx vx [⟨tg, iter, [], 0⟩] scope pos) (some (.Name y py)) spos.line X.env = pure true) (hi : PI X tg iter wi) (ok : BlkOk X.N X.env.scope scope own)
    (hg : ∀ (s : Shared) (H : Hp) (C : Addr) (cl : List (Str × Addr)) (fp : List Addr), PG (X.blk s H scope (compEnvC scope cl C X.env) fp) tg g)
    (hk : ∀ (s9 : Shared) (H9 : Hp) (C9 : Addr) (cl : List (Str × Addr)) (fp : List Addr), PE (X.blk s9 H9 scope (compEnvC scope cl C9 X.env) fp) kx tk)
    (he : ∀ (s9 : Shared) (H9 : Hp) (C9 : Addr) (cl : List (Str × Addr)) (fp : List Addr), PE (X.blk s9 H9 scope (compEnvC scope cl C9 X.env) fp) vx tv) (hs : ∀ x, foldedSetIterable iter X.env x = pure x := by intro _; rfl) :
    PS X (.Assign [.Name y py] (.DictComp kx vx [⟨tg, iter, [], 0⟩] scope pos) spos) (tAsg (tDcN X.prog X.w X.K wi g tk tv (own.map (·.2))) (gName i)) := by
  refine ⟨fun pins0 s0 σ0 H0 D0 I0 h0 => ?_⟩
  rw [exec_Assign_Name_used _ _ _ _ hsw]; refine wpAny_bind (wpAny_standAt (wpAny_bind (m := evalThenUse _ _ _) ?_))
  show wpAny _ X.A (do let _ ← comprehension (.DictComp kx vx [⟨tg, iter, [], 0⟩] scope pos) scope X.env (firstIterPos [⟨tg, iter, [], 0⟩] pos) newDict false (eval iter X.env) (some (assign (.Name y py) X.env))) _ _ s0
  have h1 : tDcN X.prog X.w X.K wi g tk tv (own.map (·.2)) σ0 H0 (fun x H1 => gName i x σ0 H1 D0.nx) := h0
  refine wpAny_bind (thn (dcN_core (Qf := fun _ s' => SP X pins0 D0 .next s') hu hc hN I0 hi ok hg hk he hs h1 fun L C s1 m G I1 q hn f => ?_) fun _ s' hq => wpAny_pure (wpAny_pure hq))
  show wpAny _ _ (assign (.Name y py) X.env (.ref L)) _ _ _; refine wpAny_assign_Name (store_ok2 (v := V.ref L) I1 hN hy (.inl hyl) rfl (fun s2 I2 ⟨a, sb, ha⟩ => ?_) (.inr hyl))
  obtain ⟨f0, f1, f2', f3, f4, f5⟩ := f
  have ne : C ≠ a := ha.elim (fun z => z ▸ f1) fun z e => f4 y a z e.symm
  exact ⟨m, hn.sameBut sb ne, fun h3 sb3 => ⟨_, G, I2.turned (t' := s2.toks) (fun b o hb e => (sb3.2 b hb).trans e) f0 f1 f3 f4 f5, q⟩⟩
theorem sw_dict {kx vx : Expr} {gs : List Comprehension} {scope : Scope} {pos py : Pos} {y : Str} {l : Nat} {env : Env} (hk : env.scope.kind = .function) (hy : env.scope.names.lookup y = some .local) (hl : (py.line == pos.line) = true)
    (ha : (scope.names.any fun (n, k) => n == y && (k == .local || k == .cell)) = false) : swapsWith (.DictComp kx vx gs scope pos) (some (.Name y py)) l env = pure true := by
  have ky : env.kindOf y = some .local := hy; have bk : env.blockKind = .function := by unfold Env.blockKind; rw [hk]; rfl
  unfold swapsWith
  simp only [bk, ky, ha, Expr.pos, hl]
  rfl
end
end Ld
/-! len, ==, != by defs of one's own; len(d), list(d.values()) of dicts whose keys hold tuples. -/
namespace Ld
open PySem L2 PyProof.Rows
section
variable {X : Cx} {A : Around} {k : Nat} {f C : Addr} {fd : FuncData} {ps : List Str} {sp : Sp}
theorem run_own {pins : List (Addr × Obj)} {σ : L2.St} {H : Hp} {s : Shared} {Q : VK} {E : Value → Shared → Prop} {us : List Value} {vs : List V} (F : FnOk X.prog X.w X.K X.mg X.base CX0 k f fd ps sp) (hb : Binds X.K fd ps []) (hr : Room k A) (fr : A.frames = X.A.frames)
    (I : Inv X pins σ H s) (r : Vals vs us) (h : sp vs H Q E0) : wpAny (model X.prog X.w) A (call (.ref f) us) (EP X pins σ Q) E s := by
  have e1 := I.env0
  have e0 : Env0 X.prog X.w X.K X.mg X.base A X.stack s H := ⟨fr.trans e1.frames, e1.mod, e1.bs, e1.bsz, e1.funs, e1.frf, e1.hok, e1.bare⟩
  have hl : (us ++ []).length = ps.length := by
    rw [List.append_nil, ← r.length]
    exact F.len _ _ _ _ h
  have b := hb s us I.kIn hl
  rw [List.append_nil] at b
  refine wpAny_call (codeAny_mono (F.run A X.stack s H ⟨us, []⟩ us vs Q E0 hr e0 b r h) fun z s2 hz => ?_)
  match z, hz with
  | .ok (.ret v), hz => exact I.after hz
  | .ok .next, hz => exact False.elim hz
  | .ok .brk, hz => exact False.elim hz
  | .ok .cont, hz => exact False.elim hz
  | .error er, hz => exact False.elim hz
/-- len(x), by its own __len__ -/
def rLenO (C : Addr) (sp : Sp) : List V → Hp → VK → Prop := fun xs H Q => ∃ a dx fs, xs = [.ref a] ∧ H a = some (.ins C dx fs) ∧ sp [.ref a] H (fun v H2 => ∃ n : Nat, v = .int n ∧ n ≤ sizeLine ∧ Q v H2) E0
theorem call_lenO (hs : PySem.W.findIn X.K (.ref C) "__len__" = some (some (.ref f))) (hf : PySem.W.isFn X.K (.ref f) = true) (F : FnOk X.prog X.w X.K X.mg X.base CX0 k f fd ps sp) (hr : Room (k + 1) X.A) (hb : Binds X.K fd ps []) : CallR X (.builtin "len") (rLenO C sp) := by
  intro pins s σ H xs us Q I r ⟨a, dx, fs, e, ha, q⟩
  subst e
  obtain ⟨u0, rfl, rx⟩ := vals1 r
  cases rx
  obtain ⟨mA0, J, _⟩ := ins_get I.hok ha
  obtain ⟨od, J, _⟩ := J.look
  obtain ⟨m, hF⟩ := I.fr
  refine PySem.W.len_K hF I.ok.mod.kin J hs hf (wpAny_mono (run_own (vs := [.ref a]) F hb hr.in1 rfl I (.cons rfl .nil) q) (fun v s' z => ?_) fun _ _ z => z)
  obtain ⟨y, H2, I2, ry, n, e, hn, q2⟩ := z
  subst e
  obtain ⟨t, rfl⟩ := ry
  have big : (n : Int) < 2 ^ 63 := Int.lt_of_le_of_lt (Int.ofNat_le.mpr hn) (by decide)
  exact ⟨⟨by omega, big⟩, .int n, H2, I2.tok _, ⟨_, rfl⟩, q2⟩
/-- x == y, by an own __eq__ -/
def rEqO (C : Addr) (neg : Bool) (sp : Sp) : R2 := fun x y H Q => ∃ a dx fs b dy gs, x = .ref a ∧ y = .ref b ∧ H a = some (.ins C dx fs) ∧ H b = some (.ins C dy gs) ∧ sp [x, y] H (fun v H2 => ∃ t, v = .bl t ∧ Q (.bl (if neg then !t else t)) H2) E0
theorem op_eqO (hs : PySem.W.findIn X.K (.ref C) "__eq__" = some (some (.ref f))) (hf : PySem.W.isFn X.K (.ref f) = true) (F : FnOk X.prog X.w X.K X.mg X.base CX0 k f fd ps sp) (hr : Room k X.A) (hb : Binds X.K fd ps []) : OpR X (compareOp .Eq) (rEqO C false sp) := by
  intro pins s σ H x y v u Q I rx ry ⟨a, dx, fs, b, dy, gs, e1, e2, ha, hc, q⟩
  subst e1 e2
  cases rx
  cases ry
  obtain ⟨mA0, J, _⟩ := ins_get I.hok ha
  obtain ⟨od, J, _⟩ := J.look
  obtain ⟨mB, J2, _⟩ := ins_get I.hok hc
  obtain ⟨od2, J2, _⟩ := J2.look
  obtain ⟨m, hF⟩ := I.fr
  show wpAny (model X.prog X.w) X.A (richCompare .Eq (.ref a) (.ref b)) (EP X pins σ Q) X.xe s
  refine PySem.W.cmp_K (op := .Eq) (tb := .ref C) hr.units0 hF I.ok.mod.kin J J2.type (by simp [PySem.W.notFirst]) hs hf (wpAny_mono (run_own (vs := [.ref a, .ref b]) F hb hr rfl I (.cons rfl (.cons rfl .nil)) q) (fun v s' z => ?_) fun _ _ z => z)
  obtain ⟨y, H2, I2, ry, t, e, q2⟩ := z
  subst e
  cases ry
  exact ⟨.bl t, H2, I2, rfl, q2⟩
/-- the class has object's own != -/
structure NeO (K : PySem.W.Frag) (C f : Addr) : Prop where
  ne : PySem.W.findIn K (.ref C) "__ne__" = some (some (.builtin "object.__ne__"))
  sub : PySem.W.subIn K (.ref C) (.type "object") = some true
  eq : PySem.W.findIn K (.ref C) "__eq__" = some (some (.ref f))
  fd : PySem.W.isFn K (.ref f) = true
theorem bound_b {M : Model} {A : Around} {E : Value → Shared → Prop} {s : Shared} {K : PySem.W.Frag} {x C : Addr} {ox : Obj} {od : Option Obj} {name : Str} {i : String} {args : List Value} {Q : Option Value → Shared → Prop} (hin : K.In s.heap) (I : PySem.W.InstAt s.heap x ox C od)
    (hs : PySem.W.findIn K (.ref C) name = some (some (.builtin i))) (hb : bindSpecial (.builtin i) (.ref x) = pure (.builtin i, [.ref x])) (h : wpAny M A (call (.builtin i) (.ref x :: args)) (fun v => Q (some v)) E s) : wpAny M A (callSpecialIfBound? (.ref x) name args) Q E s := by
  simp only [bindSpecialIfBound?, callSpecialIfBound?]
  refine wpAny_holding (wpAny_bind (wpAny_bind (wpAny_bind (I.type.here ((PySem.W.looks_findIn hin hs).here ?_)))))
  have fin : wpAny M A (call (.builtin i) ([.ref x] ++ args) >>= fun v => pure (some v)) Q E s := wpAny_bind (wpAny_mono h (fun v s' z => wpAny_pure z) fun _ _ z => z)
  refine wpAny_bind (wpAny_askSetting (wpAny_ite ?_)); split
  · exact wpAny_bind ((PySem.W.Looks.of_pure hb).here (wpAny_pure (by exact fin)))
  · exact wpAny_tryCatch (wpAny_bind ((PySem.W.Looks.of_pure hb).here (wpAny_pure (by exact fin))))
theorem ne_own {P : Program} {w : World} {A : Around} {E : Value → Shared → Prop} {s : Shared} {K : PySem.W.Frag} {x C f : Addr} {ox : Obj} {od : Option Obj} {b : Value} {Q : Value → Shared → Prop} (Z : NeO K C f) (hu : A.units + 1 < cLine) (hin : K.In s.heap) (I : PySem.W.InstAt s.heap x ox C od)
    (hb : PySem.W.Looks (model P w) s.heap (typeOf b) (.ref C)) (h : wpAny (model P w) A.in1 (call (.ref f) [.ref x, b]) (fun v s' => ∃ t, v = .bool t ∧ Q (.bool (!t)) s') E s) : wpAny (model P w) A (richCompare .NotEq (.ref x) b) Q E s := by
  have entry : wpAny (model P w) A.in1 (Builtin.«object.__ne__» ⟨[.ref x, b], []⟩) (fun fin s' => ∃ v, fin = .done (.ret v) ∧ v ≠ .notImplemented ∧ Q v s') E s := by
    unfold Builtin.«object.__ne__»; repeat (first
      | with_reducible refine wpAny_cRoomFor (show A.in1.units < cLine from hu) ?_
      | (refine wpAny_bind (m := callSpecialIfBound? (.ref x) (Str.ofString "__eq__") [b]) (PySem.W.ifBound_K hin I Z.eq Z.fd (wpAny_mono h (fun r s' hr => by
            obtain ⟨t, rfl, hq⟩ := hr
            repeat (first | exact ⟨_, rfl, (fun z => nomatch z), hq⟩ | exact wpAny_pure ⟨_, rfl, (fun z => nomatch z), hq⟩ | (refine wpAny_bind (m := truthy (.bool _)) (wpAny_truthy_bool ?_)) | wp_step)) fun _ _ e => e)))
      | wp_step)
  have one : wpAny (model P w) A (tryCompare (.ref x) "__ne__" b) (fun r s' => ∃ v, r = some v ∧ Q v s') E s := by
    unfold tryCompare
    refine wpAny_bind (bound_b hin I Z.ne rfl (wpAny_call (codeAny_call_builtin PySem.F.cmp_object.ne.plain F.cmpEntry_ne (PySem.W.check_slot F.cmpKind_ne F.cmpSplit_ne (I.type.andThen (PySem.W.looks_subIn hin Z.sub)) (F.cmpArgs_ne _ _) (wpAny_mono entry (fun fin s' z => ?_) fun _ _ z => z)))))
    obtain ⟨v, rfl, nv, q⟩ := z
    cases v <;> first | exact absurd rfl nv | exact ⟨_, rfl, q⟩ | exact wpAny_pure ⟨_, rfl, q⟩
  unfold richCompare
  simp only [oneThing_ref]
  refine wpAny_holding (wpAny_bind (wpAny_cRoomFor (Nat.lt_of_succ_lt hu) ?_))
  refine wpAny_bind (I.type.here (wpAny_bind (hb.here ?_))); rw [show (Value.ref C != Value.ref C) = false from by simp]; refine wpAny_bind (wpAny_pure ?_); simp only [Bool.false_eq_true, if_false]
  refine wpAny_bind (wpAny_mono one (fun r s' z => ?_) fun _ _ z => z)
  obtain ⟨v, rfl, q⟩ := z
  exact wpAny_pure q
theorem op_neO (Z : NeO X.K C f) (F : FnOk X.prog X.w X.K X.mg X.base CX0 k f fd ps sp) (hr : Room (k + 1) X.A) (hb : Binds X.K fd ps []) : OpR X (compareOp .NotEq) (rEqO C true sp) := by
  intro pins s σ H x y v u Q I rx ry ⟨a, dx, fs, b, dy, gs, e1, e2, ha, hc, q⟩
  subst e1 e2
  cases rx
  cases ry
  obtain ⟨mA0, J, _⟩ := ins_get I.hok ha
  obtain ⟨od, J, _⟩ := J.look
  obtain ⟨mB, J2, _⟩ := ins_get I.hok hc
  obtain ⟨od2, J2, _⟩ := J2.look
  show wpAny (model X.prog X.w) X.A (richCompare .NotEq (.ref a) (.ref b)) (EP X pins σ Q) X.xe s
  refine ne_own Z hr.in1.units0 I.kIn J J2.type (wpAny_mono (run_own (vs := [.ref a, .ref b]) F hb hr.in1 rfl I (.cons rfl (.cons rfl .nil)) q) (fun v s' z => ?_) fun _ _ z => z)
  obtain ⟨y, H2, I2, ry, t, e, q2⟩ := z
  subst e
  cases ry
  exact ⟨t, rfl, .bl (!t), H2, I2, rfl, q2⟩
/-! ### dicts -/
theorem rows_vals : ∀ {xs : List Rw} {ys : List (NestedKey × Addr × Value)}, Paired KR xs ys → Vals (xs.map (·.2.2)) (ys.map (·.2.2))
  | _, _, .nil => .nil
  | _, _, .cons a b => .cons a.2.2 (rows_vals b)
def rLenN (P : Program) (w : World) (K : PySem.W.Frag) : List V → Hp → VK → Prop := fun xs H Q => ∃ d rs, xs = [.ref d] ∧ KD P w K H d rs ∧ Q (.int (rs.length : Int)) H
theorem call_lenN : CallR X (.builtin "len") (rLenN X.prog X.w X.K) := by
  intro pins s σ H xs us Q I r ⟨d, rs, e, z, q⟩
  subst e
  obtain ⟨u0, rfl, rx⟩ := vals1 r
  cases rx
  obtain ⟨ys, p, m⟩ := z.dict I.hok I.kIn
  have few := z.few
  have ln := p.length
  refine call_len_dictH z.low m (Int.lt_of_le_of_lt (Int.ofNat_le.mpr (show ys.length ≤ 1000 by omega)) (by decide)) ?_
  rw [← ln]
  exact ⟨.int _, H, I.tok _, ⟨_, rfl⟩, q⟩
def tListVals (P : Program) (w : World) (K : PySem.W.Frag) (td : TE) : TE := fun σ H Q => td σ H fun x H1 => ∃ d rs, x = .ref d ∧ KD P w K H1 d rs ∧ ∀ l, H1 l = none → l ≠ sysModules → Q (.ref l) (upd H1 l (.lst (rs.map (·.2.2))))
theorem pe_listVals {o : Expr} {td : TE} {p pos apos mpos : Pos} (hc : X.calm = true) (hg : Gl X "list") (hm : X.mg "list" = none) (hd : PE X o td) (hbase : attributeBase o "values" X.env (eval o X.env) = eval o X.env := by rfl) (hline : (apos.endLine == mpos.line) = true := by rfl)
    (hst : starEach [Expr.Call (.Attribute o "values" apos) [] [] mpos] X.env = [(false, eval (Expr.Call (.Attribute o "values" apos) [] [] mpos) X.env)] := by rfl) : PE X (.Call (.Name "list" p) [.Call (.Attribute o "values" apos) [] [] mpos] [] pos) (tListVals X.prog X.w X.K td) := by
  refine ⟨fun pins s σ H Q I h => wpAny_Call_Name_kw (ld_blt I hg hm (u := .type "list") (by first | rfl | decide +kernel) ?_ (by first | decide +kernel | decide) (by first | decide +kernel | decide))⟩
  rw [hst]
  refine PySem.callWith_type1 (wpAny_Call_method0_late hbase hline (thn (hd.run pins s σ H _ I h) fun v s1 ⟨x, H1, I1, r1, d, rs, ex, z, q⟩ => ?_))
  subst ex
  obtain rfl : v = Value.ref d := r1
  obtain ⟨⟨ys, pr, ob, es, ep, ho, hx, hdt, he, hn⟩, _⟩ := (show ObjOk X.prog X.w H1 s1.heap d (kdO X.prog X.w d rs) from I1.hok d _ z.at_)
  have raw : s1.heap.DictRaw d es ep := ⟨ob, ho, hx, hdt⟩
  refine ⟨"dict", "dict.values", F.plainAttrs_dict, F.slot_dict_values, F.type_dict_values, ⟨ob, ho, hx.1⟩, fun b e => ?_, Calls.callWith_builtin rfl (PySem.evalArgs_none ?_)⟩
  · cases e
    exact ⟨ob, ho, hx.2.1⟩
  refine call_meetsIn F.slot_dict_values ⟨ob, ho, hx.1⟩ F.entry_dict_values (F.args_dict_values_1 _) (PySem.meets_dict_values_raw d z.low) ⟨⟨es, ep, raw⟩, ?_⟩
  have l1 : es.size = ys.length := size_of_entries he
  have l2 := pr.length
  have few := z.few
  have up : ∀ b u, s1.heap.get? b = some u → (s1.heap.push { cls := .type "dict_values", data := .fields #[.ref d] }).get? b = some u := fun b u e => Heap.get?_push_of_some _ e
  have sz : (s1.heap.push { cls := .type "dict_values", data := .fields #[.ref d] }).objs.size = s1.heap.objs.size + 1 := Heap.size_push _ _
  refine PySem.W.kdl_call (PySem.KdlSrc.rawValues (r := s1.heap.objs.size) (d := d) (es := es) (ep := ep)) (I1.ok.hd hc) ⟨⟨_, Heap.get?_push_size _ rfl, rfl, rfl⟩, raw.at fun o e => up _ _ e⟩ (Nat.le_trans (show es.size ≤ 1000 by omega) (by decide)) fun h' tk acc c kp e it => ?_
  have ea : acc.toList = ys.map (·.2.2) := by
    have hl : acc.toList.length = ys.length := by rw [Array.length_toList, it.1]; exact l1
    apply List.ext_getElem?
    intro j
    rw [List.getElem?_map]
    cases hj : acc.toList[j]? with
    | none =>
      have hn1 := List.getElem?_eq_none_iff.mp hj
      rw [List.getElem?_eq_none (by omega)]; rfl
    | some v =>
      obtain ⟨hi, hv⟩ := it.2 j v (by rw [← Array.getElem?_toList]; exact hj)
      have qe : es.toList[j]? = some es[j] := by simp [hi]
      rw [he, List.getElem?_map] at qe
      cases hb : ys[j]? with
      | none =>
        rw [hb] at qe
        cases qe
      | some y =>
        rw [hb] at qe
        have e2 : entryOfKey (nestedKind X.prog X.w) y = es[j] := Option.some.inj qe
        rw [hv, ← e2]
        rfl
  have rv : Vals (rs.map (·.2.2)) acc.toList := by
    rw [ea]
    exact rows_vals pr
  rw [sz] at e ⊢
  refine ⟨.ref (s1.heap.objs.size + 1), _, I1.laid (t' := tk) (a := s1.heap.objs.size + 1) (o := .lst (rs.map (·.2.2))) (fun b u q => kp b u (up b u q)) (Nat.le_succ _) ?_, rfl, q _ (I1.hok.fresh (Nat.le_succ _)) (Nat.ne_of_gt (Nat.lt_succ_of_lt I1.big))⟩
  exact ⟨Nat.le_trans (show (rs.map (·.2.2)).length ≤ 1000 by rw [List.length_map]; exact few) (by decide), acc.toList, c, rv, by rw [Array.toArray_toList]; exact e⟩
end
end Ld
/-! sorted(xs, key=f), f a def of one's own. -/
namespace Ld
open PySem L2 PyProof.Rows
section
variable {fs : List Addr} {H H1 : Hp} {h h1 h2 : Heap} {it : Addr} {P : Program} {w : World}
/-- what is new and not tracked may change -/
theorem un_but (u : Un fs [] H H1 h h1) (new : h.get? it = none) (k : ∀ b o, b ≠ it → h1.get? b = some o → h2.get? b = some o) : Un fs [] H H1 h h2 := by
  have ne : ∀ {b : Addr} {o : Obj}, h.get? b = some o → b ≠ it := fun e z => by
    rw [z, new] at e
    cases e
  refine ⟨fun b o e n hb hx => k b o (ne e) (u.keep b o e n hb hx), fun b o e n hb hx => ?_, u.free, fun b o e hx => ?_, u.tups, u.frzs, u.tbls⟩
  · obtain ⟨sl, q⟩ := u.slot b o e n hb hx
    exact ⟨sl, k b _ (ne e) q⟩
  · obtain ⟨o', q⟩ := u.there b o e hx
    exact ⟨o', k b _ (ne e) q⟩
theorem hok_but (ok : HOk P w H h) (n : H it = none) (k : ∀ b o, b ≠ it → h.get? b = some o → h1.get? b = some o) : HOk P w H h1 := fun a o e =>
  (ok a o e).stay (fun b u hb q => k b u (fun z => by
    rcases hb with hb | hb
    · rw [← hb, z, n] at e
      cases e
    · rw [z, n] at hb
      cases hb) q) (fun _ e => e) (fun _ _ e => e)
theorem un_but2 {jt : Addr} (u : Un fs [] H H1 h h1) (n1 : h.get? it = none) (n2 : h.get? jt = none) (k : ∀ b o, b ≠ it → b ≠ jt → h1.get? b = some o → h2.get? b = some o) : Un fs [] H H1 h h2 := by
  have e1 : ∀ {b : Addr} {o : Obj}, h.get? b = some o → b ≠ it := fun e z => by
    rw [z, n1] at e
    cases e
  have e2 : ∀ {b : Addr} {o : Obj}, h.get? b = some o → b ≠ jt := fun e z => by
    rw [z, n2] at e
    cases e
  refine ⟨fun b o e n hb hx => k b o (e1 e) (e2 e) (u.keep b o e n hb hx), fun b o e n hb hx => ?_, u.free, fun b o e hx => ?_, u.tups, u.frzs, u.tbls⟩
  · obtain ⟨sl, q⟩ := u.slot b o e n hb hx
    exact ⟨sl, k b _ (e1 e) (e2 e) q⟩
  · obtain ⟨o', q⟩ := u.there b o e hx
    exact ⟨o', k b _ (e1 e) (e2 e) q⟩
theorem hok_but2 {jt : Addr} (ok : HOk P w H h) (n : H it = none) (m : H jt = none) (k : ∀ b o, b ≠ it → b ≠ jt → h.get? b = some o → h1.get? b = some o) : HOk P w H h1 := fun a o e => by
  have ne : ∀ {c x : Addr} {u : Obj}, H x = none → (c = a ∨ H c = some (.own a)) → c ≠ x := fun hx hb z => by
    rcases hb with hb | hb
    · rw [← hb, z, hx] at e
      cases e
    · rw [z, hx] at hb
      cases hb
  exact (ok a o e).stay (fun b u hb q => k b u (ne (u := u) n hb) (ne (u := u) m hb) q) (fun _ e => e) (fun _ _ e => e)
/-- .. and be tracked -/
theorem un_put {o : HO} (u : Un fs [] H H1 h h1) (new : h.get? it = none) (n : H1 it = none) : Un fs [] H (upd H1 it o) h h1 := by
  have ne : ∀ {b : Addr} {o : HO}, H1 b = some o → b ≠ it := fun e z => by
    rw [z, n] at e
    cases e
  refine ⟨u.keep, u.slot, fun b o e m hx => ?_, u.there, fun b xs e => ?_, fun b o v e => ?_, fun b ps e => ?_⟩
  · rw [upd_ne (fun z => by rw [z, new] at e; cases e)]
    exact u.free b o e m hx
  · have q := u.tups b xs e
    rw [upd_ne (ne q)]
    exact q
  · have q := u.frzs b o v e
    rw [upd_ne (ne q)]
    exact q
  · obtain ⟨m, q⟩ := u.tbls b ps e
    exact ⟨m, by rw [upd_ne (ne q)]; exact q⟩
theorem hok_put {ys : List V} (ok : HOk P w H h) (n : H it = none) (new : ObjOk P w (upd H it (.lst ys)) h it (.lst ys)) : HOk P w (upd H it (.lst ys)) h := fun b u e => by
  by_cases z : b = it
  · subst z
    rw [upd_same] at e
    cases e
    exact new
  · rw [upd_ne z] at e
    have ne : ∀ {c : Addr} {o : HO}, H c = some o → c ≠ it := fun e z => by
      rw [z, n] at e
      cases e
    exact (ok b u e).stay (fun _ _ _ q => q) (fun c q => by rw [upd_ne (ne q)]; exact q) (fun c xs q => by rw [upd_ne (ne q)]; exact q)
end
/-! data without lists and dicts -/
mutual
def bareB : PyData → Bool
  | .list _ => false
  | .dict _ => false
  | .tuple ds => bareAll ds
  | _ => true
def bareAll : List PyData → Bool
  | [] => true
  | d :: ds => bareB d && bareAll ds
end
section
variable {P : Program} {w : World} {K : PySem.W.Frag} {H : Hp} {h : Heap}
mutual
theorem dp_bare (ok : HOk P w H h) (kin : K.In h) : ∀ (d : PyData) (v : V) (u : Value), bareB d = true → Dp K H v d → RelV v u → Reads h u d []
  | .none, _, _, _, z, r => by cases z; cases r; exact .none
  | .bool b, _, _, _, z, r => by cases z; cases r; exact .bool b
  | .int i, _, _, _, z, r => by cases z; obtain ⟨t, rfl⟩ := r; exact .int i t
  | .str x, _, _, _, z, r => by cases z; obtain ⟨t, rfl⟩ := r; exact .str x t
  | .list ds, _, _, e, _, _ => by cases e
  | .dict ds, _, _, e, _, _ => by cases e
  | .tuple ds, _, _, e, z, r => by
    cases z with
    | tup hs ha =>
      cases r
      rcases hs with hs | ⟨o, its, n, hk, hc, hs, hz, rv⟩
      · obtain ⟨z, its, rv, o, e', c, n, dt⟩ := hs.ok ok
        exact .tuple e' c dt (dpAll_bare ok kin ds _ _ e ha rv)
      · exact .tuple (kin _ o hk) hc hs (dpAll_bare ok kin ds _ _ e ha rv)
theorem dpAll_bare (ok : HOk P w H h) (kin : K.In h) : ∀ (ds : List PyData) (vs : List V) (us : List Value), bareAll ds = true → DpAll K H vs ds → Vals vs us → ReadsAll h us ds []
  | [], _, _, _, z, r => by cases z; cases r; exact .nil
  | d :: ds, _, _, e, z, r => by
    have e2 := Bool.and_eq_true_iff.mp (show (bareB d && bareAll ds) = true from e)
    cases z with
    | cons a b =>
      cases r with
      | cons r1 r2 => exact .cons (as := []) (bs := []) (dp_bare ok kin d _ _ e2.1 a r1) (dpAll_bare ok kin ds _ _ e2.2 b r2)
end
end
/-! ### the sort goes on -/
/-- since s only new objects are tracked -/
structure Since (X : Cx) (H : Hp) (s : Shared) (H1 : Hp) (s1 : Shared) : Prop where
  os : s1.os = s.os
  bare : AllBare s1.gens
  un : Un (frs X.stack) [] H H1 s.heap s1.heap
  hok : HOk X.prog X.w H1 s1.heap
  same : Same H H1
theorem Since.inv {X : Cx} {pins : List (Addr × Obj)} {σ : L2.St} {H H1 : Hp} {s s1 : Shared} (J : Since X H s H1 s1) (I : Inv X pins σ H s) : Inv X pins σ H1 s1 := by
  obtain ⟨hp, g, d, t, os⟩ := s1
  obtain rfl : os = s.os := J.os
  exact I.call (h' := hp) (g' := g) (d' := d) (t' := t) (ch := []) J.un J.hok J.bare (fun b z => absurd z (by simp))
section
variable {X : Cx} {pins : List (Addr × Obj)} {σ : L2.St} {H H1 : Hp} {s s1 : Shared} {A : Around} {j : Nat} {f : Addr} {fd : FuncData} {p : Str} {sp : Sp}
theorem Since.call (J : Since X H s H1 s1) (I : Inv X pins σ H s) (F : FnOk X.prog X.w X.K X.mg X.base CX0 j f fd [p] sp) (hr : Room j A) (fr : A.frames = X.A.frames) (hb : Binds X.K fd [p] []) {x : V} {u : Value} {k : PyData} (rx : RelV x u)
    (hsp : sp [x] H1 (fun v H2 => Same H1 H2 ∧ Dp X.K H2 v k) E0) :
    wpAny (model X.prog X.w) A (call (.ref f) [u]) (fun v s2 => ∃ (H2 : Hp) (y : V), Since X H s H2 s2 ∧ Same H1 H2 ∧ (∀ b o, s1.heap.get? b = some o → H1 b = none → b ∉ frs X.stack → s2.heap.get? b = some o ∧ H2 b = none) ∧ RelV y v ∧ Dp X.K H2 y k) (fun _ _ => False) s1 := by
  have I1 := J.inv I
  have e1 := I1.env0
  have e0 : Env0 X.prog X.w X.K X.mg X.base A X.stack s1 H1 := ⟨fr.trans e1.frames, e1.mod, e1.bs, e1.bsz, e1.funs, e1.frf, e1.hok, e1.bare⟩
  have b := hb s1 [u] I1.kIn rfl
  refine wpAny_call (codeAny_mono (F.run A X.stack s1 H1 ⟨[u], []⟩ [u] [x] _ E0 hr e0 b (.cons rx .nil) hsp) fun z s2 hz => ?_)
  match z, hz with
  | .ok (.ret v), hz =>
    obtain ⟨y, H2, os, bare, un, hok, r, s12, dp⟩ := hz
    exact ⟨H2, y, ⟨os.trans J.os, bare, J.un.trans un, hok, J.same.trans s12⟩, s12, fun b o e n nf => ⟨un.keep b o e n nf (by simp), un.free b o e n (by simp)⟩, r, dp⟩
  | .ok .next, hz => exact False.elim hz
  | .ok .brk, hz => exact False.elim hz
  | .ok .cont, hz => exact False.elim hz
  | .error er, hz => exact False.elim hz
end
end Ld
/-! sorted(xs, key=f), f a def of one's own: the call. -/
namespace Ld
open PySem L2 PyProof.Rows PySem.W
/-- a key that is known: data that stands -/
def Kd (K : PySem.W.Frag) (H : Hp) (u : Value) (d : PyData) : Prop := ∃ y : V, RelV y u ∧ Dp K H y d
section
variable {X : Cx} {pins : List (Addr × Obj)} {σ : L2.St} {H : Hp} {s : Shared} {A : Around} {E : Value → Shared → Prop} {P : PySem.Fin → Shared → Prop} {f : Addr} {a kS : Addr} {vs : List Value} {kz : List PyData} {e1 : Nat}
/-- what a call of the key must do -/
def KeyTurn (X : Cx) (H : Hp) (s : Shared) (A : Around) (f : Addr) (v : Value) (k : PyData) : Prop := ∀ (H1 : Hp) (s1 : Shared), Since X H s H1 s1 →
  wpAny (model X.prog X.w) A (call (.ref f) [v]) (fun u s2 => ∃ (H2 : Hp) (y : V), Since X H s H2 s2 ∧ Same H1 H2 ∧ (∀ b o, s1.heap.get? b = some o → H1 b = none → b ∉ frs X.stack → s2.heap.get? b = some o ∧ H2 b = none) ∧ RelV y u ∧ Dp X.K H2 y k) (fun _ _ => False) s1
theorem key_rest {s0 : Shared} {H0 : Hp} (I : Inv X pins σ H s) (J0 : Since X H s H0 s0) (nS : s.heap.get? kS = none) (nA : s.heap.get? a = none) (fS : kS ∉ frs X.stack) (fA : a ∉ frs X.stack) (hS0 : H0 kS = none) (hA0 : H0 a = none)
    (oS : s0.heap.get? kS = some (seqObj "list" #[] 0)) (oA : s0.heap.get? a = some (seqObj "list" #[] e1)) (ne : kS ≠ a) (hlen : kz.length = vs.length) (hZ : vs.length ≤ sizeLine) (hal : AllAlike kz) (hsk : Sortable kz) (hbare : ∀ d ∈ kz, bareB d = true)
    (hu : ∀ d, d ∈ kz → A.units + d.depth < cLine) (turn : ∀ (i : Nat) (v : Value) (k : PyData), vs[i]? = some v → kz[i]? = some k → KeyTurn X H s A f v k)
    (fin : ∀ (H3 : Hp) (s3 : Shared) (out : List Value) (c : Nat), Since X H s H3 s3 → H3 a = none → s3.heap.get? a = some (seqObj "list" out.toArray c) → KeyedOut false kz vs out → P (.done (.ret .none)) s3) :
    wpAny (model X.prog X.w) A (ksk_rest a (.ref f) false vs.toArray e1 (.ref kS)) P E s0 := by
  unfold ksk_rest
  refine wpAny_bind (wpAny_rule ?keys); rw [List.forIn_toArray]
  refine wpAny_bind (ksk_fold (fun i s1 => ∃ (H1 : Hp) (kA : Array Value) (ep : Nat), Since X H s H1 s1 ∧ H1 kS = none ∧ H1 a = none ∧ s1.heap.get? kS = some (seqObj "list" kA ep) ∧ s1.heap.get? a = some (seqObj "list" #[] e1) ∧ EachIs (Kd X.K H1) kA.toList (kz.take i)) vs 0 s0
    ⟨H0, #[], 0, J0, hS0, hA0, oS, oA, by rw [List.take_zero]; exact .nil⟩ ?turnS ?endS)
  case turnS =>
    rintro i v s1 hx ⟨H1, kA, ep, J1, hS1, hA1, oS1, oA1, hk⟩
    simp only [Nat.zero_add] at hk ⊢; have hi : i < vs.length := (List.getElem?_eq_some_iff.mp hx).1
    obtain ⟨k, hki⟩ : ∃ k, kz[i]? = some k := ⟨_, List.getElem?_eq_getElem (by omega)⟩
    have hz : kA.size ≤ vs.length := by have n1 := hk.length; rw [Array.length_toList, List.length_take] at n1; omega
    refine wpAny_bind (wpAny_attempt (wpAny_mono (turn i v k hx hki H1 s1 J1) (fun u s2 hs2 => ?_) fun _ _ z => z.elim))
    obtain ⟨H2, y, J2, s12, same, ry, dy⟩ := hs2
    obtain ⟨oS2, hS2⟩ := same _ _ oS1 hS1 fS
    obtain ⟨oA2, hA2⟩ := same _ _ oA1 hA1 fA
    have up := Heap.SameBut.update s2.heap kS (Obj.mapSeq (·.push u))
    obtain ⟨c2, oS3⟩ : ∃ c2, (s2.heap.update kS (Obj.mapSeq (·.push u))).get? kS = some (seqObj "list" (kA.push u) c2) := ⟨_, get?_update_seq oS2 (·.push u)⟩
    refine wpAny_bind (listUpdate_at oS2 rfl ?_ (Nat.le_trans hz hZ) (Nat.le_trans (Nat.le_of_eq (Array.size_push ..)) (Nat.succ_le_succ (Nat.le_trans hz hZ))))
    have keep : ∀ b o, b ≠ kS → s2.heap.get? b = some o → (s2.heap.update kS (Obj.mapSeq (·.push u))).get? b = some o := fun b o hb q => (up.2 b hb).trans q
    refine wpAny_pure ⟨rfl, H2, kA.push u, c2, ⟨J2.os, J2.bare, un_but J2.un nS keep, hok_but J2.hok hS2 keep, J2.same⟩, hS2, hA2, oS3, keep _ _ ne.symm oA2, ?_⟩
    rw [show (kA.push u).toList = kA.toList ++ [u] by simp, show kz.take (i + 1) = kz.take i ++ [k] by rw [List.take_add_one, hki]; simp]
    exact each_snoc ⟨y, ry, dy⟩ (hk.mono fun _ _ ⟨z, rz, dz⟩ => ⟨z, rz, dp_same s12 dz⟩)
  case endS =>
    rintro s1 ⟨H1, kA, ep, J1, hS1, hA1, oS1, oA1, hk⟩
    rw [show kz.take (0 + vs.length) = kz from List.take_of_length_le (by omega)] at hk
    have hsz : kA.size = vs.length := by have n1 := hk.length; rw [Array.length_toList] at n1; omega
    have I1 := J1.inv I
    have hr : EachIs (fun u d => ∃ as, Reads s1.heap u d as) kA.toList kz := by
      refine EachIs.of_zip hk.length fun q hq => ?_
      obtain ⟨y, ry, dy⟩ := hk.zip q hq
      exact ⟨[], dp_bare I1.hok I1.kIn _ _ _ (hbare _ (List.of_mem_zip hq).2) dy ry⟩
    refine wpAny_bind (listItems_at oS1 rfl ?_)
    obtain ⟨G, g1, g2⟩ := restrict s1.heap fun b => decide (b ≠ kS)
    have gk : ∀ b o, b ≠ kS → s1.heap.get? b = some o → G.get? b = some o := fun b o hb q => (g1 b (decide_eq_true hb)).trans q
    have gn : G.get? kS = none := g2 kS (by simp)
    have kp : KeepsBut a G s1.heap := fun b o _ q => by
      by_cases hb : b = kS
      · rw [hb, gn] at q
        cases q
      · exact (g1 b (decide_eq_true hb)).symm.trans q
    refine keyH_end (κ := dataKind s1.heap kz) (h₁ := G) kp gn oS1 oA1 ne (SortsAt.data hr hal hsk hu) hsz hZ fun h3 tk3 c k3 n3 => ?_
    have keep : ∀ b o, b ≠ a → b ≠ kS → s1.heap.get? b = some o → h3.get? b = some o := fun b o ha hb q => k3 b o ha (gk b o hb q)
    exact fin H1 { s1 with heap := h3, toks := tk3 } _ c ⟨J1.os, J1.bare, un_but2 J1.un nA nS keep, hok_but2 J1.hok hA1 hS1 keep, J1.same⟩ hA1 n3 ⟨s1.heap, kA.toList, hal, rfl, hr⟩
/-- xs.sort(key=f), from the list's items on -/
theorem key_tree {s0 : Shared} {H0 : Hp} {n : Nat} (I : Inv X pins σ H s) (J0 : Since X H s H0 s0) (nA : s.heap.get? a = none) (fA : ∀ b, s.heap.objs.size ≤ b → b ∉ frs X.stack) (hA0 : H0 a = none) (sA : s.heap.objs.size ≤ a)
    (oA : s0.heap.get? a = some (seqObj "list" vs.toArray n)) (big : s.heap.objs.size ≤ s0.heap.objs.size) (hlen : kz.length = vs.length) (hZ : vs.length ≤ sizeLine) (hal : AllAlike kz) (hsk : Sortable kz) (hbare : ∀ d ∈ kz, bareB d = true)
    (hu : ∀ d, d ∈ kz → A.units + d.depth < cLine) (turn : ∀ (i : Nat) (v : Value) (k : PyData), vs[i]? = some v → kz[i]? = some k → KeyTurn X H s A f v k)
    (fin : ∀ (H3 : Hp) (s3 : Shared) (out : List Value) (c : Nat), Since X H s H3 s3 → H3 a = none → s3.heap.get? a = some (seqObj "list" out.toArray c) → KeyedOut false kz vs out → P (.done (.ret .none)) s3) :
    wpAny (model X.prog X.w) A (ksk_tree a (.ref f) false) P E s0 := by
  have ltA : a < s0.heap.objs.size := Heap.lt_size oA
  obtain ⟨e1, oA1⟩ : ∃ e1, (s0.heap.update a (Obj.mapSeq fun _ => (#[] : Array Value))).get? a = some (seqObj "list" #[] e1) := ⟨_, get?_update_seq oA fun _ => #[]⟩
  have szS : ((s0.heap.update a (Obj.mapSeq fun _ => (#[] : Array Value))).push (seqObj "tuple" vs.toArray 0)).objs.size = s0.heap.objs.size + 1 := by rw [size_push', Heap.size_update]
  have neS : ((s0.heap.update a (Obj.mapSeq fun _ => (#[] : Array Value))).push (seqObj "tuple" vs.toArray 0)).objs.size ≠ a := fun z => absurd (szS.symm.trans z) (Nat.ne_of_gt (Nat.lt_succ_of_lt ltA))
  have up := Heap.SameBut.update s0.heap a (Obj.mapSeq fun _ => (#[] : Array Value))
  unfold ksk_tree
  refine wpAny_bind (listItems_at oA rfl ?_)
  refine wpAny_bind (listUpdate_at oA rfl ?_ (by rw [List.size_toArray]; exact hZ) (Nat.zero_le _))
  refine wpAny_bind (seqEpoch_at oA1 rfl ?_)
  refine wpAny_bind (wpAny_newTuple (wpAny_bind (wpAny_newList (wpAny_holding ?held) (Nat.zero_le _))) (show vs.length ≤ _ from hZ))
  have keep : ∀ b o, b ≠ a → s0.heap.get? b = some o → (((s0.heap.update a (Obj.mapSeq fun _ => (#[] : Array Value))).push (seqObj "tuple" vs.toArray 0)).push (seqObj "list" #[] 0)).get? b = some o := fun b o hb q =>
    Heap.get?_push_of_some _ (Heap.get?_push_of_some _ ((up.2 b hb).trans q))
  have none0 : ∀ b, s0.heap.objs.size ≤ b → H0 b = none := fun b hb => J0.hok.fresh hb
  refine key_rest (kz := kz) (s0 := { s0 with heap := ((s0.heap.update a (Obj.mapSeq fun _ => (#[] : Array Value))).push (seqObj "tuple" vs.toArray 0)).push (seqObj "list" #[] 0) }) (H0 := H0) (kS := ((s0.heap.update a (Obj.mapSeq fun _ => (#[] : Array Value))).push (seqObj "tuple" vs.toArray 0)).objs.size)
    I ⟨J0.os, J0.bare, un_but J0.un nA keep, hok_but J0.hok hA0 keep, J0.same⟩ (Heap.get?_none_of_le (by rw [szS]; omega)) nA (fA _ (by rw [szS]; omega)) (fA a sA) (none0 _ (by rw [szS]; omega)) hA0
    (Heap.get?_push_size _ rfl) (Heap.get?_push_of_some _ (Heap.get?_push_of_some _ oA1)) neS hlen hZ hal hsk hbare hu turn fin
theorem vals_each : ∀ {zs : List (V × PyData)} {js : List Value}, Vals (zs.map Prod.fst) js → EachIs (fun (u : Value) (z : V × PyData) => RelV z.1 u) js zs
  | [], _, r => by cases r; exact .nil
  | z :: zs, _, r => by
    cases r with
    | cons a b => exact .cons a (vals_each b)
theorem each_vals : ∀ {zs : List (V × PyData)} {js : List Value}, EachIs (fun (u : Value) (z : V × PyData) => RelV z.1 u) js zs → Vals (zs.map Prod.fst) js
  | [], _, r => by cases r; exact .nil
  | z :: zs, _, r => by
    cases r with
    | cons a b => exact .cons a (each_vals b)
/-- sorted(xs, key=f): zs, the items with their keys -/
def rSortK (K : PySem.W.Frag) (f : Addr) (sp : Sp) : List V → List V → Hp → VK → Prop := fun vs ws H Q => ∃ (l : Addr) (zs : List (V × PyData)), vs = [.ref l] ∧ ws = [.ref f] ∧ SqL K H l (zs.map Prod.fst) ∧ zs.length ≤ 1000 ∧ AllAlike (zs.map Prod.snd) ∧ Sortable (zs.map Prod.snd) ∧
  (∀ z ∈ zs, bareB z.2 = true ∧ z.2.depth ≤ 8 ∧ ∀ H1, Same H H1 → sp [z.1] H1 (fun v H2 => Same H1 H2 ∧ Dp K H2 v z.2) E0) ∧
  ∀ H1 q, Same H H1 → H1 q = none → q ≠ sysModules → Q (.ref q) (upd H1 q (.lst ((zs.mergeSort (dataLe false Prod.snd)).map Prod.fst)))
theorem cr_sortK {j : Nat} {fd : FuncData} {p : Str} {sp : Sp} (F : FnOk X.prog X.w X.K X.mg X.base CX0 j f fd [p] sp) (hr : Room (j + 2) X.A) (hb : Binds X.K fd [p] []) : CallRK X (.builtin "sorted") [Str.ofString "key"] (rSortK X.K f sp) := by
  intro pins0 s0 σ0 H0 xs0 ws0 us0 vs0 Q0 I0 r0 r1 ⟨l, zs, e0, e1, hl, hn, hal, hsk, hz, q0⟩
  subst e0 e1
  obtain ⟨u0, rfl, rx0⟩ := vals1 r0
  obtain ⟨w0, rfl, rw0⟩ := vals1 r1
  cases rx0
  cases rw0
  obtain ⟨js, rj, tj, zj⟩ := I0.list hl
  have lj : js.length = zs.length := by rw [← rj.length, List.length_map]
  have line : zs.length ≤ sizeLine := Nat.le_trans hn (by decide)
  have rel : EachIs (fun (u : Value) (z : V × PyData) => RelV z.1 u) js zs := vals_each rj
  refine sorted_of_sort tj.isList (by rw [lj]; exact line) (ksk_s1 _ _) (fun _ => ksk_l1 _ _) fun E' => ?_
  show wpAny _ _ (Builtin.«list.sort» ⟨[.ref (s0.heap.objs.size + 1)], [(Str.ofString "key", .ref f)]⟩) _ _ _
  rw [ksk_t1]
  have bigger : s0.heap.objs.size ≤ (copyHeap s0.heap js).objs.size := Nat.le_of_lt (Nat.lt_of_succ_lt (Heap.lt_size (copyHeap_at s0.heap js)))
  have keep0 : ∀ b o, s0.heap.get? b = some o → (copyHeap s0.heap js).get? b = some o := fun b o q => copyHeap_old q
  have frN : ∀ b, s0.heap.objs.size ≤ b → b ∉ frs X.stack := fun b hb hm => by
    obtain ⟨_, o', e', _⟩ := I0.env0.funs.mem hm
    exact absurd (Heap.lt_size e') (Nat.not_lt.mpr hb)
  refine key_tree (X := X) (pins := pins0) (σ := σ0) (H := H0) (s := s0) (kz := zs.map Prod.snd) (H0 := H0) I0 ⟨rfl, I0.bare, Un.kept keep0, I0.hok.kept keep0, Same.refl H0⟩ (Heap.get?_none_of_le (Nat.le_succ _)) frN (I0.hok.fresh (Nat.le_succ _)) (Nat.le_succ _)
    (copyHeap_at s0.heap js) bigger (by rw [List.length_map, lj]) (by rw [lj]; exact line) hal hsk (fun d hd => ?_) (fun d hd => ?_) (fun i v k hv hk => ?_) fun H3 s3 out c J3 n3 o3 ko => ⟨rfl, ?_⟩
  · obtain ⟨z, hz1, rfl⟩ := List.mem_map.mp hd
    exact (hz z hz1).1
  · obtain ⟨z, hz1, rfl⟩ := List.mem_map.mp hd
    have := (hz z hz1).2.1
    have := hr.un
    show X.A.units + 1 + 1 + z.2.depth < cLine
    omega
  · rw [List.getElem?_map] at hk; obtain ⟨z, hz1, rfl⟩ := Option.map_eq_some_iff.mp hk
    have rz := rel.zip (v, z) (List.mem_of_getElem? (i := i) (by rw [List.getElem?_zip_eq_some]; exact ⟨hv, hz1⟩))
    exact fun H1 s1 J1 => J1.call I0 F hr.in1.in1 rfl hb rz ((hz z (List.mem_of_getElem? hz1)).2.2 H1 J1.same)
  · have ko' := keyedOut_each (R := fun (u : Value) (z : V × PyData) => RelV z.1 u) Prod.snd ko rel
    have ln : ((zs.mergeSort (dataLe false Prod.snd)).map Prod.fst).length ≤ sizeLine := by
      rw [List.length_map, List.length_mergeSort]
      exact line
    have J4 : Since X H0 s0 (upd H3 (s0.heap.objs.size + 1) (.lst ((zs.mergeSort (dataLe false Prod.snd)).map Prod.fst))) s3 :=
      ⟨J3.os, J3.bare, un_put J3.un (Heap.get?_none_of_le (Nat.le_succ _)) n3, hok_put J3.hok n3 ⟨ln, out, c, each_vals ko', o3⟩, J3.same.trans (Same.new n3)⟩
    exact ⟨.ref (s0.heap.objs.size + 1), _, J4.inv I0, rfl, q0 H3 _ J3.same n3 (Nat.ne_of_gt (Nat.lt_succ_of_lt I0.big))⟩
end
end Ld
namespace K49
open PySem L2 Ld PyProof.Rows
/-! ### rules -/
inductive An
  | gone
  | own (z : Str)
  | to (ws : List Str) (n : Int)
deriving DecidableEq
structure Rl where
  ex : Bool
  pl : List Str
  an : An
deriving DecidableEq
def sortS (b : Bool) : Str := if b then "exact" else "open"
def ownS (b : Bool) : Str := if b then "page" else "section"
def An.d (b : Bool) : An → PyData
  | .gone => .tuple [.str "gone"]
  | .own z => .tuple [.str (ownS b), .str z]
  | .to ws n => .tuple [.str "to", wt ws, .int n]
def Rl.d (r : Rl) : PyData := .tuple [.str (sortS r.ex), wt r.pl, r.an.d r.ex]
def kOf (b : Bool) (ws : List Str) : NestedKey := .tup [.text (sortS b), .tup (ws.map .text)]
def Rl.key (r : Rl) : NestedKey := kOf r.ex r.pl
/-- what it is sorted by -/
def Rl.kd (r : Rl) : PyData := .tuple [keyD r.pl, .str (sortS r.ex)]
def wds : List Str := ["p", "r", "a", "b", "aa", "c", "q", "home", "s", "zz"]
def Wd (z : Str) : Prop := z ∈ wds
theorem Wd.word {z : Str} (h : Wd z) : wordS z = true := List.all_eq_true.mp (show wds.all wordS = true by decide +kernel) z h
theorem Wd.asc {z : Str} (h : Wd z) : ascB z = true := List.all_eq_true.mp (show wds.all ascB = true by decide +kernel) z h
theorem Wd.low {z : Str} (h : Wd z) : ∀ c ∈ z.cps.toList, c < 128 := (asc_of h.asc).2
def An.Ok : An → Prop
  | .gone => True
  | .own z => Wd z
  | .to ws n => ws.length ≤ 4 ∧ (∀ z ∈ ws, Wd z) ∧ 0 ≤ n ∧ n ≤ 10000
structure Rl.Ok (r : Rl) : Prop where
  len : r.pl.length ≤ 4
  wds : ∀ z ∈ r.pl, Wd z
  an : r.an.Ok
theorem words_all {ws : List Str} (h : ∀ z ∈ ws, Wd z) : (ws.map PyData.str).all wordD = true := by
  rw [List.all_eq_true]
  intro d hd
  obtain ⟨z, hz, rfl⟩ := List.mem_map.mp hd
  exact (h z hz).word
theorem place_wt {ws : List Str} (hl : ws.length ≤ 4) (h : ∀ z ∈ ws, Wd z) : placeD (wt ws) = true := by
  show (decide ((ws.map PyData.str).length ≤ 4) && (ws.map PyData.str).all wordD) = true
  rw [words_all h, List.length_map, decide_eq_true hl]
  rfl
theorem fit_words : ∀ {ws : List Str}, (∀ z ∈ ws, Wd z) → fitAll (ws.map PyData.str) = true
  | [], _ => rfl
  | z :: ws, h => by
    show (ascB z && fitAll (ws.map PyData.str)) = true
    rw [(h z List.mem_cons_self).asc, fit_words fun y hy => h y (List.mem_cons_of_mem _ hy)]
    rfl
theorem fit_wt {ws : List Str} (hl : ws.length ≤ 4) (h : ∀ z ∈ ws, Wd z) : fitB (wt ws) = true := by
  show (decide ((ws.map PyData.str).length ≤ 1000) && fitAll (ws.map PyData.str)) = true
  rw [fit_words h, List.length_map, decide_eq_true (by omega)]
  rfl
theorem asc_sort (b : Bool) : ascB (sortS b) = true := by cases b <;> decide +kernel
theorem asc_own (b : Bool) : ascB (ownS b) = true := by cases b <;> decide +kernel
theorem asc_gone : ascB "gone" = true := by decide +kernel
theorem asc_to : ascB "to" = true := by decide +kernel
theorem fit3 (x y z : PyData) : fitB (.tuple [x, y, z]) = (fitB x && (fitB y && fitB z)) := by
  show (decide (3 ≤ 1000) && (fitB x && (fitB y && (fitB z && true)))) = _
  rw [Bool.and_true]
  rfl
theorem fit_an {a : An} (b : Bool) (h : a.Ok) : fitB (a.d b) = true := by
  cases a with
  | gone =>
    show (decide (1 ≤ 1000) && (ascB "gone" && true)) = true
    rw [asc_gone]
    rfl
  | own z =>
    show (decide (2 ≤ 1000) && (ascB (ownS b) && (ascB z && true))) = true
    rw [asc_own, Wd.asc h]
    rfl
  | to ws n =>
    obtain ⟨h1, h2, _⟩ := h
    rw [show An.d b (.to ws n) = .tuple [.str "to", wt ws, .int n] from rfl, fit3, fit_wt h1 h2]
    show (ascB "to" && (true && true)) = true
    rw [asc_to]
    rfl
theorem Rl.Ok.fit {r : Rl} (h : r.Ok) : fitB r.d = true := by
  unfold Rl.d
  rw [fit3, fit_wt h.len h.wds, fit_an r.ex h.an]
  show (ascB (sortS r.ex) && (true && true)) = true
  rw [asc_sort]
  rfl
theorem ans_ok {a : An} (b : Bool) (h : a.Ok) : answerD (ownS b) (a.d b) = true := by
  have n1 : ∀ b, txtD (.str (ownS b)) "gone" = false := fun b => by cases b <;> decide +kernel
  have n2 : ∀ b, txtD (.str (ownS b)) "to" = false := fun b => by cases b <;> decide +kernel
  have n3 : ∀ b, txtD (.str (ownS b)) (ownS b) = true := fun b => by cases b <;> decide +kernel
  cases a with
  | gone => exact (answerD_cons _ _ _).trans (if_pos (by decide +kernel))
  | own z =>
    refine (answerD_cons _ _ _).trans ?_
    rw [if_neg (by rw [n1]; decide), if_neg (by rw [n2]; decide), n3]
    exact Wd.word h
  | to ws n =>
    obtain ⟨h1, h2, h3, h4⟩ := h
    refine (answerD_cons _ _ _).trans ?_
    rw [if_neg (by decide +kernel), if_pos (by decide +kernel)]
    show (placeD (wt ws) && (decide (0 ≤ n) && decide (n ≤ 10000))) = true
    rw [place_wt h1 h2, decide_eq_true h3, decide_eq_true h4]
    rfl
theorem Rl.Ok.rule {r : Rl} (h : r.Ok) : ruleD r.d = true := by
  have pl := place_wt h.len h.wds
  have an := ans_ok r.ex h.an
  show ruleT (.str (sortS r.ex)) (wt r.pl) (r.an.d r.ex) = true
  cases e : r.ex with
  | true =>
    rw [e] at an
    show ruleT (.str "exact") (wt r.pl) (r.an.d true) = true
    rw [ruleT_exact, pl]
    exact an
  | false =>
    rw [e] at an
    show ruleT (.str "open") (wt r.pl) (r.an.d false) = true
    rw [ruleT_open, pl]
    exact an
/-! ### the order -/
theorem toks_inj : ∀ {ws us : List Str} {a b : List (Int ⊕ List Nat)}, PySem.W.keyToksAll (ws.map PyData.str) ++ a = PySem.W.keyToksAll (us.map PyData.str) ++ b → ws = us ∧ a = b
  | [], [], a, b, h => ⟨rfl, by simpa [PySem.W.keyToksAll] using h⟩
  | [], u :: us, a, b, h => by simp [PySem.W.keyToksAll] at h
  | w :: ws, [], a, b, h => by simp [PySem.W.keyToksAll] at h
  | w :: ws, u :: us, a, b, h => by
    simp only [List.map_cons, PySem.W.keyToksAll, PySem.W.keyToks, List.cons_append, List.nil_append, List.cons.injEq, true_and, Sum.inr.injEq] at h
    obtain ⟨h1, h2⟩ := h
    obtain ⟨rfl, e⟩ := toks_inj h2
    exact ⟨by rw [PySem.W.str_of_cps h1], e⟩
theorem sortS_inj {a b : Bool} (h : sortS a = sortS b) : a = b := by
  cases a <;> cases b <;> first | rfl | exact absurd h (by decide +kernel)
theorem kd_inj {r t : Rl} (h : PySem.W.keyToks r.kd = PySem.W.keyToks t.kd) : r.ex = t.ex ∧ r.pl = t.pl := by
  unfold Rl.kd keyD wt at h
  simp only [PySem.W.keyToksAll, PySem.W.keyToks, List.cons_append, List.nil_append, List.append_assoc, List.cons.injEq, true_and] at h
  obtain ⟨_, h⟩ := h
  obtain ⟨e1, e2⟩ := toks_inj h
  simp only [List.cons.injEq, true_and, Sum.inr.injEq, and_true] at e2
  exact ⟨sortS_inj (PySem.W.str_of_cps e2), e1⟩
def leR (a b : Rl) : Bool := PySem.W.dataLe false Rl.kd a b
theorem leR_tot : PySem.W.TotalLe leR := PySem.W.sortLe_total (listOrd itemOrd) false fun r => PySem.W.keyToks (Rl.kd r)
theorem leR_anti {a b : Rl} (h1 : leR a b = true) (h2 : leR b a = true) : a.ex = b.ex ∧ a.pl = b.pl := by
  refine kd_inj ?_
  have e1 : (!(listOrd itemOrd).blt (PySem.W.keyToks b.kd) (PySem.W.keyToks a.kd)) = true := h1
  have e2 : (!(listOrd itemOrd).blt (PySem.W.keyToks a.kd) (PySem.W.keyToks b.kd)) = true := h2
  rw [Bool.not_eq_true'] at e1 e2
  exact (listOrd itemOrd).total _ _ e2 e1
def sortR (rs : List Rl) : List Rl := rs.mergeSort leR
theorem sortR_perm (rs : List Rl) : (sortR rs).Perm rs := List.mergeSort_perm _ _
theorem leR_or (a b : Rl) : (leR a b || leR b a) = true := by
  rcases leR_tot.total a b with h | h <;> rw [h] <;> simp
theorem key_inj {a b : Rl} (h : a.key = b.key) : a.ex = b.ex ∧ a.pl = b.pl := by
  unfold Rl.key kOf at h
  simp only [NestedKey.tup.injEq, List.cons.injEq, NestedKey.text.injEq, and_true] at h
  obtain ⟨h1, h2⟩ := h
  refine ⟨sortS_inj h1, ?_⟩
  have : ∀ {ws us : List Str}, ws.map NestedKey.text = us.map NestedKey.text → ws = us := by
    intro ws us e
    induction ws generalizing us with
    | nil => cases us with
      | nil => rfl
      | cons _ _ => simp at e
    | cons w ws ih => cases us with
      | nil => simp at e
      | cons u us =>
        simp only [List.map_cons, List.cons.injEq, NestedKey.text.injEq] at e
        rw [e.1, ih e.2]
  exact this h2
theorem nodup_key {rs : List Rl} (h : (rs.map Rl.key).Nodup) {a b : Rl} (ha : a ∈ rs) (hb : b ∈ rs) (e : a.ex = b.ex ∧ a.pl = b.pl) : a = b := by
  have k : a.key = b.key := by unfold Rl.key; rw [e.1, e.2]
  induction rs with
  | nil => cases ha
  | cons x rs ih =>
    rw [List.map_cons, List.nodup_cons] at h
    rcases List.mem_cons.mp ha with ea | ha2
    · rcases List.mem_cons.mp hb with eb | hb2
      · rw [ea, eb]
      · exact absurd (by rw [← ea, k]; exact List.mem_map_of_mem hb2) h.1
    · rcases List.mem_cons.mp hb with eb | hb2
      · exact absurd (by rw [← eb, ← k]; exact List.mem_map_of_mem ha2) h.1
      · exact ih h.2 ha2 hb2
/-- what is sorted hangs on the rules alone -/
theorem sortR_eq {rs ts : List Rl} (h : (rs.map Rl.key).Nodup) (p : rs.Perm ts) : sortR rs = sortR ts := by
  refine List.Perm.eq_of_pairwise (le := fun a b => leR a b = true) (fun a b ha hb h1 h2 => ?_) (List.pairwise_mergeSort leR_tot.trans leR_or rs) (List.pairwise_mergeSort leR_tot.trans leR_or ts) ((sortR_perm rs).trans (p.trans (sortR_perm ts).symm))
  exact nodup_key h ((sortR_perm rs).mem_iff.mp ha) (p.mem_iff.mpr ((sortR_perm ts).mem_iff.mp hb)) (leR_anti h1 h2)
theorem sortR_nodup {rs : List Rl} (h : (rs.map Rl.key).Nodup) : ((sortR rs).map Rl.key).Nodup := ((sortR_perm rs).map Rl.key).nodup_iff.mpr h
theorem kd_alike (a b : Rl) : PySem.W.alike a.kd b.kd = true := by
  simp [Rl.kd, PySem.W.alike, PySem.W.alikeAll, alike_key]
theorem kd_bare (a : Rl) : bareB a.kd = true := by
  have h : ∀ ws : List Str, bareAll (ws.map PyData.str) = true := fun ws => by
    induction ws with
    | nil => rfl
    | cons w ws ih => exact ih
  simp [Rl.kd, keyD, wt, bareB, bareAll, h]
theorem kd_deep (a : Rl) : a.kd.depth ≤ 8 := by
  have h := depth_words a.pl
  simp only [Rl.kd, keyD, wt, PyData.depth, PyData.depthAll, h]
  omega
/-! ### rules that stand -/
section
variable {K : PySem.W.Frag} {H H' : Hp}
def AnAt (K : PySem.W.Frag) (H : Hp) (v : V) (b : Bool) : An → Prop
  | .gone => ∃ a, v = .ref a ∧ SqT K H a [.str "gone"]
  | .own z => ∃ a, v = .ref a ∧ SqT K H a [.str (ownS b), .str z]
  | .to ws n => ∃ a c, v = .ref a ∧ SqT K H a [.str "to", .ref c, .int n] ∧ SqT K H c (ws.map V.str)
def RuleAt (K : PySem.W.Frag) (H : Hp) (v : V) (r : Rl) : Prop := ∃ a p x, v = .ref a ∧ SqT K H a [.str (sortS r.ex), .ref p, x] ∧ SqT K H p (r.pl.map V.str) ∧ AnAt K H x r.ex r.an
theorem AnAt.mono {v : V} {b : Bool} {a : An} (z : AnAt K H v b a) (hT : ∀ a xs, SqT K H a xs → SqT K H' a xs) : AnAt K H' v b a := by
  cases a with
  | gone => exact let ⟨c, e, h⟩ := z; ⟨c, e, hT _ _ h⟩
  | own y => exact let ⟨c, e, h⟩ := z; ⟨c, e, hT _ _ h⟩
  | to ws n => exact let ⟨c, d, e, h, h2⟩ := z; ⟨c, d, e, hT _ _ h, hT _ _ h2⟩
theorem RuleAt.mono {v : V} {r : Rl} (z : RuleAt K H v r) (hT : ∀ a xs, SqT K H a xs → SqT K H' a xs) : RuleAt K H' v r :=
  let ⟨a, p, x, e, h1, h2, h3⟩ := z; ⟨a, p, x, e, hT _ _ h1, hT _ _ h2, h3.mono hT⟩
theorem RuleAt.same {v : V} {r : Rl} (z : RuleAt K H v r) (s : Same H H') : RuleAt K H' v r := z.mono fun _ _ q => same_T s q
theorem dp_ws {a : Addr} {ws : List Str} (h : SqT K H a (ws.map V.str)) : Dp K H (.ref a) (wt ws) := .tup h (dp_strs ws)
theorem AnAt.dp {v : V} {b : Bool} {a : An} (z : AnAt K H v b a) : Dp K H v (a.d b) := by
  cases a with
  | gone =>
    obtain ⟨c, rfl, h⟩ := z
    exact .tup h (.cons (.str _) .nil)
  | own y =>
    obtain ⟨c, rfl, h⟩ := z
    exact .tup h (.cons (.str _) (.cons (.str _) .nil))
  | to ws n =>
    obtain ⟨c, d, rfl, h, h2⟩ := z
    exact .tup h (.cons (.str _) (.cons (dp_ws h2) (.cons (.int _) .nil)))
theorem RuleAt.dp {v : V} {r : Rl} (z : RuleAt K H v r) : Dp K H v r.d := by
  obtain ⟨a, p, x, rfl, h1, h2, h3⟩ := z
  exact .tup h1 (.cons (.str _) (.cons (dp_ws h2) (.cons h3.dp .nil)))
theorem dd_strs : ∀ ws : List Str, DdAll K H (ws.map V.str) (ws.map PyData.str)
  | [] => .nil
  | w :: ws => .cons (.str w) (dd_strs ws)
theorem AnAt.dd {v : V} {b : Bool} {a : An} (z : AnAt K H v b a) : Dd K H v (a.d b) := by
  cases a with
  | gone =>
    obtain ⟨c, rfl, h⟩ := z
    exact .tup h (.cons (.str _) .nil)
  | own y =>
    obtain ⟨c, rfl, h⟩ := z
    exact .tup h (.cons (.str _) (.cons (.str _) .nil))
  | to ws n =>
    obtain ⟨c, d, rfl, h, h2⟩ := z
    exact .tup h (.cons (.str _) (.cons (.tup h2 (dd_strs ws)) (.cons (.int _) .nil)))
theorem RuleAt.dd {v : V} {r : Rl} (z : RuleAt K H v r) : Dd K H v r.d := by
  obtain ⟨a, p, x, rfl, h1, h2, h3⟩ := z
  exact .tup h1 (.cons (.str _) (.cons (.tup h2 (dd_strs _)) (.cons h3.dd .nil)))
abbrev Rules (K : PySem.W.Frag) (H : Hp) (xs : List V) (rs : List Rl) : Prop := Paired (RuleAt K H) xs rs
theorem Rules.mono {xs : List V} {rs : List Rl} (z : Rules K H xs rs) (hT : ∀ a xs, SqT K H a xs → SqT K H' a xs) : Rules K H' xs rs := Paired.mono (fun _ _ q => q.mono hT) z
theorem Rules.same {xs : List V} {rs : List Rl} (z : Rules K H xs rs) (s : Same H H') : Rules K H' xs rs := z.mono fun _ _ q => same_T s q
theorem Rules.dp : ∀ {xs : List V} {rs : List Rl}, Rules K H xs rs → DpAll K H xs (rs.map Rl.d)
  | _, _, .nil => .nil
  | _, _, .cons a b => .cons a.dp (Rules.dp b)
theorem Rules.get {xs : List V} {rs : List Rl} (z : Rules K H xs rs) {i : Nat} {v : V} (h : xs[i]? = some v) : ∃ r, rs[i]? = some r ∧ RuleAt K H v r := by
  induction z generalizing i with
  | nil => simp at h
  | cons a b ih =>
    cases i with
    | zero =>
      simp at h
      subst h
      exact ⟨_, rfl, a⟩
    | succ i => exact ih (by simpa using h)
theorem nis_key {p q : Addr} {b : Bool} {ws : List Str} (h : SqT K H p [.str (sortS b), .ref q]) (h2 : SqT K H q (ws.map V.str)) : NIs K H (kOf b ws) (.ref p) := .tup h (.cons (.text _) (.cons (.tup h2 (nall_strs ws)) .nil))
theorem key_deep (b : Bool) (ws : List Str) : (kOf b ws).depth ≤ 8 := by
  have h : ∀ ws : List Str, NestedKey.depthAll (ws.map NestedKey.text) = 0 := fun ws => by
    induction ws with
    | nil => rfl
    | cons w ws ih => simp [NestedKey.depthAll, NestedKey.depth, ih]
  simp only [kOf, NestedKey.depth, NestedKey.depthAll, h]
  omega
end
end K49
/-! max of a list of whole numbers, with default=: the greatest, or the default where there is none -/
namespace Ld
open PySem L2 PySem.W
theorem maxOf_int : ∀ (ys : List Int) (y : Int), maxOf y ys ∈ y :: ys ∧ ∀ x ∈ y :: ys, x ≤ maxOf y ys
  | [], y => ⟨List.mem_cons_self, fun x h => by
      rw [List.mem_singleton.mp h]
      exact Int.le_refl _⟩
  | z :: ys, y => by
    have e : maxOf y (z :: ys) = maxOf (if y < z then z else y) ys := by
      show (z :: ys).foldl _ y = ys.foldl _ _
      rw [List.foldl_cons]
      congr 1
      show (if decide (y < z) = true then z else y) = _
      simp
    obtain ⟨h1, h2⟩ := maxOf_int ys (if y < z then z else y)
    rw [e]
    refine ⟨?_, fun x h => ?_⟩
    · rcases List.mem_cons.mp h1 with h | h
      · rw [h]
        split <;> simp
      · exact List.mem_cons_of_mem _ (List.mem_cons_of_mem _ h)
    · have h3 := h2 _ List.mem_cons_self
      generalize maxOf (if y < z then z else y) ys = M at h2 h3 ⊢
      have h4 : y ≤ M ∧ z ≤ M := by
        by_cases c : y < z
        · rw [if_pos c] at h3
          omega
        · rw [if_neg c] at h3
          omega
      rcases List.mem_cons.mp h with h | h
      · rw [h]
        exact h4.1
      · rcases List.mem_cons.mp h with h | h
        · rw [h]
          exact h4.2
        · exact h2 _ (List.mem_cons_of_mem _ h)
section
variable {X : Cx}
def rLenK (K : PySem.W.Frag) : List V → Hp → VK → Prop := fun xs H Q => ∃ p ys, xs = [.ref p] ∧ (SqL K H p ys ∨ SqT K H p ys) ∧ Q (.int (ys.length : Int)) H
theorem call_lenK {K : PySem.W.Frag} (h : X.K = K := by rfl) : CallR X (.builtin "len") (rLenK K) := by
  subst h
  exact call_len_seq
theorem ix_tupK {K : PySem.W.Frag} (h : X.K = K := by rfl) : IxR X (rIxT K) := by
  subst h
  exact ix_tup
def rMaxDf (K : PySem.W.Frag) : List V → List V → Hp → VK → Prop := fun vs ws H Q => ∃ (l : Addr) (ns : List Int) (d : Int), vs = [.ref l] ∧ ws = [.int d] ∧ SqL K H l (ns.map V.int) ∧ ∀ m, (ns = [] → m = d) → (ns ≠ [] → m ∈ ns) → (∀ y ∈ ns, y ≤ m) → Q (.int m) H
theorem cr_maxDf (hc : X.calm = true) (hu : X.A.units + 8 < cLine) : CallRK X (.builtin "max") [Str.ofString "default"] (rMaxDf X.K) := by
  intro pins0 s0 σ0 H0 xs0 ws0 us0 vs0 Q0 I0 r0 r1 ⟨l, ns, d, e0, e1, hl, q0⟩
  subst e0 e1
  obtain ⟨u0, rfl, rx0⟩ := vals1 r0
  obtain ⟨w0, rfl, rw0⟩ := vals1 r1
  cases rx0
  obtain ⟨its, rv, tl, _⟩ := I0.list hl
  refine max_list_datum_default (α := Int) (I0.ok.hd hc) tl.isList (xs := ns) ?_ ?_ (fun e h' tk hk => ⟨_, H0, I0.kept hk, rw0, q0 d (fun _ => rfl) (fun h => absurd e h) (fun y hy => by rw [e] at hy; cases hy)⟩) (fun y ys i v h' tk e hi hh hk => ?_)
  · have := HoldAll.of_ints (h := s0.heap) rv.ints
    simpa using this
  · show X.A.units + 1 + 0 < cLine
    omega
  · obtain ⟨as, r⟩ := hh
    have hm := maxOf_int ys y
    generalize hM : maxOf y ys = M at r hm
    change Reads h' v (.int M) as at r
    cases r
    refine ⟨.int M, H0, I0.kept hk, ⟨_, rfl⟩, q0 M (fun h => ?_) (fun _ => by rw [e]; exact hm.1) (fun z hz => by rw [e] at hz; exact hm.2 z hz)⟩
    rw [e] at h
    cases h
end
end Ld
namespace K49
open PySem L2 Ld PyProof.Rows
def meth (i : Nat) : Stmt := match top 24 with
  | .ClassDef _ _ _ body _ _ _ _ _ _ _ => body.getD i (.Pass ⟨0, 0, 0, 0⟩)
  | s => s
abbrev sRK : Stmt := top 23
abbrev sInit : Stmt := meth 0
structure Ty (mg : Str → Option Value) : Prop where
  sorted : mg "sorted" = none
  rev : mg "reversed" = none
  mr : ∃ t, mg "MOST_RULES" = some (.int 40 t)
theorem cutV_two (x y z : V) : cutV [x, y, z] none (some 2) = [x, y] := by
  unfold cutV
  rw [HT.sIx_none, show (2 : Int) = ((2 : Nat) : Int) from rfl, HT.sIx_nat]
  rfl
theorem kGet_snoc (k j : NestedKey) (b : Addr) (v : V) : ∀ rows : List Rw, kGet (rows ++ [(k, b, v)]) j = match kGet rows j with
    | some u => some u
    | none => if k = j then some v else none
  | [] => by
    rw [List.nil_append, kGet_cons]
    rfl
  | x :: rows => by
    rw [List.cons_append, kGet_cons, kGet_cons]
    by_cases h : x.1 = j
    · rw [if_pos h, if_pos h]
    · rw [if_neg h, if_neg h]
      exact kGet_snoc k j b v rows
theorem dc_list {P : Program} {w : World} {K : PySem.W.Frag} {a : Addr} {xs : List V} {g : TG} {tk tv : TE} {vs : List Nat} {σ : L2.St} {H1 : Hp} {D : Addr} {Qd : Hp → Prop} (Pv : Nat → Hp → Prop) (h0 : Pv 0 (upd H1 D (kdO P w D []))) (hl : ∀ i G, i ≤ xs.length → Pv i G → SqL K G a xs)
    (hs : ∀ i x G, xs[i]? = some x → Pv i G → g x (wipe σ vs) G fun σ2 G2 => wipe σ2 vs = wipe σ vs ∧ tk σ2 G2 fun y G4 => tv σ2 G4 fun z G5 => moreN P w K D y z G5 (Pv (i + 1))) (hd : ∀ G, Pv xs.length G → Qd G) :
    ∃ W : Nat → Nat → Hp → Prop, (∃ m, W 0 m (upd H1 D (kdO P w D []))) ∧ ∀ i m G, W i m G → ((Itl K a).stop i G ∧ Qd G) ∨ ((Itl K a).go i G ∧ ∃ Nx : Hp → Prop, (∀ G', Nx G' → ∃ m', m' < m ∧ W (i + 1) m' G') ∧
      ∀ x G', (Itl K a).yld i G x G' → g x (wipe σ vs) G' fun σ2 G2 => wipe σ2 vs = wipe σ vs ∧ tk σ2 G2 fun y G4 => tv σ2 G4 fun z G5 => moreN P w K D y z G5 Nx) := by
  refine ⟨fun i m G => m + i = xs.length ∧ Pv i G, ⟨xs.length, rfl, h0⟩, fun i m G ⟨e, p⟩ => ?_⟩
  have q := hl i G (by omega) p
  by_cases hlt : i < xs.length
  · refine Or.inr ⟨⟨xs, xs[i], q, List.getElem?_eq_getElem hlt⟩, Pv (i + 1), fun G' p' => ⟨m - 1, by omega, by omega, p'⟩, fun x G' y => ?_⟩
    obtain ⟨rfl, y⟩ := y
    exact hs i x G' (y xs q) p
  · have e2 : i = xs.length := by omega
    subst e2
    exact Or.inl ⟨⟨xs, q, Nat.le_refl _⟩, hd G p⟩
theorem sqT_kd {P : Program} {w : World} {K : PySem.W.Frag} {G : Hp} {D p : Addr} {r1 r2 : List Rw} {xs : List V} (hD : G D = some (kdO P w D r1)) (h : SqT K G p xs) : SqT K (upd G D (kdO P w D r2)) p xs := by
  rcases h with (h | ⟨o, h⟩) | h
  · exact .inl (.inl ((upd_ne (ne_of h hD fun e => nomatch e)).trans h))
  · exact .inl (.inr ⟨o, (upd_ne (ne_of h hD fun e => nomatch e)).trans h⟩)
  · exact .inr h
theorem rules_zip {K : PySem.W.Frag} {H : Hp} : ∀ {xs : List V} {rs : List Rl}, Rules K H xs rs → ∀ q ∈ xs.zip rs, RuleAt K H q.1 q.2
  | _, _, .nil, q, h => nomatch h
  | _, _, .cons a b, q, h => by
    rcases List.mem_cons.mp h with rfl | h
    · exact a
    · exact rules_zip b q h
theorem rules_of {K : PySem.W.Frag} {H : Hp} : ∀ {l : List (V × Rl)}, (∀ q ∈ l, RuleAt K H q.1 q.2) → Rules K H (l.map (·.1)) (l.map (·.2))
  | [], _ => .nil
  | q :: l, h => .cons (h q List.mem_cons_self) (rules_of fun p hp => h p (List.mem_cons_of_mem _ hp))
def zOf (q : V × Rl) : V × PyData := (q.1, q.2.kd)
theorem zip_fst {α β : Type} : ∀ {xs : List α} {rs : List β}, xs.length = rs.length → (xs.zip rs).map (·.1) = xs ∧ (xs.zip rs).map (·.2) = rs
  | [], [], _ => ⟨rfl, rfl⟩
  | [], _ :: _, h => by simp at h
  | _ :: _, [], h => by simp at h
  | x :: xs, r :: rs, h => by
    obtain ⟨h1, h2⟩ := zip_fst (xs := xs) (rs := rs) (by simpa using h)
    exact ⟨congrArg (x :: ·) h1, congrArg (r :: ·) h2⟩
theorem sorted_rules {K : PySem.W.Frag} {H : Hp} {xs : List V} {rs : List Rl} (z : Rules K H xs rs) : Rules K H ((((xs.zip rs).map zOf).mergeSort (PySem.W.dataLe false Prod.snd)).map Prod.fst) (sortR rs) := by
  have e1 := List.map_mergeSort (r := fun a b : V × Rl => leR a.2 b.2) (s := PySem.W.dataLe false Prod.snd) (f := zOf) (l := xs.zip rs) (fun a _ b _ => rfl)
  have e2 := List.map_mergeSort (r := fun a b : V × Rl => leR a.2 b.2) (s := leR) (f := fun q => q.2) (l := xs.zip rs) (fun a _ b _ => rfl)
  rw [(zip_fst z.length).2] at e2
  unfold sortR
  rw [← e1, ← e2, List.map_map]
  exact rules_of fun q hq => rules_zip z q ((List.mergeSort_perm _ _).mem_iff.mp hq)
theorem sqT_ins {K : PySem.W.Frag} {G : Hp} {a C p dx : Addr} {f1 f2 : List (Str × V)} {xs : List V} (h0 : G a = some (.ins C dx f1)) (h : SqT K G p xs) : SqT K (upd G a (.ins C dx f2)) p xs := by
  rcases h with (h | ⟨o, h⟩) | h
  · exact .inl (.inl ((upd_ne (ne_of h h0 fun e => nomatch e)).trans h))
  · exact .inl (.inr ⟨o, (upd_ne (ne_of h h0 fun e => nomatch e)).trans h⟩)
  · exact .inr h
theorem boot_sorted : bootBuiltins "sorted" = some (.builtin "sorted") := by decide +kernel
section
variable {X : Cx}
theorem _root_.L2.FunD.ok0 {P : Program} {w : World} {K : PySem.W.Frag} {mg : Str → Option Value} {base : Heap} {x qual : Str} {params : Arguments} {body : List Stmt} {scope : Scope} {dvs : List V} {kws : List (Str × V)} {f : Addr} {fd : FuncData} {N ps : List Str} {k : Nat} {sp : Sp}
    (F : FunD K x qual params body scope dvs kws f fd) (S : FnScope N ps scope) (len : ∀ vs H Q E, sp vs H Q E → vs.length = ps.length)
    (hb : ∀ (cdv : Value) (A : Around) (outer : List Env) (s : Shared) (H : Hp) (vs : List V) (Q : VK) (E : XK), Room k (A.deeper (envOfC qual scope s.heap.objs.size f cdv)) → sp vs H Q E →
      ∃ t, PSs (cxOf CX0 P w K mg base N qual scope f cdv A outer s H E).nox body t ∧ t { nx := fun _ H' => Q .non H', rt := Q } (start N vs) H) : FnOk P w K mg base CX0 (k + 1) f fd ps sp :=
  F.ok S len fun cdv A outer s H vs Q E hr hsp => let ⟨t, h, q⟩ := hb cdv A outer s H vs Q E hr hsp; ⟨t, h.nox, q⟩
theorem pss_dead {sts : List Stmt} : PSs X sts (fun _ _ _ => False) := ⟨fun _ _ _ _ _ _ h => h.elim⟩
end
section
variable {P : Program} {w : World} {K : PySem.W.Frag} {mg : Str → Option Value} {base : Heap} {f : Addr} {fd : FuncData}
def spRK (K : PySem.W.Frag) : Sp := fun vs H Q _ => ∃ (v : V) (r : Rl), vs = [v] ∧ RuleAt K H v r ∧ ∀ y H', Same H H' → Dp K H' y r.kd → Q y H'
theorem scRK : FnScope ["rule"] ["rule"] (defScope sRK) := ⟨rfl, rfl, rfl, by decide +kernel, rfl, by decide +kernel, by decide +kernel⟩
theorem ok_ruleKey (Fd : Fun K "rule_key" "rule_key" sRK f fd) (T : Tx mg) (DK : Df P w K mg base 1 "address_key" ["address"] (spKey K)) : FnOk P w K mg base CX0 2 f fd ["rule"] (spRK K) := by
  refine Fd.ok scRK (fun vs H Q E h => ?_) (fun cdv A outer s H vs Q E hr h => ?_)
  · obtain ⟨v, r, rfl, _⟩ := h
    rfl
  · obtain ⟨v, r, rfl, ⟨a, p, x, rfl, h1, h2, h3⟩, q⟩ := h
    refine ⟨_, pss_one (ps_ret (pe_tup (pa_cons (pe_df DK hr (pa_cons (pe_ix ix_tup (pv 0) pe_int (fun _ _ => rfl)) pa_nil)) (pa_cons (pe_ix ix_tup (pv 0) pe_int (fun _ _ => rfl)) pa_nil)))), ?_⟩
    refine ⟨_, rfl, a, _, _, _, rfl, rfl, h1, at1, p, r.pl, rfl, h2, fun y H1 s1 d1 => ⟨_, rfl, a, _, _, _, rfl, rfl, same_T s1 h1, at0, (show 2 ≤ sizeLine by decide), fun t ht => ?_⟩⟩
    have s2 := Same.new (o := .tup [.ref y, .str (sortS r.ex)]) ht
    exact q _ _ (s1.trans s2) (.tup (.of upd_same) (.cons (dp_same s2 d1) (.cons (.str _) .nil)))
/-! ### a table that stands -/
def rowsFit (K : PySem.W.Frag) (H : Hp) (rows : List Rw) (rs : List Rl) : Prop := (∀ k v, kGet rows k = some v → ∃ r ∈ rs, r.key = k ∧ RuleAt K H v r) ∧ ∀ r ∈ rs, (kGet rows r.key).isSome = true
structure Good (rs : List Rl) : Prop where
  ok : ∀ r ∈ rs, r.Ok
  few : rs.length ≤ 40
  one : (rs.map Rl.key).Nodup
def Longest (rs : List Rl) (m : Int) : Prop := 0 ≤ m ∧ m ≤ 4 ∧ ∀ r ∈ rs, (r.pl.length : Int) ≤ m
def TabAt (P : Program) (w : World) (K : PySem.W.Frag) (CT : Addr) (H : Hp) (a : Addr) (rs : List Rl) : Prop := ∃ (dx t d : Addr) (xs : List V) (rows : List Rw) (m : Int), H a = some (.ins CT dx [("_rules", .ref t), ("_found", .ref d), ("_longest", .int m)]) ∧ SqT K H t xs ∧ Rules K H xs rs ∧ Good rs ∧ KD P w K H d rows ∧ rowsFit K H rows rs ∧ Longest rs m
theorem rowsFit.mono {H H' : Hp} {rows : List Rw} {rs : List Rl} (z : rowsFit K H rows rs) (hT : ∀ a xs, SqT K H a xs → SqT K H' a xs) : rowsFit K H' rows rs := ⟨fun k v e => let ⟨r, h1, h2, h3⟩ := z.1 k v e; ⟨r, h1, h2, h3.mono hT⟩, z.2⟩
theorem TabAt.same {H H' : Hp} {CT a : Addr} {rs : List Rl} (z : TabAt P w K CT H a rs) (s : Same H H') : TabAt P w K CT H' a rs :=
  let ⟨dx, t, d, xs, rows, m, h1, h2, h3, h4, h5, h6, h7⟩ := z; ⟨dx, t, d, xs, rows, m, s _ _ h1, same_T s h2, h3.same s, h4, h5.same s, (h6.mono fun _ _ q => same_T s q), h7⟩
/-- what the class is -/
structure Tcl (K : PySem.W.Frag) (CT : Addr) : Prop where
  cls : Cls K CT
  no1 : NoAttr K CT "_rules"
  no2 : NoAttr K CT "_found"
  no3 : NoAttr K CT "_longest"
def spInit (P : Program) (w : World) (K : PySem.W.Frag) (CT : Addr) : Sp := fun vs H Q _ => ∃ (a dx la : Addr) (xs : List V) (rs : List Rl), vs = [.ref a, .ref la] ∧ H a = some (.ins CT dx []) ∧ SqL K H la xs ∧ Rules K H xs rs ∧ Good rs ∧
  ∀ H', (∀ b o, b ≠ a → H b = some o → H' b = some o) → TabAt P w K CT H' a (sortR rs) → Q .non H'
theorem scTab : FnScope ["self", "rules", "rule", "found"] ["self", "rules"] (defScope sInit) := ⟨rfl, rfl, rfl, by decide +kernel, rfl, by decide +kernel, by decide +kernel⟩
theorem ok_init {CT : Addr} {dvs : List V} (Fd : FunD K "__init__" "Table.__init__" (defArgs sInit) (defBody sInit) (defScope sInit) dvs [] f fd) (T : Tx mg) (Y : Ty mg) (C : Tcl K CT) (DR : Df P w K mg base 5 "is_rule" ["value"] (spRule K)) (DK : Df P w K mg base 2 "rule_key" ["rule"] (spRK K)) :
    FnOk P w K mg base CX0 6 f fd ["self", "rules"] (spInit P w K CT) := by
  refine Fd.ok0 scTab (fun vs H Q E h => ?_) (fun cdv A outer s H vs Q E hr h => ?_)
  · obtain ⟨a, dx, la, xs, rs, rfl, _⟩ := h
    rfl
  · obtain ⟨a, dx, la, xs, rs, rfl, ha, hl, hR, hG, q⟩ := h
    obtain ⟨tm, hm⟩ := Y.mr
    obtain ⟨fk, fdk, gk, kk, bk, FK⟩ := DK.ex
    have hu : (A.deeper (envOfC "Table.__init__" (defScope sInit) s.heap.objs.size f cdv)).units + 64 < cLine := hr.units
    have nd := scTab.nd
    refine ⟨_, pss_cons (ps_for PassesOwn.never rfl (pi_list (pv 1)) (pg_name (i := 2) nd rfl (Or.inl rfl)) (pss_one (ps_if (pt_not (pt_val (pe_df DR hr (pa_cons (pv 2) pa_nil)))) pss_dead pss_nil)))
      (pss_cons (ps_setDcN (i := 3) (own := [("rule", 2)]) (g := gName 2) (Nat.lt_of_le_of_lt (Nat.add_le_add_left (by decide) _) hr.units) (by rfl) nd rfl rfl (sw_dict rfl rfl rfl rfl) (pi_list (pv 1)) (blkOk_by (own := [("rule", 2)]) (N := ["self", "rules", "rule", "found"]) (sc := defScope sInit) (by decide +kernel))
          (fun _ _ _ _ _ => pg_name (i := 2) nd rfl (Or.inl rfl)) (fun _ _ _ _ _ => pe_slice (r := rSlW K) sl_tupK (pv 2) po_none (po_some pe_int)) (fun _ _ _ _ _ => pv 2))
      (pss_cons (ps_if (PW.pt (pw_or (pt_cmpR op_gt (pe_callB call_len_seq (by rfl) T.len PySem.boot_len (pa_cons (pv 1) pa_nil)) (pe_glob (v := .int 40) (by rfl) hm ⟨_, rfl⟩) (nomark _))
          (pw_or1 (pt_cmpR op_lt (pe_callB call_lenN (by rfl) T.len PySem.boot_len (pa_cons (pv 3) pa_nil)) (pe_callB call_len_seq (by rfl) T.len PySem.boot_len (pa_cons (pv 1) pa_nil)) (nomark _))))) pss_dead pss_nil)
      (pss_cons (ps_fld (pv 0) (pe_callTy call_tuple_of (by rfl) T.tuple (by decide +kernel) (pa_cons (pe_callBK (cr_sortK FK (hr.mono (by decide)) bk) (by rfl) Y.sorted boot_sorted (pa_cons (pv 1) pa_nil) (pk_cons (pe_glob (v := .ref fk) (by rfl) gk rfl) pk_nil)) pa_nil)) rfl)
      (pss_cons (ps_fld (pv 0) (pv 3) rfl)
      (pss_one (ps_fld (pv 0) (pe_callBK (cr_maxDf rfl (Nat.lt_of_le_of_lt (Nat.add_le_add_left (by decide) _) hr.units)) (by rfl) T.max PyProof.Rows.boot_max (pa_cons (pe_lc (own := [("rule", 2)]) (g := gName 2) (tt := tYes) (by rfl) nd (pi_list (pv 1)) (blkOk_by (own := [("rule", 2)]) (N := ["self", "rules", "rule", "found"]) (sc := defScope sInit) (by decide +kernel))
        (fun _ _ _ _ _ => pg_name (i := 2) nd rfl (Or.inl rfl)) (fun _ _ _ _ _ => pts_nil) (fun _ _ _ _ _ => pe_callB (r := rLenK K) call_lenK (by rfl) T.len PySem.boot_len (pa_cons (pe_ix (r := rIxT K) ix_tupK (pv 2) pe_int (fun _ _ => rfl)) pa_nil))) pa_nil) (pk_cons pe_int pk_nil)) rfl)))))), ?_⟩
    refine ⟨_, rfl, la, rfl, ⟨_, hl⟩, for_list (K := K) (a := la) (xs := xs) (fun j σ G => G = H ∧ ∃ u, σ = [some (.ref a), some (.ref la), u, none]) ⟨rfl, none, rfl⟩ (fun j σ G _ h => by rw [h.1]; exact hl) ?_ ?_⟩
    · rintro j x σ G hx ⟨rfl, u, rfl⟩
      obtain ⟨r, h1, h2⟩ := hR.get hx
      have hk := hG.ok r (List.mem_of_getElem? h1)
      refine ⟨_, rfl, x, r.d, rfl, h2.dd, hk.fit, _, rfl, ?_⟩
      rw [hk.rule]
      exact iteF ⟨rfl, _, rfl⟩
    · rintro σ G ⟨rfl, u, rfl⟩
      refine ⟨_, rfl, la, rfl, ⟨_, hl⟩, fun D hD low => ?_⟩
      refine dc_list (K := K) (a := la) (xs := xs) (fun i G1 => Same G G1 ∧ ∃ rows, KD P w K G1 D rows ∧ rows.length = i ∧ rowsFit K G1 rows (rs.take i)) ⟨Same.new hD, [], ⟨upd_same, low, Nat.zero_le _, fun x hx => nomatch hx⟩, rfl, (fun k v e => nomatch e), fun r hr => by rw [List.take_zero] at hr; cases hr⟩
        (fun i G1 _ h => h.1.seq hl) ?_ ?_
      · rintro i x G1 hx ⟨s1, rows, kd, hn, fit⟩
        obtain ⟨r, h1, h2⟩ := hR.get hx
        have hi : i < rs.length := (List.getElem?_eq_some_iff.mp h1).1
        obtain ⟨ra, rp, ry, rfl, t1, t2, t3⟩ := h2.same s1
        refine ⟨rfl, ?_⟩
        refine ⟨_, rfl, _, rfl, ra, _, rfl, t1, fun kp G2 s2 k1 => ⟨_, rfl, ?_⟩⟩
        rw [cutV_two] at k1
        have t4 := same_T s2 t2
        have kd2 := kd.same s2
        have r2 : RuleAt K G2 (.ref ra) r := ⟨ra, rp, ry, rfl, same_T s2 t1, t4, AnAt.mono t3 fun _ _ q => same_T s2 q⟩
        have fit2 : rowsFit K G2 rows (rs.take i) := fit.mono fun _ _ q => same_T s2 q
        have no : kGet rows r.key = none := by
          cases e : kGet rows r.key with
          | none => rfl
          | some v =>
            obtain ⟨r', hr', ek, _⟩ := fit.1 _ _ e
            obtain ⟨j, hj⟩ := List.getElem?_of_mem hr'
            have hji : j < i := by
              have := (List.getElem?_eq_some_iff.mp hj).1
              rw [List.length_take] at this
              omega
            rw [List.getElem?_take, if_pos hji] at hj
            have e1 : (rs.map Rl.key)[j]? = some r.key := by rw [List.getElem?_map, hj]; exact congrArg some ek
            have e2 : (rs.map Rl.key)[i]? = some r.key := by rw [List.getElem?_map, h1]; rfl
            have := (List.getElem?_inj (by rw [List.length_map]; omega) hG.one).mp (e1.trans e2.symm)
            omega
        have put : kPut rows r.key kp (.ref ra) = rows ++ [(r.key, kp, .ref ra)] := by
          unfold kPut
          rw [no]
          rfl
        have hT : ∀ b ys, SqT K G2 b ys → SqT K (upd G2 D (kdO P w D (kPut rows r.key kp (.ref ra)))) b ys := fun b ys z => sqT_kd kd2.at_ z
        refine ⟨kp, r.key, rows, rfl, nis_key k1 t4, key_deep _ _, kd2, fun b o e => ?_, kPut rows r.key kp (.ref ra), ⟨upd_same, low, ?_, fun y hy => ?_⟩, by rw [put]; simp [hn], fun k v e => ?_, fun r' hr' => ?_⟩
        · rw [upd_ne (ne_of_none e hD)]
          exact s2 _ _ (s1 b o e)
        · have h40 := hG.few
          rw [put, List.length_append, hn]
          simp
          omega
        · rw [put] at hy
          rcases List.mem_append.mp hy with hy | hy
          · exact ⟨nis_mono hT (kd2.key y hy).1, (kd2.key y hy).2⟩
          · rw [List.mem_singleton.mp hy]
            exact ⟨nis_mono hT (nis_key k1 t4), key_deep _ _⟩
        · rw [put, kGet_snoc] at e
          have tk : rs.take (i + 1) = rs.take i ++ [r] := by rw [List.take_add_one, h1]; rfl
          cases e3 : kGet rows k with
          | some u =>
            rw [e3] at e
            cases e
            obtain ⟨r', m1, m2, m3⟩ := fit2.1 k v e3
            exact ⟨r', by rw [tk]; exact List.mem_append_left _ m1, m2, m3.mono hT⟩
          | none =>
            rw [e3] at e
            by_cases ek : r.key = k
            · rw [if_pos ek] at e
              cases e
              exact ⟨r, by rw [tk]; simp, ek, r2.mono hT⟩
            · rw [if_neg ek] at e
              cases e
        · rw [put, kGet_snoc]
          cases e3 : kGet rows r'.key with
          | some u => rfl
          | none =>
            rw [List.take_add_one, h1] at hr'
            rcases List.mem_append.mp hr' with m | m
            · have := fit.2 r' m
              rw [e3] at this
              cases this
            · have e4 : r' = r := by simpa using m
              rw [e4, if_pos rfl]
              rfl
      · rintro G1 ⟨s1, rows, kd, hn, fit⟩
        have ln := hR.length
        have few := hG.few
        rw [List.take_of_length_le (by omega)] at fit
        refine ⟨_, rfl, la, xs, rfl, .inl (s1.seq hl), _, _, rfl, rfl, _, rfl, ?_⟩
        rw [decide_eq_false (by omega)]
        refine iteF ⟨_, rfl, D, rows, rfl, kd, _, rfl, la, xs, rfl, .inl (s1.seq hl), _, _, rfl, rfl, _, rfl, ?_⟩
        rw [decide_eq_false (by omega)]
        have zz := zip_fst ln
        have hR1 := hR.same s1
        refine iteF ⟨_, rfl, la, (xs.zip rs).map zOf, rfl, rfl, ?_, ?_, ?_, ?_, ?_, fun H2 q1 s2 hq nq => ⟨q1, _, rfl, .inl ⟨.of upd_same, fun t ht => ⟨_, rfl, a, CT, dx, [], rfl, ?_, C.cls, C.no1, (by decide), ?_⟩⟩⟩⟩
        · rw [List.map_map]
          show SqL K G1 la ((xs.zip rs).map (·.1))
          rw [zz.1]
          exact s1.seq hl
        · rw [List.length_map, List.length_zip]
          omega
        · intro d hd d' hd'
          simp only [List.map_map, List.mem_map] at hd hd'
          obtain ⟨p1, _, rfl⟩ := hd
          obtain ⟨p2, _, rfl⟩ := hd'
          exact kd_alike _ _
        · refine .inl fun d hd => ?_
          simp only [List.map_map, List.mem_map] at hd
          obtain ⟨p1, _, rfl⟩ := hd
          exact ⟨_, _, rfl⟩
        · intro z hz
          obtain ⟨p1, hp, rfl⟩ := List.mem_map.mp hz
          exact ⟨kd_bare _, kd_deep _, fun H1 sH => ⟨p1.1, p1.2, rfl, (rules_zip hR1 p1 hp).same sH, fun y H' sy dy => ⟨sy, dy⟩⟩⟩
        · exact (Same.new ht) _ _ ((Same.new hq) _ _ (s2 _ _ (s1 _ _ ha)))
        have s3 := s2.trans ((Same.new (o := .lst ((((xs.zip rs).map zOf).mergeSort (PySem.W.dataLe false Prod.snd)).map Prod.fst)) hq).trans (Same.new (o := .tup ((((xs.zip rs).map zOf).mergeSort (PySem.W.dataLe false Prod.snd)).map Prod.fst)) ht))
        have ht3 := upd_same (H := upd H2 q1 (.lst ((((xs.zip rs).map zOf).mergeSort (PySem.W.dataLe false Prod.snd)).map Prod.fst))) (a := t) (o := .tup ((((xs.zip rs).map zOf).mergeSort (PySem.W.dataLe false Prod.snd)).map Prod.fst))
        have hR3 := sorted_rules (hR1.same s3)
        generalize (((xs.zip rs).map zOf).mergeSort (PySem.W.dataLe false Prod.snd)).map Prod.fst = ys at s3 ht3 hR3 ⊢
        generalize upd (upd H2 q1 (.lst ys)) t (.tup ys) = G3 at s3 ht3 hR3 ⊢
        have ha3 : G3 a = some (.ins CT dx []) := s3 _ _ (s1 _ _ ha)
        refine ⟨_, rfl, _, rfl, a, CT, dx, _, rfl, upd_same, C.cls, C.no2, (show 1 < 1000 by decide), ?_⟩
        have hT : ∀ b zs, SqT K G3 b zs → SqT K (upd (upd G3 a (.ins CT dx (putF "_rules" (.ref t) []))) a (.ins CT dx (putF "_found" (.ref D) (putF "_rules" (.ref t) [])))) b zs := fun b zs z => sqT_ins (upd_same) (sqT_ins ha3 z)
        have hD3 : G3 D = some (kdO P w D rows) := s3 _ _ kd.at_
        have nDa : D ≠ a := ne_of hD3 ha3 fun e => nomatch e
        have off : ∀ b o, b ≠ a → G3 b = some o → (upd (upd G3 a (.ins CT dx (putF "_rules" (.ref t) []))) a (.ins CT dx (putF "_found" (.ref D) (putF "_rules" (.ref t) [])))) b = some o := fun b o nb e => by
          rw [upd_ne nb, upd_ne nb]
          exact e
        have at4 := upd_same (H := upd G3 a (.ins CT dx (putF "_rules" (.ref t) []))) (a := a) (o := .ins CT dx (putF "_found" (.ref D) (putF "_rules" (.ref t) [])))
        have hl4 : SqL K (upd (upd G3 a (.ins CT dx (putF "_rules" (.ref t) []))) a (.ins CT dx (putF "_found" (.ref D) (putF "_rules" (.ref t) [])))) la xs := by
          rcases s3.seq (s1.seq hl) with (h | ⟨o, h⟩) | h
          · exact .inl (.inl (off _ _ (ne_of h ha3 fun e => nomatch e) h))
          · exact .inl (.inr ⟨o, off _ _ (ne_of h ha3 fun e => nomatch e) h⟩)
          · exact .inr h
        have hR4 := (hR1.same s3).mono hT
        generalize upd (upd G3 a (.ins CT dx (putF "_rules" (.ref t) []))) a (.ins CT dx (putF "_found" (.ref D) (putF "_rules" (.ref t) []))) = G4 at hT off at4 hl4 hR4 ⊢
        refine ⟨_, rfl, la, rfl, ⟨_, hl4⟩, fun L hL => ?_⟩
        refine lc_list (K := K) (a := la) (xs := xs) (fun i G5 => Same G4 G5 ∧ G5 L = some (.lst (((rs.take i).map fun r => (r.pl.length : Int)).map V.int))) ⟨Same.new hL, upd_same⟩ (fun i G5 _ h => h.1.seq hl4) ?_ ?_
        · rintro i x G5 hx ⟨s5, h5⟩
          obtain ⟨r, h1, h2⟩ := hR4.get hx
          have hi : i < rs.length := (List.getElem?_eq_some_iff.mp h1).1
          obtain ⟨ra, rp, ry, rfl, t1, t2, t3⟩ := h2.same s5
          refine ⟨rfl, ?_⟩
          show tCB (rLenK K) (tCons (tOp (rIxT K) (tVar 2) (tC (V.int 1))) tNil) _ _ _
          refine ⟨_, rfl, ra, _, _, _, rfl, rfl, t1, at1, rp, _, rfl, .inr t2, _, h5, ?_, ?_⟩
          · rw [List.length_map, List.length_map, List.length_take]
            exact Nat.lt_of_le_of_lt (show min i rs.length ≤ 40 by omega) (by decide)
          · have e : ((rs.take (i + 1)).map fun r => (r.pl.length : Int)).map V.int = ((rs.take i).map fun r => (r.pl.length : Int)).map V.int ++ [V.int ((r.pl.map V.str).length : Int)] := by
              rw [List.take_add_one, h1, List.length_map]
              simp
            refine ⟨fun b o eb => ?_, ?_⟩
            · rw [upd_ne (ne_of_none eb hL)]
              exact s5 _ _ eb
            · rw [upd_same, e]
        · rintro G5 ⟨s5, h5⟩
          rw [List.take_of_length_le (by omega)] at h5
          refine ⟨L, rs.map fun r => (r.pl.length : Int), 0, rfl, rfl, .of h5, fun m m0 m1 m2 => ?_⟩
          have hlong : Longest rs m := by
            refine ⟨?_, ?_, fun r hr => m2 _ (List.mem_map.mpr ⟨r, hr, rfl⟩)⟩
            · cases rs with
              | nil => rw [m0 rfl]; decide
              | cons r rs => exact Int.le_trans (Int.ofNat_nonneg _) (m2 _ (List.mem_map.mpr ⟨r, List.mem_cons_self, rfl⟩))
            · cases rs with
              | nil => rw [m0 rfl]; decide
              | cons r rs =>
                obtain ⟨r2, hr2, e2⟩ := List.mem_map.mp (m1 (by simp))
                rw [← e2]
                have := (hG.ok r2 hr2).len
                omega
          refine ⟨_, rfl, a, CT, dx, _, rfl, s5 _ _ at4, C.cls, C.no3, (show 2 < 1000 by decide), ?_⟩
          have hT5 : ∀ b zs, SqT K G3 b zs → SqT K (upd G5 a (.ins CT dx (putF "_longest" (.int m) (putF "_found" (.ref D) (putF "_rules" (.ref t) []))))) b zs := fun b zs z => sqT_ins (s5 _ _ at4) (same_T s5 (hT _ _ z))
          refine q _ (fun b o nb e => ?_) ⟨dx, t, D, ys, rows, m, ?_, hT5 _ _ (.of ht3), hR3.mono hT5, ⟨fun r hr => hG.ok r ((sortR_perm rs).mem_iff.mp hr), by rw [(sortR_perm rs).length_eq]; exact hG.few, sortR_nodup hG.one⟩, ⟨?_, low, kd.few, fun x hx => ⟨nis_mono (fun b zs z => hT5 b zs (same_T s3 z)) (kd.key x hx).1, (kd.key x hx).2⟩⟩, ?_, ⟨hlong.1, hlong.2.1, fun r hr => hlong.2.2 r ((sortR_perm rs).mem_iff.mp hr)⟩⟩
          · rw [upd_ne nb]
            exact s5 _ _ (off _ _ nb (s3 _ _ (s1 _ _ e)))
          · rw [upd_same]
            rfl
          · rw [upd_ne nDa]
            exact s5 _ _ (off _ _ nDa hD3)
          · have f3 := fit.mono fun b zs z => hT5 b zs (same_T s3 z)
            exact ⟨fun k v e => let ⟨r, m1, m2, m3⟩ := f3.1 k v e; ⟨r, (sortR_perm rs).mem_iff.mpr m1, m2, m3⟩, fun r hr => f3.2 r ((sortR_perm rs).mem_iff.mp hr)⟩
end
end K49
namespace K49
open PySem L2 Ld PyProof.Rows
abbrev sRules : Stmt := meth 1
abbrev sLen : Stmt := meth 2
abbrev sEq : Stmt := meth 4
abbrev sFor : Stmt := meth 6
/-! ### == of rules -/
theorem eqv_str (x y : Str) : PyData.eqv (.str x) (.str y) = decide (x = y) := by
  simp only [PyData.eqv]
  by_cases h : x = y
  · subst h
    simp
  · rw [decide_eq_false h]
    exact beq_eq_false_iff_ne.mpr h
theorem eqv_int (x y : Int) : PyData.eqv (.int x) (.int y) = decide (x = y) := by
  simp only [PyData.eqv]
  by_cases h : x = y
  · subst h
    simp
  · rw [decide_eq_false h]
    exact beq_eq_false_iff_ne.mpr h
theorem beq_str (x y : Str) : (x == y) = decide (x = y) := by
  by_cases h : x = y
  · subst h
    simp
  · rw [decide_eq_false h]
    exact beq_eq_false_iff_ne.mpr h
theorem beq_int (x y : Int) : (x == y) = decide (x = y) := by
  by_cases h : x = y
  · subst h
    simp
  · rw [decide_eq_false h]
    exact beq_eq_false_iff_ne.mpr h
theorem eqv_an (b : Bool) (x y : An) : PyData.eqv (x.d b) (y.d b) = decide (x = y) := by
  have w1 : ¬ (("gone" : Str) = ownS b) := by cases b <;> decide +kernel
  cases x <;> cases y <;> simp [An.d, PyData.eqv, PyData.eqvAll, eqv_wt, beq_str, beq_int]
theorem eqv_rl (x y : Rl) : PyData.eqv x.d y.d = decide (x = y) := by
  obtain ⟨e1, p1, a1⟩ := x
  obtain ⟨e2, p2, a2⟩ := y
  show (PyData.eqv (.str (sortS e1)) (.str (sortS e2)) && (PyData.eqv (wt p1) (wt p2) && (PyData.eqv (a1.d e1) (a2.d e2) && true))) = _
  rw [eqv_str, eqv_wt, Bool.and_true]
  by_cases h : e1 = e2
  · subst h
    rw [eqv_an, decide_eq_true rfl, Bool.true_and]
    by_cases h2 : p1 = p2
    · subst h2
      by_cases h3 : a1 = a2
      · subst h3
        simp
      · rw [decide_eq_false h3, Bool.and_false, decide_eq_false fun e => h3 (by injection e)]
    · rw [decide_eq_false h2, Bool.false_and, decide_eq_false fun e => h2 (by injection e)]
  · rw [decide_eq_false fun e => h (sortS_inj e), Bool.false_and, decide_eq_false fun e => h (by injection e)]
theorem eqv_rls : ∀ xs ys : List Rl, PyData.eqvAll (xs.map Rl.d) (ys.map Rl.d) = decide (xs = ys)
  | [], [] => rfl
  | [], _ :: _ => rfl
  | _ :: _, [] => rfl
  | x :: xs, y :: ys => by
    show (PyData.eqv x.d y.d && PyData.eqvAll (xs.map Rl.d) (ys.map Rl.d)) = _
    rw [eqv_rl, eqv_rls xs ys]
    by_cases h1 : x = y
    · subst h1
      by_cases h2 : xs = ys
      · subst h2
        simp
      · rw [decide_eq_false h2, Bool.and_false, decide_eq_false fun e => h2 (List.cons.inj e).2]
    · rw [decide_eq_false h1, Bool.false_and, decide_eq_false fun e => h1 (List.cons.inj e).1]
theorem ok_str {z : Str} (h : ascB z = true) : PyData.strOk z = true := by
  unfold PyData.strOk
  rw [arr_all]
  exact List.all_eq_true.mpr fun c hc => decide_eq_true (Nat.lt_trans ((asc_of h).2 c hc) (by decide))
theorem lay_wt {ws : List Str} (h : ∀ z ∈ ws, Wd z) : (wt ws).canLay0 = true := by
  unfold wt
  simp only [PyData.canLay0]
  exact lay_words fun z hz => (h z hz).low
theorem lay_an {a : An} (b : Bool) (h : a.Ok) : (a.d b).canLay0 = true := by
  cases a with
  | gone => simp [An.d, PyData.canLay0, PyData.canLayAll0, ok_str asc_gone]
  | own z => simp [An.d, PyData.canLay0, PyData.canLayAll0, ok_str (asc_own b), ok_str (Wd.asc h)]
  | to ws n =>
    obtain ⟨h1, h2, _⟩ := h
    simp [An.d, PyData.canLay0, PyData.canLayAll0, ok_str asc_to, lay_wt h2]
theorem lay_rl {r : Rl} (h : r.Ok) : r.d.canLay0 = true := by
  simp [Rl.d, PyData.canLay0, PyData.canLayAll0, ok_str (asc_sort r.ex), lay_wt h.wds, lay_an r.ex h.an]
theorem deep_an (a : An) (b : Bool) : (a.d b).depth ≤ 2 := by
  have h := depth_words
  cases a <;> simp [An.d, wt, PyData.depth, PyData.depthAll, h]
theorem deep_rl (r : Rl) : r.d.depth ≤ 3 := by
  have h := depth_words r.pl
  have h2 := deep_an r.an r.ex
  simp only [Rl.d, wt, PyData.depth, PyData.depthAll, h]
  omega
theorem lay_rls : ∀ {rs : List Rl}, (∀ r ∈ rs, r.Ok) → PyData.canLayAll0 (rs.map Rl.d) = true
  | [], _ => rfl
  | r :: rs, h => by
    simp only [List.map_cons, PyData.canLayAll0, lay_rl (h r List.mem_cons_self), lay_rls fun x hx => h x (List.mem_cons_of_mem _ hx), Bool.and_self]
theorem deep_rls : ∀ rs : List Rl, PyData.depthAll (rs.map Rl.d) ≤ 3
  | [] => Nat.zero_le _
  | r :: rs => by
    have h1 := deep_rl r
    have h2 := deep_rls rs
    simp only [List.map_cons, PyData.depthAll]
    omega
theorem shaped_rls {rs : List Rl} (h : ∀ r ∈ rs, r.Ok) : SeqAt.shaped (.tuple (rs.map Rl.d)) = true := by
  unfold SeqAt.shaped
  have h1 := deep_rls rs
  have h2 : (PyData.tuple (rs.map Rl.d)).depth ≤ 64 := by
    simp only [PyData.depth]
    omega
  rw [decide_eq_true h2]
  simp only [PyData.canLay0, lay_rls h, Bool.and_self]
/-! ### what a table says -/
section
variable {P : Program} {w : World} {K : PySem.W.Frag} {mg : Str → Option Value} {base : Heap} {f : Addr} {fd : FuncData} {CT : Addr}
def spRules (P : Program) (w : World) (K : PySem.W.Frag) (CT : Addr) : Sp := fun vs H Q _ => ∃ (a : Addr) (rs : List Rl), vs = [.ref a] ∧ TabAt P w K CT H a rs ∧ ∀ p xs H', Same H H' → SqT K H' p xs → Rules K H' xs rs → Q (.ref p) H'
theorem scRules : FnScope ["self"] ["self"] (defScope sRules) := ⟨rfl, rfl, rfl, by decide +kernel, rfl, by decide +kernel, by decide +kernel⟩
theorem ok_rules (Fd : Fun K "rules" "Table.rules" sRules f fd) (T : Tx mg) (C : Tcl K CT) : FnOk P w K mg base CX0 1 f fd ["self"] (spRules P w K CT) := by
  refine Fd.ok scRules (fun vs H Q E h => ?_) (fun cdv A outer s H vs Q E hr h => ?_)
  · obtain ⟨a, rs, rfl, _⟩ := h
    rfl
  · obtain ⟨a, rs, rfl, ⟨dx, t, d, xs, rows, mx, h1, h2, h3, h4, h5, h6, h7⟩, q⟩ := h
    refine ⟨_, pss_one (ps_ret (pe_callTy call_tuple_of (by rfl) T.tuple (by decide +kernel) (pa_cons (pe_callTy call_list_of (by rfl) T.list (by decide +kernel) (pa_cons (pe_fld (pv 0) rfl) pa_nil)) pa_nil))), ?_⟩
    refine ⟨_, rfl, a, CT, dx, _, .ref t, rfl, h1, C.cls, C.no1, rfl, t, _, rfl, .inr h2, fun l hl => ⟨l, _, rfl, .inl ⟨.of upd_same, fun p hp => ?_⟩⟩⟩
    have s1 := (Same.new (o := .lst xs) hl).trans (Same.new (o := .tup xs) hp)
    exact q p xs _ s1 (.of upd_same) (h3.same s1)
def spLen (P : Program) (w : World) (K : PySem.W.Frag) (CT : Addr) : Sp := fun vs H Q _ => ∃ (a : Addr) (rs : List Rl), vs = [.ref a] ∧ TabAt P w K CT H a rs ∧ Q (.int (rs.length : Int)) H
theorem scLen : FnScope ["self"] ["self"] (defScope sLen) := ⟨rfl, rfl, rfl, by decide +kernel, rfl, by decide +kernel, by decide +kernel⟩
theorem ok_len (Fd : Fun K "__len__" "Table.__len__" sLen f fd) (T : Tx mg) (C : Tcl K CT) : FnOk P w K mg base CX0 1 f fd ["self"] (spLen P w K CT) := by
  refine Fd.ok scLen (fun vs H Q E h => ?_) (fun cdv A outer s H vs Q E hr h => ?_)
  · obtain ⟨a, rs, rfl, _⟩ := h
    rfl
  · obtain ⟨a, rs, rfl, ⟨dx, t, d, xs, rows, mx, h1, h2, h3, h4, h5, h6, h7⟩, q⟩ := h
    refine ⟨_, pss_one (ps_ret (pe_callB call_len_seq (by rfl) T.len PySem.boot_len (pa_cons (pe_fld (pv 0) rfl) pa_nil))), ?_⟩
    refine ⟨_, rfl, a, CT, dx, _, .ref t, rfl, h1, C.cls, C.no1, rfl, t, xs, rfl, .inr h2, ?_⟩
    rw [h3.length]
    exact q
def spEq (P : Program) (w : World) (K : PySem.W.Frag) (CT : Addr) : Sp := fun vs H Q _ => ∃ (a b : Addr) (rs ts : List Rl), vs = [.ref a, .ref b] ∧ TabAt P w K CT H a rs ∧ TabAt P w K CT H b ts ∧ Q (.bl (decide (rs = ts))) H
theorem scEq : FnScope ["self", "other"] ["self", "other"] (defScope sEq) := ⟨rfl, rfl, rfl, by decide +kernel, rfl, by decide +kernel, by decide +kernel⟩
theorem ok_eq (Fd : Fun K "__eq__" "Table.__eq__" sEq f fd) (T : Tx mg) (C : Tcl K CT) (I : C8.InsC K CT) (gT : mg "Table" = some (.ref CT)) : FnOk P w K mg base CX0 1 f fd ["self", "other"] (spEq P w K CT) := by
  refine Fd.ok scEq (fun vs H Q E h => ?_) (fun cdv A outer s H vs Q E hr h => ?_)
  · obtain ⟨a, b, rs, ts, rfl, _⟩ := h
    rfl
  · obtain ⟨a, b, rs, ts, rfl, ⟨dx, t, d, xs, rows, mx, h1, h2, h3, h4, h5, h6, h7⟩, ⟨dy, u, d', ys, rows', my, g1, g2, g3, g4, g5, g6, g7⟩, q⟩ := h
    refine ⟨_, pss_one (ps_ret (pe_and (pe_callB (C8.call_isC I) (by rfl) T.isi bootN (pa_cons (pv 1) (pa_cons (pe_glob (v := .ref CT) (by rfl) gT rfl) pa_nil)))
      (pe_one (pe_cmpR (op_eqD hr.units) (pe_fld (pv 0) rfl) (pe_fld (pv 1) rfl) (nomark _))))), ?_⟩
    refine ⟨_, rfl, b, dy, _, rfl, g1, _, rfl, ?_⟩
    refine iteT ⟨_, rfl, a, CT, dx, _, .ref t, rfl, h1, C.cls, C.no1, rfl, _, rfl, b, CT, dy, _, .ref u, rfl, g1, C.cls, C.no1, rfl, .tuple (rs.map Rl.d), .tuple (ts.map Rl.d), .tup h2 h3.dp, .tup g2 g3.dp, shaped_rls h4.ok, shaped_rls g4.ok, ?_⟩
    simp only [PyData.eqv]
    rw [eqv_rls]
    exact q
end
end K49
/-! not in, {k: v} of dicts whose keys hold tuples. -/
namespace Ld
open PySem L2 PyProof.Rows
section
variable {X : Cx}
/-- key not in d -/
def rNotInN (P : Program) (w : World) (K : PySem.W.Frag) : R2 := fun x y H Q => ∃ (b d : Addr) (k : NestedKey) (xs : List Rw), x = .ref b ∧ y = .ref d ∧ NIs K H k (.ref b) ∧ k.depth ≤ 8 ∧ KD P w K H d xs ∧ Q (.bl (!(kGet xs k).isSome)) H
theorem op_notInN (hu : X.A.units + 16 < cLine) : OpR X (compareOp .NotIn) (rNotInN X.prog X.w X.K) := by
  intro pins0 s0 σ0 H0 x0 y0 v0 u0 Q0 I0 rx0 ry0 ⟨b, d, k, xs, e1, e2, hk, hd, z, q0⟩
  subst e1 e2
  cases rx0
  cases ry0
  obtain ⟨ys, p, m⟩ := z.dict I0.hok I0.kIn
  refine wpAny_notIn_heap (kroom hu) ⟨nis_is I0.hok I0.kIn hk rfl, hd⟩ z.low m ?_
  rw [(rows_get k p).1]
  exact ⟨.bl _, H0, I0.tok _, rfl, q0⟩
/-- {key: value} -/
def tDisp1N (P : Program) (w : World) (K : PySem.W.Frag) (trs : List (TE × TE)) : TE := fun σ H Q => ∀ p, H p = none → (p == sysModules) = false → tPairs trs σ (upd H p (kdO P w p [])) fun ps H2 => ∃ (kb : Addr) (k : NestedKey) (v : V), ps = [(.ref kb, v)] ∧ NIs K H2 k (.ref kb) ∧ k.depth ≤ 8 ∧
  H2 p = some (kdO P w p []) ∧ Q (.ref p) (upd H2 p (kdO P w p (kPut [] k kb v)))
theorem pe_disp1N {pos : Pos} {ke : Option Expr} {ve : Expr} {trs : List (TE × TE)} (hu : X.A.units + 16 < cLine) (h : PPs X pos [ke] [ve] trs) (hall : [ke].all (·.isSome) = true) : PE X (.Dict [ke] [ve] pos) (tDisp1N X.prog X.w X.K trs) := by
  refine ⟨fun pins0 s0 σ0 H0 Q0 I0 q0 => ?_⟩
  have low : (s0.heap.objs.size == sysModules) = false := beq_eq_false_iff_ne.mpr (Nat.ne_of_gt I0.big)
  have I1 := I0.laid (a := s0.heap.objs.size) (o := kdO X.prog X.w s0.heap.objs.size []) (t' := s0.toks) (h' := s0.heap.push { cls := .type "dict", data := .dict #[] }) (fun b0 o0 q => Heap.get?_push_of_some _ q) (Nat.le_refl _) (kdO_ok .nil (Heap.DictOfH.new s0.heap))
  refine wpAny_Dict_any hall rfl (by simp) (show 1 ≤ 15 by decide) (thn (h.run pins0 _ σ0 _ _ I1 (q0 _ I0.fresh low)) fun ws s2 ⟨ps, H2, I2, rel, kb, k, v, e, hk, hd, at2, q2⟩ => ?_)
  subst e
  cases rel with
  | @cons a b as bs r t =>
    cases t
    obtain ⟨b1, b2⟩ := b
    obtain ⟨r1, r2⟩ := r
    cases r1
    show wpAny _ _ (forIn [(Value.ref kb, b2)] PUnit.unit fun p r => do dictSet s0.heap.objs.size p.1 p.2; pure (ForInStep.yield PUnit.unit)) _ _ s2
    rw [List.forIn_cons]
    refine wpAny_bind (wpAny_bind (dset_kd hu I2 hk hd ⟨at2, low, Nat.zero_le _, fun x hx => nomatch hx⟩ r2 fun s3 I3 => wpAny_pure ?_))
    exact wpAny_pure ⟨.ref s0.heap.objs.size, _, I3, rfl, q2⟩
/-! ### such a dict walked, locked meanwhile -/
structure KDL (P : Program) (w : World) (K : PySem.W.Frag) (H : Hp) (o : Obj) (d : Addr) (xs : List Rw) : Prop where
  at_ : H d = some (.frz o (kdO P w d xs))
  low : (d == sysModules) = false -- apart from the modules
  few : xs.length ≤ 1000
  key : ∀ x ∈ xs, NIs K H x.1 (.ref x.2.1) ∧ x.1.depth ≤ 8
theorem KDL.dict {P : Program} {w : World} {K : PySem.W.Frag} {H : Hp} {h : Heap} {o : Obj} {d : Addr} {xs : List Rw} (z : KDL P w K H o d xs) (ok : HOk P w H h) (kin : K.In h) : ∃ ys, Paired KR xs ys ∧ h.DictOfH (nestedKind P w) d ys := by
  have q : ObjOk P w H h d (.frz o (kdO P w d xs)) := ok d _ z.at_
  obtain ⟨_, ⟨ys, p, o', es, ep, ho, hc, hd, he, hn⟩, _⟩ := q
  refine ⟨ys, p, o', es, ep, ho, hc, hd, he, fun y hy => ?_, hn⟩
  have key : ∀ {l : List Rw} {m : List (NestedKey × Addr × Value)}, Paired KR l m → ∀ y ∈ m, ∃ x ∈ l, KR x y := by
    intro l m q
    induction q with
    | nil => exact fun y hy => nomatch hy
    | cons a b ih =>
      intro y hy; rcases List.mem_cons.mp hy with e | e
      · rw [e]
        exact ⟨_, List.mem_cons_self, a⟩
      · obtain ⟨x, h1, h2⟩ := ih y e
        exact ⟨x, List.mem_cons_of_mem _ h1, h2⟩
  obtain ⟨x, hx, e1, e2, e3⟩ := key p y hy
  rw [← e1, ← e2]
  exact ⟨nis_is ok kin (z.key x hx).1 rfl, (z.key x hx).2⟩
/-- d[key], d locked -/
theorem ix_kdL (hu : X.A.units + 16 < cLine) : IxR X (fun x y H Q => ∃ (b d : Addr) (o : Obj) (k : NestedKey) (xs : List Rw) (v : V), x = .ref d ∧ y = .ref b ∧ NIs X.K H k (.ref b) ∧ k.depth ≤ 8 ∧ KDL X.prog X.w X.K H o d xs ∧ kGet xs k = some v ∧ Q v H) := by
  intro value slice pins0 s0 σ0 H0 x0 y0 v0 u0 Q0 I0 rx0 ry0 ⟨b, d, o, k, xs, v, e1, e2, hk, hd, z, hv, q0⟩ hs0
  subst e1 e2
  cases rx0
  cases ry0
  obtain ⟨ys, p, m⟩ := z.dict I0.hok I0.kIn
  obtain ⟨pp, hp, rp⟩ := (rows_get k p).2 v hv
  exact tail_any m.typeIs slot_dict_getitem.lookup (wpAny_getItem_heap (kroom hu) ⟨nis_is I0.hok I0.kIn hk rfl, hd⟩ m hp ⟨v, H0, I0.tok _, rp, q0⟩) hs0
theorem frzN {pins : List (Addr × Obj)} {σ : L2.St} {H : Hp} {s : Shared} {d : Addr} {o : Obj} {xs : List Rw} (I : Inv X pins σ H s) (h : H d = some (.frz o (kdO X.prog X.w d xs))) :
    s.heap.get? d = some o ∧ o.ExactDict ∧ ∃ (es : Array DictEntry) (ep : Nat), o.data = .dict es ep ∧ es.size = xs.length ∧ ∀ (i : Nat) (x : Rw), xs[i]? = some x → ∃ en : DictEntry, es[i]? = some en ∧ en.key = .ref x.2.1 := by
  have z : ObjOk X.prog X.w H s.heap d (.frz o (kdO X.prog X.w d xs)) := I.hok d _ h
  obtain ⟨hd, ⟨ys, p, o', es, ep, ho, hx, hdt, he, _⟩, _⟩ := z
  rw [hd] at ho
  cases ho
  have l1 : es.size = ys.length := size_of_entries he
  refine ⟨hd, hx, es, ep, hdt, l1.trans p.length.symm, fun i x e => ?_⟩
  obtain ⟨y, hy, e1, e2, _⟩ := L2.paired_get p e
  refine ⟨entryOfKey (nestedKind X.prog X.w) y, ?_, ?_⟩
  · rw [← Array.getElem?_toList, he, List.getElem?_map, hy]
    rfl
  · rw [e2]
    rfl
def ItN (P : Program) (w : World) (d : Addr) (o : Obj) (xs : List Rw) : It :=
  ⟨fun i H => H d = some (.frz o (kdO P w d xs)) ∧ i < xs.length, fun i H x H' => H' = H ∧ ∃ r, xs[i]? = some r ∧ x = .ref r.2.1, fun i H => H d = some (.frz o (kdO P w d xs)) ∧ xs.length ≤ i⟩
end
section
variable {tg : Expr} {P : Program} {w : World} {K : PySem.W.Frag} {d : Addr} {o : Obj} {es : Array DictEntry} {ep : Nat}
theorem turn_keysN {xs : List Rw} (it : Addr) (hod : o.data = .dict es ep) : Turn P w K tg (ItN P w d o xs) [it] it (fun i h => h.IsKeyIter it d i xs.length ep) where
  mem := List.mem_singleton.mpr rfl
  obj := fun i h st b hb => by
    obtain ⟨oi, e, c, dd⟩ := st
    rw [List.mem_singleton.mp hb]
    exact ⟨oi, e, fun v0 z0 => by rw [dd] at z0; cases z0⟩
  keep := fun i h h2 st k => st.at fun oi e => k it (List.mem_singleton.mpr rfl) oi e
  item := by
    intro X eP ew eK hc i pins s σ H E I hf st hg
    subst eP ew eK
    obtain ⟨hd, hi⟩ := hg
    obtain ⟨f0, f1, f2, f3, f4, f5⟩ := hf it (List.mem_singleton.mpr rfl)
    obtain ⟨hgd, hx, es2, ep2, hdt, hsz, ent⟩ := frzN I hd
    obtain ⟨rfl, rfl⟩ := dict_ep hod hdt; obtain ⟨r, hr⟩ : ∃ r, xs[i]? = some r := ⟨_, List.getElem?_eq_getElem hi⟩
    obtain ⟨en, hen, hkey⟩ := ent i r hr
    refine next_key_item st hgd hdt hsz hen fun h2 st2 sb => ?_
    have I1 : Inv X pins σ H { s with heap := h2 } := I.turned (t' := s.toks) (fun b ob hb e => (sb.2 b hb).trans e) f0 f1 f3 f4 f5
    obtain ⟨oi, e, c, dd⟩ := id st2
    exact ⟨en.key, rfl, go_of (s := { s with heap := h2 }) e c dd (by decide) ⟨.ref r.2.1, H, I1, hkey, ⟨rfl, r, hr, rfl⟩, st2, fun b hb => (hf b hb).1⟩⟩
  done := by
    intro X eP ew eK hc i pins s σ H E I hf st hg
    subst eP ew eK
    obtain ⟨hd, hi⟩ := hg
    obtain ⟨f0, f1, f2, f3, f4, f5⟩ := hf it (List.mem_singleton.mpr rfl)
    obtain ⟨hgd, hx, es2, ep2, hdt, hsz, ent⟩ := frzN I hd
    obtain ⟨rfl, rfl⟩ := dict_ep hod hdt; exact next_key_end (I.ok.hd hc) st hgd hdt hsz hi fun h2 eb => ⟨rfl, I.turned (t' := s.toks) (fun b ob hb e => eb b ob hb e) f0 f1 f3 f4 f5⟩
  self := fun _ _ _ _ _ st h => wpAny_pyIter_keyiter st h
end
section
variable {X : Cx} {tg e : Expr} {td : TE}
def iKeysN (P : Program) (w : World) (td : TE) : TI := fun σ H R => td σ H fun x H1 => ∃ d o xs, x = .ref d ∧ (d == sysModules) = false ∧ H1 d = some (.frz o (kdO P w d xs)) ∧ R (ItN P w d o xs) H1
/-- for k in d: the statement locks d (ps_lock) -/
theorem pi_keysN (he : PE X e td) : PI X tg e (iKeysN X.prog X.w td) := by
  refine ⟨fun pins0 s0 σ0 H0 R0 I0 h0 => thn (he.run pins0 s0 σ0 H0 _ I0 h0) fun u s1 ⟨x, H1, I1, rx, d, o, xs, ex, low, hd, q⟩ => ?_⟩
  subst ex
  obtain rfl : u = Value.ref d := rx; obtain ⟨hgd, hx, es, ep, hdt, hsz, ent⟩ := frzN I1 hd
  refine iter_keys low hgd hx hdt (pi_one (tk := s1.toks) I1 _ (turn_keysN _ hdt) ⟨_, Heap.get?_push_size _ rfl, rfl, ?_⟩ q)
  rw [hsz]; rfl
end
end Ld
namespace K49
open PySem L2 Ld PyProof.Rows
/-! ### the rule for an address -/
def findK (rs : List Rl) (k : Bool × List Str) : Option Rl := rs.find? fun r => decide (r.key = kOf k.1 k.2)
def openFor (rs : List Rl) (ws : List Str) : Nat → Option Rl
  | 0 => findK rs (false, [])
  | n + 1 => (findK rs (false, ws.take (n + 1))).or (openFor rs ws n)
def ruleFor (rs : List Rl) (ws : List Str) : Option Rl := (findK rs (true, ws)).or (openFor rs ws ws.length)
theorem openFor_some {rs : List Rl} {ws : List Str} {r : Rl} {k : Nat} (e : findK rs (false, ws.take k) = some r) : ∀ n, k ≤ n → (∀ j, k < j → j ≤ n → findK rs (false, ws.take j) = none) → openFor rs ws n = some r
  | 0, h, _ => by
    have : k = 0 := by omega
    subst this
    exact e
  | n + 1, h, nn => by
    unfold openFor
    by_cases hk : k = n + 1
    · rw [← hk, e]
      rfl
    · rw [nn (n + 1) (by omega) (Nat.le_refl _), Option.none_or]
      exact openFor_some e n (by omega) fun j h1 h2 => nn j h1 (by omega)
theorem openFor_none {rs : List Rl} {ws : List Str} : ∀ n, (∀ j, j ≤ n → findK rs (false, ws.take j) = none) → openFor rs ws n = none
  | 0, nn => nn 0 (Nat.le_refl _)
  | n + 1, nn => by
    unfold openFor
    rw [nn (n + 1) (Nat.le_refl _), Option.none_or]
    exact openFor_none n fun j h => nn j (by omega)
theorem openFor_mem {rs : List Rl} {ws : List Str} {r : Rl} : ∀ n, openFor rs ws n = some r → r ∈ rs
  | 0, h => List.mem_of_find?_eq_some h
  | n + 1, h => by
    unfold openFor at h
    cases e : findK rs (false, ws.take (n + 1)) with
    | none =>
      rw [e, Option.none_or] at h
      exact openFor_mem n h
    | some t =>
      rw [e] at h
      cases h
      exact List.mem_of_find?_eq_some e
theorem findK_long {rs : List Rl} {k : Bool × List Str} (h : ∀ r ∈ rs, r.pl.length < k.2.length) : findK rs k = none := by
  refine List.find?_eq_none.mpr fun r hr e => ?_
  have e := (key_inj (a := r) (b := ⟨k.1, k.2, .gone⟩) (of_decide_eq_true e)).2
  have := h r hr
  rw [e] at this
  exact absurd this (Nat.lt_irrefl _)
theorem rows_find {K : PySem.W.Frag} {H : Hp} {rows : List Rw} {rs : List Rl} (z : rowsFit K H rows rs) (one : (rs.map Rl.key).Nodup) (k : Bool × List Str) :
    (kGet rows (kOf k.1 k.2) = none ∧ findK rs k = none) ∨ ∃ v r, kGet rows (kOf k.1 k.2) = some v ∧ findK rs k = some r ∧ RuleAt K H v r := by
  cases e : kGet rows (kOf k.1 k.2) with
  | none =>
    refine .inl ⟨rfl, List.find?_eq_none.mpr fun r hr h => ?_⟩
    have h2 := z.2 r hr
    rw [of_decide_eq_true h, e] at h2
    cases h2
  | some v =>
    obtain ⟨r, h1, h2, h3⟩ := z.1 _ _ e
    refine .inr ⟨v, r, rfl, ?_, h3⟩
    cases e2 : findK rs k with
    | none => exact absurd (decide_eq_true h2) (List.find?_eq_none.mp e2 r h1)
    | some t =>
      have m := List.mem_of_find?_eq_some e2
      have kt : t.key = kOf k.1 k.2 := of_decide_eq_true (List.find?_some (p := fun r : Rl => decide (r.key = kOf k.1 k.2)) e2)
      rw [nodup_key one m h1 (key_inj (kt.trans h2.symm))]
section
variable {K : PySem.W.Frag} {H H' : Hp}
def KeyAt (K : PySem.W.Frag) (H : Hp) (v : V) (k : Bool × List Str) : Prop := ∃ a p, v = .ref a ∧ SqT K H a [.str (sortS k.1), .ref p] ∧ SqT K H p (k.2.map V.str)
theorem KeyAt.mono {v : V} {k : Bool × List Str} (z : KeyAt K H v k) (hT : ∀ a xs, SqT K H a xs → SqT K H' a xs) : KeyAt K H' v k := let ⟨a, p, e, h1, h2⟩ := z; ⟨a, p, e, hT _ _ h1, hT _ _ h2⟩
theorem strs_inv : ∀ {xs : List V} {ws : List Str}, DpAll K H xs (ws.map PyData.str) → xs = ws.map V.str
  | _, [], h => by cases h; rfl
  | _, w :: ws, h => by
    cases h with
    | cons a b =>
      cases a
      rw [strs_inv b]
      rfl
theorem wt_inv {v : V} {ws : List Str} (h : Dp K H v (wt ws)) : ∃ p, v = .ref p ∧ SqT K H p (ws.map V.str) := by
  cases h with
  | tup h1 h2 =>
    rw [strs_inv h2] at h1
    exact ⟨_, rfl, h1⟩
theorem dpAll_get : ∀ {xs : List V} {ds : List PyData}, DpAll K H xs ds → xs.length = ds.length ∧ ∀ (i : Nat) (x : V), xs[i]? = some x → ∃ d, ds[i]? = some d ∧ Dp K H x d
  | _, _, .nil => ⟨rfl, fun i x e => by simp at e⟩
  | _, _, .cons a b => by
    obtain ⟨h1, h2⟩ := dpAll_get b
    refine ⟨congrArg (· + 1) h1, fun i x e => ?_⟩
    cases i with
    | zero =>
      simp at e
      subst e
      exact ⟨_, rfl, a⟩
    | succ i => exact h2 i x (by simpa using e)
theorem sqT_off {G G2 : Hp} {D p : Addr} {ks xs : List V} (hD : G D = some (.lst ks)) (fr : ∀ c o, c ≠ D → G c = some o → G2 c = some o) (h : SqT K G p xs) : SqT K G2 p xs := by
  rcases h with (h | ⟨o, h⟩) | h
  · exact .inl (.inl (fr _ _ (ne_of h hD fun e => nomatch e) h))
  · exact .inl (.inr ⟨o, fr _ _ (ne_of h hD fun e => nomatch e) h⟩)
  · exact .inr h
theorem sqL_off {G G2 : Hp} {D p : Addr} {xs : List V} (ne : p ≠ D) (fr : ∀ c o, c ≠ D → G c = some o → G2 c = some o) (h : SqL K G p xs) : SqL K G2 p xs := by
  rcases h with (h | ⟨o, h⟩) | h
  · exact .inl (.inl (fr _ _ ne h))
  · exact .inl (.inr ⟨o, fr _ _ ne h⟩)
  · exact .inr h
end
section
variable {P : Program} {w : World} {K : PySem.W.Frag} {mg : Str → Option Value} {base : Heap} {f : Addr} {fd : FuncData} {CT : Addr}
def OutAt (K : PySem.W.Frag) (H : Hp) (v : V) : Option Rl → Prop
  | none => v = .non
  | some r => RuleAt K H v r
def spFor (P : Program) (w : World) (K : PySem.W.Frag) (CT : Addr) : Sp := fun vs H Q _ => ∃ (a b : Addr) (rs : List Rl) (ws : List Str), vs = [.ref a, .ref b] ∧ TabAt P w K CT H a rs ∧ SqT K H b (ws.map V.str) ∧ ∀ v H', Same H H' → OutAt K H' v (ruleFor rs ws) → Q v H'
theorem scFor : FnScope ["self", "address", "key", "size"] ["self", "address"] (defScope sFor) := ⟨rfl, rfl, rfl, by decide +kernel, rfl, by decide +kernel, by decide +kernel⟩
theorem key_cut {rs : List Rl} (ok : ∀ r ∈ rs, r.pl.length ≤ 4) (b : Bool) (ws : List Str) : findK rs (b, ws.take 5) = findK rs (b, ws) := by
  by_cases h : ws.length ≤ 5
  · rw [List.take_of_length_le h]
  · rw [findK_long (fun r hr => ?_), findK_long (fun r hr => ?_)]
    · have := ok r hr
      show r.pl.length < ws.length
      omega
    · have := ok r hr
      show r.pl.length < (ws.take 5).length
      rw [List.length_take]
      omega
/-- where the search is: the key k is to be looked for, n more beginnings behind it -/
def Seek (rs : List Rl) (ws : List Str) (k : Bool × List Str) (s : Int) : Prop :=
  (k = (true, ws.take 5) ∧ 0 ≤ s ∧ s ≤ ws.length ∧ s ≤ 4 ∧ ∀ j : Nat, s < (j : Int) → j ≤ ws.length → findK rs (false, ws.take j) = none) ∨
  (∃ n : Nat, s = (n : Int) - 1 ∧ n ≤ ws.length ∧ n ≤ 4 ∧ k = (false, ws.take n) ∧ findK rs (true, ws) = none ∧ ∀ j, n < j → j ≤ ws.length → findK rs (false, ws.take j) = none)
theorem Seek.found {rs : List Rl} {ws : List Str} {k : Bool × List Str} {s : Int} {r : Rl} (ok : ∀ r ∈ rs, r.pl.length ≤ 4) (z : Seek rs ws k s) (e : findK rs k = some r) : ruleFor rs ws = some r := by
  unfold ruleFor
  rcases z with ⟨rfl, _⟩ | ⟨n, rfl, h1, _, rfl, h2, h3⟩
  · rw [key_cut ok] at e
    rw [e]
    rfl
  · rw [h2, Option.none_or]
    exact openFor_some e _ h1 h3
theorem Seek.out {rs : List Rl} {ws : List Str} {k : Bool × List Str} {s : Int} (z : Seek rs ws k s) (e : findK rs k = none) (h : s < 0) : ruleFor rs ws = none := by
  rcases z with ⟨rfl, h1, _⟩ | ⟨n, rfl, h1, _, rfl, h2, h3⟩
  · omega
  · have : n = 0 := by omega
    subst this
    unfold ruleFor
    rw [h2, Option.none_or]
    refine openFor_none _ fun j hj => ?_
    by_cases hj0 : j = 0
    · subst hj0
      exact e
    · exact h3 j (by omega) hj
theorem Seek.on {rs : List Rl} {ws : List Str} {k : Bool × List Str} {s : Int} (ok : ∀ r ∈ rs, r.pl.length ≤ 4) (z : Seek rs ws k s) (e : findK rs k = none) (h : 0 ≤ s) : Seek rs ws (false, ws.take s.toNat) (s - 1) := by
  refine .inr ⟨s.toNat, by omega, ?_, ?_, rfl, ?_, fun j h1 h2 => ?_⟩
  · rcases z with ⟨_, _, h2, _⟩ | ⟨n, h1, h2, _⟩ <;> omega
  · rcases z with ⟨_, _, _, h2, _⟩ | ⟨n, h1, _, h2, _⟩ <;> omega
  · rcases z with ⟨rfl, _⟩ | ⟨n, _, _, _, _, h2, _⟩
    · rw [key_cut ok] at e
      exact e
    · exact h2
  · rcases z with ⟨_, _, _, _, h3⟩ | ⟨n, rfl, _, _, rfl, _, h3⟩
    · exact h3 j (by omega) h2
    · by_cases hj : j = n
      · subst hj
        exact e
      · exact h3 j (by omega) h2
theorem ok_for (Fd : Fun K "rule_for" "Table.rule_for" sFor f fd) (T : Tx mg) (C : Tcl K CT) : FnOk P w K mg base CX0 3 f fd ["self", "address"] (spFor P w K CT) := by
  refine Fd.ok scFor (fun vs H Q E h => ?_) (fun cdv A outer s H vs Q E hr h => ?_)
  · obtain ⟨a, b, rs, ws, rfl, _⟩ := h
    rfl
  · obtain ⟨a, b, rs, ws, rfl, hTab, hb, q⟩ := h
    obtain ⟨tp, hpw⟩ := T.pw
    have nd := scFor.nd
    have hu16 : (A.deeper (envOfC "Table.rule_for" (defScope sFor) s.heap.objs.size f cdv)).units + 16 < cLine := Nat.lt_of_le_of_lt (Nat.add_le_add_left (by decide) _) hr.units
    refine ⟨_, pss_cons (ps_set (i := 2) nd rfl (Or.inl rfl) (pe_tup (pa_cons pe_str (pa_cons (pe_callTy call_tuple_of (by rfl) T.tuple (by decide +kernel) (pa_cons (pe_slice (r := rSlW K) sl_tupK (pv 1) po_none (po_some (pe_op op_add (pe_glob (v := .int 4) (by rfl) hpw ⟨_, rfl⟩) pe_int))) pa_nil)) pa_nil))))
      (pss_cons (ps_set (i := 3) nd rfl (Or.inl rfl) (pe_callB (call_min2 rfl) (by rfl) T.min PyProof.Rows.boot_min (pa_cons (pe_callB call_len_seq (by rfl) T.len PySem.boot_len (pa_cons (pv 1) pa_nil)) (pa_cons (pe_fld (pv 0) rfl) pa_nil))))
      (pss_cons (ps_while PassesOwn.never (pt_cmpR (op_notInN hu16) (pv 2) (pe_fld (pv 0) rfl) (by rfl))
        (pss_cons (ps_if (pt_cmpR op_lt (pv 3) pe_int (nomark _)) (pss_one (ps_ret pe_non)) pss_nil)
        (pss_cons (ps_set (i := 2) nd rfl (Or.inl rfl) (pe_tup (pa_cons pe_str (pa_cons (pe_callTy call_tuple_of (by rfl) T.tuple (by decide +kernel) (pa_cons (pe_slice (r := rSlW K) sl_tupK (pv 1) po_none (po_some (pv 3))) pa_nil)) pa_nil))))
        (pss_one (ps_aug (i := 3) nd rfl (Or.inl rfl) pe_int ip_sub)))))
      (pss_one (ps_ret (pe_callTy call_tuple_of (by rfl) T.tuple (by decide +kernel) (pa_cons (pe_callTy call_list_of (by rfl) T.list (by decide +kernel) (pa_cons (pe_ix (ix_kd hu16) (pe_fld (pv 0) rfl) (pv 2) (fun _ _ => rfl)) pa_nil)) pa_nil)))))), ?_⟩
    obtain ⟨dx, t, d, ys, rows, m, h1, h2, h3, h4, h5, h6, m0, m4, hm⟩ := hTab
    have ok4 : ∀ r ∈ rs, r.pl.length ≤ 4 := fun r hr => (h4.ok r hr).len
    refine ⟨_, rfl, _, _, rfl, rfl, _, rfl, b, _, rfl, hb, fun p G1 s1 k1 => ⟨p, _, rfl, .inr ⟨k1, (show 2 ≤ sizeLine by decide), fun kt hkt => ?_⟩⟩⟩
    have s2 := s1.trans (Same.new (o := .tup [.str "exact", .ref p]) hkt)
    have k2 := upd_same (H := G1) (a := kt) (o := .tup [.str "exact", .ref p])
    have p2 := same_T (Same.new (o := .tup [.str "exact", .ref p]) hkt) k1
    generalize upd G1 kt (.tup [.str "exact", .ref p]) = G2 at s2 k2 p2 ⊢
    have hx : Same H G2 := s2
    refine ⟨_, rfl, b, _, rfl, .inr (same_T hx hb), _, rfl, a, CT, dx, _, .int m, rfl, hx _ _ h1, C.cls, C.no3, rfl, _, _, rfl, ?_⟩
    have seek0 : Seek rs ws (true, ws.take 5) (if m < (((ws.map V.str).length : Nat) : Int) then m else (((ws.map V.str).length : Nat) : Int)) := by
      rw [List.length_map]
      refine .inl ⟨rfl, ?_, ?_, ?_, fun j h1 h2 => findK_long fun r hr => ?_⟩
      · split <;> omega
      · split <;> omega
      · split <;> omega
      · have h3 := hm r hr
        show r.pl.length < (ws.take j).length
        rw [List.length_take]
        split at h1 <;> omega
    rw [show ((4 : Int) + 1) = ((5 : Nat) : Int) from rfl, cut_lo] at p2
    generalize (if m < (((ws.map V.str).length : Nat) : Int) then m else (((ws.map V.str).length : Nat) : Int)) = z0 at seek0 ⊢
    have z0p : 0 ≤ z0 := by
      rcases seek0 with ⟨_, h, _⟩ | ⟨n, _, _, _, h, _⟩
      · exact h
      · cases h
    refine ⟨fun m σ G => ∃ (ka : Addr) (k : Bool × List Str) (z : Int), σ = [some (.ref a), some (.ref b), some (.ref ka), some (.int z)] ∧ KeyAt K G (.ref ka) k ∧ Seek rs ws k z ∧ Same H G ∧ (m : Int) = z + 1, ⟨(z0 + 1).toNat, kt, (true, ws.take 5), z0, rfl, ⟨kt, p, rfl, .of k2, p2⟩, seek0, hx, by omega⟩, ?_⟩
    rintro mm σ G ⟨ka, k, z, rfl, ⟨kx, kp, ek, t1, t2⟩, sk, sG, em⟩
    cases ek
    refine ⟨_, rfl, _, rfl, a, CT, dx, _, .ref d, rfl, sG _ _ h1, C.cls, C.no2, rfl, ka, d, kOf k.1 k.2, rows, rfl, rfl, nis_key t1 t2, key_deep _ _, h5.same sG, _, rfl, ?_⟩
    have h6G := h6.mono (H' := G) fun _ _ q => same_T sG q
    rcases rows_find h6G h4.one k with ⟨e1, e2⟩ | ⟨v, r, e1, e2, rv⟩
    · rw [e1]
      refine iteT ⟨_, fun σ' G' h => h, ?_⟩
      refine ⟨_, rfl, z, 0, rfl, rfl, _, rfl, ?_⟩
      by_cases hz : z < 0
      · rw [decide_eq_true hz]
        refine iteT (q _ _ sG ?_)
        rw [sk.out e2 hz]
        rfl
      · rw [decide_eq_false hz]
        refine iteF ⟨_, rfl, _, rfl, _, rfl, b, _, rfl, same_T sG hb, fun p3 G3 s3 k3 => ⟨p3, _, rfl, .inr ⟨k3, (show 2 ≤ sizeLine by decide), fun kt2 hkt2 => ?_⟩⟩⟩
        have s4 := Same.new (o := .tup [.str "open", .ref p3]) hkt2
        refine ⟨_, rfl, _, _, rfl, rfl, mm - 1, by omega, kt2, _, z - 1, rfl, ⟨kt2, p3, rfl, .of upd_same, ?_⟩, sk.on ok4 e2 (by omega), sG.trans (s3.trans s4), by omega⟩
        have e3 : z = ((z.toNat : Nat) : Int) := by omega
        rw [e3, cut_lo] at k3
        exact same_T s4 k3
    · rw [e1]
      obtain ⟨ra, rp, ry, rfl, u1, u2, u3⟩ := rv
      refine iteF ?_
      refine ⟨_, rfl, a, CT, dx, _, .ref d, rfl, sG _ _ h1, C.cls, C.no2, rfl, _, rfl, ka, d, kOf k.1 k.2, rows, _, rfl, rfl, nis_key t1 t2, key_deep _ _, h5.same sG, e1, ra, _, rfl, .inr u1, fun l hl2 => ⟨l, _, rfl, .inl ⟨.of upd_same, fun p2 hp2 => ?_⟩⟩⟩
      have st := (Same.new (o := .lst [.str (sortS r.ex), .ref rp, ry]) hl2).trans (Same.new (o := .tup [.str (sortS r.ex), .ref rp, ry]) hp2)
      refine q _ _ (sG.trans st) ?_
      rw [sk.found ok4 e2]
      exact ⟨p2, rp, ry, rfl, .of upd_same, same_T st u2, AnAt.mono u3 fun _ _ q => same_T st q⟩
end
end K49
namespace K49
open PySem L2 Ld PyProof.Rows
abbrev sBy : Stmt := top 25
abbrev sAns : Stmt := meth 5
/-! ### the answer -/
def ansOf (r : Rl) (ws : List Str) : PyData := if r.ex = true then r.an.d true else match r.an with
  | .gone => .tuple [.str "gone"]
  | .own z => .tuple [.str "section", .str z, wt (ws.drop r.pl.length)]
  | .to t n => .tuple [.str "to", wt (t ++ ws.drop r.pl.length), .int n]
def answerOf (rs : List Rl) (ws : List Str) : PyData := match ruleFor rs ws with
  | none => .tuple [.str "nothing"]
  | some r => ansOf r ws
theorem shaped_an {a : An} (b : Bool) (h : a.Ok) : SeqAt.shaped (a.d b) = true := by
  unfold SeqAt.shaped
  rw [lay_an b h, decide_eq_true (Nat.le_trans (deep_an a b) (by decide))]
  rfl
theorem shaped_gone : SeqAt.shaped (.tuple [.str "gone"]) = true := by decide +kernel
theorem for_mem {rs : List Rl} {ws : List Str} {r : Rl} (h : ruleFor rs ws = some r) : r ∈ rs := by
  unfold ruleFor at h
  cases e : findK rs (true, ws) with
  | none =>
    rw [e, Option.none_or] at h
    exact openFor_mem _ h
  | some t =>
    rw [e] at h
    cases h
    exact List.mem_of_find?_eq_some e
theorem AnAt.seq {K : PySem.W.Frag} {H : Hp} {v : V} {b : Bool} {a : An} (z : AnAt K H v b a) : ∃ c xs ds, v = .ref c ∧ SqT K H c xs ∧ DpAll K H xs ds ∧ a.d b = .tuple ds := by
  have h := z.dp
  cases a with
  | gone => cases h with | tup h1 h2 => exact ⟨_, _, _, rfl, h1, h2, rfl⟩
  | own y => cases h with | tup h1 h2 => exact ⟨_, _, _, rfl, h1, h2, rfl⟩
  | to ws n => cases h with | tup h1 h2 => exact ⟨_, _, _, rfl, h1, h2, rfl⟩
theorem dpAll_same {K : PySem.W.Frag} {H H' : Hp} {vs : List V} {ds : List PyData} (s : Same H H') (h : DpAll K H vs ds) : DpAll K H' vs ds := dpAll_mono (fun _ _ q => s.seq q) (fun _ _ q => same_T s q) ds vs h
section
variable {P : Program} {w : World} {K : PySem.W.Frag} {mg : Str → Option Value} {base : Heap} {f : Addr} {fd : FuncData} {CT : Addr}
def spBy (K : PySem.W.Frag) : Sp := fun vs H Q _ => ∃ (v : V) (b : Addr) (r : Rl) (ws : List Str), vs = [v, .ref b] ∧ RuleAt K H v r ∧ r.Ok ∧ SqT K H b (ws.map V.str) ∧ ws.length ≤ 10000 ∧ ∀ y H', Same H H' → Dp K H' y (ansOf r ws) → Q y H'
theorem scBy : FnScope ["rule", "address", "sort", "place", "answer", "rest"] ["rule", "address"] (defScope sBy) := ⟨rfl, rfl, rfl, by decide +kernel, rfl, by decide +kernel, by decide +kernel⟩
theorem ok_by (Fd : Fun K "_answer_by" "_answer_by" sBy f fd) (T : Tx mg) (DR : Df P w K mg base 1 "rest_of" ["address", "beginning"] (spRest K)) : FnOk P w K mg base CX0 2 f fd ["rule", "address"] (spBy K) := by
  refine Fd.ok scBy (fun vs H Q E h => ?_) (fun cdv A outer s H vs Q E hr h => ?_)
  · obtain ⟨v, b, r, ws, rfl, _⟩ := h
    rfl
  · obtain ⟨v, b, r, ws, rfl, ⟨ra, rp, ry, rfl, t1, t2, t3⟩, hok, hb, hlw, q⟩ := h
    have nd := scBy.nd
    refine ⟨_, pss_cons (ps_asg (pv 0) (pg_tup rfl (pgs_cons (pg_name (i := 2) nd rfl (Or.inl rfl)) (pgs_cons (pg_name (i := 3) nd rfl (Or.inl rfl)) (pgs_cons (pg_name (i := 4) nd rfl (Or.inl rfl)) pgs_nil)))))
      (pss_cons (ps_if (PW.pt (pw_or (pt_cmpR op_eq (pv 2) pe_str (nomark _)) (pw_or1 (pt_cmpR (op_eqD hr.units) (pv 4) (pe_tup (pa_cons pe_str pa_nil)) (nomark _)))))
        (pss_one (ps_ret (pe_callTy call_tuple_of (by rfl) T.tuple (by decide +kernel) (pa_cons (pe_callTy call_list_of (by rfl) T.list (by decide +kernel) (pa_cons (pv 4) pa_nil)) pa_nil)))) pss_nil)
      (pss_cons (ps_set (i := 5) nd rfl (Or.inl rfl) (pe_df DR hr (pa_cons (pv 1) (pa_cons (pv 3) pa_nil))))
      (pss_cons (ps_if (pt_cmpR op_eq (pe_ix ix_tup (pv 4) pe_int (fun _ _ => rfl)) pe_str (nomark _))
        (pss_one (ps_ret (pe_tup (pa_cons pe_str (pa_cons (pe_ix ix_tup (pv 4) pe_int (fun _ _ => rfl)) (pa_cons (pv 5) pa_nil)))))) pss_nil)
      (pss_one (ps_ret (pe_tup (pa_cons pe_str (pa_cons (pe_op op_catW (pe_ix ix_tup (pv 4) pe_int (fun _ _ => rfl)) (pv 5)) (pa_cons (pe_ix ix_tup (pv 4) pe_int (fun _ _ => rfl)) pa_nil))))))))), ?_⟩
    refine ⟨_, rfl, ra, _, rfl, t1, rfl, _, _, rfl, _, _, rfl, _, _, rfl, ?_⟩
    refine ⟨rfl, ?_⟩
    obtain ⟨ex, pl, an⟩ := r
    obtain ⟨c, as, ds, rfl, u1, u2, ud⟩ := AnAt.seq t3
    have copy : ∀ (G : Hp), Same H G → (∀ y H', Same H H' → Dp K H' y (.tuple ds) → Q y H') → ∀ l, G l = none → ∀ p, (upd G l (.lst as)) p = none → Q (.ref p) (upd (upd G l (.lst as)) p (.tup as)) := fun G sG qq l hl p hp =>
      have st := (Same.new (o := .lst as) hl).trans (Same.new (o := .tup as) hp)
      qq _ _ (sG.trans st) (.tup (.of upd_same) (dpAll_same (sG.trans st) u2))
    refine ⟨_, rfl, rfl, _, rfl, ?_⟩
    cases ex with
    | true =>
      rw [show decide (V.str (sortS true) = V.str "exact") = true from decide_eq_true rfl]
      have q2 : ∀ y H', Same H H' → Dp K H' y (.tuple ds) → Q y H' := fun y H' s d => q y H' s (by
        have e : ansOf ⟨true, pl, an⟩ ws = an.d true := rfl
        rw [e, ud]
        exact d)
      exact iteT ⟨_, rfl, c, as, rfl, .inr u1, fun l hl => ⟨l, _, rfl, .inl ⟨.of upd_same, fun p hp => copy H (Same.refl H) q2 l hl p hp⟩⟩⟩
    | false =>
      rw [show decide (V.str (sortS false) = V.str "exact") = false from decide_eq_false fun e => open_exact (V.str.inj e)]
      refine iteF ⟨_, rfl, (show 1 ≤ sizeLine by decide), fun t ht => ?_⟩
      have s1 := Same.new (o := .tup [.str "gone"]) ht
      refine ⟨an.d false, .tuple [.str "gone"], AnAt.dp (AnAt.mono t3 fun _ _ q => same_T s1 q), .tup (.of upd_same) (.cons (.str _) .nil), shaped_an false hok.an, shaped_gone, _, rfl, ?_⟩
      rw [show PyData.eqv (an.d false) (.tuple [.str "gone"]) = decide (an = .gone) from eqv_an false an .gone]
      have b1 := same_T s1 hb
      have p1 := same_T s1 t2
      have c1 := same_T s1 u1
      generalize upd H t (.tup [.str "gone"]) = G1 at s1 b1 p1 c1 ⊢
      cases an with
      | gone =>
        have q2 : ∀ y H', Same H H' → Dp K H' y (.tuple ds) → Q y H' := fun y H' s d => q y H' s (by
          have e : ansOf ⟨false, pl, .gone⟩ ws = An.d false .gone := rfl
          rw [e, ud]
          exact d)
        exact iteT ⟨_, rfl, c, as, rfl, .inr c1, fun l hl => ⟨l, _, rfl, .inl ⟨.of upd_same, fun p hp => copy G1 s1 q2 l hl p hp⟩⟩⟩
      | own z =>
        obtain ⟨c', ec, v1⟩ := t3
        cases ec
        rw [decide_eq_false (by intro e; cases e)]
        have d1 := same_T s1 v1
        refine iteF ⟨_, rfl, _, rfl, b, rp, ws, pl, rfl, b1, p1, fun rr G2 s2 r2 => ?_⟩
        have d2 := same_T s2 d1
        refine ⟨_, rfl, c, _, _, _, rfl, rfl, d2, at0, rfl, _, rfl, ?_⟩
        rw [show decide (V.str (ownS false) = V.str "section") = true from decide_eq_true rfl]
        refine iteT ⟨_, rfl, c, _, _, _, rfl, rfl, d2, at1, _, rfl, (show 3 ≤ sizeLine by decide), fun u hu => ?_⟩
        have s3 := Same.new (o := .tup [.str "section", .str z, .ref rr]) hu
        exact q _ _ (s1.trans (s2.trans s3)) (.tup (.of upd_same) (.cons (.str _) (.cons (.str _) (.cons (dp_ws (same_T s3 r2)) .nil))))
      | to tg n =>
        obtain ⟨c', cw, ec, v1, v2⟩ := t3
        cases ec
        rw [decide_eq_false (by intro e; cases e)]
        have d1 := same_T s1 v1
        refine iteF ⟨_, rfl, _, rfl, b, rp, ws, pl, rfl, b1, p1, fun rr G2 s2 r2 => ?_⟩
        have d2 := same_T s2 d1
        refine ⟨_, rfl, c, _, _, _, rfl, rfl, d2, at0, rfl, _, rfl, ?_⟩
        rw [show decide (V.str "to" = V.str "section") = false from decide_eq_false fun e => absurd (V.str.inj e) (by decide +kernel)]
        obtain ⟨lt, _⟩ := hok.an
        refine iteF ⟨_, rfl, c, _, _, _, rfl, rfl, d2, at1, _, rfl, cw, rr, _, _, rfl, rfl, same_T (s1.trans s2) v2, r2, ?_, fun x G3 s3 x3 => ?_⟩
        · rw [List.length_map, List.length_map, List.length_drop]
          exact Nat.le_trans (show tg.length + (ws.length - pl.length) ≤ 20000 by omega) (by decide)
        · refine ⟨_, rfl, c, _, _, _, rfl, rfl, same_T s3 d2, at2, (show 3 ≤ sizeLine by decide), fun u hu => ?_⟩
          rw [← List.map_append] at x3
          have s4 := Same.new (o := .tup [.str "to", .ref x, .int n]) hu
          exact q _ _ (s1.trans (s2.trans (s3.trans s4))) (.tup (.of upd_same) (.cons (.str _) (.cons (dp_ws (same_T s4 x3)) (.cons (.int _) .nil))))
def spAns (P : Program) (w : World) (K : PySem.W.Frag) (CT : Addr) : Sp := fun vs H Q _ => ∃ (a b : Addr) (rs : List Rl) (ws : List Str), vs = [.ref a, .ref b] ∧ TabAt P w K CT H a rs ∧ SqT K H b (ws.map V.str) ∧ ws.length ≤ 10000 ∧ ∀ y H', Same H H' → Dp K H' y (answerOf rs ws) → Q y H'
theorem scAns : FnScope ["self", "address", "rule"] ["self", "address"] (defScope sAns) := ⟨rfl, rfl, rfl, by decide +kernel, rfl, by decide +kernel, by decide +kernel⟩
theorem ok_ans {fF : Addr} {fdF : FuncData} (Fd : Fun K "answer" "Table.answer" sAns f fd) (T : Tx mg) (C : Tcl K CT) (M : Meth K CT "rule_for" fF) (FF : FnOk P w K mg base CX0 3 fF fdF ["self", "address"] (spFor P w K CT)) (bF : Binds K fdF ["self", "address"] []) (DB : Df P w K mg base 2 "_answer_by" ["rule", "address"] (spBy K)) :
    FnOk P w K mg base CX0 4 f fd ["self", "address"] (spAns P w K CT) := by
  refine Fd.ok scAns (fun vs H Q E h => ?_) (fun cdv A outer s H vs Q E hr h => ?_)
  · obtain ⟨a, b, rs, ws, rfl, _⟩ := h
    rfl
  · obtain ⟨a, b, rs, ws, rfl, hTab, hb, hlw, q⟩ := h
    have nd := scAns.nd
    refine ⟨_, pss_cons (ps_set (i := 2) nd rfl (Or.inl rfl) (pe_meth (E := E0) (pv 0) C.cls M FF (hr.mono (by decide)) bF .nil (fun _ _ _ _ _ _ _ z => z) (pa_cons (pv 1) pa_nil)))
      (pss_cons (ps_if (pt_cmp (pc_isN (pv 2))) (pss_one (ps_ret (pe_callTy call_tuple_of (by rfl) T.tuple (by decide +kernel) (pa_cons (pe_lstN (pa_cons pe_str pa_nil)) pa_nil)))) pss_nil)
      (pss_one (ps_ret (pe_df DB hr (pa_cons (pv 2) (pa_cons (pv 1) pa_nil)))))), ?_⟩
    obtain ⟨dx, t, d, xs, rows, mx, h1, _, _, h4, _⟩ := id hTab
    refine ⟨_, rfl, a, dx, _, rfl, h1, (by first | rfl | (simp only [List.lookup]; rfl) | (simp only [List.lookup]; decide +kernel)), _, rfl, a, b, rs, ws, rfl, hTab, hb, fun v G s1 out => ?_⟩
    cases e : ruleFor rs ws with
    | none =>
      rw [e] at out
      have ev : v = .non := out
      subst ev
      refine ⟨_, rfl, _, rfl, iteT ⟨(show 1 ≤ sizeLine by decide), fun l hl _ => ⟨l, _, rfl, .inl ⟨.of upd_same, fun p hp => ?_⟩⟩⟩⟩
      have st := (Same.new (o := .lst [.str "nothing"]) hl).trans (Same.new (o := .tup [.str "nothing"]) hp)
      refine q _ _ (s1.trans st) ?_
      unfold answerOf
      rw [e]
      exact .tup (.of upd_same) (.cons (.str _) .nil)
    | some r =>
      rw [e] at out
      have hr2 : RuleAt K G v r := out
      have nv : ¬ v = .non := fun z => by
        obtain ⟨ra, _, _, ev, _⟩ := hr2
        rw [ev] at z
        cases z
      refine ⟨_, rfl, _, rfl, ?_⟩
      rw [decide_eq_false nv]
      refine iteF ⟨_, rfl, _, rfl, v, b, r, ws, rfl, hr2, h4.ok r (for_mem e), same_T s1 hb, hlw, fun y G2 s2 dy => ?_⟩
      refine q _ _ (s1.trans s2) ?_
      unfold answerOf
      rw [e]
      exact dy
end
end K49
/-! list(d) of a dict whose keys are tuples of any depth: its keys, as they were put. -/
namespace Ld
open PySem PySem.W L2 PyProof.Rows
section
variable {X : Cx}
theorem rows_keys : ∀ {xs : List Rw} {ys : List (NestedKey × Addr × Value)}, Paired KR xs ys → Vals (xs.map fun x => V.ref x.2.1) (ys.map fun y => Value.ref y.2.1)
  | _, _, .nil => .nil
  | _, _, .cons a b => .cons (congrArg Value.ref a.2.1.symm) (rows_keys b)
def rListN (P : Program) (w : World) (K : PySem.W.Frag) : List V → Hp → VK → Prop := fun xs H Q => ∃ d rs, xs = [.ref d] ∧ KD P w K H d rs ∧ ∀ l, H l = none → l ≠ sysModules → Q (.ref l) (upd H l (.lst (rs.map fun x => V.ref x.2.1)))
theorem call_listN (hc : X.calm = true) : CallR X (.type "list") (rListN X.prog X.w X.K) := by
  intro pins s σ H xs us Q I r ⟨d, rs, e, z, q⟩
  subst e
  obtain ⟨u0, rfl, rx⟩ := vals1 r
  cases rx
  obtain ⟨⟨ys, pr, ob, es, ep, ho, hx, hdt, he, hn⟩, _⟩ := (show ObjOk X.prog X.w H s.heap d (kdO X.prog X.w d rs) from I.hok d _ z.at_)
  have raw : s.heap.DictRaw d es ep := ⟨ob, ho, hx, hdt⟩
  have l1 : es.size = ys.length := size_of_entries he
  have l2 := pr.length
  have few := z.few
  refine PySem.W.kdl_call (PySem.KdlSrc.rawDict (d := d) (es := es) (ep := ep) z.low) (I.ok.hd hc) raw (Nat.le_trans (show es.size ≤ 1000 by omega) (by decide)) fun h' tk acc c kp ea it => ?_
  have eq : acc.toList = ys.map fun y => Value.ref y.2.1 := by
    have hl : acc.toList.length = ys.length := by rw [Array.length_toList, it.1]; exact l1
    refine List.ext_getElem (by rw [hl, List.length_map]) fun j h1 h2 => ?_
    obtain ⟨hi, hv⟩ := it.2 j acc.toList[j] (by rw [← Array.getElem?_toList]; exact List.getElem?_eq_getElem h1)
    rw [hv, List.getElem_map]
    have hj : j < ys.length := by omega
    have qe : es.toList[j]? = some es[j] := by simp [hi]
    rw [he, List.getElem?_map, List.getElem?_eq_getElem hj] at qe
    have e2 : entryOfKey (nestedKind X.prog X.w) ys[j] = es[j] := Option.some.inj qe
    rw [← e2]
    rfl
  have rv : Vals (rs.map fun x => V.ref x.2.1) acc.toList := by
    rw [eq]
    exact rows_keys pr
  refine ⟨.ref s.heap.objs.size, _, I.laid (t' := tk) (a := s.heap.objs.size) (o := .lst (rs.map fun x => V.ref x.2.1)) kp (Nat.le_refl _) ?_, rfl, q _ (I.hok.fresh (Nat.le_refl _)) (Nat.ne_of_gt I.big)⟩
  exact ⟨Nat.le_trans (show (rs.map fun x => V.ref x.2.1).length ≤ 1000 by rw [List.length_map]; exact few) (by decide), acc.toList, c, rv, by rw [Array.toArray_toList]; exact ea⟩
theorem call_reprD (hG : X.A.guards = some []) (hu : X.A.units + 64 < cLine) : CallR X (.builtin "repr") (fun xs H Q => ∃ v d, xs = [v] ∧ Dp X.K H v d ∧ d.hasDict = false ∧ Small d ∧ Q (.str d.shown) H) := by
  intro pins s σ H xs us Q I r h
  obtain ⟨v, d, rfl, hR, hnd, ⟨h1, h2, h3⟩, q⟩ := h
  obtain ⟨u, rfl, ru⟩ := vals1 r
  obtain ⟨as, rd⟩ := Dp.reads I d v u hR ru
  have hs : d.hasDict = true → ¬ sysModules ∈ as := fun z => by
    rw [hnd] at z
    cases z
  have fin : ∀ h' t tk, (∀ b o, s.heap.get? b = some o → h'.get? b = some o) → EP X pins σ Q (.str d.shown t) { s with heap := h', toks := tk } := fun h' t tk kp =>
    ⟨.str d.shown, H, I.kept kp, ⟨t, rfl⟩, q⟩
  cases v with
  | ref a =>
    cases ru
    exact repr_of_reads' rd h1 hs hG (by omega) (fun _ _ e => e) fin h3
  | non =>
    cases ru
    cases rd
    simp only [PyData.shown] at fin
    exact P.repr_of_none (fin s.heap _ _ fun _ _ e => e)
  | bl b =>
    cases ru
    cases rd
    simp only [PyData.shown] at fin
    exact P.repr_of_bool (fin s.heap _ _ fun _ _ e => e)
  | int i =>
    obtain ⟨t, rfl⟩ := ru
    cases rd
    simp only [PyData.shown] at fin
    exact P.repr_of_int (by simpa [PyData.showable] using h1) (fin s.heap _ _ fun _ _ e => e)
  | str x =>
    obtain ⟨t, rfl⟩ := ru
    cases rd
    simp only [PyData.shown] at fin h3
    exact P.repr_of_str (fin s.heap _ _ fun _ _ e => e) h3
  | byt b =>
    obtain ⟨t, rfl⟩ := ru
    cases rd
  | flt b =>
    obtain ⟨t, rfl⟩ := ru
    cases rd
  | ty n =>
    cases ru
    cases rd
end
end Ld
namespace K49
open PySem L2 Ld PyProof.Rows
def kA (ws : List Str) : NestedKey := .tup (ws.map .text)
theorem nis_ws {K : PySem.W.Frag} {H : Hp} {p : Addr} {ws : List Str} (h : SqT K H p (ws.map V.str)) : NIs K H (kA ws) (.ref p) := .tup h (nall_strs ws)
theorem kA_deep (ws : List Str) : (kA ws).depth ≤ 8 := by
  have h : ∀ ws : List Str, NestedKey.depthAll (ws.map NestedKey.text) = 0 := fun ws => by
    induction ws with
    | nil => rfl
    | cons w ws ih => simp [NestedKey.depthAll, NestedKey.depth, ih]
  simp only [kA, NestedKey.depth, h]
  omega
theorem kA_inj {ws us : List Str} (h : kA ws = kA us) : ws = us := by
  unfold kA at h
  simp only [NestedKey.tup.injEq] at h
  induction ws generalizing us with
  | nil => cases us with
    | nil => rfl
    | cons _ _ => simp at h
  | cons w ws ih => cases us with
    | nil => simp at h
    | cons u us =>
      simp only [List.map_cons, List.cons.injEq, NestedKey.text.injEq] at h
      rw [h.1, ih h.2]
def begsOf (ws : List Str) : List (List Str) := (List.range (ws.length + 1)).map ws.take
theorem pe_disp1NK {X : Cx} {P : Program} {w : World} {K : PySem.W.Frag} {pos : Pos} {ke : Option Expr} {ve : Expr} {trs : List (TE × TE)} (hu : X.A.units + 16 < cLine) (h : PPs X pos [ke] [ve] trs) (hall : [ke].all (·.isSome) = true) (hP : X.prog = P := by rfl) (hw : X.w = w := by rfl) (hK : X.K = K := by rfl) : PE X (.Dict [ke] [ve] pos) (tDisp1N P w K trs) := by
  subst hP hw hK
  exact pe_disp1N hu h hall
theorem op_notInNK {X : Cx} {P : Program} {w : World} {K : PySem.W.Frag} (hu : X.A.units + 16 < cLine) (hP : X.prog = P := by rfl) (hw : X.w = w := by rfl) (hK : X.K = K := by rfl) : OpR X (compareOp .NotIn) (rNotInN P w K) := by
  subst hP hw hK
  exact op_notInN hu
theorem pset_kdK {X : Cx} {P : Program} {w : World} {K : PySem.W.Frag} (hu : X.A.units + 16 < cLine) (hP : X.prog = P := by rfl) (hw : X.w = w := by rfl) (hK : X.K = K := by rfl) : PSet X (putN P w K) := by
  subst hP hw hK
  exact pset_kd hu
theorem pair_get {α β : Type} {F : α → β → Prop} : ∀ {xs : List α} {l : List β}, Paired F xs l → ∀ {i : Nat} {x : α}, xs[i]? = some x → ∃ k, l[i]? = some k ∧ F x k
  | _, _, .nil, i, x, h => by simp at h
  | _, _, .cons a b, 0, x, h => by
    simp at h
    subst h
    exact ⟨_, rfl, a⟩
  | _, _, .cons a b, i + 1, x, h => pair_get b (by simpa using h)
theorem begD_at (ws : List Str) {n j : Nat} (h : j < n) : (begD ws n)[j]? = some (wt (ws.take j)) := by
  unfold begD
  rw [List.getElem?_map, List.getElem?_range h]
  rfl
theorem begD_len (ws : List Str) (n : Nat) : (begD ws n).length = n := by
  unfold begD
  simp
theorem take_last {ws : List Str} {j : Nat} (h : j < ws.length) : ws.take (j + 1) = ws.take j ++ [ws[j]] := by
  rw [List.take_add_one, List.getElem?_eq_getElem h]
  rfl
theorem cut_last (us : List Str) (x : Str) : cutV ((us ++ [x]).map V.str) none (some (-1)) = us.map V.str := by
  unfold cutV
  have e : HT.sIx ((us ++ [x]).map V.str).length ((us ++ [x]).map V.str).length (some (-1)) = us.length := by
    show (if (-1 : Int) < 0 then ((-1 : Int) + ((((us ++ [x]).map V.str).length : Nat) : Int)).toNat else min (-1 : Int).toNat ((us ++ [x]).map V.str).length) = us.length
    rw [if_pos (by decide), List.length_map, List.length_append, List.length_singleton]
    omega
  rw [e, HT.sIx_none, List.drop_zero, Nat.sub_zero, List.map_append]
  have : us.length = (us.map V.str).length := by simp
  rw [this, List.take_left']
  rfl
theorem begs_at (ws : List Str) {j : Nat} (h : j ≤ ws.length) : (begsOf ws)[j]? = some (ws.take j) := by
  unfold begsOf
  rw [List.getElem?_map, List.getElem?_range (by omega)]
  rfl
def Places (K : PySem.W.Frag) (H : Hp) (xs : List V) (pls : List (List Str)) : Prop := Paired (fun v ws => ∃ p, v = .ref p ∧ SqT K H p (ws.map V.str)) xs pls
def leA (a b : List Str) : Bool := PySem.W.dataLe false id (keyD a) (keyD b)
def sortA (ss : List (List Str)) : List (List Str) := ss.mergeSort leA
def LowW (ws : List Str) : Prop := ∀ z ∈ ws, ∀ c ∈ z.cps.toList, c < 128
theorem lay_low {ws : List Str} (h : LowW ws) : (wt ws).canLay0 = true := by
  unfold wt
  simp only [PyData.canLay0]
  exact lay_words h
theorem shaped_ansL {rs : List Rl} {ws : List Str} (g : ∀ r ∈ rs, r.Ok) (h : LowW ws) : SeqAt.shaped (answerOf rs ws) = true := by
  have sx : PyData.strOk "nothing" = true := ok_str (by decide +kernel)
  have sy : PyData.strOk "section" = true := ok_str (asc_own false)
  have dw := depth_words
  have both : (answerOf rs ws).canLay0 = true ∧ (answerOf rs ws).depth ≤ 2 := by
    unfold answerOf
    cases hr : ruleFor rs ws with
    | none => exact ⟨by simp [PyData.canLay0, PyData.canLayAll0, sx], by simp [PyData.depth, PyData.depthAll]⟩
    | some r =>
      have ok := g r (for_mem hr)
      obtain ⟨e, pl, an⟩ := r
      cases e with
      | true => exact ⟨lay_an true ok.an, deep_an an true⟩
      | false =>
        cases an with
        | gone => exact ⟨by simp [ansOf, PyData.canLay0, PyData.canLayAll0, ok_str asc_gone], by simp [ansOf, PyData.depth, PyData.depthAll]⟩
        | own z => exact ⟨by simp [ansOf, PyData.canLay0, PyData.canLayAll0, sy, ok_str (Wd.asc ok.an), lay_low (fun y hy => h y (List.mem_of_mem_drop hy))], by simp [ansOf, wt, PyData.depth, PyData.depthAll, ← List.map_drop, dw]⟩
        | to tg n =>
          have hw : LowW (tg ++ ws.drop pl.length) := fun y hy => by
            rcases List.mem_append.mp hy with hy | hy
            · exact (ok.an.2.1 y hy).low
            · exact h y (List.mem_of_mem_drop hy)
          refine ⟨by simp [ansOf, PyData.canLay0, PyData.canLayAll0, ok_str asc_to, lay_low hw], by
            show (PyData.tuple [.str "to", wt (tg ++ ws.drop pl.length), .int n]).depth ≤ 2
            simp only [wt, PyData.depth, PyData.depthAll, dw]
            decide⟩
  unfold SeqAt.shaped
  rw [decide_eq_true (Nat.le_trans both.2 (by decide)), both.1]
  rfl
theorem sorted_pl {K : PySem.W.Frag} {H : Hp} {xs : List V} {ss : List (List Str)} (z : Places K H xs ss) : Places K H ((((xs.zip ss).map fun q => (q.1, keyD q.2)).mergeSort (PySem.W.dataLe false Prod.snd)).map Prod.fst) (sortA ss) := by
  have e1 := List.map_mergeSort (r := fun a b : V × List Str => leA a.2 b.2) (s := PySem.W.dataLe false Prod.snd) (f := fun q => (q.1, keyD q.2)) (l := xs.zip ss) (fun a _ b _ => rfl)
  have e2 := List.map_mergeSort (r := fun a b : V × List Str => leA a.2 b.2) (s := leA) (f := fun q => q.2) (l := xs.zip ss) (fun a _ b _ => rfl)
  rw [(zip_fst z.length).2] at e2
  unfold sortA
  rw [← e1, ← e2, List.map_map]
  have all : ∀ {xs : List V} {ss : List (List Str)}, Places K H xs ss → ∀ q ∈ xs.zip ss, ∃ p, q.1 = V.ref p ∧ SqT K H p (q.2.map V.str) := fun {xs ss} z => by
    induction z with
    | nil => exact fun q h => by cases h
    | cons a b ih =>
      intro q h
      rw [List.zip_cons_cons] at h
      rcases List.mem_cons.mp h with rfl | h
      · exact a
      · exact ih q h
  have mk : ∀ {l : List (V × List Str)}, (∀ q ∈ l, ∃ p, q.1 = V.ref p ∧ SqT K H p (q.2.map V.str)) → Places K H (l.map (·.1)) (l.map (·.2)) := fun {l} => by
    induction l with
    | nil => exact fun _ => .nil
    | cons q l ih => exact fun h => .cons (h q List.mem_cons_self) (ih fun p hp => h p (List.mem_cons_of_mem _ hp))
  exact mk fun q hq => all z q ((List.mergeSort_perm _ _).mem_iff.mp hq)
/-! ### joints -/
def addJ (js : List (List Str)) (ws : List Str) : List (List Str) := if ws ∈ js then js else js ++ [ws]
def ruleJ (js : List (List Str)) (r : Rl) : List (List Str) := if r.ex = true then addJ ((begsOf r.pl.dropLast).foldl addJ js) r.pl else (begsOf r.pl.dropLast).foldl addJ js
def tabJ (js : List (List Str)) (rs : List Rl) : List (List Str) := rs.foldl ruleJ js
def jointsOf (rss : List (List Rl)) : List (List Str) := rss.foldl tabJ [[]]
section
variable {P : Program} {w : World} {K : PySem.W.Frag} {mg : Str → Option Value} {base : Heap} {f : Addr} {fd : FuncData} {CT : Addr}
def KeyJ (x : Rw) (ws : List Str) : Prop := x.1 = kA ws
def JD (P : Program) (w : World) (K : PySem.W.Frag) (H : Hp) (D : Addr) (rows : List Rw) (js : List (List Str)) : Prop := KD P w K H D rows ∧ Paired KeyJ rows js
theorem JD.same {H H' : Hp} {D : Addr} {rows : List Rw} {js : List (List Str)} (z : JD P w K H D rows js) (s : Same H H') : JD P w K H' D rows js := ⟨z.1.same s, z.2⟩
theorem keyJ_get (ws : List Str) {rows : List Rw} {js : List (List Str)} (z : Paired KeyJ rows js) : (kGet rows (kA ws)).isSome = decide (ws ∈ js) := by
  induction z with
  | nil => rfl
  | @cons x e rows es a b ih =>
    rw [kGet_cons]
    have ax : x.1 = kA e := a
    by_cases h : ws = e
    · rw [if_pos (by rw [ax, h])]
      simp [h]
    · rw [if_neg (fun q => h (kA_inj (ax.symm.trans q)).symm), ih]
      simp [h]
theorem keyJ_set (k : NestedKey) (v : V) : ∀ {rows : List Rw} {js : List (List Str)}, Paired KeyJ rows js → Paired KeyJ (rows.map (kSet k v)) js
  | _, _, .nil => .nil
  | _, _, .cons a b => .cons (by
      unfold kSet
      split
      · exact a
      · exact a) (keyJ_set k v b)
theorem jd_put {H : Hp} {D b : Addr} {rows : List Rw} {js : List (List Str)} {ws : List Str} {v : V} (z : JD P w K H D rows js) (few : rows.length ≤ 900) (hk : NIs K H (kA ws) (.ref b)) :
    JD P w K (upd H D (kdO P w D (kPut rows (kA ws) b v))) D (kPut rows (kA ws) b v) (addJ js ws) := by
  obtain ⟨kd, pr⟩ := z
  have hT : ∀ c ys, SqT K H c ys → SqT K (upd H D (kdO P w D (kPut rows (kA ws) b v))) c ys := fun c ys q => sqT_kd kd.at_ q
  have gt := keyJ_get ws pr
  have ln := kPut_len rows (kA ws) b v
  refine ⟨⟨upd_same, kd.low, by omega, fun x hx => ?_⟩, ?_⟩
  · unfold kPut at hx
    split at hx
    · obtain ⟨y, hy, rfl⟩ := List.mem_map.mp hx
      have e : (kSet (kA ws) v y).1 = y.1 ∧ (kSet (kA ws) v y).2.1 = y.2.1 := by
        unfold kSet
        split <;> exact ⟨rfl, rfl⟩
      rw [e.1, e.2]
      exact ⟨nis_mono hT (kd.key y hy).1, (kd.key y hy).2⟩
    · rcases List.mem_append.mp hx with hx | hx
      · exact ⟨nis_mono hT (kd.key x hx).1, (kd.key x hx).2⟩
      · rw [List.mem_singleton.mp hx]
        exact ⟨nis_mono hT hk, kA_deep ws⟩
  · unfold kPut addJ
    rw [gt]
    by_cases h : ws ∈ js
    · rw [if_pos (by simpa using h), if_pos h]
      exact keyJ_set _ _ pr
    · rw [if_neg (by simpa using h), if_neg h]
      exact pr.snoc (a := (kA ws, b, v)) (b := ws) rfl
theorem nis_inv {H : Hp} {b : Addr} {ws : List Str} (h : NIs K H (kA ws) (.ref b)) : SqT K H b (ws.map V.str) := by
  unfold kA at h
  generalize e : NestedKey.tup (ws.map NestedKey.text) = k at h
  cases h with
  | tup h1 h2 =>
    injection e with e
    have : ∀ {ws : List Str} {ks : List NestedKey} {xs : List V}, NAll K H ks xs → ws.map NestedKey.text = ks → xs = ws.map V.str := fun {ws ks xs} z => by
      intro e
      induction ws generalizing ks xs with
      | nil => subst e; cases z; rfl
      | cons w ws ih =>
        subst e
        cases z with
        | cons a b =>
          cases a
          rw [ih b rfl]
          rfl
    rw [this h2 e] at h1
    exact h1
theorem jd_places {H : Hp} {D : Addr} {rows : List Rw} {js : List (List Str)} (z : JD P w K H D rows js) : Places K H (rows.map fun x => V.ref x.2.1) js := by
  obtain ⟨kd, pr⟩ := z
  have key := kd.key
  clear kd
  induction pr with
  | nil => exact .nil
  | @cons x ws rows js a b ih =>
    have k := (key x List.mem_cons_self).1
    rw [show x.1 = kA ws from a] at k
    exact .cons ⟨_, rfl, nis_inv k⟩ (ih fun y hy => key y (List.mem_cons_of_mem _ hy))
end
end K49
namespace K49
open PySem L2 Ld PyProof.Rows
theorem pl_zip {K : PySem.W.Frag} {H : Hp} : ∀ {xs : List V} {ss : List (List Str)}, Places K H xs ss → ∀ q ∈ xs.zip ss, ∃ p, q.1 = V.ref p ∧ SqT K H p (q.2.map V.str)
  | _, _, .nil => fun q h => by cases h
  | _, _, .cons a b => fun q h => by
    rw [List.zip_cons_cons] at h
    rcases List.mem_cons.mp h with rfl | h
    · exact a
    · exact pl_zip b q h
theorem keyD_bare (ws : List Str) : bareB (keyD ws) = true := by
  have h : ∀ ws : List Str, bareAll (ws.map PyData.str) = true := fun ws => by
    induction ws with
    | nil => rfl
    | cons w ws ih => exact ih
  simp [keyD, wt, bareB, bareAll, h]
theorem keyD_deep (ws : List Str) : (keyD ws).depth ≤ 8 := by
  have h := depth_words ws
  simp only [keyD, wt, PyData.depth, PyData.depthAll, h]
  omega

section
variable {K : PySem.W.Frag} {H H' : Hp}
mutual
/-- data without lists stands as long as its tuples do -/
theorem dp_off (hT : ∀ a xs, SqT K H a xs → SqT K H' a xs) : ∀ (d : PyData) (v : V), bareB d = true → Dp K H v d → Dp K H' v d
  | .none, _, _, z => by cases z; exact .non
  | .bool b, _, _, z => by cases z; exact .bl b
  | .int i, _, _, z => by cases z; exact .int i
  | .str x, _, _, z => by cases z; exact .str x
  | .list ds, _, e, _ => by cases e
  | .dict ds, _, e, _ => by cases e
  | .tuple ds, _, e, z => by
    cases z with
    | tup h1 h2 => exact .tup (hT _ _ h1) (dpAll_off hT ds _ e h2)
theorem dpAll_off (hT : ∀ a xs, SqT K H a xs → SqT K H' a xs) : ∀ (ds : List PyData) (vs : List V), bareAll ds = true → DpAll K H vs ds → DpAll K H' vs ds
  | [], _, _, z => by cases z; exact .nil
  | d :: ds, _, e, z => by
    have e2 := Bool.and_eq_true_iff.mp (show (bareB d && bareAll ds) = true from e)
    cases z with
    | cons a b => exact .cons (dp_off hT d _ e2.1 a) (dpAll_off hT ds _ e2.2 b)
end
end
theorem bare_ws : ∀ ws : List Str, bareAll (ws.map PyData.str) = true
  | [] => rfl
  | w :: ws => bare_ws ws
theorem bare_ans (rs : List Rl) (ws : List Str) : bareB (answerOf rs ws) = true := by
  unfold answerOf
  cases ruleFor rs ws with
  | none => rfl
  | some r =>
    obtain ⟨e, pl, an⟩ := r
    cases e <;> cases an <;> simp [ansOf, An.d, wt, bareB, bareAll, bare_ws, -List.map_append, -List.map_drop]
theorem dpAll_snoc {K : PySem.W.Frag} {H : Hp} {v : V} {d : PyData} : ∀ {vs : List V} {ds : List PyData}, DpAll K H vs ds → Dp K H v d → DpAll K H (vs ++ [v]) (ds ++ [d])
  | _, _, .nil, z => .cons z .nil
  | _, _, .cons a b, z => .cons a (dpAll_snoc b z)
theorem bare_list {α : Type} {g : α → PyData} : ∀ {l : List α}, (∀ x ∈ l, bareB (g x) = true) → bareAll (l.map g) = true
  | [], _ => rfl
  | x :: l, h => by
    show (bareB (g x) && bareAll (l.map g)) = true
    rw [h x List.mem_cons_self, bare_list fun y hy => h y (List.mem_cons_of_mem _ hy)]
    rfl
theorem sort_pls {K : PySem.W.Frag} {H : Hp} {l fk : Addr} {vs : List V} {ss : List (List Str)} {Q : VK} (hl : SqL K H l vs) (hp : Places K H vs ss) (hn : ss.length ≤ 1000) (q : ∀ H1 p ys, H p = none → Same H H1 → H1 p = some (.lst ys) → Places K H1 ys (sortA ss) → Q (.ref p) H1) :
    rSortK K fk (spKey K) [.ref l] [.ref fk] H Q := by
  have zz := zip_fst hp.length
  have ln := hp.length
  refine ⟨l, (vs.zip ss).map fun q => (q.1, keyD q.2), rfl, rfl, ?_, ?_, ?_, ?_, ?_, fun H2 q1 s2 hq nq => ?_⟩
  · rw [List.map_map]
    show SqL K H l ((vs.zip ss).map (·.1))
    rw [zz.1]
    exact hl
  · rw [List.length_map, List.length_zip]
    omega
  · intro d hd d' hd'
    simp only [List.map_map, List.mem_map] at hd hd'
    obtain ⟨p1, _, rfl⟩ := hd
    obtain ⟨p2, _, rfl⟩ := hd'
    exact alike_key _ _
  · refine .inl fun d hd => ?_
    simp only [List.map_map, List.mem_map] at hd
    obtain ⟨p1, _, rfl⟩ := hd
    exact ⟨_, _, rfl⟩
  · intro z hz
    obtain ⟨p1, h1, rfl⟩ := List.mem_map.mp hz
    obtain ⟨pa, ea, ta⟩ := pl_zip hp p1 h1
    refine ⟨keyD_bare _, keyD_deep _, fun H1 sH1 => ?_⟩
    show spKey K [p1.1] H1 _ E0
    rw [ea]
    exact ⟨pa, p1.2, rfl, same_T sH1 ta, fun y H' sy dy => ⟨sy, dy⟩⟩
  · have pl := sorted_pl hp
    generalize (((vs.zip ss).map fun q => (q.1, keyD q.2)).mergeSort (PySem.W.dataLe false Prod.snd)).map Prod.fst = ys at pl ⊢
    have s3 := s2.trans (Same.new (o := .lst ys) hq)
    exact q _ _ _ (s2.free hq) s3 upd_same (Paired.mono (fun _ _ ⟨p, e, z⟩ => ⟨p, e, same_T s3 z⟩) pl)
end K49
namespace K49
open PySem L2 Ld PyProof.Rows
abbrev sWith : Stmt := meth 7
abbrev sOut : Stmt := meth 8
/-! ### tables made -/
structure Tmk (P : Program) (w : World) (K : PySem.W.Frag) (mg : Str → Option Value) (base : Heap) (CT : Addr) : Prop where
  gT : mg "Table" = some (.ref CT)
  ex : ∃ fI fdI, Mk K CT fI ∧ Binds K fdI ["self", "rules"] [] ∧ FnOk P w K mg base CX0 6 fI fdI ["self", "rules"] (spInit P w K CT)
theorem make_sp {P : Program} {w : World} {K : PySem.W.Frag} {CT la : Addr} {H1 : Hp} {xs : List V} {rs : List Rl} {Q : Addr → Hp → Prop} (hl : SqL K H1 la xs) (hR : Rules K H1 xs rs) (hG : Good rs) (q : ∀ a H', H1 a = none → Same H1 H' → TabAt P w K CT H' a (sortR rs) → Q a H') :
    ∀ x dx, H1 x = none → H1 dx = none → dx ≠ x → spInit P w K CT (.ref x :: ([.ref la] ++ [])) (upd (upd H1 dx (.own x)) x (.ins CT dx [])) (fun v H2 => v = .non ∧ Q x H2) E0 := fun x dx hx hd ne => by
  have s1 : Same H1 (upd (upd H1 dx (.own x)) x (.ins CT dx [])) := fun b o e => by
    rw [upd_ne (ne_of_none e hx), upd_ne (ne_of_none e hd)]
    exact e
  exact ⟨x, dx, la, xs, rs, rfl, upd_same, s1.seq hl, hR.same s1, hG, fun H' fr tb => ⟨rfl, q x H' hx (fun b o e => fr b o (ne_of_none e hx) (s1 _ _ e)) tb⟩⟩
section
variable {X : Cx} {CT : Addr} {e : Expr} {es : List Expr} {ta : TA} {p pos : Pos}
theorem op_neDK {X : Cx} {K : PySem.W.Frag} (hu : X.A.units + 64 < cLine) (hK : X.K = K := by rfl) : OpR X (compareOp .NotEq) (rNeD K) := by
  subst hK
  exact op_neD hu
theorem pe_table {j : Nat} (B : Tmk X.prog X.w X.K X.mg X.base CT) (hr : Room j X.A) (ha : PA X [e] ta) (hj : 7 ≤ j := by decide) (hg : Gl X "Table" := by rfl) (he : starEach [e] X.env = (false, eval e X.env) :: starEach [] X.env := by rfl) : PE X (.Call (.Name "Table" p) [e] [] pos) (tMake CT (spInit X.prog X.w X.K CT) [] E0 ta) :=
  let ⟨_, _, M, hb, F⟩ := B.ex
  pe_make (E := E0) (dvs := []) M F (hr.mono hj) hg B.gT hb .nil (fun _ _ _ _ _ _ _ z => False.elim z) ha (by decide) he rfl
end
/-! ### a rule more, a rule less -/
def sameK (b : Bool) (ws : List Str) (r : Rl) : Bool := decide (r.ex = b) && decide (r.pl = ws)
def others (b : Bool) (ws : List Str) (rs : List Rl) : List Rl := rs.filter fun r => !sameK b ws r
def headD (b : Bool) (ws : List Str) : PyData := .tuple [.str (sortS b), wt ws]
theorem others_snoc (b : Bool) (ws : List Str) (l : List Rl) (r : Rl) : others b ws (l ++ [r]) = others b ws l ++ (if sameK b ws r = true then [] else [r]) := by
  unfold others
  rw [List.filter_append]
  cases h : sameK b ws r <;> simp [List.filter, h]
theorem Good.out {rs : List Rl} (h : Good rs) (b : Bool) (ws : List Str) : Good (others b ws rs) :=
  ⟨fun r hr => h.ok r (List.mem_filter.mp hr).1, Nat.le_trans (List.length_filter_le _ _) h.few, List.Nodup.sublist (List.Sublist.map _ List.filter_sublist) h.one⟩
theorem Good.sort {rs : List Rl} (h : Good rs) : Good (sortR rs) :=
  ⟨fun r hr => h.ok r ((sortR_perm rs).mem_iff.mp hr), by rw [(sortR_perm rs).length_eq]; exact h.few, sortR_nodup h.one⟩
theorem Good.more {rs : List Rl} (h : Good rs) {r : Rl} (ok : r.Ok) (few : (others r.ex r.pl rs).length < 40) : Good (others r.ex r.pl rs ++ [r]) := by
  refine ⟨fun t ht => ?_, by simp; omega, ?_⟩
  · rcases List.mem_append.mp ht with ht | ht
    · exact (h.out r.ex r.pl).ok t ht
    · rw [List.mem_singleton.mp ht]
      exact ok
  · rw [List.map_append, List.nodup_append]
    refine ⟨(h.out r.ex r.pl).one, by simp, fun x hx y hy e => ?_⟩
    obtain ⟨t, ht, rfl⟩ := List.mem_map.mp hx
    have ey : y = r.key := by simpa using hy
    rw [ey] at e
    have k := key_inj e
    have n := (List.mem_filter.mp ht).2
    simp [sameK, k.1, k.2] at n
theorem sort_twice {rs : List Rl} (h : (rs.map Rl.key).Nodup) : sortR (sortR rs) = sortR rs := sortR_eq (sortR_nodup h) (sortR_perm rs)
theorem sort_sp {K : PySem.W.Frag} {H : Hp} {l fk : Addr} {xs : List V} {rs : List Rl} {Q : VK} (hl : SqL K H l xs) (hR : Rules K H xs rs) (few : rs.length ≤ 1000) (q : ∀ H1 p ys, Same H H1 → H1 p = none → Rules K H1 ys (sortR rs) → Q (.ref p) (upd H1 p (.lst ys))) :
    rSortK K fk (spRK K) [.ref l] [.ref fk] H Q := by
  have ln := hR.length
  have zz := zip_fst ln
  refine ⟨l, (xs.zip rs).map zOf, rfl, rfl, ?_, ?_, ?_, ?_, ?_, fun H1 p s1 hp _ => q H1 p _ s1 hp (sorted_rules (hR.same s1))⟩
  · rw [List.map_map]
    show SqL K H l ((xs.zip rs).map (·.1))
    rw [zz.1]
    exact hl
  · rw [List.length_map, List.length_zip]
    omega
  · intro d hd d' hd'
    simp only [List.map_map, List.mem_map] at hd hd'
    obtain ⟨p1, _, rfl⟩ := hd
    obtain ⟨p2, _, rfl⟩ := hd'
    exact kd_alike _ _
  · refine .inl fun d hd => ?_
    simp only [List.map_map, List.mem_map] at hd
    obtain ⟨p1, _, rfl⟩ := hd
    exact ⟨_, _, rfl⟩
  · intro z hz
    obtain ⟨p1, hp, rfl⟩ := List.mem_map.mp hz
    exact ⟨kd_bare _, kd_deep _, fun H1 sH => ⟨p1.1, p1.2, rfl, (rules_zip hR p1 hp).same sH, fun y H' sy dy => ⟨sy, dy⟩⟩⟩
theorem head_dp {K : PySem.W.Frag} {H : Hp} {p q : Addr} {b : Bool} {ws : List Str} (h : SqT K H p [.str (sortS b), .ref q]) (h2 : SqT K H q (ws.map V.str)) : Dp K H (.ref p) (headD b ws) := .tup h (.cons (.str _) (.cons (dp_ws h2) .nil))
theorem Rules.at {K : PySem.W.Frag} {G G2 : Hp} {D : Addr} {ks ys : List V} {rs : List Rl} (z : Rules K G ys rs) (hD : G D = some (.lst ks)) (fr : ∀ c o, c ≠ D → G c = some o → G2 c = some o) : Rules K G2 ys rs := z.mono fun _ _ q => sqT_off hD fr q
theorem eqv_head (b c : Bool) (ws us : List Str) : PyData.eqv (headD b ws) (headD c us) = (decide (b = c) && decide (ws = us)) := by
  show (PyData.eqv (.str (sortS b)) (.str (sortS c)) && (PyData.eqv (wt ws) (wt us) && true)) = _
  rw [eqv_str, eqv_wt, Bool.and_true]
  by_cases h : b = c
  · subst h
    simp
  · rw [decide_eq_false h, decide_eq_false fun e => h (sortS_inj e)]
theorem shaped_head (b : Bool) {ws : List Str} (h : ∀ z ∈ ws, Wd z) : SeqAt.shaped (headD b ws) = true := by
  unfold SeqAt.shaped
  have d := depth_words ws
  have h2 : (headD b ws).depth ≤ 64 := by
    simp only [headD, wt, PyData.depth, PyData.depthAll, d]
    omega
  rw [decide_eq_true h2]
  simp [headD, PyData.canLay0, PyData.canLayAll0, ok_str (asc_sort b), lay_wt h]
end K49
namespace K49
open PySem L2 Ld PyProof.Rows
abbrev sShuf : Stmt := top 38
abbrev sPool : Stmt := top 39
def tmenu : List Str := ["a", "b", "c", "aa", "zz"]
theorem wdt {z : Str} (h : z ∈ tmenu) : Wd z := show z ∈ wds from of_decide_eq_true (List.all_eq_true.mp (show tmenu.all (fun z => decide (z ∈ wds)) = true by decide +kernel) z h)
theorem shaped_strs {us : List Str} (h : ∀ z ∈ us, Wd z) : SeqAt.shaped (.list (us.map PyData.str)) = true := by
  unfold SeqAt.shaped
  have d := depth_words us
  have h2 : (PyData.list (us.map PyData.str)).depth ≤ 64 := by
    simp only [PyData.depth, d]
    decide
  rw [decide_eq_true h2]
  simp only [PyData.canLay0, lay_words fun z hz => (h z hz).low, Bool.and_self]
theorem eqv_strs0 (us : List Str) : PyData.eqv (.list (us.map PyData.str)) (.list []) = us.isEmpty := by
  cases us <;> simp [PyData.eqv, PyData.eqvAll]
theorem seq_at {k : Int} {n : Nat} (h0 : 0 ≤ k) (h1 : k < n) : seqIndex? k n = some k.toNat := by
  unfold seqIndex?
  have e : (if k < 0 then k + (n : Int) else k) = k := if_neg (by omega)
  simp only [e]
  exact if_pos (by rw [decide_eq_true h0, decide_eq_true h1]; rfl)
theorem cut_upto (xs : List V) (k : Nat) : cutV xs none (some (k : Int)) = xs.take k := by
  unfold cutV
  rw [HT.sIx_none, HT.sIx_nat, List.drop_zero, Nat.sub_zero]
  by_cases h : k ≤ xs.length
  · rw [Nat.min_eq_left h]
  · rw [Nat.min_eq_right (by omega), List.take_of_length_le (Nat.le_refl _), List.take_of_length_le (by omega)]
theorem erase_map {α β : Type} (g : α → β) : ∀ (l : List α) (k : Nat), (l.map g).eraseIdx k = (l.eraseIdx k).map g
  | [], _ => rfl
  | _ :: _, 0 => rfl
  | x :: l, k + 1 => by
    show g x :: (l.map g).eraseIdx k = g x :: (l.eraseIdx k).map g
    rw [erase_map g l k]
section
variable {P : Program} {w : World} {K : PySem.W.Frag} {mg : Str → Option Value} {base : Heap} {f : Addr} {fd : FuncData}
def spShuf (K : PySem.W.Frag) : Sp := fun vs H Q _ => ∃ (wa la : Addr) (zs : List Str), vs = [.ref wa, .ref la] ∧ Sm H wa ∧ SqL K H la (zs.map V.str) ∧ zs.length ≤ 50 ∧ (∀ z ∈ zs, Wd z) ∧
  ∀ (l : Addr) (ys : List Str) (H' : Hp), H' l = some (.lst (ys.map V.str)) → (∀ z ∈ ys, z ∈ zs) → ys.length = zs.length → Sm H' wa → Sb wa H H' → Q (.ref l) H'
def shufN : List Str := ["_law_stream_here", "_law_items", "_law_left", "_law_found"]
theorem scShuf : FnScope shufN ["_law_stream_here", "_law_items"] (defScope sShuf) := ⟨rfl, rfl, rfl, by decide +kernel, rfl, by decide +kernel, by decide +kernel⟩
theorem ok_shuf (Fd : Fun K "_law_shuffled" "_law_shuffled" sShuf f fd) (T : Tx mg) (D : Df P w K mg base 1 "_law_draw" ["_law_stream_here", "_law_size"] spDraw) : FnOk P w K mg base CX0 2 f fd ["_law_stream_here", "_law_items"] (spShuf K) := by
  refine Fd.ok scShuf (fun vs H Q E h => ?_) (fun cdv A outer s H vs Q E hr h => ?_)
  · obtain ⟨wa, la, zs, rfl, _⟩ := h
    rfl
  · obtain ⟨wa, la, zs, rfl, W, hS, hlen, hw, q⟩ := h
    have nd := scShuf.nd
    refine ⟨_, pss_cons (ps_par (i := 2) (j := 3) (by rfl) nd rfl rfl (by decide) rfl rfl (pa_cons (pe_callTy call_list_of (by rfl) T.list (by decide +kernel) (pa_cons (pv 1) pa_nil)) (pa_cons (pe_lstN pa_nil) pa_nil)) (by rfl))
      (pss_cons (ps_while PassesOwn.never (pt_cmpR (op_neD hr.units) (pv 2) (pe_lst pa_nil) (nomark _))
        (pss_one (ps_expr (pe_bm PySem.F.plainAttrs_list PySem.F.slot_list_append PySem.F.type_list_append mt_append (pv 3) (pa_cons (pe_bm PySem.F.plainAttrs_list PySem.F.slot_list_pop PySem.F.type_list_pop mt_popAt (pv 2)
          (pa_cons (pe_df D hr (pa_cons (pv 0) (pa_cons (pe_callB call_len_seq (by rfl) T.len PySem.boot_len (pa_cons (pv 2) pa_nil)) pa_nil))) pa_nil)) pa_nil)))))
      (pss_one (ps_ret (pv 3)))), ?_⟩
    refine ⟨_, rfl, la, _, rfl, .inl hS, fun l hl => ⟨(show 0 ≤ sizeLine by decide), fun mx hm nm => ⟨_, _, rfl, ?_⟩⟩⟩
    have s1 := Same.new (o := .lst (zs.map V.str)) hl
    have s2 := Same.new (o := .lst []) hm
    have nl : H l = none := hl
    have nmx : H mx = none := s1.free hm
    have kl := s2 _ _ (upd_same (H := H) (a := l) (o := .lst (zs.map V.str)))
    have km := upd_same (H := upd H l (.lst (zs.map V.str))) (a := mx) (o := .lst [])
    have ne : l ≠ mx := ne_of_none (upd_same (H := H) (a := l) (o := .lst (zs.map V.str))) hm
    have s12 := s1.trans s2
    have W2 := W.same s12
    have b2 : Sb wa H (upd (upd H l (.lst (zs.map V.str))) mx (.lst [])) := .of s12
    generalize upd (upd H l (.lst (zs.map V.str))) mx (.lst []) = G2 at kl km W2 b2 ⊢
    have wlH : ∀ c, H c = none → c ≠ wa := fun c hc e => by
      obtain ⟨_, _, h, _⟩ := W
      rw [e, h] at hc
      cases hc
    refine ⟨fun m σ G => ∃ us ys : List Str, σ = [some (.ref wa), some (.ref la), some (.ref l), some (.ref mx)] ∧ G l = some (.lst (us.map V.str)) ∧ G mx = some (.lst (ys.map V.str)) ∧ (∀ z ∈ us, z ∈ zs) ∧ (∀ z ∈ ys, z ∈ zs) ∧ us.length + ys.length = zs.length ∧ Sm G wa ∧ Sb wa H G ∧ m = us.length,
      ⟨_, zs, [], rfl, kl, km, (fun z hz => hz), (fun z hz => nomatch hz), rfl, W2, b2, rfl⟩, ?_⟩
    rintro m σ G ⟨us, ys, rfl, gl, gm, hu, hy, hlen2, WG, sG, rfl⟩
    refine ⟨_, rfl, (show 0 ≤ sizeLine by decide), fun d hd => ?_⟩
    have s3 := Same.new (o := .lst []) hd
    have gl3 := s3 _ _ gl
    have gm3 := s3 _ _ gm
    have WG3 := WG.same s3
    have sG3 := sG.trans (.of s3)
    refine ⟨.list (us.map PyData.str), .list [], .lst (.of gl3) (dp_strs us), .lst (.of upd_same) .nil, shaped_strs (fun z hz => hw z (hu z hz)), (by decide +kernel), _, rfl, ?_⟩
    rw [eqv_strs0]
    generalize upd G d (.lst []) = G3 at gl3 gm3 WG3 sG3 ⊢
    cases hus : us with
    | nil =>
      subst hus
      exact iteF ⟨_, rfl, q mx ys G3 gm3 hy (by simpa using hlen2) WG3 sG3⟩
    | cons u0 us0 =>
      rw [← hus]
      have e0 : us.isEmpty = false := by
        rw [hus]
        rfl
      rw [e0]
      have pos : 0 < us.length := by rw [hus]; simp
      have lt : (us.map V.str).length = us.length := List.length_map ..
      refine iteT ⟨_, fun σ' G' h => h, ?_⟩
      refine ⟨_, rfl, Or.inl ⟨rfl, _, Or.inl (Or.inl gm3)⟩, _, rfl, Or.inl ⟨rfl, _, Or.inl (Or.inl gl3)⟩, _, rfl, _, rfl, l, _, rfl, .inl (.of gl3), wa, _, rfl, WG3, by omega, by omega, fun k G4 k0 k1 W4 s4 => ?_⟩
      have gl4 := s4 _ _ (WG3.ne gl3 (notSm_strs _)) gl3
      have gm4 := s4 _ _ (WG3.ne gm3 (notSm_strs _)) gm3
      obtain ⟨z, hz⟩ : ∃ z, us[k.toNat]? = some z := ⟨us[k.toNat]'(by omega), List.getElem?_eq_getElem _⟩
      have hzm := hu z (List.mem_of_getElem? hz)
      refine ⟨l, us.map V.str, k, k.toNat, .str z, rfl, rfl, gl4, by omega, by omega, seq_at k0 k1, by rw [List.getElem?_map, hz]; rfl, ?_⟩
      have gm5 : (upd G4 l (.lst ((us.map V.str).eraseIdx k.toNat))) mx = some (.lst (ys.map V.str)) := (upd_ne ne.symm).trans gm4
      refine ⟨mx, ys.map V.str, .str z, rfl, rfl, gm5, Nat.lt_of_le_of_lt (show (ys.map V.str).length ≤ 50 by rw [List.length_map]; omega) (by decide), ?_⟩
      have le : (us.eraseIdx k.toNat).length = us.length - 1 := List.length_eraseIdx_of_lt (by omega)
      have sb : ∀ {A B : Hp}, Sb wa H A → (∀ c o, c ≠ l → c ≠ mx → A c = some o → B c = some o) → Sb wa H B := fun {A B} h1 h2 c o n e => h2 c o (ne_of_none e nl) (ne_of_none e nmx) (h1 c o n e)
      refine ⟨(us.eraseIdx k.toNat).length, by omega, us.eraseIdx k.toNat, ys ++ [z], rfl, ?_, ?_, fun x hx => hu x (List.mem_of_mem_eraseIdx hx), fun x hx => ?_, by rw [List.length_append, List.length_singleton]; omega, ?_, ?_, rfl⟩
      · rw [upd_ne ne, upd_same, erase_map]
      · rw [upd_same, List.map_append]
        rfl
      · rcases List.mem_append.mp hx with h | h
        · exact hy x h
        · rw [List.mem_singleton.mp h]
          exact hzm
      · obtain ⟨a1, a2, a3, a4⟩ := W4
        exact ⟨a1, a2, by rw [upd_ne (wlH mx nmx).symm, upd_ne (wlH l nl).symm]; exact a3, a4⟩
      · exact sb (sG3.trans s4) fun c o n1 n2 e => by
          rw [upd_ne n2, upd_ne n1]
          exact e
def spPool : Sp := fun vs H Q _ => ∃ (wa : Addr), vs = [.ref wa] ∧ Sm H wa ∧ ∀ (p : Addr) (zs : List Str) (H' : Hp), H' p = some (.lst (zs.map V.str)) → (∀ z ∈ zs, z ∈ tmenu) → 2 ≤ zs.length → zs.length ≤ 5 → Sm H' wa → Sb wa H H' → Q (.ref p) H'
theorem scPool : FnScope ["_law_stream_here"] ["_law_stream_here"] (defScope sPool) := ⟨rfl, rfl, rfl, by decide +kernel, rfl, by decide +kernel, by decide +kernel⟩
theorem ok_pool (Fd : Fun K "_law_words" "_law_words" sPool f fd) (D : Df P w K mg base 1 "_law_draw" ["_law_stream_here", "_law_size"] spDraw) (S : Df P w K mg base 2 "_law_shuffled" ["_law_stream_here", "_law_items"] (spShuf K)) : FnOk P w K mg base CX0 3 f fd ["_law_stream_here"] spPool := by
  refine Fd.ok scPool (fun vs H Q E h => ?_) (fun cdv A outer s H vs Q E hr h => ?_)
  · obtain ⟨wa, rfl, _⟩ := h
    rfl
  · obtain ⟨wa, rfl, W, q⟩ := h
    refine ⟨_, pss_one (ps_ret (pe_slice sl_list (pe_df S hr (pa_cons (pv 0) (pa_cons (pe_lst (pa_cons pe_str (pa_cons pe_str (pa_cons pe_str (pa_cons pe_str (pa_cons pe_str pa_nil)))))) pa_nil))) po_none (po_some (pe_op op_add pe_int (pe_df D hr (pa_cons (pv 0) (pa_cons pe_int pa_nil))))))), ?_⟩
    refine ⟨_, rfl, (show 5 ≤ sizeLine by decide), fun ml hml => ?_⟩
    have s1 := Same.new (o := .lst (tmenu.map V.str)) hml
    refine ⟨wa, ml, tmenu, rfl, W.same s1, .of upd_same, by decide, (fun z hz => wdt hz), fun l ys G2 gl hy hl W2 s2 => ?_⟩
    have hl : ys.length = 5 := hl
    refine ⟨_, rfl, wa, 3, rfl, W2, by decide, by decide, fun k G3 k0 k1 W3 s3 => ⟨_, _, rfl, rfl, _, rfl, ?_⟩⟩
    have gl3 := s3 _ _ (W2.ne gl (notSm_strs _)) gl
    refine ⟨l, _, rfl, .of gl3, fun p hp => ?_⟩
    have s4 := Same.new (o := .lst (cutV (ys.map V.str) none (some (2 + k)))) hp
    obtain ⟨m, em⟩ : ∃ m : Nat, (2 + k : Int) = (m : Int) := ⟨(2 + k).toNat, by omega⟩
    have e1 : cutV (ys.map V.str) none (some (2 + k)) = (ys.take m).map V.str := by
      rw [em, cut_upto, List.map_take]
    refine q p (ys.take m) _ (by rw [upd_same, e1]) (fun z hz => hy z (List.mem_of_mem_take hz)) (by rw [List.length_take]; omega) (by rw [List.length_take]; omega) (W3.same s4) (fun c o n e => s4 _ _ (s3 c o n (s2 c o n (s1 _ _ e))))
end
end K49
namespace K49
open PySem L2 Ld PyProof.Rows
abbrev sPlaceOf : Stmt := top 40
abbrev sTold : Stmt := top 41
theorem wd_pqr {z : Str} (h : z ∈ (["p", "q", "r"] : List Str)) : Wd z := by
  simp only [List.mem_cons, List.not_mem_nil, or_false] at h
  rcases h with rfl | rfl | rfl <;> (unfold Wd; decide +kernel)
section
variable {P : Program} {w : World} {K : PySem.W.Frag} {mg : Str → Option Value} {base : Heap} {f : Addr} {fd : FuncData}
def spPlaceOf (K : PySem.W.Frag) : Sp := fun vs H Q _ => ∃ (wa pa : Addr) (zs : List Str), vs = [.ref wa, .ref pa] ∧ Sm H wa ∧ H pa = some (.lst (zs.map V.str)) ∧ zs ≠ [] ∧ zs.length ≤ 50 ∧
  ∀ (r : Addr) (ws : List Str) (H' : Hp), SqT K H' r (ws.map V.str) → (∀ z ∈ ws, z ∈ zs) → ws.length ≤ 3 → Sm H' wa → Sb wa H H' → Q (.ref r) H'
def plcN : List Str := ["_law_stream_here", "_law_words_here", "_law_turn"]
theorem scPlaceOf : FnScope plcN ["_law_stream_here", "_law_words_here"] (defScope sPlaceOf) := ⟨rfl, rfl, rfl, by decide +kernel, rfl, by decide +kernel, by decide +kernel⟩
theorem ok_placeOf (Fd : Fun K "_law_place" "_law_place" sPlaceOf f fd) (T : Tx mg) (C : Df P w K mg base 2 "_law_choose" ["_law_stream_here", "_law_items"] (spChoose K)) : FnOk P w K mg base CX0 3 f fd ["_law_stream_here", "_law_words_here"] (spPlaceOf K) := by
  refine Fd.ok scPlaceOf (fun vs H Q E h => ?_) (fun cdv A outer s H vs Q E hr h => ?_)
  · obtain ⟨wa, pa, zs, rfl, _⟩ := h
    rfl
  · obtain ⟨wa, pa, zs, rfl, W, hp, hne, hlen, q⟩ := h
    have nd := scPlaceOf.nd
    refine ⟨_, pss_one (ps_ret (pe_callTy call_tuple_of (by rfl) T.tuple (by decide +kernel) (pa_cons (pe_lc (own := [("_law_turn", 2)]) (g := gName 2) (tt := tYes) (by rfl) nd (pi_range1 rfl T.range (pa_cons (pe_df C hr (pa_cons (pv 0) (pa_cons (pe_lst (pa_cons pe_int (pa_cons pe_int (pa_cons pe_int (pa_cons pe_int (pa_cons pe_int (pa_cons pe_int (pa_cons pe_int pa_nil)))))))) pa_nil))) pa_nil)) (blkOk_by (own := [("_law_turn", 2)]) (N := plcN) (sc := defScope sPlaceOf) (by decide +kernel))
          (fun _ _ _ _ _ => pg_name (i := 2) nd rfl (Or.inl rfl)) (fun _ _ _ _ _ => pts_nil) (fun _ _ _ _ _ => pe_df C hr (pa_cons (pv 0) (pa_cons (pv 1) pa_nil)))) pa_nil))), ?_⟩
    refine ⟨_, rfl, (show 7 ≤ sizeLine by decide), fun il hil => ?_⟩
    have s1 := Same.new (o := .lst (([0, 1, 1, 1, 2, 2, 3] : List Int).map V.int)) hil
    refine ⟨wa, il, ([0, 1, 1, 1, 2, 2, 3] : List Int).map V.int, rfl, W.same s1, .of upd_same, trivial, by decide, by decide, fun v G2 hv W2 s2 => ?_⟩
    obtain ⟨m, hm, rfl⟩ := List.mem_map.mp hv
    have hm3 : 0 ≤ m ∧ m ≤ 3 := by
      simp only [List.mem_cons, List.not_mem_nil, or_false] at hm
      omega
    have s12 : Sb wa H G2 := fun c o n e => s2 c o n (s1 _ _ e)
    have hp2 := s12 _ _ (W.ne hp (notSm_strs _)) hp
    refine ⟨m, rfl, by omega, by omega, fun D hD => ?_⟩
    refine lc_range (lo := 0) (n := m.toNat) (fun i G => Sb wa G2 G ∧ Sm G wa ∧ D ≠ wa ∧ ∃ ws : List Str, G D = some (.lst (ws.map V.str)) ∧ (∀ z ∈ ws, z ∈ zs) ∧ ws.length ≤ i) ⟨.of (Same.new hD), W2.same (Same.new hD), fun e => ?_, [], upd_same, (fun z hz => nomatch hz), Nat.le_refl _⟩ ?_ ?_
    · obtain ⟨d, mm, h1, _⟩ := W2
      rw [e, h1] at hD
      cases hD
    · rintro e G hk ⟨sG4, WG, neD, ws, hDl, hws, hwl⟩
      refine ⟨rfl, ?_⟩
      show tDf (spChoose K) (tCons (tVar 0) (tCons (tVar 1) tNil)) _ _ _
      have hpG := sG4 _ _ (W2.ne hp2 (notSm_strs _)) hp2
      refine ⟨_, rfl, _, rfl, wa, pa, zs.map V.str, rfl, WG, .of hpG, notSm_strs _, by simpa using hne, by rw [List.length_map]; omega, fun v G' hv W' s' => ?_⟩
      obtain ⟨z, hz, rfl⟩ := List.mem_map.mp hv
      have hD' := s' D _ neD hDl
      refine ⟨_, hD', by rw [List.length_map]; exact Nat.lt_of_le_of_lt (show ws.length ≤ 3 by omega) (by decide), fun b o nb eb => ?_, ?_, neD, ws ++ [z], ?_, fun y hy => ?_, by simp; omega⟩
      · rw [upd_ne (ne_of_none eb hD)]
        exact s' b o nb (sG4 b o nb eb)
      · obtain ⟨d, m, h1, h2⟩ := W'
        exact ⟨d, m, by rw [upd_ne neD.symm]; exact h1, h2⟩
      · rw [upd_same, List.map_append]
        rfl
      · rcases List.mem_append.mp hy with g | g
        · exact hws y g
        · rw [List.mem_singleton.mp g]
          exact hz
    · rintro G ⟨sG4, WG, neD, ws, hDl, hws, hwl⟩
      refine ⟨D, _, rfl, .inl ⟨.of hDl, fun t nt => ?_⟩⟩
      have zt := Same.new (o := .tup (ws.map V.str)) nt
      exact q t ws _ (.of upd_same) hws (by omega) (WG.same zt) (fun c o n e => zt _ _ (sG4 c o n (s12 c o n e)))
/-- a redirect is told for at most thirty days -/
def An.D30 : An → Prop
  | .to _ n => n ≤ 30
  | _ => True
def spTold (K : PySem.W.Frag) : Sp := fun vs H Q _ => ∃ (wa pa : Addr) (zs : List Str) (b : Bool), vs = [.ref wa, .ref pa, .str (sortS b)] ∧ Sm H wa ∧ H pa = some (.lst (zs.map V.str)) ∧ zs ≠ [] ∧ zs.length ≤ 50 ∧ (∀ z ∈ zs, Wd z) ∧
  ∀ (v : V) (an : An) (H' : Hp), AnAt K H' v b an → an.Ok → an.D30 → Sm H' wa → Sb wa H H' → Q v H'
def tldN : List Str := ["_law_stream_here", "_law_words_here", "_law_sort", "_law_way"]
theorem scTold : FnScope tldN ["_law_stream_here", "_law_words_here", "_law_sort"] (defScope sTold) := ⟨rfl, rfl, rfl, by decide +kernel, rfl, by decide +kernel, by decide +kernel⟩
theorem ok_told (Fd : Fun K "_law_told" "_law_told" sTold f fd) (D : Df P w K mg base 1 "_law_draw" ["_law_stream_here", "_law_size"] spDraw) (C : Df P w K mg base 2 "_law_choose" ["_law_stream_here", "_law_items"] (spChoose K)) (L : Df P w K mg base 3 "_law_place" ["_law_stream_here", "_law_words_here"] (spPlaceOf K)) :
    FnOk P w K mg base CX0 4 f fd ["_law_stream_here", "_law_words_here", "_law_sort"] (spTold K) := by
  refine Fd.ok scTold (fun vs H Q E h => ?_) (fun cdv A outer s H vs Q E hr h => ?_)
  · obtain ⟨wa, pa, zs, b, rfl, _⟩ := h
    rfl
  · obtain ⟨wa, pa, zs, b, rfl, W, hp, hne, hlen, hw, q⟩ := h
    have nd := scTold.nd
    refine ⟨_, pss_cons (ps_set (i := 3) nd rfl (Or.inl rfl) (pe_df D hr (pa_cons (pv 0) (pa_cons pe_int pa_nil))))
      (pss_cons (ps_if (pt_cmpR op_eq (pv 3) pe_int (nomark _)) (pss_one (ps_ret (pe_tup (pa_cons pe_str pa_nil)))) pss_nil)
      (pss_cons (ps_if (pt_cmpR op_lt (pv 3) pe_int (nomark _)) (pss_one (ps_ret (pe_tup (pa_cons (pe_dget (hu_of hr) (pe_disp (pps_cons pe_str pe_str (pps_cons pe_str pe_str pps_nil)) (by rfl) (by rfl) (fun z => by cases z) (by decide)) (pv 2) (fun _ _ => rfl)) (pa_cons (pe_df C hr (pa_cons (pv 0) (pa_cons (pe_lst (pa_cons pe_str (pa_cons pe_str (pa_cons pe_str pa_nil)))) pa_nil))) pa_nil))))) pss_nil)
      (pss_one (ps_ret (pe_tup (pa_cons pe_str (pa_cons (pe_df L hr (pa_cons (pv 0) (pa_cons (pv 1) pa_nil))) (pa_cons (pe_df C hr (pa_cons (pv 0) (pa_cons (pe_lst (pa_cons pe_int (pa_cons pe_int (pa_cons pe_int (pa_cons pe_int (pa_cons pe_int (pa_cons pe_int pa_nil))))))) pa_nil))) pa_nil)))))))), ?_⟩
    refine ⟨_, rfl, wa, 7, rfl, W, by decide, by decide, fun k G1 k0 k1 W1 s1 => ⟨_, rfl, rfl, _, rfl, ?_⟩⟩
    have hp1 := s1 _ _ (W.ne hp (notSm_strs _)) hp
    generalize decide (V.int k = V.int 0) = c0
    cases c0 with
    | true =>
      refine iteT ⟨(show 1 ≤ sizeLine by decide), fun t ht => ?_⟩
      have s5 := Same.new (o := .tup [.str "gone"]) ht
      exact q _ .gone _ ⟨t, rfl, .of upd_same⟩ trivial trivial (W1.same s5) (fun c o n e => s5 _ _ (s1 c o n e))
    | false =>
      refine iteF ⟨_, rfl, _, _, rfl, rfl, _, rfl, ?_⟩
      by_cases h3 : k < 3
      · rw [decide_eq_true h3]
        refine iteT (fun g hg => ?_)
        refine ⟨upd_same, [(Sum.inr "exact", .str "page"), (Sum.inr "open", .str "section")], rfl, (show 2 ≤ 15 by decide), ?_⟩
        have s3 : Same G1 (upd (upd G1 g (.dK [])) g (.dK (mergeK [] [(Sum.inr "exact", V.str "page"), (Sum.inr "open", V.str "section")]))) := fun c o e => by
          rw [upd_ne (ne_of_none e hg), upd_ne (ne_of_none e hg)]
          exact e
        have dg : DGet (upd (upd G1 g (.dK [])) g (.dK (mergeK [] [(Sum.inr "exact", V.str "page"), (Sum.inr "open", V.str "section")]))) g (.str (sortS b)) (some (.str (ownS b))) := by
          have z := DGet.k (k := Sum.inr (sortS b)) (upd_same (H := upd G1 g (.dK [])) (a := g) (o := .dK (mergeK [] [(Sum.inr "exact", V.str "page"), (Sum.inr "open", V.str "section")])))
          have e : valV (mergeK [] [(Sum.inr "exact", V.str "page"), (Sum.inr "open", V.str "section")]) (Sum.inr (sortS b)) = some (.str (ownS b)) := by cases b <;> decide +kernel
          rw [e] at z
          exact z
        refine ⟨_, rfl, g, _, rfl, dg, _, rfl, (show 3 ≤ sizeLine by decide), fun il hil => ?_⟩
        have W3 := W1.same s3
        have s13 := s1.trans (.of s3)
        generalize upd (upd G1 g (.dK [])) g (.dK (mergeK [] [(Sum.inr "exact", V.str "page"), (Sum.inr "open", V.str "section")])) = G3 at hil W3 s13 ⊢
        have s4 := Same.new (o := .lst ((["p", "q", "r"] : List Str).map V.str)) hil
        refine ⟨wa, il, (["p", "q", "r"] : List Str).map V.str, rfl, W3.same s4, .of upd_same, notSm_strs _, by decide, by decide, fun v G4 hv W4 s5 => ⟨(show 2 ≤ sizeLine by decide), fun t ht => ?_⟩⟩
        obtain ⟨z, hz, rfl⟩ := List.mem_map.mp hv
        have s6 := Same.new (o := .tup [.str (ownS b), .str z]) ht
        exact q _ (.own z) _ ⟨t, rfl, .of upd_same⟩ (wd_pqr hz) trivial (W4.same s6) (fun c o n e => s6 _ _ (s5 c o n (s4 _ _ (s13 c o n e))))
      · rw [decide_eq_false h3]
        refine iteF ⟨_, rfl, _, rfl, wa, pa, zs, rfl, W1, hp1, hne, hlen, fun r ws G2 hr2 hws hl W2 s2 => ?_⟩
        refine ⟨_, rfl, (show 6 ≤ sizeLine by decide), fun il hil => ?_⟩
        have s3 := Same.new (o := .lst (([0, 0, 1, 2, 5, 30] : List Int).map V.int)) hil
        refine ⟨wa, il, ([0, 0, 1, 2, 5, 30] : List Int).map V.int, rfl, W2.same s3, .of upd_same, trivial, by decide, by decide, fun v G4 hv W4 s4 => ⟨(show 3 ≤ sizeLine by decide), fun t ht => ?_⟩⟩
        obtain ⟨m, hm, rfl⟩ := List.mem_map.mp hv
        have hm5 : 0 ≤ m ∧ m ≤ 10000 ∧ m ≤ 30 := by
          simp only [List.mem_cons, List.not_mem_nil, or_false] at hm
          omega
        have s5 := Same.new (o := .tup [.str "to", .ref r, .int m]) ht
        refine q _ (.to ws m) _ ⟨t, r, rfl, .of upd_same, same_T s5 (smT (W2.same s3) s4 (same_T s3 hr2))⟩ ⟨by omega, fun z hz => hw z (hws z hz), hm5.1, hm5.2.1⟩ (show m ≤ 30 from hm5.2.2) (W4.same s5) (fun c o n e => s5 _ _ (s4 c o n (s3 _ _ (s2 c o n (s1 c o n e)))))
end
end K49
namespace K49
open PySem L2 Ld PyProof.Rows
abbrev sRulesOf : Stmt := top 42
def Rl.T3 (r : Rl) : Prop := (∀ z ∈ r.pl, z ∈ tmenu) ∧ r.pl.length ≤ 3 ∧ r.an.D30
section
variable {P : Program} {w : World} {K : PySem.W.Frag} {mg : Str → Option Value} {base : Heap} {f : Addr} {fd : FuncData}
def RowR (K : PySem.W.Frag) (H : Hp) (x : Rw) (r : Rl) : Prop := x.1 = r.key ∧ RuleAt K H x.2.2 r
/-- the dict of the rules drawn so far -/
def Drawn (P : Program) (w : World) (K : PySem.W.Frag) (H : Hp) (D : Addr) (n : Nat) : Prop := ∃ (rows : List Rw) (rs : List Rl), KD P w K H D rows ∧ rows.length ≤ n ∧ Paired (RowR K H) rows rs ∧ (∀ r ∈ rs, r.Ok ∧ r.T3) ∧ (rs.map Rl.key).Nodup
theorem rows_rules {H : Hp} : ∀ {rows : List Rw} {rs : List Rl}, Paired (RowR K H) rows rs → Rules K H (rows.map (·.2.2)) rs
  | _, _, .nil => .nil
  | _, _, .cons a b => .cons a.2 (rows_rules b)
theorem kGet_not : ∀ {rows : List Rw} {k : NestedKey}, kGet rows k = none → ∀ x ∈ rows, x.1 ≠ k
  | [], _, _, x, h => nomatch h
  | y :: rows, k, e, x, h => by
    rw [kGet_cons] at e
    by_cases hk : y.1 = k
    · rw [if_pos hk] at e
      cases e
    · rw [if_neg hk] at e
      rcases List.mem_cons.mp h with z | h
      · rw [z]
        exact hk
      · exact kGet_not e x h
theorem row_key {H : Hp} : ∀ {rows : List Rw} {rs : List Rl}, Paired (RowR K H) rows rs → ∀ r ∈ rs, ∃ x ∈ rows, x.1 = r.key
  | _, _, .nil, r, h => nomatch h
  | _, _, .cons a b, r, h => by
    rcases List.mem_cons.mp h with z | h
    · rw [z]
      exact ⟨_, List.mem_cons_self, a.1⟩
    · obtain ⟨x, h1, h2⟩ := row_key b r h
      exact ⟨x, List.mem_cons_of_mem _ h1, h2⟩
def putR (r : Rl) (t : Rl) : Rl := if t.key = r.key then r else t
theorem putR_key (r t : Rl) : (putR r t).key = t.key := by
  unfold putR
  by_cases h : t.key = r.key
  · rw [if_pos h, h]
  · rw [if_neg h]
theorem rows_setR {H : Hp} {r : Rl} {v : V} (hv : RuleAt K H v r) : ∀ {rows : List Rw} {rs : List Rl}, Paired (RowR K H) rows rs → Paired (RowR K H) (rows.map (kSet r.key v)) (rs.map (putR r))
  | _, _, .nil => .nil
  | _, _, .cons (a := x) (b := t) a b => by
    refine .cons ?_ (rows_setR hv b)
    obtain ⟨a1, a2⟩ := a
    unfold kSet putR
    by_cases h : x.1 = r.key
    · rw [if_pos h, if_pos (a1 ▸ h)]
      exact ⟨h, hv⟩
    · rw [if_neg h, if_neg (a1 ▸ h)]
      exact ⟨a1, a2⟩
theorem RowR.mono {H H' : Hp} {x : Rw} {r : Rl} (z : RowR K H x r) (hT : ∀ a xs, SqT K H a xs → SqT K H' a xs) : RowR K H' x r := ⟨z.1, z.2.mono hT⟩
theorem Drawn.put {G : Hp} {D u : Addr} {n : Nat} {rows : List Rw} {rs : List Rl} {r : Rl} {v : V} (kd : KD P w K G D rows) (few : rows.length ≤ n) (n9 : n ≤ 900) (pr : Paired (RowR K G) rows rs) (ok : ∀ t ∈ rs, t.Ok ∧ t.T3) (one : (rs.map Rl.key).Nodup) (hr : r.Ok ∧ r.T3) (hv : RuleAt K G v r) (hk : NIs K G r.key (.ref u)) :
    Drawn P w K (upd G D (kdO P w D (kPut rows r.key u v))) D (n + 1) := by
  have hT : ∀ b ys, SqT K G b ys → SqT K (upd G D (kdO P w D (kPut rows r.key u v))) b ys := fun b ys z => sqT_kd kd.at_ z
  have ln := pr.length
  have l2 := kPut_len rows r.key u v
  by_cases h : (kGet rows r.key).isSome = true
  · have e : kPut rows r.key u v = rows.map (kSet r.key v) := by
      unfold kPut
      rw [if_pos h]
    refine ⟨_, rs.map (putR r), ⟨upd_same, kd.low, by omega, fun x hx => ?_⟩, by omega, ?_, fun t ht => ?_, ?_⟩
    · rw [e] at hx
      obtain ⟨y, hy, rfl⟩ := List.mem_map.mp hx
      have z := kd.key y hy
      unfold kSet
      split
      · exact ⟨nis_mono hT z.1, z.2⟩
      · exact ⟨nis_mono hT z.1, z.2⟩
    · have p2 := rows_setR hv pr
      rw [← e] at p2
      exact Paired.mono (fun _ _ z => z.mono hT) p2
    · obtain ⟨t', h1, rfl⟩ := List.mem_map.mp ht
      unfold putR
      split
      · exact hr
      · exact ok t' h1
    · rw [List.map_map]
      have e2 : (Rl.key ∘ putR r) = Rl.key := funext fun t => putR_key r t
      rw [e2]
      exact one
  · have hn : kGet rows r.key = none := by
      cases q : kGet rows r.key with
      | none => rfl
      | some _ => rw [q] at h; exact absurd rfl h
    have e : kPut rows r.key u v = rows ++ [(r.key, u, v)] := by
      unfold kPut
      rw [if_neg h]
    refine ⟨_, rs ++ [r], ⟨upd_same, kd.low, by omega, fun x hx => ?_⟩, by omega, ?_, fun t ht => ?_, ?_⟩
    · rw [e] at hx
      rcases List.mem_append.mp hx with hx | hx
      · exact ⟨nis_mono hT (kd.key x hx).1, (kd.key x hx).2⟩
      · rw [List.mem_singleton.mp hx]
        exact ⟨nis_mono hT hk, key_deep _ _⟩
    · have p1 : Paired (RowR K G) (rows ++ [(r.key, u, v)]) (rs ++ [r]) := pr.snoc ⟨rfl, hv⟩
      rw [← e] at p1
      exact Paired.mono (fun _ _ z => z.mono hT) p1
    · rcases List.mem_append.mp ht with ht | ht
      · exact ok t ht
      · rw [List.mem_singleton.mp ht]
        exact hr
    · rw [List.map_append, List.nodup_append]
      refine ⟨one, by simp, fun x hx y hy e2 => ?_⟩
      obtain ⟨t, ht, rfl⟩ := List.mem_map.mp hx
      have ey : y = r.key := by simpa using hy
      obtain ⟨x, hx2, ex⟩ := row_key pr t ht
      exact kGet_not hn x hx2 (ex.trans (e2.trans ey))
theorem nis_key2 {H : Hp} {u p : Addr} {b : Bool} {ws : List Str} {an : An} (h : SqT K H u [.str (sortS b), .ref p]) (h2 : SqT K H p (ws.map V.str)) : NIs K H (Rl.key ⟨b, ws, an⟩) (.ref u) := nis_key h h2
theorem kd_sm {H H' : Hp} {wa DD : Addr} {rows : List Rw} (kd : KD P w K H DD rows) (n : DD ≠ wa) (W : Sm H wa) (s : Sb wa H H') : KD P w K H' DD rows :=
  ⟨s _ _ n kd.at_, kd.low, kd.few, fun x hx => ⟨nis_mono (fun _ _ z => smT W s z) (kd.key x hx).1, (kd.key x hx).2⟩⟩
def spRulesOf (P : Program) (w : World) (K : PySem.W.Frag) : Sp := fun vs H Q _ => ∃ (wa pa : Addr) (zs : List Str) (n : Nat), vs = [.ref wa, .ref pa, .int (n : Int)] ∧ n ≤ 8 ∧ Sm H wa ∧ H pa = some (.lst (zs.map V.str)) ∧ zs ≠ [] ∧ zs.length ≤ 50 ∧ (∀ z ∈ zs, z ∈ tmenu) ∧
  ∀ (l : Addr) (xs : List V) (rs : List Rl) (H' : Hp), H' l = some (.lst xs) → Rules K H' xs rs → Good rs → (∀ r ∈ rs, r.T3) → rs.length ≤ n → Sm H' wa → Sb wa H H' → H l = none → Q (.ref l) H'
def rlsN : List Str := ["_law_stream_here", "_law_words_here", "_law_most", "_law_found", "_law_turn", "_law_sort", "_law_place_here"]
theorem scRulesOf : FnScope rlsN ["_law_stream_here", "_law_words_here", "_law_most"] (defScope sRulesOf) := ⟨rfl, rfl, rfl, by decide +kernel, rfl, by decide +kernel, by decide +kernel⟩
theorem sort_in {v : V} (h : v ∈ [V.str "exact", V.str "open", V.str "open"]) : ∃ b, v = V.str (sortS b) := by
  simp only [List.mem_cons, List.not_mem_nil, or_false] at h
  rcases h with rfl | rfl | rfl
  · exact ⟨true, rfl⟩
  · exact ⟨false, rfl⟩
  · exact ⟨false, rfl⟩
theorem ok_rulesOf (Fd : Fun K "_law_rules" "_law_rules" sRulesOf f fd) (T : Tx mg) (D : Df P w K mg base 1 "_law_draw" ["_law_stream_here", "_law_size"] spDraw) (C : Df P w K mg base 2 "_law_choose" ["_law_stream_here", "_law_items"] (spChoose K))
    (L : Df P w K mg base 3 "_law_place" ["_law_stream_here", "_law_words_here"] (spPlaceOf K)) (Y : Df P w K mg base 4 "_law_told" ["_law_stream_here", "_law_words_here", "_law_sort"] (spTold K)) : FnOk P w K mg base CX0 5 f fd ["_law_stream_here", "_law_words_here", "_law_most"] (spRulesOf P w K) := by
  refine Fd.ok scRulesOf (fun vs H Q E h => ?_) (fun cdv A outer s H vs Q E hr h => ?_)
  · obtain ⟨wa, pa, zs, n, rfl, _⟩ := h
    rfl
  · obtain ⟨wa, pa, zs, n, rfl, hn8, W, hp, hne, hlen, hm, q⟩ := h
    have nd := scRulesOf.nd
    have hu16 : (A.deeper (envOfC "_law_rules" (defScope sRulesOf) s.heap.objs.size f cdv)).units + 16 < cLine := Nat.lt_of_le_of_lt (Nat.add_le_add_left (by decide) _) hr.units
    refine ⟨_, pss_cons (ps_set (i := 3) nd rfl (Or.inl rfl) pe_dnewN)
      (pss_cons (ps_for PassesOwn.never rfl (pi_range1 rfl T.range (pa_cons (pe_df D hr (pa_cons (pv 0) (pa_cons (pe_op op_add (pv 2) pe_int) pa_nil))) pa_nil)) (pg_name (i := 4) nd rfl (Or.inl rfl))
        (pss_cons (ps_par (i := 5) (j := 6) (by rfl) nd rfl rfl (by decide) rfl rfl (pa_cons (pe_df C hr (pa_cons (pv 0) (pa_cons (pe_lst (pa_cons pe_str (pa_cons pe_str (pa_cons pe_str pa_nil)))) pa_nil))) (pa_cons (pe_df L hr (pa_cons (pv 0) (pa_cons (pv 1) pa_nil))) pa_nil)) (by rfl))
        (pss_one (ps_asg (pe_tup (pa_cons (pv 5) (pa_cons (pv 6) (pa_cons (pe_df Y hr (pa_cons (pv 0) (pa_cons (pv 1) (pa_cons (pv 5) pa_nil)))) pa_nil)))) (pg_sub (pv 3) (pe_tup (pa_cons (pv 5) (pa_cons (pv 6) pa_nil))) (pset_kd hu16))))))
      (pss_one (ps_ret (pe_listVals (by rfl) (by rfl) T.list (pv 3))))), ?_⟩
    refine fun DD hD low => ?_
    have s0 := Same.new (o := kdO P w DD []) hD
    have nDw : DD ≠ wa := fun e => by
      obtain ⟨d, mm, h1, _⟩ := W
      rw [e, h1] at hD
      cases hD
    refine ⟨_, rfl, _, rfl, _, _, rfl, rfl, wa, (n : Int) + 1, rfl, W.same s0, by omega, by omega, fun k G4 k0 k1 W4 s4 => ⟨k, rfl, by omega, by omega, ?_⟩⟩
    have d0 : Drawn P w K G4 DD 0 := ⟨[], [], ⟨s4 DD _ nDw upd_same, low, Nat.zero_le _, fun x hx => nomatch hx⟩, Nat.le_refl _, .nil, (fun r hr => nomatch hr), List.Pairwise.nil⟩
    refine for_range (lo := 0) (n := k.toNat) (fun i σ G => Sb wa H G ∧ Sm G wa ∧ Drawn P w K G DD i ∧ ∃ u4 u5 u6, σ = [some (.ref wa), some (.ref pa), some (.int (n : Int)), some (.ref DD), u4, u5, u6]) ⟨(Sb.of s0).trans s4, W4, d0, _, _, _, rfl⟩ ?_ ?_
    · rintro i σ G hi ⟨sG, WG, ⟨rows, rs, kd, few, pr, ok, one⟩, u4, u5, u6, rfl⟩
      refine ⟨_, rfl, (show 3 ≤ sizeLine by decide), fun il hil => ?_⟩
      have s1 := Same.new (o := .lst [V.str "exact", V.str "open", V.str "open"]) hil
      refine ⟨wa, il, [V.str "exact", V.str "open", V.str "open"], rfl, WG.same s1, .of upd_same, trivial, by simp, (show 3 ≤ 1000 by decide), fun v G5 hv W5 s5 => ?_⟩
      obtain ⟨b, rfl⟩ := sort_in hv
      have s15 : Sb wa G G5 := (Sb.of s1).trans s5
      have hpG := sG _ _ (W.ne hp (notSm_strs _)) hp
      have hp5 := s15 _ _ (WG.ne hpG (notSm_strs _)) hpG
      refine ⟨_, rfl, _, rfl, wa, pa, zs, rfl, W5, hp5, hne, hlen, fun rp ws G6 hrp hws hl W6 s6 => ⟨_, _, rfl, ?_⟩⟩
      have hp6 := s6 _ _ (W5.ne hp5 (notSm_strs _)) hp5
      refine ⟨_, rfl, _, rfl, _, rfl, _, rfl, _, rfl, wa, pa, zs, b, rfl, W6, hp6, hne, hlen, (fun z hz => wdt (hm z hz)), fun v an G7 hv7 hok h30 W7 s7 => ⟨(show 3 ≤ sizeLine by decide), fun t ht => ?_⟩⟩
      have s57 : Sb wa G G7 := s15.trans (s6.trans s7)
      have s8 := Same.new (o := .tup [.str (sortS b), .ref rp, v]) ht
      have rv8 : RuleAt K (upd G7 t (.tup [.str (sortS b), .ref rp, v])) (.ref t) ⟨b, ws, an⟩ := ⟨t, rp, v, rfl, .of upd_same, same_T s8 (smT W6 s7 hrp), hv7.mono fun _ _ q => same_T s8 q⟩
      have hrp8 := same_T s8 (smT W6 s7 hrp)
      have W8 := W7.same s8
      have s58 := s57.trans (.of s8)
      generalize upd G7 t (.tup [.str (sortS b), .ref rp, v]) = G8 at rv8 hrp8 W8 s58 ⊢
      refine ⟨_, rfl, _, rfl, _, rfl, (show 2 ≤ sizeLine by decide), fun u hu => ?_⟩
      have s9 := Same.new (o := .tup [.str (sortS b), .ref rp]) hu
      have pr9 : Paired (RowR K (upd G8 u (.tup [.str (sortS b), .ref rp]))) rows rs := Paired.mono (fun _ _ z => z.mono fun _ _ q => same_T s9 (smT WG s58 q)) pr
      have kd9 := (kd_sm kd nDw WG s58).same s9
      have hk9 : NIs K (upd G8 u (.tup [.str (sortS b), .ref rp])) (Rl.key ⟨b, ws, an⟩) (.ref u) := nis_key2 (.of upd_same) (same_T s9 hrp8)
      have rv9 := rv8.same s9
      have W9 := W8.same s9
      have sG9 := sG.trans (s58.trans (.of s9))
      generalize upd G8 u (.tup [.str (sortS b), .ref rp]) = G9 at pr9 kd9 hk9 rv9 W9 sG9 ⊢
      have rok : (⟨b, ws, an⟩ : Rl).Ok := ⟨Nat.le_trans hl (by decide), fun z hz => wdt (hm z (hws z hz)), hok⟩
      have rt : (⟨b, ws, an⟩ : Rl).T3 := ⟨fun z hz => hm z (hws z hz), hl, h30⟩
      refine ⟨u, DD, Rl.key ⟨b, ws, an⟩, rows, rfl, rfl, hk9, key_deep _ _, kd9, fun c o nc e => ?_, ?_, Drawn.put (r := ⟨b, ws, an⟩) kd9 few (by omega) pr9 ok one ⟨rok, rt⟩ rv9 hk9, _, _, _, rfl⟩
      · exact (upd_ne (ne_of_none e hD)).trans (sG9 c o nc e)
      · obtain ⟨d, mm, h1, h2⟩ := W9
        exact ⟨d, mm, (upd_ne nDw.symm).trans h1, h2⟩
    · rintro σ G ⟨sG, WG, ⟨rows, rs, kd, few, pr, ok, one⟩, u4, u5, u6, rfl⟩
      have ln := pr.length
      refine ⟨_, rfl, DD, rows, rfl, kd, fun l hl nl => ?_⟩
      have s6 := Same.new (o := .lst (rows.map (·.2.2))) hl
      refine q l _ rs _ upd_same ((rows_rules pr).same s6) ⟨fun r h => (ok r h).1, by omega, one⟩ (fun r h => (ok r h).2) (by omega) (WG.same s6) (sG.trans (.of s6)) ?_
      cases e : H l with
      | none => rfl
      | some o =>
        by_cases nl2 : l = wa
        · obtain ⟨d, mm, h1, _⟩ := WG
          rw [nl2, h1] at hl
          cases hl
        · rw [sG l o nl2 e] at hl
          cases hl
end
end K49
namespace K49
open PySem L2 Ld PyProof.Rows
abbrev sLA : Stmt := top 45
/-! ### the rule for an address, in any sequence of the rules -/
theorem key_is {r : Rl} {b : Bool} {ws : List Str} : r.key = kOf b ws ↔ r.ex = b ∧ r.pl = ws := by
  constructor
  · intro h
    exact key_inj (a := r) (b := ⟨b, ws, .gone⟩) h
  · rintro ⟨h1, h2⟩
    unfold Rl.key
    rw [h1, h2]
theorem findK_some {rs : List Rl} (one : (rs.map Rl.key).Nodup) {b : Bool} {ws : List Str} {r : Rl} (h : r ∈ rs) (e : r.ex = b) (p : r.pl = ws) : findK rs (b, ws) = some r := by
  cases f : findK rs (b, ws) with
  | none => exact absurd (decide_eq_true (key_is.mpr ⟨e, p⟩)) (List.find?_eq_none.mp f r h)
  | some t =>
    have m := List.mem_of_find?_eq_some f
    have kt : t.key = kOf b ws := of_decide_eq_true (List.find?_some (p := fun r : Rl => decide (r.key = kOf b ws)) f)
    have k := key_is.mp kt
    rw [nodup_key one m h ⟨k.1.trans e.symm, k.2.trans p.symm⟩]
theorem findK_none {rs : List Rl} {b : Bool} {ws : List Str} (h : ∀ r ∈ rs, ¬ (r.ex = b ∧ r.pl = ws)) : findK rs (b, ws) = none :=
  List.find?_eq_none.mpr fun r hr e => h r hr (key_is.mp (of_decide_eq_true e))
theorem findK_of {rs : List Rl} {b : Bool} {ws : List Str} {r : Rl} (f : findK rs (b, ws) = some r) : r ∈ rs ∧ r.ex = b ∧ r.pl = ws :=
  ⟨List.mem_of_find?_eq_some f, key_is.mp (of_decide_eq_true (List.find?_some (p := fun r : Rl => decide (r.key = kOf b ws)) f))⟩
theorem findK_perm {rs ts : List Rl} (p : rs.Perm ts) (one : (rs.map Rl.key).Nodup) (k : Bool × List Str) : findK rs k = findK ts k := by
  have one2 : (ts.map Rl.key).Nodup := (p.map Rl.key).nodup_iff.mp one
  cases f : findK ts k with
  | none =>
    refine findK_none fun r hr e => ?_
    rw [findK_some one2 (p.mem_iff.mp hr) e.1 e.2] at f
    cases f
  | some r =>
    obtain ⟨h, e, q⟩ := findK_of f
    exact findK_some one (p.mem_iff.mpr h) e q
theorem openFor_perm {rs ts : List Rl} (p : rs.Perm ts) (one : (rs.map Rl.key).Nodup) (ws : List Str) : ∀ n, openFor rs ws n = openFor ts ws n
  | 0 => findK_perm p one _
  | n + 1 => by
    unfold openFor
    rw [findK_perm p one, openFor_perm p one ws n]
theorem ruleFor_perm {rs ts : List Rl} (p : rs.Perm ts) (one : (rs.map Rl.key).Nodup) (ws : List Str) : ruleFor rs ws = ruleFor ts ws := by
  unfold ruleFor
  rw [findK_perm p one, openFor_perm p one]
theorem answer_sort {rs : List Rl} (g : Good rs) (ws : List Str) : answerOf (sortR rs) ws = answerOf rs ws := by
  unfold answerOf
  rw [ruleFor_perm (sortR_perm rs) (g.sort).one]
/-! ### the best rule, by rank -/
def Fit (ws : List Str) (r : Rl) : Prop := (r.ex = true ∧ r.pl = ws) ∨ (r.ex = false ∧ ws.take r.pl.length = r.pl)
def rkE (r : Rl) : Int := if r.ex = true then 1 else 0
/-- of lower rank, or of the same -/
def RkLe (t r : Rl) : Prop := rkE t < rkE r ∨ (rkE t = rkE r ∧ t.pl.length ≤ r.pl.length)
instance (t r : Rl) : Decidable (RkLe t r) := by unfold RkLe; infer_instance
structure Best (ws : List Str) (seen : List Rl) (o : Option Rl) : Prop where
  no : o = none → ∀ t ∈ seen, ¬ Fit ws t
  yes : ∀ r, o = some r → r ∈ seen ∧ Fit ws r ∧ ∀ t ∈ seen, Fit ws t → RkLe t r
theorem best_rule {rs : List Rl} (one : (rs.map Rl.key).Nodup) {ws : List Str} {o : Option Rl} (B : Best ws rs o) : ruleFor rs ws = o := by
  unfold ruleFor
  cases o with
  | none =>
    have h := B.no rfl
    rw [findK_none fun r hr e => h r hr (.inl e), Option.none_or]
    exact openFor_none _ fun j hj => findK_none fun r hr e => h r hr (.inr ⟨e.1, by rw [e.2, List.length_take, Nat.min_eq_left hj]⟩)
  | some r =>
    obtain ⟨hr, fit, most⟩ := B.yes r rfl
    rcases fit with ⟨e, p⟩ | ⟨e, p⟩
    · rw [findK_some one hr e p]
      rfl
    · have ne : findK rs (true, ws) = none := findK_none fun t ht c => by
        have := most t ht (.inl c)
        unfold RkLe rkE at this
        rw [c.1, e] at this
        simp at this
      rw [ne, Option.none_or]
      have lp := congrArg List.length p
      rw [List.length_take] at lp
      refine openFor_some (k := r.pl.length) (findK_some one hr e p.symm) _ (by omega) fun j h1 h2 => findK_none fun t ht c => ?_
      have l : t.pl.length = j := by rw [c.2, List.length_take, Nat.min_eq_left h2]
      have := most t ht (.inr ⟨c.1, by rw [l]; exact c.2.symm⟩)
      unfold RkLe rkE at this
      rw [c.1, e] at this
      simp at this
      omega
theorem Best.skip {ws : List Str} {seen : List Rl} {o : Option Rl} {r : Rl} (B : Best ws seen o) (h : ¬ Fit ws r ∨ ∃ y, o = some y ∧ RkLe r y) : Best ws (seen ++ [r]) o := by
  refine ⟨fun e t ht => ?_, fun x e => ?_⟩
  · subst e
    rcases List.mem_append.mp ht with ht | ht
    · exact B.no rfl t ht
    · rw [List.mem_singleton.mp ht]
      rcases h with h | ⟨y, h, _⟩
      · exact h
      · cases h
  · subst e
    obtain ⟨h1, h2, h3⟩ := B.yes x rfl
    refine ⟨List.mem_append_left _ h1, h2, fun t ht ft => ?_⟩
    rcases List.mem_append.mp ht with ht | ht
    · exact h3 t ht ft
    · rw [List.mem_singleton.mp ht] at ft ⊢
      rcases h with h | ⟨y, h, q⟩
      · exact absurd ft h
      · cases h
        exact q
theorem RkLe.of_not {a b : Rl} (h : ¬ RkLe a b) : RkLe b a := by
  unfold RkLe at *
  omega
theorem RkLe.trans {a b c : Rl} (h1 : RkLe a b) (h2 : RkLe b c) : RkLe a c := by
  unfold RkLe at *
  omega
theorem Best.take {ws : List Str} {seen : List Rl} {o : Option Rl} {r : Rl} (B : Best ws seen o) (f : Fit ws r) (h : ∀ y, o = some y → RkLe y r) : Best ws (seen ++ [r]) (some r) := by
  refine ⟨fun e => (by cases e), fun x e => ?_⟩
  cases e
  refine ⟨List.mem_append_right _ List.mem_cons_self, f, fun t ht ft => ?_⟩
  rcases List.mem_append.mp ht with ht | ht
  · cases o with
    | none => exact absurd ft (B.no rfl t ht)
    | some y => exact ((B.yes y rfl).2.2 t ht ft).trans (h y rfl)
  · rw [List.mem_singleton.mp ht]
    exact .inr ⟨rfl, Nat.le_refl _⟩
def rkD (r : Rl) : PyData := .tuple [.int (rkE r), .int (r.pl.length : Int)]
theorem rk_lt (r y : Rl) : PySem.W.dataLt (rkD y) (rkD r) = decide (¬ RkLe r y) := by
  unfold rkD
  rw [PySem.W.dataLt_tuple]
  by_cases e : rkE y = rkE r
  · rw [e, PySem.W.dataLt_all_yes rfl (by simp [PyData.eqv])]
    by_cases l : y.pl.length = r.pl.length
    · rw [l, PySem.W.dataLt_all_yes rfl (by simp [PyData.eqv])]
      have : RkLe r y := .inr ⟨e.symm, by omega⟩
      rw [decide_eq_false (fun h => h this)]
      rfl
    · rw [PySem.W.dataLt_all_no rfl (by simp [PyData.eqv]; omega), PySem.W.dataLt_int]
      unfold RkLe
      refine decide_eq_decide.mpr ?_
      omega
  · rw [PySem.W.dataLt_all_no rfl (by simp [PyData.eqv]; exact e), PySem.W.dataLt_int]
    unfold RkLe
    refine decide_eq_decide.mpr ?_
    omega
/-- a > b of data that is alike -/
def rGtD (K : PySem.W.Frag) : R2 := fun x y H Q => ∃ d e, Dp K H x d ∧ Dp K H y e ∧ PySem.W.alike d e = true ∧ d ≠ .none ∧ d.depth ≤ 64 ∧ Q (.bl (PySem.W.dataLt e d)) H
theorem op_gtD {X : Cx} (hu : X.A.units + 64 < cLine) : OpR X (compareOp .Gt) (rGtD X.K) := by
  intro pins s σ H x y v u Q I rx ry ⟨d, e, hd, he, ha, hn, hp, q⟩
  obtain ⟨as, r1⟩ := dp_reads I.hok I.kIn d x v hd rx
  obtain ⟨bs, r2⟩ := dp_reads I.hok I.kIn e y u he ry
  exact PySem.W.gt_data r1 r2 ha hn (Nat.lt_of_le_of_lt (Nat.add_le_add_left (Nat.le_trans (Nat.min_le_left _ _) hp) _) hu) ⟨.bl _, H, I, rfl, q⟩
theorem cutV_tail (x y z : V) : cutV [x, y, z] (some 1) none = [y, z] := by
  unfold cutV
  rw [HT.sIx_none, show (1 : Int) = ((1 : Nat) : Int) from rfl, HT.sIx_nat]
  rfl
section
variable {P : Program} {w : World} {K : PySem.W.Frag} {mg : Str → Option Value} {base : Heap} {f : Addr} {fd : FuncData}
/-- the best so far: None, or its rank, place and answer -/
def BestAt (K : PySem.W.Frag) (H : Hp) (v : V) : Option Rl → Prop
  | none => v = .non
  | some r => ∃ b k p a, v = .ref b ∧ SqT K H b [.ref k, .ref p, a] ∧ SqT K H k [.int (rkE r), .int (r.pl.length : Int)] ∧ SqT K H p (r.pl.map V.str) ∧ AnAt K H a r.ex r.an
theorem BestAt.same {H H' : Hp} {v : V} {o : Option Rl} (z : BestAt K H v o) (s : Same H H') : BestAt K H' v o := by
  cases o with
  | none => exact z
  | some r => exact let ⟨b, k, p, a, e, h1, h2, h3, h4⟩ := z; ⟨b, k, p, a, e, same_T s h1, same_T s h2, same_T s h3, h4.mono fun _ _ q => same_T s q⟩
def spLA (K : PySem.W.Frag) : Sp := fun vs H Q _ => ∃ (l a : Addr) (xs : List V) (rs : List Rl) (ws : List Str), vs = [.ref l, .ref a] ∧ SqL K H l xs ∧ Rules K H xs rs ∧ Good rs ∧ SqT K H a (ws.map V.str) ∧ ws.length ≤ 900 ∧ LowW ws ∧
  ∀ v H', Same H H' → Dp K H' v (answerOf rs ws) → Q v H'
instance (ws : List Str) (r : Rl) : Decidable (Fit ws r) := by unfold Fit; infer_instance
/-- whether the rule covers the address -/
def tFitI (K : PySem.W.Frag) : TE := fun σ H Q => ∃ (a p : Addr) (r : Rl) (ws : List Str), σ[1]? = some (some (.ref a)) ∧ σ[3]? = some (some (.str (sortS r.ex))) ∧ σ[4]? = some (some (.ref p)) ∧ SqT K H a (ws.map V.str) ∧ SqT K H p (r.pl.map V.str) ∧
  SeqAt.shaped (wt ws) = true ∧ SeqAt.shaped (wt r.pl) = true ∧ LowW ws ∧ ∀ H', Same H H' → Q (.bl (decide (Fit ws r))) H'
def laN : List Str := ["_law_rules_here", "_law_address", "_law_best", "_law_sort", "_law_place_here", "_law_answer_here", "_law_fit", "_law_rank", "_law_rest"]
theorem scLA : FnScope laN ["_law_rules_here", "_law_address"] (defScope sLA) := ⟨rfl, rfl, rfl, by decide +kernel, rfl, by decide +kernel, by decide +kernel⟩
theorem ok_la (Fd : Fun K "_law_answer" "_law_answer" sLA f fd) (T : Tx mg) : FnOk P w K mg base CX0 1 f fd ["_law_rules_here", "_law_address"] (spLA K) := by
  refine Fd.ok scLA (fun vs H Q E h => ?_) (fun cdv A outer s H vs Q E hr h => ?_)
  · obtain ⟨l, a, xs, rs, ws, rfl, _⟩ := h
    rfl
  · obtain ⟨l, a, xs, rs, ws, rfl, hl, hR, g, ha, hw, low, q⟩ := h
    have nd := scLA.nd
    refine ⟨_, pss_cons (ps_set (i := 2) nd rfl (Or.inl rfl) pe_non)
      (pss_cons (ps_for PassesOwn.never rfl (pi_list (pv 0)) (pg_tup rfl (pgs_cons (pg_name (i := 3) nd rfl (Or.inl rfl)) (pgs_cons (pg_name (i := 4) nd rfl (Or.inl rfl)) (pgs_cons (pg_name (i := 5) nd rfl (Or.inl rfl)) pgs_nil))))
        (pss_cons (ps_set (i := 6) nd rfl (Or.inl rfl) (PE.conv (t := tFitI K) (pe_ifExp (pt_cmpR op_eq (pv 3) pe_str (nomark _)) (pe_cmpR (op_eqD hr.units) (pv 1) (pv 4) (nomark _)) (pe_cmpR (op_eqD hr.units) (pe_slice (r := rSlW K) sl_tupK (pv 1) po_none (po_some (pe_callB call_len_seq (by rfl) T.len PySem.boot_len (pa_cons (pv 4) pa_nil)))) (pv 4) (nomark _))) ?cF))
        (pss_cons (ps_set (i := 7) nd rfl (Or.inl rfl) (pe_tup (pa_cons (pe_callTy call_int1 (by rfl) T.int (by decide +kernel) (pa_cons (pe_cmpR op_eq (pv 3) pe_str (nomark _)) pa_nil)) (pa_cons (pe_callB call_len_seq (by rfl) T.len PySem.boot_len (pa_cons (pv 4) pa_nil)) pa_nil))))
        (pss_one (ps_if (PW.pt (pw_and (pt_val (pv 6)) (pw_and1 (PW.pt (pw_or (pt_cmp (pc_isN (pv 2))) (pw_or1 (pt_cmpR (op_gtD hr.units) (pv 7) (pe_ix ix_tup (pv 2) pe_int (fun _ _ => rfl)) (nomark _))))))))
          (pss_one (ps_set (i := 2) nd rfl (Or.inl rfl) (pe_tup (pa_cons (pv 7) (pa_cons (pv 4) (pa_cons (pv 5) pa_nil)))))) pss_nil)))))
      (pss_cons (ps_if (pt_cmp (pc_isN (pv 2))) (pss_one (ps_ret (pe_tup (pa_cons pe_str pa_nil)))) pss_nil)
      (pss_cons (ps_asg (pe_slice (r := rSlW K) sl_tupK (pv 2) (po_some pe_int) po_none) (pg_tup rfl (pgs_cons (pg_name (i := 4) nd rfl (Or.inl rfl)) (pgs_cons (pg_name (i := 5) nd rfl (Or.inl rfl)) pgs_nil))))
      (pss_cons (ps_set (i := 8) nd rfl (Or.inl rfl) (pe_slice (r := rSlW K) sl_tupK (pv 1) (po_some (pe_callB call_len_seq (by rfl) T.len PySem.boot_len (pa_cons (pv 4) pa_nil))) po_none))
      (pss_cons (ps_if (pt_cmpR op_eq (pe_ix ix_tup (pv 5) pe_int (fun _ _ => rfl)) pe_str (nomark _)) (pss_one (ps_ret (pe_tup (pa_cons pe_str (pa_cons (pe_ix ix_tup (pv 5) pe_int (fun _ _ => rfl)) (pa_cons (pv 8) pa_nil)))))) pss_nil)
      (pss_one (ps_ret (pe_ifExp (pt_cmpR op_eq (pe_ix ix_tup (pv 5) pe_int (fun _ _ => rfl)) pe_str (nomark _))
        (pe_tup (pa_cons pe_str (pa_cons (pe_op op_catW (pe_ix ix_tup (pv 5) pe_int (fun _ _ => rfl)) (pv 8)) (pa_cons (pe_ix ix_tup (pv 5) pe_int (fun _ _ => rfl)) pa_nil)))) (pv 5))))))))), ?_⟩
    case cF =>
      rintro σ H Q ⟨a, p, r, ws, e1, e3, e4, ha, hp, shW, shP, low, q⟩
      refine ⟨_, e3, rfl, _, rfl, ?_⟩
      cases hex : r.ex with
      | true =>
        rw [show decide (V.str (sortS true) = V.str "exact") = true by decide +kernel]
        refine iteT ⟨_, e1, _, e4, _, _, dp_wt ha, dp_wt hp, shW, shP, ?_⟩
        rw [eqv_wt]
        have := q H (Same.refl H)
        rwa [show decide (Fit ws r) = decide (ws = r.pl) by
          refine decide_eq_decide.mpr ?_
          unfold Fit
          rw [hex]
          simp [eq_comm]] at this
      | false =>
        rw [show decide (V.str (sortS false) = V.str "exact") = false by decide +kernel]
        refine iteF ⟨_, e1, _, e4, p, _, rfl, .inr hp, _, rfl, a, _, rfl, ha, fun b G3 s3 hb => ?_⟩
        rw [List.length_map, cut_lo] at hb
        have shT : SeqAt.shaped (wt (ws.take r.pl.length)) = true := shaped_wt fun z hz => low z (List.mem_of_mem_take hz)
        refine ⟨_, e4, _, _, dp_wt hb, dp_wt (same_T s3 hp), shT, shP, ?_⟩
        rw [eqv_wt]
        have := q G3 s3
        rwa [show decide (Fit ws r) = decide (ws.take r.pl.length = r.pl) by
          refine decide_eq_decide.mpr ?_
          unfold Fit
          rw [hex]
          simp] at this
    have shW : SeqAt.shaped (wt ws) = true := shaped_wt low
    have shP : ∀ r ∈ rs, SeqAt.shaped (wt r.pl) = true := fun r hr => shaped_wt fun z hz => ((g.ok r hr).wds z hz).low
    refine ⟨_, rfl, l, rfl, ⟨_, hl⟩, for_list (K := K) (a := l) (xs := xs) (fun i σ G => Same H G ∧ ∃ u3 u4 u5 u6 u7 v o, σ = [some (.ref l), some (.ref a), some v, u3, u4, u5, u6, u7, none] ∧ Best ws (rs.take i) o ∧ BestAt K G v o)
      ⟨Same.refl H, _, _, _, _, _, _, none, rfl, ⟨(fun _ t h => nomatch h), (fun r e => nomatch e)⟩, rfl⟩ (fun i σ G _ h => h.1.seq hl) ?_ ?_⟩
    · rintro i x σ G hx ⟨s0, u3, u4, u5, u6, u7, v, o, rfl, B, bv⟩
      obtain ⟨r, er, ra, rp, rx, rfl, t1, t2, t3⟩ := hR.get hx
      have hmem := List.mem_of_getElem? er
      have ok := g.ok r hmem
      have tk : rs.take (i + 1) = rs.take i ++ [r] := by
        rw [List.take_add_one, er]
        rfl
      rw [tk]
      refine ⟨ra, _, rfl, same_T s0 t1, rfl, _, _, rfl, _, _, rfl, _, _, rfl, rfl, ?_⟩
      have lm : (r.pl.map V.str).length = r.pl.length := List.length_map ..
      refine ⟨a, rp, r, ws, rfl, rfl, rfl, same_T s0 ha, same_T s0 t2, shW, shP r hmem, low, fun G2 sB => ?_⟩
      have s02 := s0.trans sB
      refine ⟨_, rfl, rfl, .inr ⟨_, rfl, ?_⟩⟩
      rw [show decide (V.str (sortS r.ex) = V.str "exact") = r.ex by cases r.ex <;> decide +kernel]
      refine ⟨_, rfl, rp, _, rfl, .inr (same_T s02 t2), (show 2 ≤ sizeLine by decide), fun k hk => ?_⟩
      rw [lm]
      have s3 := Same.new (o := .tup [V.int (if r.ex = true then 1 else 0), .int (r.pl.length : Int)]) hk
      have hkk : SqT K (upd G2 k (.tup [V.int (if r.ex = true then 1 else 0), .int (r.pl.length : Int)])) k [.int (rkE r), .int (r.pl.length : Int)] := .of upd_same
      generalize upd G2 k (.tup [V.int (if r.ex = true then 1 else 0), .int (r.pl.length : Int)]) = G3 at s3 hkk ⊢
      have s03 := s02.trans s3
      have sG3 := sB.trans s3
      refine ⟨_, rfl, _, rfl, ?_⟩
      by_cases ft : Fit ws r
      · rw [decide_eq_true ft]
        refine iteT ⟨_, rfl, ?_⟩
        cases o with
        | none =>
          cases bv
          rw [show decide (V.non = V.non) = true by decide]
          refine ⟨_, rfl, iteT (iteT ⟨_, rfl, _, rfl, _, rfl, (show 3 ≤ sizeLine by decide), fun n hn => ?_⟩)⟩
          have s4 := Same.new (o := .tup [V.ref k, .ref rp, rx]) hn
          have s04 := s03.trans s4
          exact ⟨s04, _, _, _, _, _, _, some r, rfl, B.take ft (fun y e => nomatch e), n, k, rp, rx, rfl, .of upd_same, same_T s4 hkk, same_T s04 t2, t3.mono fun _ _ q => same_T s04 q⟩
        | some y =>
          obtain ⟨b, k2, p2, a2, rfl, h1, h2, h3, h4⟩ := bv
          rw [show decide (V.ref b = V.non) = false from decide_eq_false (fun h => nomatch h)]
          have dr : ∀ {H : Hp} {a : Addr} {r : Rl}, SqT K H a [.int (rkE r), .int (r.pl.length : Int)] → Dp K H (.ref a) (rkD r) := fun h => .tup h (.cons (.int _) (.cons (.int _) .nil))
          refine ⟨_, rfl, iteF ⟨_, rfl, _, rfl, b, _, _, _, rfl, rfl, same_T sG3 h1, at0, rkD r, rkD y, dr hkk, dr (same_T sG3 h2), rfl, (fun h => nomatch h), (by simp [rkD, PyData.depth, PyData.depthAll]), ?_⟩⟩
          rw [rk_lt]
          refine ⟨_, rfl, ?_⟩
          by_cases le : RkLe r y
          · rw [decide_eq_false (fun h => h le)]
            exact iteF ⟨s03, _, _, _, _, _, _, some y, rfl, B.skip (.inr ⟨y, rfl, le⟩), b, k2, p2, a2, rfl, same_T sG3 h1, same_T sG3 h2, same_T sG3 h3, h4.mono fun _ _ q => same_T sG3 q⟩
          · rw [decide_eq_true le]
            refine iteT ⟨_, rfl, _, rfl, _, rfl, (show 3 ≤ sizeLine by decide), fun n hn => ?_⟩
            have s4 := Same.new (o := .tup [V.ref k, .ref rp, rx]) hn
            have s04 := s03.trans s4
            exact ⟨s04, _, _, _, _, _, _, some r, rfl, B.take ft (fun z e => by cases e; exact RkLe.of_not le), n, k, rp, rx, rfl, .of upd_same, same_T s4 hkk, same_T s04 t2, t3.mono fun _ _ q => same_T s04 q⟩
      · rw [decide_eq_false ft]
        exact iteF (iteF ⟨s03, _, _, _, _, _, _, o, rfl, B.skip (.inl ft), bv.same sG3⟩)
    · rintro σ G ⟨s0, u3, u4, u5, u6, u7, v, o, rfl, B, bv⟩
      have lr := hR.length
      rw [List.take_of_length_le (by omega)] at B
      have eA : answerOf rs ws = (match o with | none => .tuple [.str "nothing"] | some r => ansOf r ws) := by
        unfold answerOf
        rw [best_rule g.one B]
        cases o <;> rfl
      refine ⟨_, rfl, ?_⟩
      cases o with
      | none =>
        cases bv
        rw [show decide (V.non = V.non) = true by decide]
        refine ⟨_, rfl, iteT ⟨(show 1 ≤ sizeLine by decide), fun n hn => ?_⟩⟩
        have s4 := Same.new (o := .tup [V.str "nothing"]) hn
        refine q _ _ (s0.trans s4) ?_
        rw [eA]
        exact .tup (.of upd_same) (.cons (.str _) .nil)
      | some r =>
        obtain ⟨b, k, p, x, rfl, h1, h2, h3, h4⟩ := bv
        rw [show decide (V.ref b = V.non) = false from decide_eq_false (fun h => nomatch h)]
        obtain ⟨hr1, fit, _⟩ := B.yes r rfl
        refine ⟨_, rfl, iteF ⟨_, rfl, _, rfl, b, _, rfl, h1, fun c0 G1 s1 hc0 => ?_⟩⟩
        rw [cutV_tail] at hc0
        have s01 := s0.trans s1
        refine ⟨c0, _, rfl, hc0, rfl, _, _, rfl, _, _, rfl, rfl, ?_⟩
        refine ⟨_, rfl, _, rfl, p, _, rfl, .inr (same_T s1 h3), _, rfl, a, _, rfl, same_T s01 ha, fun e G2 s2 he => ?_⟩
        rw [List.length_map, cut_hi] at he
        have s02 := s01.trans s2
        have s12 := s1.trans s2
        have bv : AnAt K G2 x r.ex r.an := h4.mono fun _ _ q => same_T s12 q
        have okr := (g.ok r hr1).an
        have ea : answerOf rs ws = ansOf r ws := eA
        unfold ansOf at ea
        have dz : r.ex = true → ws.drop r.pl.length = [] := fun h => by
          rcases fit with ⟨_, e⟩ | ⟨e, _⟩
          · rw [e]
            exact List.drop_length
          · rw [h] at e
            cases e
        generalize r.ex = ex at bv ea dz
        generalize r.an = an at bv ea okr
        cases an with
        | gone =>
          obtain ⟨c, rfl, hc⟩ := bv
          refine ⟨_, rfl, c, _, _, _, rfl, rfl, hc, at0, rfl, _, rfl, ?_⟩
          rw [show decide (V.str "gone" = V.str "section") = false by decide +kernel]
          refine iteF ⟨_, rfl, c, _, _, _, rfl, rfl, hc, at0, rfl, _, rfl, ?_⟩
          rw [show decide (V.str "gone" = V.str "to") = false by decide +kernel]
          refine iteF ⟨_, rfl, q _ _ s02 ?_⟩
          rw [ea]
          cases ex <;> exact .tup hc (.cons (.str _) .nil)
        | own z =>
          obtain ⟨c, rfl, hc⟩ := bv
          cases ex with
          | true =>
            refine ⟨_, rfl, c, _, _, _, rfl, rfl, hc, at0, rfl, _, rfl, ?_⟩
            rw [show decide (V.str (ownS true) = V.str "section") = false by decide +kernel]
            refine iteF ⟨_, rfl, c, _, _, _, rfl, rfl, hc, at0, rfl, _, rfl, ?_⟩
            rw [show decide (V.str (ownS true) = V.str "to") = false by decide +kernel]
            refine iteF ⟨_, rfl, q _ _ s02 ?_⟩
            rw [ea]
            exact .tup hc (.cons (.str _) (.cons (.str _) .nil))
          | false =>
            refine ⟨_, rfl, c, _, _, _, rfl, rfl, hc, at0, rfl, _, rfl, ?_⟩
            rw [show decide (V.str (ownS false) = V.str "section") = true by decide +kernel]
            refine iteT ⟨_, rfl, c, _, _, _, rfl, rfl, hc, at1, _, rfl, (show 3 ≤ sizeLine by decide), fun u hu => q _ _ (s02.trans (Same.new hu)) ?_⟩
            rw [ea]
            exact .tup (.of upd_same) (.cons (.str _) (.cons (.str _) (.cons (dp_wt (same_T (Same.new hu) he)) .nil)))
        | to tg n =>
          obtain ⟨c, d, rfl, hc, hd⟩ := bv
          refine ⟨_, rfl, c, _, _, _, rfl, rfl, hc, at0, rfl, _, rfl, ?_⟩
          rw [show decide (V.str "to" = V.str "section") = false by decide +kernel]
          refine iteF ⟨_, rfl, c, _, _, _, rfl, rfl, hc, at0, rfl, _, rfl, ?_⟩
          rw [show decide (V.str "to" = V.str "to") = true by decide +kernel]
          have ltg : tg.length ≤ 4 := okr.1
          have lw : (ws.drop r.pl.length).length ≤ 900 := by
            rw [List.length_drop]
            omega
          refine iteT ⟨_, rfl, c, _, _, _, rfl, rfl, hc, at1, _, rfl, d, e, _, _, rfl, rfl, hd, he, by rw [List.length_map, List.length_map]; exact Nat.le_trans (show tg.length + (ws.drop r.pl.length).length ≤ 904 by omega) (by decide), fun ap G5 s5 hap => ?_⟩
          rw [← List.map_append] at hap
          refine ⟨_, rfl, c, _, _, _, rfl, rfl, same_T s5 hc, at_of (j := 2) rfl rfl, (show 3 ≤ sizeLine by decide), fun u hu => ?_⟩
          have s6 := Same.new (o := .tup [V.str "to", .ref ap, .int n]) hu
          refine q _ _ (s02.trans (s5.trans s6)) ?_
          rw [ea]
          have fin : Dp K (upd G5 u (.tup [V.str "to", .ref ap, .int n])) (.ref u) (.tuple [.str "to", wt (tg ++ ws.drop r.pl.length), .int n]) := .tup (.of upd_same) (.cons (.str _) (.cons (dp_wt (same_T s6 hap)) (.cons (.int n) .nil)))
          cases ex with
          | false => exact fin
          | true =>
            rw [dz rfl, List.append_nil] at fin
            exact fin
end
end K49
/-! sorted(t, key=f) of a tuple, f a def of one's own. -/
namespace Ld
open PySem PySem.W L2 PyProof.Rows
section
variable {prog : Program} {w : World} {A : Around} {E : Value → Shared → Prop} {s : Shared}
/-- the heap with one more list that holds the items -/
def heap1 (h : Heap) (vs : Array Value) : Heap := (h.push ⟨.type "list", none, .seq #[] 0, #[]⟩).update h.objs.size (Obj.mapSeq fun z => z ++ vs)
theorem heap1_size {h : Heap} {vs : Array Value} : (heap1 h vs).objs.size = h.objs.size + 1 := by
  unfold heap1
  rw [Heap.size_update, Heap.size_push]
theorem heap1_keep {h : Heap} {vs : Array Value} (b : Addr) (o : Obj) (e : h.get? b = some o) : (heap1 h vs).get? b = some o := by
  have lt := Heap.lt_size e
  unfold heap1
  rw [Heap.get?_update_other _ _ (Nat.ne_of_gt lt)]
  exact Heap.get?_push_of_some _ e
/-- the items of a tuple in a list of their own: the heap is one object larger -/
theorem items_of {l : Addr} {o : Obj} {vs : Array Value} {n : Nat} {Q : List Value → Shared → Prop} (at_ : s.heap.get? l = some o) (cls : o.cls = .type "tuple") (dat : o.data = .seq vs n) (fits : vs.size ≤ sizeLine)
    (q : Q vs.toList { s with heap := heap1 s.heap vs }) : wpAny (model prog w) A (collect (.ref l)) Q E s := by
  let M := s.heap.objs.size
  have new : (s.heap.push ⟨.type "list", none, .seq #[] 0, #[]⟩).get? M = some ⟨.type "list", none, .seq #[] 0, #[]⟩ := Heap.get?_push_size _ rfl
  have full := Heap.get?_update_self (Obj.mapSeq fun z => z ++ vs) new rfl
  have last : wpAny (model prog w) A (load M >>= fun b => match b.data with | .seq xs _ => pure xs.toList | _ => unsupported "internal:collect") Q E { s with heap := heap1 s.heap vs } :=
    wpAny_bind (wpAny_load full (wpAny_pure (by rw [show ((#[] : Array Value) ++ vs).toList = vs.toList by simp]; exact q)))
  have main := wpAny_extend_seq (A := A) (w := w) (prog := prog) (R := fun r z => r = .ok (.ret (.ref M)) ∧ z = { s with heap := heap1 s.heap vs }) (s := { s with heap := s.heap.push ⟨.type "list", none, .seq #[] 0, #[]⟩ })
    M l (.ref M) 0 (.inr rfl) new (Heap.get?_push_of_some _ at_) cls dat ⟨rfl, rfl⟩ fits
  delta collect
  apply wpAny_bind
  apply wpAny_runValue
  apply codeAny_builtin F.entry_proto_collect
  rw [Around.under_plainId F.plain_proto_collect]
  apply wpAny_bind
  refine wpAny_newObj_type ?_ (Nat.zero_le _)
  apply wpAny_pure
  refine ⟨plainId_quiet F.plain_list_iadd _, ?_⟩
  apply codeAny_builtin F.entry_list_iadd
  rw [Around.under_plainId F.plain_list_iadd]
  refine wpAny_mono main (fun f z y => ?_) fun _ _ y => nomatch y.1
  cases f with
  | done g =>
    obtain ⟨y, rfl⟩ := y
    cases y
    exact last
  | again c =>
    refine ⟨y.1, codeAny_mono y.2 fun _ _ y => ?_⟩
    obtain ⟨rfl, rfl⟩ := y
    exact last
end
section
variable {prog : Program} {w : World} {A : Around} {E : Value → Shared → Prop} {s : Shared}
/-- what sorted does with a tuple: its items in a new list, which is sorted -/
theorem sorted_tup {l : Addr} {vs : List Value} {kw : List (Str × Value)} {Q : Value → Shared → Prop} (tup : IsTup s.heap l vs.toArray) (fits : vs.length ≤ sizeLine) (ok1 : argsOk "sorted" ⟨[.ref l], kw⟩) (ok2 : ∀ x, argsOk "list.sort" ⟨[.ref x], kw⟩)
    (body : ∀ (h1 : Heap) (E' : Value → Shared → Prop), (∀ b o, s.heap.get? b = some o → h1.get? b = some o) → s.heap.objs.size ≤ h1.objs.size →
      wpAny (model prog w) A.in1.in1 (Builtin.«list.sort» ⟨[.ref h1.objs.size], kw⟩) (fun f s' => f = .done (.ret .none) ∧ Q (.ref h1.objs.size) s') E' { s with heap := h1.push (seqObj "list" vs.toArray 0) }) :
    wpAny (model prog w) A (call (.builtin "sorted") [.ref l] kw) Q E s := by
  obtain ⟨o, at_, cls, n, dat⟩ := tup
  refine call_function_entry_kw kind_sorted plain_sorted entry_sorted ok1 ?_
  unfold Builtin.«sorted»
  refine wpAny_bind (wpAny_pure (wpAny_bind (items_of at_ cls dat (by rw [List.size_toArray]; exact fits) ?_)))
  rw [show vs.toArray.toList = vs from rfl]
  refine wpAny_bind (wpAny_newList (wpAny_bind (wpAny_holding ?_)) fits)
  generalize eh1 : heap1 s.heap vs.toArray = h1
  have keep : ∀ b o, s.heap.get? b = some o → h1.get? b = some o := by rw [← eh1]; exact heap1_keep
  have big : s.heap.objs.size ≤ h1.objs.size := by rw [← eh1, heap1_size]; omega
  have at2 : (h1.push (seqObj "list" vs.toArray 0)).get? h1.objs.size = some (seqObj "list" vs.toArray 0) := Heap.get?_push_size _ rfl
  refine wpAny_call_entry_kw slot_list_sort ⟨_, at2, rfl⟩ entry_list_sort (wpAny_mono (body h1 _ keep big) (fun f s' z => ?_) fun _ _ e => e) (ok2 _)
  exact ⟨_, z.1, wpAny_pure ⟨_, rfl, z.2⟩⟩
end
section
variable {X : Cx}
/-- sorted(t, key=f): zs, the items with their keys -/
def rSortKT (K : PySem.W.Frag) (f : Addr) (sp : Sp) : List V → List V → Hp → VK → Prop := fun vs ws H Q => ∃ (l : Addr) (zs : List (V × PyData)), vs = [.ref l] ∧ ws = [.ref f] ∧ SqT K H l (zs.map Prod.fst) ∧ zs.length ≤ 1000 ∧ AllAlike (zs.map Prod.snd) ∧ Sortable (zs.map Prod.snd) ∧
  (∀ z ∈ zs, bareB z.2 = true ∧ z.2.depth ≤ 8 ∧ ∀ H1, Same H H1 → sp [z.1] H1 (fun v H2 => Same H1 H2 ∧ Dp K H2 v z.2) E0) ∧
  ∀ H1 q, Same H H1 → H1 q = none → q ≠ sysModules → Q (.ref q) (upd H1 q (.lst ((zs.mergeSort (dataLe false Prod.snd)).map Prod.fst)))
theorem cr_sortKT {j : Nat} {fd : FuncData} {p : Str} {sp : Sp} (F : FnOk X.prog X.w X.K X.mg X.base CX0 j f fd [p] sp) (hr : Room (j + 2) X.A) (hb : Binds X.K fd [p] []) : CallRK X (.builtin "sorted") [Str.ofString "key"] (rSortKT X.K f sp) := by
  intro pins0 s0 σ0 H0 xs0 ws0 us0 vs0 Q0 I0 r0 r1 ⟨l, zs, e0, e1, hl, hn, hal, hsk, hz, q0⟩
  subst e0 e1
  obtain ⟨u0, rfl, rx0⟩ := vals1 r0
  obtain ⟨w0, rfl, rw0⟩ := vals1 r1
  cases rx0
  cases rw0
  obtain ⟨js, rj, tj, zj⟩ := I0.tuple hl
  have lj : js.length = zs.length := by rw [← rj.length, List.length_map]
  have line : zs.length ≤ sizeLine := Nat.le_trans hn (by decide)
  have rel : EachIs (fun (u : Value) (z : V × PyData) => RelV z.1 u) js zs := vals_each rj
  refine sorted_tup tj (by rw [lj]; exact line) (ksk_s1 _ _) (fun _ => ksk_l1 _ _) fun h1 E' keep big => ?_
  show wpAny _ _ (Builtin.«list.sort» ⟨[.ref h1.objs.size], [(Str.ofString "key", .ref f)]⟩) _ _ _
  rw [ksk_t1]
  have sz : (h1.push (seqObj "list" js.toArray 0)).objs.size = h1.objs.size + 1 := size_push' ..
  have bigger : s0.heap.objs.size ≤ (h1.push (seqObj "list" js.toArray 0)).objs.size := by omega
  have keep0 : ∀ b o, s0.heap.get? b = some o → (h1.push (seqObj "list" js.toArray 0)).get? b = some o := fun b o q => Heap.get?_push_of_some _ (keep b o q)
  have frN : ∀ b, s0.heap.objs.size ≤ b → b ∉ frs X.stack := fun b hb hm => by
    obtain ⟨_, o', e', _⟩ := I0.env0.funs.mem hm
    exact absurd (Heap.lt_size e') (Nat.not_lt.mpr hb)
  refine key_tree (X := X) (pins := pins0) (σ := σ0) (H := H0) (s := s0) (kz := zs.map Prod.snd) (H0 := H0) (s0 := { s0 with heap := h1.push (seqObj "list" js.toArray 0) }) (a := h1.objs.size) I0 ⟨rfl, I0.bare, Un.kept keep0, I0.hok.kept keep0, Same.refl H0⟩ (Heap.get?_none_of_le big) frN (I0.hok.fresh big) big
    (Heap.get?_push_size _ rfl) bigger (by rw [List.length_map, lj]) (by rw [lj]; exact line) hal hsk (fun d hd => ?_) (fun d hd => ?_) (fun i v k hv hk => ?_) fun H3 s3 out c J3 n3 o3 ko => ⟨rfl, ?_⟩
  · obtain ⟨z, hz1, rfl⟩ := List.mem_map.mp hd
    exact (hz z hz1).1
  · obtain ⟨z, hz1, rfl⟩ := List.mem_map.mp hd
    have := (hz z hz1).2.1
    have := hr.un
    show X.A.units + 1 + 1 + z.2.depth < cLine
    omega
  · rw [List.getElem?_map] at hk; obtain ⟨z, hz1, rfl⟩ := Option.map_eq_some_iff.mp hk
    have rz := rel.zip (v, z) (List.mem_of_getElem? (i := i) (by rw [List.getElem?_zip_eq_some]; exact ⟨hv, hz1⟩))
    exact fun H1 s1 J1 => J1.call I0 F hr.in1.in1 rfl hb rz ((hz z (List.mem_of_getElem? hz1)).2.2 H1 J1.same)
  · have ko' := keyedOut_each (R := fun (u : Value) (z : V × PyData) => RelV z.1 u) Prod.snd ko rel
    have ln : ((zs.mergeSort (dataLe false Prod.snd)).map Prod.fst).length ≤ sizeLine := by
      rw [List.length_map, List.length_mergeSort]
      exact line
    have J4 : Since X H0 s0 (upd H3 h1.objs.size (.lst ((zs.mergeSort (dataLe false Prod.snd)).map Prod.fst))) s3 :=
      ⟨J3.os, J3.bare, un_put J3.un (Heap.get?_none_of_le big) n3, hok_put J3.hok n3 ⟨ln, out, c, each_vals ko', o3⟩, J3.same.trans (Same.new n3)⟩
    exact ⟨.ref h1.objs.size, _, J4.inv I0, rfl, q0 H3 _ J3.same n3 (Nat.ne_of_gt (Nat.lt_of_lt_of_le I0.big big))⟩
end
end Ld
namespace K49
open PySem L2 Ld PyProof.Rows
/-! ### Table() -/
section
variable {P : Program} {w : World} {K : PySem.W.Frag} {mg : Str → Option Value} {base : Heap} {f : Addr} {fd : FuncData}
theorem dc_tup0 {e : Addr} {g : TG} {tk tv : TE} {vs : List Nat} {σ : L2.St} {H1 : Hp} {D : Addr} {Qd : Hp → Prop} (he : SqT K (upd H1 D (kdO P w D [])) e []) (hd : ∀ G, G = upd H1 D (kdO P w D []) → Qd G) :
    ∃ W : Nat → Nat → Hp → Prop, (∃ m, W 0 m (upd H1 D (kdO P w D []))) ∧ ∀ i m G, W i m G → ((Itt K e).stop i G ∧ Qd G) ∨ ((Itt K e).go i G ∧ ∃ Nx : Hp → Prop, (∀ G', Nx G' → ∃ m', m' < m ∧ W (i + 1) m' G') ∧
      ∀ x G', (Itt K e).yld i G x G' → g x (wipe σ vs) G' fun σ2 G2 => wipe σ2 vs = wipe σ vs ∧ tk σ2 G2 fun y G4 => tv σ2 G4 fun z G5 => moreN P w K D y z G5 Nx) :=
  ⟨fun _ _ G => G = upd H1 D (kdO P w D []), ⟨0, rfl⟩, fun i m G h => by
    subst h
    exact .inl ⟨⟨[], he, Nat.zero_le _⟩, hd _ rfl⟩⟩
def spInitE (P : Program) (w : World) (K : PySem.W.Frag) (CT : Addr) : Sp := fun vs H Q _ => ∃ (a dx e : Addr), vs = [.ref a, .ref e] ∧ H a = some (.ins CT dx []) ∧ SqT K H e [] ∧
  ∀ H', (∀ b o, b ≠ a → H b = some o → H' b = some o) → TabAt P w K CT H' a [] → Q .non H'
theorem good0 : Good [] := ⟨(fun r h => nomatch h), by decide, by decide⟩
theorem ok_initE {CT : Addr} {dvs : List V} (Fd : FunD K "__init__" "Table.__init__" (defArgs sInit) (defBody sInit) (defScope sInit) dvs [] f fd) (T : Tx mg) (Y : Ty mg) (C : Tcl K CT) (DR : Df P w K mg base 5 "is_rule" ["value"] (spRule K)) (DK : Df P w K mg base 2 "rule_key" ["rule"] (spRK K)) :
    FnOk P w K mg base CX0 6 f fd ["self", "rules"] (spInitE P w K CT) := by
  refine Fd.ok0 scTab (fun vs H Q E h => ?_) (fun cdv A outer s H vs Q E hr h => ?_)
  · obtain ⟨a, dx, e, rfl, _⟩ := h
    rfl
  · obtain ⟨a, dx, e, rfl, ha, he, q⟩ := h
    obtain ⟨tm, hm⟩ := Y.mr
    obtain ⟨fk, fdk, gk, kk, bk, FK⟩ := DK.ex
    have hu : (A.deeper (envOfC "Table.__init__" (defScope sInit) s.heap.objs.size f cdv)).units + 64 < cLine := hr.units
    have nd := scTab.nd
    refine ⟨_, pss_cons (ps_for PassesOwn.never rfl (pi_tup (pv 1)) (pg_name (i := 2) nd rfl (Or.inl rfl)) (pss_one (ps_if (pt_not (pt_val (pe_df DR hr (pa_cons (pv 2) pa_nil)))) pss_dead pss_nil)))
      (pss_cons (ps_setDcN (i := 3) (own := [("rule", 2)]) (g := gName 2) (Nat.lt_of_le_of_lt (Nat.add_le_add_left (by decide) _) hr.units) (by rfl) nd rfl rfl (sw_dict rfl rfl rfl rfl) (pi_tup (pv 1)) (blkOk_by (own := [("rule", 2)]) (N := ["self", "rules", "rule", "found"]) (sc := defScope sInit) (by decide +kernel))
          (fun _ _ _ _ _ => pg_name (i := 2) nd rfl (Or.inl rfl)) (fun _ _ _ _ _ => pe_slice (r := rSlW K) sl_tupK (pv 2) po_none (po_some pe_int)) (fun _ _ _ _ _ => pv 2))
      (pss_cons (ps_if (PW.pt (pw_or (pt_cmpR op_gt (pe_callB call_len_seq (by rfl) T.len PySem.boot_len (pa_cons (pv 1) pa_nil)) (pe_glob (v := .int 40) (by rfl) hm ⟨_, rfl⟩) (nomark _))
          (pw_or1 (pt_cmpR op_lt (pe_callB call_lenN (by rfl) T.len PySem.boot_len (pa_cons (pv 3) pa_nil)) (pe_callB call_len_seq (by rfl) T.len PySem.boot_len (pa_cons (pv 1) pa_nil)) (nomark _))))) pss_dead pss_nil)
      (pss_cons (ps_fld (pv 0) (pe_callTy call_tuple_of (by rfl) T.tuple (by decide +kernel) (pa_cons (pe_callBK (cr_sortKT FK (hr.mono (by decide)) bk) (by rfl) Y.sorted boot_sorted (pa_cons (pv 1) pa_nil) (pk_cons (pe_glob (v := .ref fk) (by rfl) gk rfl) pk_nil)) pa_nil)) rfl)
      (pss_cons (ps_fld (pv 0) (pv 3) rfl)
      (pss_one (ps_fld (pv 0) (pe_callBK (cr_maxDf rfl (Nat.lt_of_le_of_lt (Nat.add_le_add_left (by decide) _) hr.units)) (by rfl) T.max PyProof.Rows.boot_max (pa_cons (pe_lc (own := [("rule", 2)]) (g := gName 2) (tt := tYes) (by rfl) nd (pi_tup (pv 1)) (blkOk_by (own := [("rule", 2)]) (N := ["self", "rules", "rule", "found"]) (sc := defScope sInit) (by decide +kernel))
        (fun _ _ _ _ _ => pg_name (i := 2) nd rfl (Or.inl rfl)) (fun _ _ _ _ _ => pts_nil) (fun _ _ _ _ _ => pe_callB (r := rLenK K) call_lenK (by rfl) T.len PySem.boot_len (pa_cons (pe_ix (r := rIxT K) ix_tupK (pv 2) pe_int (fun _ _ => rfl)) pa_nil))) pa_nil) (pk_cons pe_int pk_nil)) rfl)))))), ?_⟩
    refine ⟨_, rfl, e, rfl, ⟨_, he⟩, for_tup (K := K) (a := e) (xs := []) (fun j σ G => G = H ∧ ∃ u, σ = [some (.ref a), some (.ref e), u, none]) ⟨rfl, none, rfl⟩ (fun j σ G _ h => by rw [h.1]; exact he) (fun i x σ G hx => by simp at hx) ?_⟩
    rintro σ G ⟨rfl, u, rfl⟩
    refine ⟨_, rfl, e, rfl, ⟨_, he⟩, fun D hD low => ?_⟩
    refine dc_tup0 (K := K) (same_T (Same.new hD) he) fun G1 e1 => ?_
    have s1 : Same G G1 := by rw [e1]; exact Same.new hD
    have he1 := same_T s1 he
    have hD1 : G1 D = some (kdO P w D []) := by rw [e1]; exact upd_same
    have ha1 := s1 _ _ ha
    clear e1
    have kd : KD P w K G1 D [] := ⟨hD1, low, Nat.zero_le _, fun x hx => nomatch hx⟩
    refine ⟨_, rfl, e, [], rfl, .inr he1, _, _, rfl, rfl, _, rfl, ?_⟩
    refine iteF ⟨_, rfl, D, [], rfl, kd, _, rfl, e, [], rfl, .inr he1, _, _, rfl, rfl, _, rfl, ?_⟩
    refine iteF ⟨_, rfl, e, [], rfl, rfl, he1, by decide, (fun d hd => nomatch hd), .inl (fun d hd => nomatch hd), (fun z hz => nomatch hz), fun H2 q1 s2 hq nq => ⟨q1, _, rfl, .inl ⟨.of upd_same, fun t ht => ⟨_, rfl, a, CT, dx, [], rfl, ?_, C.cls, C.no1, (by decide), ?_⟩⟩⟩⟩
    · exact (Same.new ht) _ _ ((Same.new hq) _ _ (s2 _ _ ha1))
    rw [List.mergeSort_nil, List.map_nil] at ht ⊢
    have s3 := s2.trans ((Same.new (o := .lst ([] : List V)) hq).trans (Same.new (o := .tup ([] : List V)) ht))
    have ht3 := upd_same (H := upd H2 q1 (.lst ([] : List V))) (a := t) (o := .tup ([] : List V))
    generalize upd (upd H2 q1 (.lst [])) t (.tup []) = G3 at s3 ht3 ⊢
    have ha3 : G3 a = some (.ins CT dx []) := s3 _ _ ha1
    refine ⟨_, rfl, _, rfl, a, CT, dx, _, rfl, upd_same, C.cls, C.no2, (show 1 < 1000 by decide), ?_⟩
    have hT : ∀ b zs, SqT K G3 b zs → SqT K (upd (upd G3 a (.ins CT dx (putF "_rules" (.ref t) []))) a (.ins CT dx (putF "_found" (.ref D) (putF "_rules" (.ref t) [])))) b zs := fun b zs z => sqT_ins (upd_same) (sqT_ins ha3 z)
    have hD3 : G3 D = some (kdO P w D []) := s3 _ _ hD1
    have nDa : D ≠ a := ne_of hD3 ha3 fun e => nomatch e
    have off : ∀ b o, b ≠ a → G3 b = some o → (upd (upd G3 a (.ins CT dx (putF "_rules" (.ref t) []))) a (.ins CT dx (putF "_found" (.ref D) (putF "_rules" (.ref t) [])))) b = some o := fun b o nb e => by
      rw [upd_ne nb, upd_ne nb]
      exact e
    have at4 := upd_same (H := upd G3 a (.ins CT dx (putF "_rules" (.ref t) []))) (a := a) (o := .ins CT dx (putF "_found" (.ref D) (putF "_rules" (.ref t) [])))
    have he4 := hT _ _ (same_T s3 he1)
    generalize upd (upd G3 a (.ins CT dx (putF "_rules" (.ref t) []))) a (.ins CT dx (putF "_found" (.ref D) (putF "_rules" (.ref t) []))) = G4 at hT off at4 he4 ⊢
    refine ⟨_, rfl, e, rfl, ⟨_, he4⟩, fun L hL => ?_⟩
    refine lc_tup (K := K) (a := e) (xs := []) (fun i G5 => Same G4 G5 ∧ G5 L = some (.lst [])) ⟨Same.new hL, upd_same⟩ (fun i G5 _ h => same_T h.1 he4) (fun i x G5 hx => by simp at hx) ?_
    rintro G5 ⟨s5, h5⟩
    refine ⟨L, [], 0, rfl, rfl, .of h5, fun m m0 m1 m2 => ?_⟩
    obtain rfl := m0 rfl
    refine ⟨_, rfl, a, CT, dx, _, rfl, s5 _ _ at4, C.cls, C.no3, (show 2 < 1000 by decide), ?_⟩
    have hT5 : ∀ b zs, SqT K G3 b zs → SqT K (upd G5 a (.ins CT dx (putF "_longest" (.int 0) (putF "_found" (.ref D) (putF "_rules" (.ref t) []))))) b zs := fun b zs z => sqT_ins (s5 _ _ at4) (same_T s5 (hT _ _ z))
    refine q _ (fun b o nb e => ?_) ⟨dx, t, D, [], [], 0, ?_, hT5 _ _ (.of ht3), .nil, good0, ⟨?_, low, Nat.zero_le _, fun x hx => nomatch hx⟩, ⟨fun k v e => (nomatch e), fun r hr => nomatch hr⟩, ⟨by decide, by decide, fun r hr => nomatch hr⟩⟩
    · rw [upd_ne nb]
      exact s5 _ _ (off _ _ nb (s3 _ _ (s1 _ _ e)))
    · rw [upd_same]
      rfl
    · rw [upd_ne nDa]
      exact s5 _ _ (off _ _ nDa hD3)
end
/-! ### Table(t), t a tuple of rules -/
section
variable {P : Program} {w : World} {K : PySem.W.Frag} {mg : Str → Option Value} {base : Heap} {f : Addr} {fd : FuncData}
theorem dc_tupN {P : Program} {w : World} {K : PySem.W.Frag} {a : Addr} {xs : List V} {g : TG} {tk tv : TE} {vs : List Nat} {σ : L2.St} {H1 : Hp} {D : Addr} {Qd : Hp → Prop} (Pv : Nat → Hp → Prop) (h0 : Pv 0 (upd H1 D (kdO P w D []))) (hl : ∀ i G, i ≤ xs.length → Pv i G → SqT K G a xs)
    (hs : ∀ i x G, xs[i]? = some x → Pv i G → g x (wipe σ vs) G fun σ2 G2 => wipe σ2 vs = wipe σ vs ∧ tk σ2 G2 fun y G4 => tv σ2 G4 fun z G5 => moreN P w K D y z G5 (Pv (i + 1))) (hd : ∀ G, Pv xs.length G → Qd G) :
    ∃ W : Nat → Nat → Hp → Prop, (∃ m, W 0 m (upd H1 D (kdO P w D []))) ∧ ∀ i m G, W i m G → ((Itt K a).stop i G ∧ Qd G) ∨ ((Itt K a).go i G ∧ ∃ Nx : Hp → Prop, (∀ G', Nx G' → ∃ m', m' < m ∧ W (i + 1) m' G') ∧
      ∀ x G', (Itt K a).yld i G x G' → g x (wipe σ vs) G' fun σ2 G2 => wipe σ2 vs = wipe σ vs ∧ tk σ2 G2 fun y G4 => tv σ2 G4 fun z G5 => moreN P w K D y z G5 Nx) := by
  refine ⟨fun i m G => m + i = xs.length ∧ Pv i G, ⟨xs.length, rfl, h0⟩, fun i m G ⟨e, p⟩ => ?_⟩
  have q := hl i G (by omega) p
  by_cases hlt : i < xs.length
  · refine Or.inr ⟨⟨xs, xs[i], q, List.getElem?_eq_getElem hlt⟩, Pv (i + 1), fun G' p' => ⟨m - 1, by omega, by omega, p'⟩, fun x G' y => ?_⟩
    obtain ⟨rfl, y⟩ := y
    exact hs i x G' (y xs q) p
  · have e2 : i = xs.length := by omega
    subst e2
    exact Or.inl ⟨⟨xs, q, Nat.le_refl _⟩, hd G p⟩
def spInitT (P : Program) (w : World) (K : PySem.W.Frag) (CT : Addr) : Sp := fun vs H Q _ => ∃ (a dx la : Addr) (xs : List V) (rs : List Rl), vs = [.ref a, .ref la] ∧ H a = some (.ins CT dx []) ∧ SqT K H la xs ∧ Rules K H xs rs ∧ Good rs ∧
  ∀ H', (∀ b o, b ≠ a → H b = some o → H' b = some o) → TabAt P w K CT H' a (sortR rs) → Q .non H'
theorem ok_initT {CT : Addr} {dvs : List V} (Fd : FunD K "__init__" "Table.__init__" (defArgs sInit) (defBody sInit) (defScope sInit) dvs [] f fd) (T : Tx mg) (Y : Ty mg) (C : Tcl K CT) (DR : Df P w K mg base 5 "is_rule" ["value"] (spRule K)) (DK : Df P w K mg base 2 "rule_key" ["rule"] (spRK K)) :
    FnOk P w K mg base CX0 6 f fd ["self", "rules"] (spInitT P w K CT) := by
  refine Fd.ok0 scTab (fun vs H Q E h => ?_) (fun cdv A outer s H vs Q E hr h => ?_)
  · obtain ⟨a, dx, la, xs, rs, rfl, _⟩ := h
    rfl
  · obtain ⟨a, dx, la, xs, rs, rfl, ha, hl, hR, hG, q⟩ := h
    obtain ⟨tm, hm⟩ := Y.mr
    obtain ⟨fk, fdk, gk, kk, bk, FK⟩ := DK.ex
    have hu : (A.deeper (envOfC "Table.__init__" (defScope sInit) s.heap.objs.size f cdv)).units + 64 < cLine := hr.units
    have nd := scTab.nd
    refine ⟨_, pss_cons (ps_for PassesOwn.never rfl (pi_tup (pv 1)) (pg_name (i := 2) nd rfl (Or.inl rfl)) (pss_one (ps_if (pt_not (pt_val (pe_df DR hr (pa_cons (pv 2) pa_nil)))) pss_dead pss_nil)))
      (pss_cons (ps_setDcN (i := 3) (own := [("rule", 2)]) (g := gName 2) (Nat.lt_of_le_of_lt (Nat.add_le_add_left (by decide) _) hr.units) (by rfl) nd rfl rfl (sw_dict rfl rfl rfl rfl) (pi_tup (pv 1)) (blkOk_by (own := [("rule", 2)]) (N := ["self", "rules", "rule", "found"]) (sc := defScope sInit) (by decide +kernel))
          (fun _ _ _ _ _ => pg_name (i := 2) nd rfl (Or.inl rfl)) (fun _ _ _ _ _ => pe_slice (r := rSlW K) sl_tupK (pv 2) po_none (po_some pe_int)) (fun _ _ _ _ _ => pv 2))
      (pss_cons (ps_if (PW.pt (pw_or (pt_cmpR op_gt (pe_callB call_len_seq (by rfl) T.len PySem.boot_len (pa_cons (pv 1) pa_nil)) (pe_glob (v := .int 40) (by rfl) hm ⟨_, rfl⟩) (nomark _))
          (pw_or1 (pt_cmpR op_lt (pe_callB call_lenN (by rfl) T.len PySem.boot_len (pa_cons (pv 3) pa_nil)) (pe_callB call_len_seq (by rfl) T.len PySem.boot_len (pa_cons (pv 1) pa_nil)) (nomark _))))) pss_dead pss_nil)
      (pss_cons (ps_fld (pv 0) (pe_callTy call_tuple_of (by rfl) T.tuple (by decide +kernel) (pa_cons (pe_callBK (cr_sortKT FK (hr.mono (by decide)) bk) (by rfl) Y.sorted boot_sorted (pa_cons (pv 1) pa_nil) (pk_cons (pe_glob (v := .ref fk) (by rfl) gk rfl) pk_nil)) pa_nil)) rfl)
      (pss_cons (ps_fld (pv 0) (pv 3) rfl)
      (pss_one (ps_fld (pv 0) (pe_callBK (cr_maxDf rfl (Nat.lt_of_le_of_lt (Nat.add_le_add_left (by decide) _) hr.units)) (by rfl) T.max PyProof.Rows.boot_max (pa_cons (pe_lc (own := [("rule", 2)]) (g := gName 2) (tt := tYes) (by rfl) nd (pi_tup (pv 1)) (blkOk_by (own := [("rule", 2)]) (N := ["self", "rules", "rule", "found"]) (sc := defScope sInit) (by decide +kernel))
        (fun _ _ _ _ _ => pg_name (i := 2) nd rfl (Or.inl rfl)) (fun _ _ _ _ _ => pts_nil) (fun _ _ _ _ _ => pe_callB (r := rLenK K) call_lenK (by rfl) T.len PySem.boot_len (pa_cons (pe_ix (r := rIxT K) ix_tupK (pv 2) pe_int (fun _ _ => rfl)) pa_nil))) pa_nil) (pk_cons pe_int pk_nil)) rfl)))))), ?_⟩
    refine ⟨_, rfl, la, rfl, ⟨_, hl⟩, for_tup (K := K) (a := la) (xs := xs) (fun j σ G => G = H ∧ ∃ u, σ = [some (.ref a), some (.ref la), u, none]) ⟨rfl, none, rfl⟩ (fun j σ G _ h => by rw [h.1]; exact hl) ?_ ?_⟩
    · rintro j x σ G hx ⟨rfl, u, rfl⟩
      obtain ⟨r, h1, h2⟩ := hR.get hx
      have hk := hG.ok r (List.mem_of_getElem? h1)
      refine ⟨_, rfl, x, r.d, rfl, h2.dd, hk.fit, _, rfl, ?_⟩
      rw [hk.rule]
      exact iteF ⟨rfl, _, rfl⟩
    · rintro σ G ⟨rfl, u, rfl⟩
      refine ⟨_, rfl, la, rfl, ⟨_, hl⟩, fun D hD low => ?_⟩
      refine dc_tupN (K := K) (a := la) (xs := xs) (fun i G1 => Same G G1 ∧ ∃ rows, KD P w K G1 D rows ∧ rows.length = i ∧ rowsFit K G1 rows (rs.take i)) ⟨Same.new hD, [], ⟨upd_same, low, Nat.zero_le _, fun x hx => nomatch hx⟩, rfl, (fun k v e => nomatch e), fun r hr => by rw [List.take_zero] at hr; cases hr⟩
        (fun i G1 _ h => same_T h.1 hl) ?_ ?_
      · rintro i x G1 hx ⟨s1, rows, kd, hn, fit⟩
        obtain ⟨r, h1, h2⟩ := hR.get hx
        have hi : i < rs.length := (List.getElem?_eq_some_iff.mp h1).1
        obtain ⟨ra, rp, ry, rfl, t1, t2, t3⟩ := h2.same s1
        refine ⟨rfl, ?_⟩
        refine ⟨_, rfl, _, rfl, ra, _, rfl, t1, fun kp G2 s2 k1 => ⟨_, rfl, ?_⟩⟩
        rw [cutV_two] at k1
        have t4 := same_T s2 t2
        have kd2 := kd.same s2
        have r2 : RuleAt K G2 (.ref ra) r := ⟨ra, rp, ry, rfl, same_T s2 t1, t4, AnAt.mono t3 fun _ _ q => same_T s2 q⟩
        have fit2 : rowsFit K G2 rows (rs.take i) := fit.mono fun _ _ q => same_T s2 q
        have no : kGet rows r.key = none := by
          cases e : kGet rows r.key with
          | none => rfl
          | some v =>
            obtain ⟨r', hr', ek, _⟩ := fit.1 _ _ e
            obtain ⟨j, hj⟩ := List.getElem?_of_mem hr'
            have hji : j < i := by
              have := (List.getElem?_eq_some_iff.mp hj).1
              rw [List.length_take] at this
              omega
            rw [List.getElem?_take, if_pos hji] at hj
            have e1 : (rs.map Rl.key)[j]? = some r.key := by rw [List.getElem?_map, hj]; exact congrArg some ek
            have e2 : (rs.map Rl.key)[i]? = some r.key := by rw [List.getElem?_map, h1]; rfl
            have := (List.getElem?_inj (by rw [List.length_map]; omega) hG.one).mp (e1.trans e2.symm)
            omega
        have put : kPut rows r.key kp (.ref ra) = rows ++ [(r.key, kp, .ref ra)] := by
          unfold kPut
          rw [no]
          rfl
        have hT : ∀ b ys, SqT K G2 b ys → SqT K (upd G2 D (kdO P w D (kPut rows r.key kp (.ref ra)))) b ys := fun b ys z => sqT_kd kd2.at_ z
        refine ⟨kp, r.key, rows, rfl, nis_key k1 t4, key_deep _ _, kd2, fun b o e => ?_, kPut rows r.key kp (.ref ra), ⟨upd_same, low, ?_, fun y hy => ?_⟩, by rw [put]; simp [hn], fun k v e => ?_, fun r' hr' => ?_⟩
        · rw [upd_ne (ne_of_none e hD)]
          exact s2 _ _ (s1 b o e)
        · have h40 := hG.few
          rw [put, List.length_append, hn]
          simp
          omega
        · rw [put] at hy
          rcases List.mem_append.mp hy with hy | hy
          · exact ⟨nis_mono hT (kd2.key y hy).1, (kd2.key y hy).2⟩
          · rw [List.mem_singleton.mp hy]
            exact ⟨nis_mono hT (nis_key k1 t4), key_deep _ _⟩
        · rw [put, kGet_snoc] at e
          have tk : rs.take (i + 1) = rs.take i ++ [r] := by rw [List.take_add_one, h1]; rfl
          cases e3 : kGet rows k with
          | some u =>
            rw [e3] at e
            cases e
            obtain ⟨r', m1, m2, m3⟩ := fit2.1 k v e3
            exact ⟨r', by rw [tk]; exact List.mem_append_left _ m1, m2, m3.mono hT⟩
          | none =>
            rw [e3] at e
            by_cases ek : r.key = k
            · rw [if_pos ek] at e
              cases e
              exact ⟨r, by rw [tk]; simp, ek, r2.mono hT⟩
            · rw [if_neg ek] at e
              cases e
        · rw [put, kGet_snoc]
          cases e3 : kGet rows r'.key with
          | some u => rfl
          | none =>
            rw [List.take_add_one, h1] at hr'
            rcases List.mem_append.mp hr' with m | m
            · have := fit.2 r' m
              rw [e3] at this
              cases this
            · have e4 : r' = r := by simpa using m
              rw [e4, if_pos rfl]
              rfl
      · rintro G1 ⟨s1, rows, kd, hn, fit⟩
        have ln := hR.length
        have few := hG.few
        rw [List.take_of_length_le (by omega)] at fit
        refine ⟨_, rfl, la, xs, rfl, .inr (same_T s1 hl), _, _, rfl, rfl, _, rfl, ?_⟩
        rw [decide_eq_false (by omega)]
        refine iteF ⟨_, rfl, D, rows, rfl, kd, _, rfl, la, xs, rfl, .inr (same_T s1 hl), _, _, rfl, rfl, _, rfl, ?_⟩
        rw [decide_eq_false (by omega)]
        have zz := zip_fst ln
        have hR1 := hR.same s1
        refine iteF ⟨_, rfl, la, (xs.zip rs).map zOf, rfl, rfl, ?_, ?_, ?_, ?_, ?_, fun H2 q1 s2 hq nq => ⟨q1, _, rfl, .inl ⟨.of upd_same, fun t ht => ⟨_, rfl, a, CT, dx, [], rfl, ?_, C.cls, C.no1, (by decide), ?_⟩⟩⟩⟩
        · rw [List.map_map]
          show SqT K G1 la ((xs.zip rs).map (·.1))
          rw [zz.1]
          exact same_T s1 hl
        · rw [List.length_map, List.length_zip]
          omega
        · intro d hd d' hd'
          simp only [List.map_map, List.mem_map] at hd hd'
          obtain ⟨p1, _, rfl⟩ := hd
          obtain ⟨p2, _, rfl⟩ := hd'
          exact kd_alike _ _
        · refine .inl fun d hd => ?_
          simp only [List.map_map, List.mem_map] at hd
          obtain ⟨p1, _, rfl⟩ := hd
          exact ⟨_, _, rfl⟩
        · intro z hz
          obtain ⟨p1, hp, rfl⟩ := List.mem_map.mp hz
          exact ⟨kd_bare _, kd_deep _, fun H1 sH => ⟨p1.1, p1.2, rfl, (rules_zip hR1 p1 hp).same sH, fun y H' sy dy => ⟨sy, dy⟩⟩⟩
        · exact (Same.new ht) _ _ ((Same.new hq) _ _ (s2 _ _ (s1 _ _ ha)))
        have s3 := s2.trans ((Same.new (o := .lst ((((xs.zip rs).map zOf).mergeSort (PySem.W.dataLe false Prod.snd)).map Prod.fst)) hq).trans (Same.new (o := .tup ((((xs.zip rs).map zOf).mergeSort (PySem.W.dataLe false Prod.snd)).map Prod.fst)) ht))
        have ht3 := upd_same (H := upd H2 q1 (.lst ((((xs.zip rs).map zOf).mergeSort (PySem.W.dataLe false Prod.snd)).map Prod.fst))) (a := t) (o := .tup ((((xs.zip rs).map zOf).mergeSort (PySem.W.dataLe false Prod.snd)).map Prod.fst))
        have hR3 := sorted_rules (hR1.same s3)
        generalize (((xs.zip rs).map zOf).mergeSort (PySem.W.dataLe false Prod.snd)).map Prod.fst = ys at s3 ht3 hR3 ⊢
        generalize upd (upd H2 q1 (.lst ys)) t (.tup ys) = G3 at s3 ht3 hR3 ⊢
        have ha3 : G3 a = some (.ins CT dx []) := s3 _ _ (s1 _ _ ha)
        refine ⟨_, rfl, _, rfl, a, CT, dx, _, rfl, upd_same, C.cls, C.no2, (show 1 < 1000 by decide), ?_⟩
        have hT : ∀ b zs, SqT K G3 b zs → SqT K (upd (upd G3 a (.ins CT dx (putF "_rules" (.ref t) []))) a (.ins CT dx (putF "_found" (.ref D) (putF "_rules" (.ref t) [])))) b zs := fun b zs z => sqT_ins (upd_same) (sqT_ins ha3 z)
        have hD3 : G3 D = some (kdO P w D rows) := s3 _ _ kd.at_
        have nDa : D ≠ a := ne_of hD3 ha3 fun e => nomatch e
        have off : ∀ b o, b ≠ a → G3 b = some o → (upd (upd G3 a (.ins CT dx (putF "_rules" (.ref t) []))) a (.ins CT dx (putF "_found" (.ref D) (putF "_rules" (.ref t) [])))) b = some o := fun b o nb e => by
          rw [upd_ne nb, upd_ne nb]
          exact e
        have at4 := upd_same (H := upd G3 a (.ins CT dx (putF "_rules" (.ref t) []))) (a := a) (o := .ins CT dx (putF "_found" (.ref D) (putF "_rules" (.ref t) [])))
        have hl4 := hT _ _ (same_T s3 (same_T s1 hl))
        have hR4 := (hR1.same s3).mono hT
        generalize upd (upd G3 a (.ins CT dx (putF "_rules" (.ref t) []))) a (.ins CT dx (putF "_found" (.ref D) (putF "_rules" (.ref t) []))) = G4 at hT off at4 hl4 hR4 ⊢
        refine ⟨_, rfl, la, rfl, ⟨_, hl4⟩, fun L hL => ?_⟩
        refine lc_tup (K := K) (a := la) (xs := xs) (fun i G5 => Same G4 G5 ∧ G5 L = some (.lst (((rs.take i).map fun r => (r.pl.length : Int)).map V.int))) ⟨Same.new hL, upd_same⟩ (fun i G5 _ h => same_T h.1 hl4) ?_ ?_
        · rintro i x G5 hx ⟨s5, h5⟩
          obtain ⟨r, h1, h2⟩ := hR4.get hx
          have hi : i < rs.length := (List.getElem?_eq_some_iff.mp h1).1
          obtain ⟨ra, rp, ry, rfl, t1, t2, t3⟩ := h2.same s5
          refine ⟨rfl, ?_⟩
          show tCB (rLenK K) (tCons (tOp (rIxT K) (tVar 2) (tC (V.int 1))) tNil) _ _ _
          refine ⟨_, rfl, ra, _, _, _, rfl, rfl, t1, at1, rp, _, rfl, .inr t2, _, h5, ?_, ?_⟩
          · rw [List.length_map, List.length_map, List.length_take]
            exact Nat.lt_of_le_of_lt (show min i rs.length ≤ 40 by omega) (by decide)
          · have e : ((rs.take (i + 1)).map fun r => (r.pl.length : Int)).map V.int = ((rs.take i).map fun r => (r.pl.length : Int)).map V.int ++ [V.int ((r.pl.map V.str).length : Int)] := by
              rw [List.take_add_one, h1, List.length_map]
              simp
            refine ⟨fun b o eb => ?_, ?_⟩
            · rw [upd_ne (ne_of_none eb hL)]
              exact s5 _ _ eb
            · rw [upd_same, e]
        · rintro G5 ⟨s5, h5⟩
          rw [List.take_of_length_le (by omega)] at h5
          refine ⟨L, rs.map fun r => (r.pl.length : Int), 0, rfl, rfl, .of h5, fun m m0 m1 m2 => ?_⟩
          have hlong : Longest rs m := by
            refine ⟨?_, ?_, fun r hr => m2 _ (List.mem_map.mpr ⟨r, hr, rfl⟩)⟩
            · cases rs with
              | nil => rw [m0 rfl]; decide
              | cons r rs => exact Int.le_trans (Int.ofNat_nonneg _) (m2 _ (List.mem_map.mpr ⟨r, List.mem_cons_self, rfl⟩))
            · cases rs with
              | nil => rw [m0 rfl]; decide
              | cons r rs =>
                obtain ⟨r2, hr2, e2⟩ := List.mem_map.mp (m1 (by simp))
                rw [← e2]
                have := (hG.ok r2 hr2).len
                omega
          refine ⟨_, rfl, a, CT, dx, _, rfl, s5 _ _ at4, C.cls, C.no3, (show 2 < 1000 by decide), ?_⟩
          have hT5 : ∀ b zs, SqT K G3 b zs → SqT K (upd G5 a (.ins CT dx (putF "_longest" (.int m) (putF "_found" (.ref D) (putF "_rules" (.ref t) []))))) b zs := fun b zs z => sqT_ins (s5 _ _ at4) (same_T s5 (hT _ _ z))
          refine q _ (fun b o nb e => ?_) ⟨dx, t, D, ys, rows, m, ?_, hT5 _ _ (.of ht3), hR3.mono hT5, ⟨fun r hr => hG.ok r ((sortR_perm rs).mem_iff.mp hr), by rw [(sortR_perm rs).length_eq]; exact hG.few, sortR_nodup hG.one⟩, ⟨?_, low, kd.few, fun x hx => ⟨nis_mono (fun b zs z => hT5 b zs (same_T s3 z)) (kd.key x hx).1, (kd.key x hx).2⟩⟩, ?_, ⟨hlong.1, hlong.2.1, fun r hr => hlong.2.2 r ((sortR_perm rs).mem_iff.mp hr)⟩⟩
          · rw [upd_ne nb]
            exact s5 _ _ (off _ _ nb (s3 _ _ (s1 _ _ e)))
          · rw [upd_same]
            rfl
          · rw [upd_ne nDa]
            exact s5 _ _ (off _ _ nDa hD3)
          · have f3 := fit.mono fun b zs z => hT5 b zs (same_T s3 z)
            exact ⟨fun k v e => let ⟨r, m1, m2, m3⟩ := f3.1 k v e; ⟨r, (sortR_perm rs).mem_iff.mpr m1, m2, m3⟩, fun r hr => f3.2 r ((sortR_perm rs).mem_iff.mp hr)⟩
theorem FnOk.both {CX : CXT} {k : Nat} {ps : List Str} {sp1 sp2 : Sp} (F1 : FnOk P w K mg base CX k f fd ps sp1) (F2 : FnOk P w K mg base CX k f fd ps sp2) : FnOk P w K mg base CX k f fd ps (fun vs H Q E => sp1 vs H Q E ∨ sp2 vs H Q E) :=
  ⟨fun vs H Q E h => h.elim (F1.len vs H Q E) (F2.len vs H Q E), fun A outer s H args us vs Q E hr e0 hb hv h => h.elim (F1.run A outer s H args us vs Q E hr e0 hb hv) (F2.run A outer s H args us vs Q E hr e0 hb hv)⟩
end
/-- Table(): rules is the empty tuple of the def -/
structure Tmk0 (P : Program) (w : World) (K : PySem.W.Frag) (mg : Str → Option Value) (base : Heap) (CT : Addr) : Prop where
  gT : mg "Table" = some (.ref CT)
  ex : ∃ fI fdI e ds, Mk K CT fI ∧ Vals [.ref e] ds ∧ Binds K fdI ["self", "rules"] ds ∧ FnOk P w K mg base CX0 6 fI fdI ["self", "rules"] (spInitE P w K CT) ∧ ∀ H, SqT K H e []
def tTable0 (P : Program) (w : World) (K : PySem.W.Frag) (CT : Addr) : TE := fun _ H Q => ∀ a H', H a = none → Same H H' → TabAt P w K CT H' a [] → Q (.ref a) H'
theorem pe_table0 {X : Cx} {CT : Addr} {p pos : Pos} {j : Nat} (B : Tmk0 X.prog X.w X.K X.mg X.base CT) (hr : Room j X.A) (hj : 7 ≤ j := by decide) (hg : Gl X "Table" := by rfl) : PE X (.Call (.Name "Table" p) [] [] pos) (tTable0 X.prog X.w X.K CT) :=
  let ⟨_, _, e, _, M, hd, hb, F, he⟩ := B.ex
  PE.conv (pe_make0 (E := E0) (dvs := [.ref e]) M F (hr.mono hj) hg B.gT hb hd (fun _ _ _ _ _ _ _ z => False.elim z)) fun σ H Q q x dx hx hd ne => by
    have s1 : Same H (upd (upd H dx (.own x)) x (.ins CT dx [])) := fun b o e => by
      rw [upd_ne (ne_of_none e hx), upd_ne (ne_of_none e hd)]
      exact e
    exact ⟨x, dx, e, rfl, upd_same, he _, fun H' fr tb => ⟨rfl, q x H' hx (fun b o e => fr b o (ne_of_none e hx) (s1 _ _ e)) tb⟩⟩
/-- rules in a list or in a tuple -/
def spInitB (P : Program) (w : World) (K : PySem.W.Frag) (CT : Addr) : Sp := fun vs H Q E => spInit P w K CT vs H Q E ∨ spInitT P w K CT vs H Q E
structure TmkB (P : Program) (w : World) (K : PySem.W.Frag) (mg : Str → Option Value) (base : Heap) (CT : Addr) : Prop where
  gT : mg "Table" = some (.ref CT)
  ex : ∃ fI fdI, Mk K CT fI ∧ Binds K fdI ["self", "rules"] [] ∧ FnOk P w K mg base CX0 6 fI fdI ["self", "rules"] (spInitB P w K CT)
theorem make_spB {P : Program} {w : World} {K : PySem.W.Frag} {CT la : Addr} {H1 : Hp} {xs : List V} {rs : List Rl} {Q : Addr → Hp → Prop} (hl : SqL K H1 la xs ∨ SqT K H1 la xs) (hR : Rules K H1 xs rs) (hG : Good rs) (q : ∀ a H', H1 a = none → Same H1 H' → TabAt P w K CT H' a (sortR rs) → Q a H') :
    ∀ x dx, H1 x = none → H1 dx = none → dx ≠ x → spInitB P w K CT (.ref x :: ([.ref la] ++ [])) (upd (upd H1 dx (.own x)) x (.ins CT dx [])) (fun v H2 => v = .non ∧ Q x H2) E0 := fun x dx hx hd ne => by
  have s1 : Same H1 (upd (upd H1 dx (.own x)) x (.ins CT dx [])) := fun b o e => by
    rw [upd_ne (ne_of_none e hx), upd_ne (ne_of_none e hd)]
    exact e
  have fin : ∀ H', (∀ b o, b ≠ x → (upd (upd H1 dx (.own x)) x (.ins CT dx [])) b = some o → H' b = some o) → TabAt P w K CT H' x (sortR rs) → (V.non : V) = .non ∧ Q x H' := fun H' fr tb => ⟨rfl, q x H' hx (fun b o e => fr b o (ne_of_none e hx) (s1 _ _ e)) tb⟩
  rcases hl with hl | hl
  · exact .inl ⟨x, dx, la, xs, rs, rfl, upd_same, s1.seq hl, hR.same s1, hG, fin⟩
  · exact .inr ⟨x, dx, la, xs, rs, rfl, upd_same, same_T s1 hl, hR.same s1, hG, fin⟩
theorem pe_tableB {X : Cx} {CT : Addr} {e : Expr} {ta : TA} {p pos : Pos} {j : Nat} (B : TmkB X.prog X.w X.K X.mg X.base CT) (hr : Room j X.A) (ha : PA X [e] ta) (hj : 7 ≤ j := by decide) (hg : Gl X "Table" := by rfl) (he : starEach [e] X.env = (false, eval e X.env) :: starEach [] X.env := by rfl) :
    PE X (.Call (.Name "Table" p) [e] [] pos) (tMake CT (spInitB X.prog X.w X.K CT) [] E0 ta) :=
  let ⟨_, _, M, hb, F⟩ := B.ex
  pe_make (E := E0) (dvs := []) M F (hr.mono hj) hg B.gT hb .nil (fun _ _ _ _ _ _ _ z => False.elim z) ha (by decide) he rfl
end K49
/-! A lambda of one parameter, called as a key. -/
namespace Ld
open PySem L2 PyProof.Rows
section
variable {X : Cx} {pins : List (Addr × Obj)} {σ : L2.St} {H H1 : Hp} {s s1 : Shared} {A : Around} {f c' : Addr}
/-- the lambda is called with u -/
theorem since_lam {q p : Str} {params : Arguments} {body : Expr} {scope : Scope} {pm ctv : Value} {tb : TE} {y : V} {u : Value} {k : PyData} (J : Since X H s H1 s1) (I : Inv X pins σ H s)
    (of : s1.heap.get? f = some (PySem.W.kla_obj "<lambda>" q params body scope [] pm c' ctv)) (hc : s1.heap.CodeRec (Value.ref c') q) (S : FnScope [p] [p] scope)
    (hbind : bindArgs (PySem.W.kla_fn "<lambda>" q params body scope [] pm (.ref c') ctv) ⟨[u], []⟩ = pure [(p, u)]) (hr : Room 1 A) (fr : A.frames = X.A.frames) (rx : RelV y u)
    (hbody : ∀ s0 : Shared, PE (cxOf CX0 X.prog X.w X.K X.mg X.base [p] q scope f (.ref c') A X.stack s0 H1 E0) body tb) (h : tb (L2.start [p] [y]) H1 (fun v H2 => Same H1 H2 ∧ Dp X.K H2 v k)) :
    wpAny (model X.prog X.w) A (call (.ref f) [u]) (fun v s2 => ∃ (H2 : Hp) (y : V), Since X H s H2 s2 ∧ Same H1 H2 ∧ (∀ b o, s1.heap.get? b = some o → H1 b = none → b ∉ frs X.stack → s2.heap.get? b = some o ∧ H2 b = none) ∧ RelV y v ∧ Dp X.K H2 y k) (fun _ _ => False) s1 := by
  have I1 := J.inv I
  have e1 := I1.env0
  have e0 : Env0 X.prog X.w X.K X.mg X.base A X.stack s1 H1 := ⟨fr.trans e1.frames, e1.mod, e1.bs, e1.bsz, e1.funs, e1.frf, e1.hok, e1.bare⟩
  have rc : codeAny (model X.prog X.w) A (.call (.ref f) ⟨[u], []⟩) (CR CX0 X.stack X.prog X.w H1 s1 (fun v H2 => Same H1 H2 ∧ Dp X.K H2 v k) E0) s1 := by
    have lim : s1.heap.NoLimit := e0.mod.nolimit.keeps fun b o e => (e0.bs b o e).1
    have kinds : ∀ z ∈ [p].zip [u], scope.names.lookup z.1 = some .local ∨ (scope.names.lookup z.1 = some .cell ∧ ((cellsFrom (s1.heap.objs.size + 1) scope.names []).lookup z.1).isSome = true) := fun z hz => by
      have hp : z.1 ∈ [p] := (List.of_mem_zip (show (z.1, z.2) ∈ [p].zip [u] from hz)).1
      exact (S.par z.1 hp).imp id fun c => ⟨c, PySem.W.cellsFrom_some _ _ _ (.inl c)⟩
    refine PySem.W.kla_callFunE hr.depth of rfl S.co S.gen rfl hc ?_
    rw [hbind]
    refine wpAny_pure (wpAny_newFunctionEnv_cells S.kind kinds fun env he s2 x => ?_)
    subst he
    refine ⟨lim.keeps x.toInCall.keep, ?_⟩
    have I2 : Inv (cxOf CX0 X.prog X.w X.K X.mg X.base [p] q scope f (.ref c') A X.stack s1 H1 E0) [] (L2.start [p] [y]) H1 s2 := inv_start S hr.hd e0 rfl (.cons rx .nil) x
    refine PySem.W.kla_codeExpr (wpAny_mono ((hbody s1).run [] s2 (L2.start [p] [y]) H1 _ I2 h) (fun v s' hq => ?_) fun e s' hq => hq)
    obtain ⟨z, H', J', rv, hz⟩ := hq
    exact ⟨z, H', J'.os, J'.bare, J'.base, J'.hok, rv, hz⟩
  refine wpAny_call (codeAny_mono rc fun z s2 hz => ?_)
  match z, hz with
  | .ok (.ret v), hz =>
    obtain ⟨y, H2, os, bare, un, hok, r, s12, dp⟩ := hz
    exact ⟨H2, y, ⟨os.trans J.os, bare, J.un.trans un, hok, J.same.trans s12⟩, s12, fun b o e n nf => ⟨un.keep b o e n nf (by simp), un.free b o e n (by simp)⟩, r, dp⟩
  | .ok .next, hz => exact False.elim hz
  | .ok .brk, hz => exact False.elim hz
  | .ok .cont, hz => exact False.elim hz
  | .error er, hz => exact False.elim hz
end
section
variable {X : Cx} {pins : List (Addr × Obj)} {σ : L2.St} {H : Hp} {s : Shared} {f : Addr}
theorem refs_are : ∀ {as : List Addr} {us : List Value}, Vals (as.map V.ref) us → us = as.map Value.ref
  | [], _, h => by cases h; rfl
  | a :: as, _, h => by
    cases h with
    | cons r t =>
      cases r
      rw [refs_are t]
      rfl
/-- where the greatest key stands first -/
def bestAt (ks : Nat → Int) (n : Nat) : Nat := argBest (fun i j => decide (ks i > ks j)) (n - 1)
/-- max(xs, key=f), by any f that answers whole numbers -/
theorem max_key {l : Addr} {as : List Addr} {ks : Nat → Int} {Q : VK} (I : Inv X pins σ H s) (hl : SqL X.K H l (as.map V.ref)) (n0 : 0 < as.length) (hr : Room 2 X.A)
    (turn : ∀ i a, as[i]? = some a → ∀ (H1 : Hp) (s1 : Shared), Since X H s H1 s1 → wpAny (model X.prog X.w) X.A.in1 (PySem.call (.ref f) [.ref a]) (fun v s2 => ∃ (H2 : Hp) (y : V), Since X H s H2 s2 ∧ Same H1 H2 ∧ (∀ b o, s1.heap.get? b = some o → H1 b = none → b ∉ frs X.stack → s2.heap.get? b = some o ∧ H2 b = none) ∧ RelV y v ∧ Dp X.K H2 y (.int (ks i))) (fun _ _ => False) s1)
    (q : ∀ H1 a, Same H H1 → as[bestAt ks as.length]? = some a → Q (.ref a) H1) :
    wpAny (model X.prog X.w) X.A (PySem.call (.builtin "max") [.ref l] [(Str.ofString "key", .ref f)]) (EP X pins σ Q) X.xe s := by
  have lists : ∀ {H1 : Hp} {s1 : Shared}, Since X H s H1 s1 → s1.heap.IsList l (as.map Value.ref).toArray := fun {H1 s1} J => by
    obtain ⟨js, rj, tj, _⟩ := (J.inv I).list (J.same.seq hl)
    rw [refs_are rj] at tj
    exact tj.isList
  have J0 : Since X H s H s := ⟨rfl, I.bare, Un.kept fun _ _ e => e, I.hok, Same.refl H⟩
  have here := lists J0
  have old : ∀ b, s.heap.objs.size ≤ b → s.heap.get? b = none := fun b hb => Heap.get?_none_of_le hb
  have frN : ∀ b, s.heap.objs.size ≤ b → b ∉ frs X.stack := fun b hb hm => by
    obtain ⟨_, o', e', _⟩ := I.env0.funs.mem hm
    exact absurd (Heap.lt_size e') (Nat.not_lt.mpr hb)
  have ltL : l < s.heap.objs.size := by
    obtain ⟨o, e, _⟩ := here
    exact Heap.lt_size e
  have hsz : (as.map Value.ref).toArray.size = as.length := by simp
  refine call_max_walkK (wpAny_pyIter_list here ?_)
  have keep0 : ∀ b o, s.heap.get? b = some o → (s.heap.push { cls := .type "list_iterator", data := .fields #[.ref l, .int 0 0] }).get? b = some o := fun b o e => Heap.get?_push_of_some _ e
  have J1 : Since X H s H { s with heap := s.heap.push { cls := .type "list_iterator", data := .fields #[.ref l, .int 0 0] } } := ⟨rfl, I.bare, Un.kept keep0, I.hok.kept keep0, Same.refl H⟩
  have W := (Walks.list (prog := X.prog) (w := X.w) (A := X.A.in1) hr.hd s.heap.objs.size l (Nat.ne_of_lt ltL) (as.map Value.ref).toArray).toS
  have szP : (s.heap.push { cls := .type "list_iterator", data := .fields #[.ref l, .int 0 0] }).objs.size = s.heap.objs.size + 1 := by rw [size_push']
  refine ⟨s.heap.objs.size, [s.heap.objs.size, l], [s.heap.objs.size], (fun a b => b = a), as.length, (fun i v => (as.map Value.ref).toArray[i]? = some v), (fun i s1 => s1.heap.IsListIter s.heap.objs.size l i ∧ s1.heap.IsList l (as.map Value.ref).toArray),
    (fun s1 => ∃ H1, Since X H s H1 s1 ∧ H1 s.heap.objs.size = none ∧ H1 (s.heap.objs.size + 1) = none), (fun i k _ => ∃ t, k = .int (ks i) t), (fun i j => decide (ks i > ks j)), rfl, by rw [hsz] at W; exact W, ?_, ?_, n0, ?_, ?_, ?_⟩
  · exact ⟨⟨_, Heap.get?_push_size _ rfl, rfl, rfl⟩, lists J1⟩
  · intro b hb
    rw [szP]
    simp only [List.mem_cons, List.not_mem_nil, or_false] at hb
    rcases hb with e | e
    · rw [e]
      exact Nat.lt_succ_self _
    · rw [e]
      exact Nat.lt_succ_of_lt ltL
  · rw [szP]
    refine ⟨?_, ?_, ?_, ?_⟩
    · rintro s1 s2 ⟨H1, J, n1, n2⟩ M
      have k : ∀ b o, b ≠ s.heap.objs.size → b ≠ s.heap.objs.size + 1 → s1.heap.get? b = some o → s2.heap.get? b = some o := fun b o h1 h2 e => M.heap b o (by simp [h1, h2]) e
      exact ⟨H1, ⟨M.os.trans J.os, by rw [M.gens]; exact J.bare, un_but2 J.un (old _ (Nat.le_refl _)) (old _ (Nat.le_succ _)) k, hok_but2 J.hok n1 n2 k, J.same⟩, n1, n2⟩
    · exact fun i k s1 s2 z _ => z
    · rintro i v s1 o Q2 E2 hi hv ⟨H1, J, n1, n2⟩ st hS hQ
      obtain ⟨a, ha⟩ : ∃ a, as[i]? = some a := ⟨_, List.getElem?_eq_getElem hi⟩
      have ev : v = .ref a := by
        have : (as.map Value.ref).toArray[i]? = some (.ref a) := by simp [ha]
        rw [this] at hv
        exact (Option.some.inj hv).symm
      subst ev
      refine wpAny_mono (turn i a ha H1 s1 J) (fun k s2 z => ?_) (fun _ _ z => z.elim)
      obtain ⟨H2, y, J2, s12, same, ry, dy⟩ := z
      cases dy
      refine hQ k s2 ⟨H2, J2, ?_, ?_⟩ ⟨st.1.at fun o e => (same _ _ e n1 (frN _ (Nat.le_refl _))).1, lists J2⟩ (same _ _ hS n2 (frN _ (Nat.le_succ _))).1 ry (fun _ _ z => z)
      · obtain ⟨o', e', _⟩ := st.1
        exact (same _ _ e' n1 (frN _ (Nat.le_refl _))).2
      · exact (same _ _ hS n2 (frN _ (Nat.le_succ _))).2
    · rintro i j ki kj s1 Q2 E2 _ ⟨t1, rfl⟩ ⟨t2, rfl⟩ hQ
      exact gt_int hQ
  · exact ⟨H, J1, I.hok.fresh (Nat.le_refl _), I.hok.fresh (Nat.le_succ _)⟩
  · rintro v s1 hv ⟨H1, J, _, _⟩
    obtain ⟨a, ha⟩ : ∃ a, as[bestAt ks as.length]? = some a := by
      have hv2 : (as.map Value.ref).toArray[bestAt ks as.length]? = some v := hv
      simp only [List.getElem?_toArray, List.getElem?_map] at hv2
      obtain ⟨a, ha, _⟩ := Option.map_eq_some_iff.mp hv2
      exact ⟨a, ha⟩
    have ev : v = .ref a := by
      have hv2 : (as.map Value.ref).toArray[bestAt ks as.length]? = some v := hv
      have : (as.map Value.ref).toArray[bestAt ks as.length]? = some (.ref a) := by simp [ha]
      rw [this] at hv2
      exact (Option.some.inj hv2).symm
    subst ev
    exact ⟨.ref a, H1, J.inv I, rfl, q H1 a J.same ha⟩
end
/-- max(e, key=lambda y: body): where the greatest key stands first -/
def tMaxLam (T : List (Addr × Str)) (K : PySem.W.Frag) (y : Str) (te tb : TE) : TE := fun σ H Q => te σ H fun x H1 => LamX.Tabs T H1 ∧ ∃ (l : Addr) (as : List Addr) (ks : Nat → Int), x = .ref l ∧ SqL K H1 l (as.map V.ref) ∧ 0 < as.length ∧ ∀ H2, LamX.ExtN H1 H2 → LamX.Tabs T H2 → SqL K H2 l (as.map V.ref) ∧
  (∀ i a, as[i]? = some a → ∀ H3, Same H2 H3 → tb (L2.start [y] [.ref a]) H3 fun v H4 => Same H3 H4 ∧ Dp K H4 v (.int (ks i))) ∧ ∀ H3 a, Same H2 H3 → as[bestAt ks as.length]? = some a → Q (.ref a) H3
theorem pe_maxLam {X : Cx} {T : List (Addr × Str)} {c P : Addr} {y : Str} {params : Arguments} {body e : Expr} {scope : Scope} {te tb : TE} {p lpos kpos pos : Pos} (hg : Gl X "max") (hm : X.mg "max" = none) (he : PE X e te)
    (TB : LamX.TabB X.base X.mg c P) (hcode : X.env.code = .ref c) (hmT : (P, X.env.qual ++ "<lambda>") ∈ T) (hu : ∀ p ∈ T, p.1 = P → p.2 = X.env.qual ++ "<lambda>") (S : FnScope [y] [y] scope) (hr : Room 2 X.A)
    (hbody : ∀ (A : Around) (outer : List Env) (s0 : Shared) (H0 : Hp) (q : Str) (f c' : Addr), PE (cxOf CX0 X.prog X.w X.K X.mg X.base [y] q scope f (.ref c') A outer s0 H0 E0) body tb)
    (hdef : defaultsOf params X.env = ([], []) := by rfl) (hfree0 : (scope.names.all fun z => !decide (z.2 = .free)) = true := by rfl) (hclo : cloFrom X.env.cells scope.names [] = [] := by rfl)
    (hbind : ∀ (q : Str) (pm cv ctv u : Value), bindArgs (PySem.W.kla_fn "<lambda>" q params body scope [] pm cv ctv) ⟨[u], []⟩ = pure [(y, u)])
    (hst : starEach [e] X.env = (false, eval e X.env) :: starEach [] X.env := by rfl) (hs : backTo pos (starEach [e] X.env) = (false, eval e X.env) :: backTo pos (starEach [] X.env) := by rfl) (hpl : (backTo pos (starEach [e] X.env)).any (·.1) = false := by rfl)
    (hall : (backToKw pos (keywordEach [⟨some "key", .Lambda params body scope lpos, kpos⟩] X.env)).all (·.1.isSome) = true := by rfl) (hnone : (backToKw pos (keywordEach [⟨some "key", .Lambda params body scope lpos, kpos⟩] X.env)).any (·.1.isNone) = false := by rfl)
    (hks : (backToKw pos (keywordEach [⟨some "key", .Lambda params body scope lpos, kpos⟩] X.env)).filterMap (·.1) = [Str.ofString "key"] := by rfl) :
    PE X (.Call (.Name "max" p) [e] [⟨some "key", .Lambda params body scope lpos, kpos⟩] pos) (tMaxLam T X.K y te tb) := by
  refine ⟨fun pins s σ H Q I h => ?_⟩
  refine wpAny_Call_Name_kw (ld_blt I hg hm PyProof.Rows.boot_max ?_ (by decide) (by decide))
  have hfree : ∀ z ∈ scope.names, z.2 = .free → ∃ c, X.env.cells.lookup z.1 = some c := fun z hz e => by
    have := List.all_eq_true.mp hfree0 z hz
    rw [decide_eq_true e] at this
    cases this
  have ha : PA X [e] (tCons te tNil) := pa_cons he pa_nil hst
  have h : tCons te tNil σ H (fun vs H1 => match vs with
      | [x] => LamX.Tabs T H1 ∧ ∃ (l : Addr) (as : List Addr) (ks : Nat → Int), x = .ref l ∧ SqL X.K H1 l (as.map V.ref) ∧ 0 < as.length ∧ ∀ H2, LamX.ExtN H1 H2 → LamX.Tabs T H2 → SqL X.K H2 l (as.map V.ref) ∧
          (∀ i a, as[i]? = some a → ∀ H3, Same H2 H3 → tb (L2.start [y] [.ref a]) H3 fun v H4 => Same H3 H4 ∧ Dp X.K H4 v (.int (ks i))) ∧ ∀ H3 a, Same H2 H3 → as[bestAt ks as.length]? = some a → Q (.ref a) H3
      | _ => False) := h
  refine PyProof.Rows.callWith_kw (thn (ha.run pos pins s σ H _ I h) fun us s1 ⟨vs, H1, I1, r1, q1⟩ => ?_) hs hpl hall hnone
  rw [hks]
  match vs, q1 with
  | [x], ⟨hT, l, as, ks, ex, hl, n0, q⟩ =>
    subst ex
    obtain ⟨u0, rfl, rx⟩ := vals1 r1
    cases rx
    show wpAny _ _ (evalAll ((do let v ← eval (.Lambda params body scope lpos) X.env; standAt pos; pure v) :: [])) _ _ s1
    refine wpAny_evalAll_cons (wpAny_bind (LamX.lam_make2 I1 TB hcode hmT hu hT hdef hfree fun f c' pm ctv H2 s2 I2 eN T2 hf hfn hfr hco => wpAny_bind (wpAny_standAt (wpAny_pure ?_))))
    refine wpAny_evalAll_nil ?_
    obtain ⟨hl2, keys, fin⟩ := q H2 eN T2
    rw [hclo] at hf
    refine max_key (ks := ks) I2 hl2 n0 hr (fun i a ha H3 s3 J => ?_) fun H3 a s23 hb => fin H3 a s23 hb
    have of : s3.heap.get? f = _ := J.un.keep f _ hf hfn hfr (by simp)
    obtain ⟨⟨oc, vs, t, hoc, hdc, hvc⟩, _, _⟩ := J.hok c' _ (J.same _ _ hco)
    refine since_lam (tb := tb) (y := .ref a) J I2 of ⟨c', oc, vs, t, rfl, hoc, hdc, hvc⟩ S (hbind _ _ _ _ _) hr.in1 rfl rfl (fun s0 => hbody _ _ _ _ _ _ _) ?_
    exact keys i a ha H3 J.same
/-- a def whose code object is known -/
theorem fun_okC {P : Program} {w : World} {K : PySem.W.Frag} {mg : Str → Option Value} {base : Heap} {cd : Value} {x qual : Str} {st : Stmt} {f : Addr} {fd : FuncData} {N ps : List Str} {k : Nat} {sp : Sp} (F : Fun K x qual st f fd) (hc : fd.code = cd) (S : FnScope N ps (defScope st))
    (len : ∀ vs H Q E, sp vs H Q E → vs.length = ps.length)
    (body : ∀ (A : Around) (outer : List Env) (s : Shared) (H : Hp) (vs : List V) (Q : VK) (E : XK), Room k (A.deeper (envOfC qual (defScope st) s.heap.objs.size f cd)) → sp vs H Q E →
      ∃ t, PSs (cxOf CX0 P w K mg base N qual (defScope st) f cd A outer s H E).nox (defBody st) t ∧ t { nx := fun _ H' => Q .non H', rt := Q } (L2.start N vs) H) : FnOk P w K mg base CX0 (k + 1) f fd ps sp := by
  obtain ⟨oc, od, kV, doc, pm, an, cdv, ct, osl, rfl, lk, hcd⟩ := F.ex
  have e : cdv = cd := hc
  subst e
  refine fn_of lk hcd S len fun A outer s H vs Q E hr hsp => ?_
  obtain ⟨t, h, q⟩ := body A outer s H vs Q E hr hsp
  exact ⟨t, h.nox, q⟩
/-- over the tables -/
theorem ext_T {K : PySem.W.Frag} {H H' : Hp} {a : Addr} {xs : List V} (e : LamX.ExtN H H') (h : SqT K H a xs) : SqT K H' a xs := by
  rcases h with (h | ⟨o, h⟩) | h
  · exact .inl (.inl (e _ _ h fun _ z => nomatch z))
  · exact .inl (.inr ⟨o, e _ _ h fun _ z => nomatch z⟩)
  · exact .inr h
theorem ext_L {K : PySem.W.Frag} {H H' : Hp} {a : Addr} {xs : List V} (e : LamX.ExtN H H') (h : SqL K H a xs) : SqL K H' a xs := by
  rcases h with (h | ⟨o, h⟩) | h
  · exact .inl (.inl (e _ _ h fun _ z => nomatch z))
  · exact .inl (.inr ⟨o, e _ _ h fun _ z => nomatch z⟩)
  · exact .inr h
end Ld
/-! sorted(d, key=f) of a dict whose keys are tuples of any depth, f a def of one's own. -/
namespace Ld
open PySem PySem.W L2 PyProof.Rows
section
variable {prog : Program} {w : World} {A : Around} {E : Value → Shared → Prop} {s : Shared}
/-- the keys of a dict in a list of their own: all stays, the heap is larger -/
theorem keys_of {d : Addr} {es : Array DictEntry} {ep : Nat} {Q : List Value → Shared → Prop} (calm : A.handled = none) (low : (d == sysModules) = false) (raw : s.heap.DictRaw d es ep) (fits : es.size ≤ sizeLine)
    (q : ∀ (h1 : Heap) (tk : Nat) (ks : Array Value), (∀ b o, s.heap.get? b = some o → h1.get? b = some o) → s.heap.objs.size ≤ h1.objs.size → ItemsOf (fun i v => ∃ hi : i < es.size, v = es[i].key) ks es.size → Q ks.toList { s with heap := h1, toks := tk }) :
    wpAny (model prog w) A (collect (.ref d)) Q E s := by
  let M := s.heap.objs.size
  let N : Obj := ⟨.type "list", none, .seq #[] 0, #[]⟩
  have new : (s.heap.push N).get? M = some N := Heap.get?_push_size _ rfl
  have up : ∀ b o, s.heap.get? b = some o → (s.heap.push N).get? b = some o := fun b o e => Heap.get?_push_of_some _ e
  have dlt : d < M := raw.lt_size
  have raw1 : (s.heap.push N).DictRaw d es ep := raw.at fun o e => up _ _ e
  have last : ∀ (h1 : Heap) (tk : Nat) (ks : Array Value) (c : Nat), (∀ b o, s.heap.get? b = some o → h1.get? b = some o) → h1.get? M = some ⟨.type "list", none, .seq ks c, #[]⟩ → ItemsOf (fun i v => ∃ hi : i < es.size, v = es[i].key) ks es.size →
      wpAny (model prog w) A (load M >>= fun b => match b.data with | .seq xs _ => pure xs.toList | _ => unsupported "internal:collect") Q E { s with heap := h1, toks := tk } := fun h1 tk ks c k e it =>
    wpAny_bind (wpAny_load e (wpAny_pure (q h1 tk ks k (Nat.le_of_lt (Heap.lt_size e)) it)))
  have main := kdl_extend (A := A) (w := w) (prog := prog) (s := { s with heap := s.heap.push N }) (R := fun r z => ∃ (h1 : Heap) (tk : Nat) (ks : Array Value) (c : Nat), r = .ok (.ret (.ref M)) ∧ z = { s with heap := h1, toks := tk } ∧
      (∀ b o, s.heap.get? b = some o → h1.get? b = some o) ∧ h1.get? M = some ⟨.type "list", none, .seq ks c, #[]⟩ ∧ ItemsOf (fun i v => ∃ hi : i < es.size, v = es[i].key) ks es.size)
    (PySem.KdlSrc.rawDict (d := d) (es := es) (ep := ep) low) calm raw1 M (Nat.ne_of_gt dlt) (Nat.ne_of_gt dlt) (.ref M) 0 new (fun h1 tk ks c k e it => ⟨h1, tk, ks, c, rfl, rfl, fun b o z => k b o (Nat.ne_of_lt (Heap.lt_size z)) (up _ _ z), e, it⟩) fits
  delta collect
  apply wpAny_bind
  apply wpAny_runValue
  apply codeAny_builtin F.entry_proto_collect
  rw [Around.under_plainId F.plain_proto_collect]
  apply wpAny_bind
  refine wpAny_newObj_type ?_ (Nat.zero_le _)
  apply wpAny_pure
  refine ⟨plainId_quiet F.plain_list_iadd _, ?_⟩
  apply codeAny_builtin F.entry_list_iadd
  rw [Around.under_plainId F.plain_list_iadd]
  refine wpAny_mono main (fun f z y => ?_) fun _ _ y => ?_
  · cases f with
    | done g =>
      obtain ⟨h1, tk, ks, c, y, rfl, k, e, it⟩ := y
      cases y
      exact last h1 tk ks c k e it
    | again c =>
      refine ⟨y.1, codeAny_mono y.2 fun _ _ y => ?_⟩
      obtain ⟨h1, tk, ks, c, rfl, rfl, k, e, it⟩ := y
      exact last h1 tk ks c k e it
  · obtain ⟨_, _, _, _, y, _⟩ := y
    cases y
/-- what sorted does with a dict: its keys in a new list, which is sorted -/
theorem sorted_D {d : Addr} {es : Array DictEntry} {ep : Nat} {kw : List (Str × Value)} {Q : Value → Shared → Prop} (calm : A.in1.handled = none) (low : (d == sysModules) = false) (raw : s.heap.DictRaw d es ep) (fits : es.size ≤ sizeLine) (ok1 : argsOk "sorted" ⟨[.ref d], kw⟩) (ok2 : ∀ x, argsOk "list.sort" ⟨[.ref x], kw⟩)
    (body : ∀ (h1 : Heap) (tk : Nat) (ks : Array Value) (E' : Value → Shared → Prop), (∀ b o, s.heap.get? b = some o → h1.get? b = some o) → s.heap.objs.size ≤ h1.objs.size → ItemsOf (fun i v => ∃ hi : i < es.size, v = es[i].key) ks es.size →
      wpAny (model prog w) A.in1.in1 (Builtin.«list.sort» ⟨[.ref h1.objs.size], kw⟩) (fun f s' => f = .done (.ret .none) ∧ Q (.ref h1.objs.size) s') E' { s with heap := h1.push (seqObj "list" ks.toList.toArray 0), toks := tk }) :
    wpAny (model prog w) A (call (.builtin "sorted") [.ref d] kw) Q E s := by
  refine call_function_entry_kw kind_sorted plain_sorted entry_sorted ok1 ?_
  unfold Builtin.«sorted»
  refine wpAny_bind (wpAny_pure (wpAny_bind (keys_of calm low raw fits fun h1 tk ks keep big it => ?_)))
  have few : ks.toList.length ≤ sizeLine := by
    rw [Array.length_toList, it.1]
    exact fits
  refine wpAny_bind (wpAny_newList (wpAny_bind (wpAny_holding ?_)) few)
  have at2 : (h1.push (seqObj "list" ks.toList.toArray 0)).get? h1.objs.size = some (seqObj "list" ks.toList.toArray 0) := Heap.get?_push_size _ rfl
  refine wpAny_call_entry_kw slot_list_sort ⟨_, at2, rfl⟩ entry_list_sort (wpAny_mono (body h1 tk ks _ keep big it) (fun f s' z => ?_) fun _ _ e => e) (ok2 _)
  exact ⟨_, z.1, wpAny_pure ⟨_, rfl, z.2⟩⟩
end
section
variable {X : Cx}
/-- sorted(d, key=f): zs, the keys with what they are sorted by -/
def rSortKD (P : Program) (w : World) (K : PySem.W.Frag) (f : Addr) (sp : Sp) : List V → List V → Hp → VK → Prop := fun vs ws H Q => ∃ (d : Addr) (rs : List Rw) (zs : List (V × PyData)), vs = [.ref d] ∧ ws = [.ref f] ∧ KD P w K H d rs ∧ (rs.map fun x => V.ref x.2.1) = zs.map Prod.fst ∧ AllAlike (zs.map Prod.snd) ∧ Sortable (zs.map Prod.snd) ∧
  (∀ z ∈ zs, bareB z.2 = true ∧ z.2.depth ≤ 8 ∧ ∀ H1, Same H H1 → sp [z.1] H1 (fun v H2 => Same H1 H2 ∧ Dp K H2 v z.2) E0) ∧
  ∀ H1 q, Same H H1 → H1 q = none → q ≠ sysModules → Q (.ref q) (upd H1 q (.lst ((zs.mergeSort (dataLe false Prod.snd)).map Prod.fst)))
theorem cr_sortKD {j : Nat} {fd : FuncData} {p : Str} {sp : Sp} (hc : X.calm = true) (F : FnOk X.prog X.w X.K X.mg X.base CX0 j f fd [p] sp) (hr : Room (j + 2) X.A) (hb : Binds X.K fd [p] []) : CallRK X (.builtin "sorted") [Str.ofString "key"] (rSortKD X.prog X.w X.K f sp) := by
  intro pins0 s0 σ0 H0 xs0 ws0 us0 vs0 Q0 I0 r0 r1 ⟨d, rs, zs, e0, e1, hd, hk, hal, hsk, hz, q0⟩
  subst e0 e1
  obtain ⟨u0, rfl, rx0⟩ := vals1 r0
  obtain ⟨w0, rfl, rw0⟩ := vals1 r1
  cases rx0
  cases rw0
  obtain ⟨⟨ys, pr, ob, es, ep, ho, hx, hdt, he, hn⟩, _⟩ := (show ObjOk X.prog X.w H0 s0.heap d (kdO X.prog X.w d rs) from I0.hok d _ hd.at_)
  have raw : s0.heap.DictRaw d es ep := ⟨ob, ho, hx, hdt⟩
  have l1 : es.size = ys.length := size_of_entries he
  have l2 := pr.length
  have few := hd.few
  have lz : zs.length = rs.length := by
    have := congrArg List.length hk
    rw [List.length_map, List.length_map] at this
    exact this.symm
  have line : es.size ≤ sizeLine := Nat.le_trans (show es.size ≤ 1000 by omega) (by decide)
  refine sorted_D (I0.ok.hd hc) hd.low raw line (ksk_s1 _ _) (fun _ => ksk_l1 _ _) fun h1 tk ks E' keep big it => ?_
  have eq : ks.toList = ys.map fun y => Value.ref y.2.1 := by
    have hl : ks.toList.length = ys.length := by rw [Array.length_toList, it.1]; exact l1
    refine List.ext_getElem (by rw [hl, List.length_map]) fun j h1 h2 => ?_
    obtain ⟨hi, hv⟩ := it.2 j ks.toList[j] (by rw [← Array.getElem?_toList]; exact List.getElem?_eq_getElem h1)
    rw [hv, List.getElem_map]
    have hj : j < ys.length := by omega
    have qe : es.toList[j]? = some es[j] := by simp [hi]
    rw [he, List.getElem?_map, List.getElem?_eq_getElem hj] at qe
    have e2 : entryOfKey (nestedKind X.prog X.w) ys[j] = es[j] := Option.some.inj qe
    rw [← e2]
    rfl
  have rj : Vals (zs.map Prod.fst) ks.toList := by
    rw [← hk, eq]
    exact rows_keys pr
  generalize ks.toList = js at rj
  have lj : js.length = zs.length := by rw [← rj.length, List.length_map]
  have rel : EachIs (fun (u : Value) (z : V × PyData) => RelV z.1 u) js zs := vals_each rj
  have lineJ : js.length ≤ sizeLine := Nat.le_trans (show js.length ≤ 1000 by omega) (by decide)
  show wpAny _ _ (Builtin.«list.sort» ⟨[.ref h1.objs.size], [(Str.ofString "key", .ref f)]⟩) _ _ _
  rw [ksk_t1]
  have sz : (h1.push (seqObj "list" js.toArray 0)).objs.size = h1.objs.size + 1 := size_push' ..
  have bigger : s0.heap.objs.size ≤ (h1.push (seqObj "list" js.toArray 0)).objs.size := by omega
  have keep0 : ∀ b o, s0.heap.get? b = some o → (h1.push (seqObj "list" js.toArray 0)).get? b = some o := fun b o q => Heap.get?_push_of_some _ (keep b o q)
  have frN : ∀ b, s0.heap.objs.size ≤ b → b ∉ frs X.stack := fun b hb hm => by
    obtain ⟨_, o', e', _⟩ := I0.env0.funs.mem hm
    exact absurd (Heap.lt_size e') (Nat.not_lt.mpr hb)
  refine key_tree (X := X) (pins := pins0) (σ := σ0) (H := H0) (s := s0) (kz := zs.map Prod.snd) (H0 := H0) (s0 := { s0 with heap := h1.push (seqObj "list" js.toArray 0), toks := tk }) (a := h1.objs.size) I0 ⟨rfl, I0.bare, Un.kept keep0, I0.hok.kept keep0, Same.refl H0⟩ (Heap.get?_none_of_le big) frN (I0.hok.fresh big) big
    (Heap.get?_push_size _ rfl) bigger (by rw [List.length_map, lj]) lineJ hal hsk (fun d hd => ?_) (fun d hd => ?_) (fun i v k hv hk => ?_) fun H3 s3 out c J3 n3 o3 ko => ⟨rfl, ?_⟩
  · obtain ⟨z, hz1, rfl⟩ := List.mem_map.mp hd
    exact (hz z hz1).1
  · obtain ⟨z, hz1, rfl⟩ := List.mem_map.mp hd
    have := (hz z hz1).2.1
    have := hr.un
    show X.A.units + 1 + 1 + z.2.depth < cLine
    omega
  · rw [List.getElem?_map] at hk; obtain ⟨z, hz1, rfl⟩ := Option.map_eq_some_iff.mp hk
    have rz := rel.zip (v, z) (List.mem_of_getElem? (i := i) (by rw [List.getElem?_zip_eq_some]; exact ⟨hv, hz1⟩))
    exact fun H1 s1 J1 => J1.call I0 F hr.in1.in1 rfl hb rz ((hz z (List.mem_of_getElem? hz1)).2.2 H1 J1.same)
  · have ko' := keyedOut_each (R := fun (u : Value) (z : V × PyData) => RelV z.1 u) Prod.snd ko rel
    have ln : ((zs.mergeSort (dataLe false Prod.snd)).map Prod.fst).length ≤ sizeLine := by
      rw [List.length_map, List.length_mergeSort]
      exact Nat.le_trans (show zs.length ≤ 1000 by omega) (by decide)
    have J4 : Since X H0 s0 (upd H3 h1.objs.size (.lst ((zs.mergeSort (dataLe false Prod.snd)).map Prod.fst))) s3 :=
      ⟨J3.os, J3.bare, un_put J3.un (Heap.get?_none_of_le big) n3, hok_put J3.hok n3 ⟨ln, out, c, each_vals ko', o3⟩, J3.same.trans (Same.new n3)⟩
    exact ⟨.ref h1.objs.size, _, J4.inv I0, rfl, q0 H3 _ J3.same n3 (Nat.ne_of_gt (Nat.lt_of_lt_of_le I0.big big))⟩
end
end Ld
/-! sorted(e, key=lambda y: body), e a list or a dict whose keys are tuples of any depth. -/
namespace Ld
open PySem L2 PyProof.Rows PySem.W
section
variable {X : Cx} {pins : List (Addr × Obj)} {σ : L2.St} {H : Hp} {s : Shared} {f : Addr}
/-- sorted(xs, key=f), by any f -/
theorem sort_turn {l : Addr} {zs : List (V × PyData)} {Q0 : VK} (I0 : Inv X pins σ H s) (hr : Room 2 X.A) (hl : SqL X.K H l (zs.map Prod.fst)) (hn : zs.length ≤ 1000) (hal : AllAlike (zs.map Prod.snd)) (hsk : Sortable (zs.map Prod.snd)) (hz : ∀ z ∈ zs, bareB z.2 = true ∧ z.2.depth ≤ 8)
    (turn : ∀ z ∈ zs, ∀ v, RelV z.1 v → KeyTurn X H s X.A.in1.in1 f v z.2) (q0 : ∀ H1 q, Same H H1 → H1 q = none → q ≠ sysModules → Q0 (.ref q) (upd H1 q (.lst ((zs.mergeSort (dataLe false Prod.snd)).map Prod.fst)))) :
    wpAny (model X.prog X.w) X.A (PySem.call (.builtin "sorted") [.ref l] [(Str.ofString "key", .ref f)]) (EP X pins σ Q0) X.xe s := by
  obtain ⟨js, rj, tj, zj⟩ := I0.list hl
  have lj : js.length = zs.length := by rw [← rj.length, List.length_map]
  have line : zs.length ≤ sizeLine := Nat.le_trans hn (by decide)
  have rel : EachIs (fun (u : Value) (z : V × PyData) => RelV z.1 u) js zs := vals_each rj
  refine sorted_of_sort tj.isList (by rw [lj]; exact line) (ksk_s1 _ _) (fun _ => ksk_l1 _ _) fun E' => ?_
  show wpAny _ _ (Builtin.«list.sort» ⟨[.ref (s.heap.objs.size + 1)], [(Str.ofString "key", .ref f)]⟩) _ _ _
  rw [ksk_t1]
  have bigger : s.heap.objs.size ≤ (copyHeap s.heap js).objs.size := Nat.le_of_lt (Nat.lt_of_succ_lt (Heap.lt_size (copyHeap_at s.heap js)))
  have keep0 : ∀ b o, s.heap.get? b = some o → (copyHeap s.heap js).get? b = some o := fun b o q => copyHeap_old q
  have frN : ∀ b, s.heap.objs.size ≤ b → b ∉ frs X.stack := fun b hb hm => by
    obtain ⟨_, o', e', _⟩ := I0.env0.funs.mem hm
    exact absurd (Heap.lt_size e') (Nat.not_lt.mpr hb)
  refine key_tree (X := X) (pins := pins) (σ := σ) (H := H) (s := s) (kz := zs.map Prod.snd) (H0 := H) I0 ⟨rfl, I0.bare, Un.kept keep0, I0.hok.kept keep0, Same.refl H⟩ (Heap.get?_none_of_le (Nat.le_succ _)) frN (I0.hok.fresh (Nat.le_succ _)) (Nat.le_succ _)
    (copyHeap_at s.heap js) bigger (by rw [List.length_map, lj]) (by rw [lj]; exact line) hal hsk (fun d hd => ?_) (fun d hd => ?_) (fun i v k hv hk => ?_) fun H3 s3 out c J3 n3 o3 ko => ⟨rfl, ?_⟩
  · obtain ⟨z, hz1, rfl⟩ := List.mem_map.mp hd
    exact (hz z hz1).1
  · obtain ⟨z, hz1, rfl⟩ := List.mem_map.mp hd
    have := (hz z hz1).2
    have := hr.un
    show X.A.units + 1 + 1 + z.2.depth < cLine
    omega
  · rw [List.getElem?_map] at hk; obtain ⟨z, hz1, rfl⟩ := Option.map_eq_some_iff.mp hk
    have rz := rel.zip (v, z) (List.mem_of_getElem? (i := i) (by rw [List.getElem?_zip_eq_some]; exact ⟨hv, hz1⟩))
    exact fun H1 s1 J1 => turn z (List.mem_of_getElem? hz1) v rz H1 s1 J1
  · have ko' := keyedOut_each (R := fun (u : Value) (z : V × PyData) => RelV z.1 u) Prod.snd ko rel
    have ln : ((zs.mergeSort (dataLe false Prod.snd)).map Prod.fst).length ≤ sizeLine := by
      rw [List.length_map, List.length_mergeSort]
      exact line
    have J4 : Since X H s (upd H3 (s.heap.objs.size + 1) (.lst ((zs.mergeSort (dataLe false Prod.snd)).map Prod.fst))) s3 :=
      ⟨J3.os, J3.bare, un_put J3.un (Heap.get?_none_of_le (Nat.le_succ _)) n3, hok_put J3.hok n3 ⟨ln, out, c, each_vals ko', o3⟩, J3.same.trans (Same.new n3)⟩
    exact ⟨.ref (s.heap.objs.size + 1), _, J4.inv I0, rfl, q0 H3 _ J3.same n3 (Nat.ne_of_gt (Nat.lt_succ_of_lt I0.big))⟩
/-- sorted(d, key=f), by any f -/
theorem sort_turnD {d : Addr} {rs : List Rw} {zs : List (V × PyData)} {Q0 : VK} (I0 : Inv X pins σ H s) (hc : X.calm = true) (hr : Room 2 X.A) (hd : KD X.prog X.w X.K H d rs) (hk : (rs.map fun x => V.ref x.2.1) = zs.map Prod.fst) (hal : AllAlike (zs.map Prod.snd)) (hsk : Sortable (zs.map Prod.snd)) (hz : ∀ z ∈ zs, bareB z.2 = true ∧ z.2.depth ≤ 8)
    (turn : ∀ z ∈ zs, ∀ v, RelV z.1 v → KeyTurn X H s X.A.in1.in1 f v z.2) (q0 : ∀ H1 q, Same H H1 → H1 q = none → q ≠ sysModules → Q0 (.ref q) (upd H1 q (.lst ((zs.mergeSort (dataLe false Prod.snd)).map Prod.fst)))) :
    wpAny (model X.prog X.w) X.A (PySem.call (.builtin "sorted") [.ref d] [(Str.ofString "key", .ref f)]) (EP X pins σ Q0) X.xe s := by
  obtain ⟨⟨ys, pr, ob, es, ep, ho, hx, hdt, he, hn⟩, _⟩ := (show ObjOk X.prog X.w H s.heap d (kdO X.prog X.w d rs) from I0.hok d _ hd.at_)
  have raw : s.heap.DictRaw d es ep := ⟨ob, ho, hx, hdt⟩
  have l1 : es.size = ys.length := size_of_entries he
  have l2 := pr.length
  have few := hd.few
  have lz : zs.length = rs.length := by
    have := congrArg List.length hk
    rw [List.length_map, List.length_map] at this
    exact this.symm
  have line : es.size ≤ sizeLine := Nat.le_trans (show es.size ≤ 1000 by omega) (by decide)
  refine sorted_D (I0.ok.hd hc) hd.low raw line (ksk_s1 _ _) (fun _ => ksk_l1 _ _) fun h1 tk ks E' keep big it => ?_
  have eq : ks.toList = ys.map fun y => Value.ref y.2.1 := by
    have hl : ks.toList.length = ys.length := by rw [Array.length_toList, it.1]; exact l1
    refine List.ext_getElem (by rw [hl, List.length_map]) fun j h1 h2 => ?_
    obtain ⟨hi, hv⟩ := it.2 j ks.toList[j] (by rw [← Array.getElem?_toList]; exact List.getElem?_eq_getElem h1)
    rw [hv, List.getElem_map]
    have hj : j < ys.length := by omega
    have qe : es.toList[j]? = some es[j] := by simp [hi]
    rw [he, List.getElem?_map, List.getElem?_eq_getElem hj] at qe
    have e2 : entryOfKey (nestedKind X.prog X.w) ys[j] = es[j] := Option.some.inj qe
    rw [← e2]
    rfl
  have rj : Vals (zs.map Prod.fst) ks.toList := by
    rw [← hk, eq]
    exact rows_keys pr
  generalize ks.toList = js at rj
  have lj : js.length = zs.length := by rw [← rj.length, List.length_map]
  have rel : EachIs (fun (u : Value) (z : V × PyData) => RelV z.1 u) js zs := vals_each rj
  have lineJ : js.length ≤ sizeLine := Nat.le_trans (show js.length ≤ 1000 by omega) (by decide)
  show wpAny _ _ (Builtin.«list.sort» ⟨[.ref h1.objs.size], [(Str.ofString "key", .ref f)]⟩) _ _ _
  rw [ksk_t1]
  have sz : (h1.push (seqObj "list" js.toArray 0)).objs.size = h1.objs.size + 1 := size_push' ..
  have bigger : s.heap.objs.size ≤ (h1.push (seqObj "list" js.toArray 0)).objs.size := by omega
  have keep0 : ∀ b o, s.heap.get? b = some o → (h1.push (seqObj "list" js.toArray 0)).get? b = some o := fun b o q => Heap.get?_push_of_some _ (keep b o q)
  have frN : ∀ b, s.heap.objs.size ≤ b → b ∉ frs X.stack := fun b hb hm => by
    obtain ⟨_, o', e', _⟩ := I0.env0.funs.mem hm
    exact absurd (Heap.lt_size e') (Nat.not_lt.mpr hb)
  refine key_tree (X := X) (pins := pins) (σ := σ) (H := H) (s := s) (kz := zs.map Prod.snd) (H0 := H) (s0 := { s with heap := h1.push (seqObj "list" js.toArray 0), toks := tk }) (a := h1.objs.size) I0 ⟨rfl, I0.bare, Un.kept keep0, I0.hok.kept keep0, Same.refl H⟩ (Heap.get?_none_of_le big) frN (I0.hok.fresh big) big
    (Heap.get?_push_size _ rfl) bigger (by rw [List.length_map, lj]) lineJ hal hsk (fun d hd => ?_) (fun d hd => ?_) (fun i v k hv hk => ?_) fun H3 s3 out c J3 n3 o3 ko => ⟨rfl, ?_⟩
  · obtain ⟨z, hz1, rfl⟩ := List.mem_map.mp hd
    exact (hz z hz1).1
  · obtain ⟨z, hz1, rfl⟩ := List.mem_map.mp hd
    have := (hz z hz1).2
    have := hr.un
    show X.A.units + 1 + 1 + z.2.depth < cLine
    omega
  · rw [List.getElem?_map] at hk; obtain ⟨z, hz1, rfl⟩ := Option.map_eq_some_iff.mp hk
    have rz := rel.zip (v, z) (List.mem_of_getElem? (i := i) (by rw [List.getElem?_zip_eq_some]; exact ⟨hv, hz1⟩))
    exact fun H1 s1 J1 => turn z (List.mem_of_getElem? hz1) v rz H1 s1 J1
  · have ko' := keyedOut_each (R := fun (u : Value) (z : V × PyData) => RelV z.1 u) Prod.snd ko rel
    have ln : ((zs.mergeSort (dataLe false Prod.snd)).map Prod.fst).length ≤ sizeLine := by
      rw [List.length_map, List.length_mergeSort]
      exact Nat.le_trans (show zs.length ≤ 1000 by omega) (by decide)
    have J4 : Since X H s (upd H3 h1.objs.size (.lst ((zs.mergeSort (dataLe false Prod.snd)).map Prod.fst))) s3 :=
      ⟨J3.os, J3.bare, un_put J3.un (Heap.get?_none_of_le big) n3, hok_put J3.hok n3 ⟨ln, out, c, each_vals ko', o3⟩, J3.same.trans (Same.new n3)⟩
    exact ⟨.ref h1.objs.size, _, J4.inv I0, rfl, q0 H3 _ J3.same n3 (Nat.ne_of_gt (Nat.lt_of_lt_of_le I0.big big))⟩
end
theorem boot_sortedL : bootBuiltins "sorted" = some (.builtin "sorted") := by decide +kernel
/-- sorted(e, key=lambda y: body), e a list -/
def tSortLam (T : List (Addr × Str)) (K : PySem.W.Frag) (y : Str) (te tb : TE) : TE := fun σ H Q => te σ H fun x H1 => LamX.Tabs T H1 ∧ ∃ (l : Addr) (zs : List (V × PyData)), x = .ref l ∧ zs.length ≤ 1000 ∧ AllAlike (zs.map Prod.snd) ∧ Sortable (zs.map Prod.snd) ∧ (∀ z ∈ zs, bareB z.2 = true ∧ z.2.depth ≤ 8) ∧ ∀ H2, LamX.ExtN H1 H2 → LamX.Tabs T H2 → SqL K H2 l (zs.map Prod.fst) ∧
  (∀ z ∈ zs, ∀ H3, Same H2 H3 → tb (L2.start [y] [z.1]) H3 fun v H4 => Same H3 H4 ∧ Dp K H4 v z.2) ∧ ∀ H3 q, Same H2 H3 → H3 q = none → q ≠ sysModules → Q (.ref q) (upd H3 q (.lst ((zs.mergeSort (dataLe false Prod.snd)).map Prod.fst)))
theorem pe_sortLam {X : Cx} {T : List (Addr × Str)} {c P : Addr} {y : Str} {params : Arguments} {body e : Expr} {scope : Scope} {te tb : TE} {p lpos kpos pos : Pos} (hg : Gl X "sorted") (hm : X.mg "sorted" = none) (he : PE X e te)
    (TB : LamX.TabB X.base X.mg c P) (hcode : X.env.code = .ref c) (hmT : (P, X.env.qual ++ "<lambda>") ∈ T) (hu : ∀ p ∈ T, p.1 = P → p.2 = X.env.qual ++ "<lambda>") (S : FnScope [y] [y] scope) (hr : Room 3 X.A)
    (hbody : ∀ (A : Around) (outer : List Env) (s0 : Shared) (H0 : Hp) (q : Str) (f c' : Addr), PE (cxOf CX0 X.prog X.w X.K X.mg X.base [y] q scope f (.ref c') A outer s0 H0 E0) body tb)
    (hdef : defaultsOf params X.env = ([], []) := by rfl) (hfree0 : (scope.names.all fun z => !decide (z.2 = .free)) = true := by rfl) (hclo : cloFrom X.env.cells scope.names [] = [] := by rfl)
    (hbind : ∀ (q : Str) (pm cv ctv u : Value), bindArgs (PySem.W.kla_fn "<lambda>" q params body scope [] pm cv ctv) ⟨[u], []⟩ = pure [(y, u)])
    (hst : starEach [e] X.env = (false, eval e X.env) :: starEach [] X.env := by rfl) (hs : backTo pos (starEach [e] X.env) = (false, eval e X.env) :: backTo pos (starEach [] X.env) := by rfl) (hpl : (backTo pos (starEach [e] X.env)).any (·.1) = false := by rfl)
    (hall : (backToKw pos (keywordEach [⟨some "key", .Lambda params body scope lpos, kpos⟩] X.env)).all (·.1.isSome) = true := by rfl) (hnone : (backToKw pos (keywordEach [⟨some "key", .Lambda params body scope lpos, kpos⟩] X.env)).any (·.1.isNone) = false := by rfl)
    (hks : (backToKw pos (keywordEach [⟨some "key", .Lambda params body scope lpos, kpos⟩] X.env)).filterMap (·.1) = [Str.ofString "key"] := by rfl) :
    PE X (.Call (.Name "sorted" p) [e] [⟨some "key", .Lambda params body scope lpos, kpos⟩] pos) (tSortLam T X.K y te tb) := by
  refine ⟨fun pins s σ H Q I h => ?_⟩
  refine wpAny_Call_Name_kw (ld_blt I hg hm boot_sortedL ?_ (by decide) (by decide))
  have hfree : ∀ z ∈ scope.names, z.2 = .free → ∃ c, X.env.cells.lookup z.1 = some c := fun z hz e => by
    have := List.all_eq_true.mp hfree0 z hz
    rw [decide_eq_true e] at this
    cases this
  have ha : PA X [e] (tCons te tNil) := pa_cons he pa_nil hst
  have h : tCons te tNil σ H (fun vs H1 => match vs with
      | [x] => LamX.Tabs T H1 ∧ ∃ (l : Addr) (zs : List (V × PyData)), x = .ref l ∧ zs.length ≤ 1000 ∧ AllAlike (zs.map Prod.snd) ∧ Sortable (zs.map Prod.snd) ∧ (∀ z ∈ zs, bareB z.2 = true ∧ z.2.depth ≤ 8) ∧ ∀ H2, LamX.ExtN H1 H2 → LamX.Tabs T H2 → SqL X.K H2 l (zs.map Prod.fst) ∧
  (∀ z ∈ zs, ∀ H3, Same H2 H3 → tb (L2.start [y] [z.1]) H3 fun v H4 => Same H3 H4 ∧ Dp X.K H4 v z.2) ∧ ∀ H3 q, Same H2 H3 → H3 q = none → q ≠ sysModules → Q (.ref q) (upd H3 q (.lst ((zs.mergeSort (dataLe false Prod.snd)).map Prod.fst)))
      | _ => False) := h
  refine PyProof.Rows.callWith_kw (thn (ha.run pos pins s σ H _ I h) fun us s1 ⟨vs, H1, I1, r1, q1⟩ => ?_) hs hpl hall hnone
  rw [hks]
  match vs, q1 with
  | [x], ⟨hT, l, zs, ex, hn, hal, hsk, hz, q⟩ =>
    subst ex
    obtain ⟨u0, rfl, rx⟩ := vals1 r1
    cases rx
    show wpAny _ _ (evalAll ((do let v ← eval (.Lambda params body scope lpos) X.env; standAt pos; pure v) :: [])) _ _ s1
    refine wpAny_evalAll_cons (wpAny_bind (LamX.lam_make2 I1 TB hcode hmT hu hT hdef hfree fun f c' pm ctv H2 s2 I2 eN T2 hf hfn hfr hco => wpAny_bind (wpAny_standAt (wpAny_pure ?_))))
    refine wpAny_evalAll_nil ?_
    obtain ⟨hl2, keys, fin⟩ := q H2 eN T2
    rw [hclo] at hf
    refine sort_turn I2 (hr.mono (by decide)) hl2 hn hal hsk hz (fun z hz1 v rx H3 s3 J => ?_) fun H3 q s23 n1 n2 => fin H3 q s23 n1 n2
    have of : s3.heap.get? f = _ := J.un.keep f _ hf hfn hfr (by simp)
    obtain ⟨⟨oc, vs, t, hoc, hdc, hvc⟩, _, _⟩ := J.hok c' _ (J.same _ _ hco)
    exact since_lam (tb := tb) (y := z.1) J I2 of ⟨c', oc, vs, t, rfl, hoc, hdc, hvc⟩ S (hbind _ _ _ _ _) hr.in1.in1 rfl rx (fun s0 => hbody _ _ _ _ _ _ _) (keys z hz1 H3 J.same)
/-- .. e a dict -/
def tSortLamD (T : List (Addr × Str)) (P : Program) (w : World) (K : PySem.W.Frag) (y : Str) (te tb : TE) : TE := fun σ H Q => te σ H fun x H1 => LamX.Tabs T H1 ∧ ∃ (d : Addr) (rs : List Rw) (zs : List (V × PyData)), x = .ref d ∧ (rs.map fun x => V.ref x.2.1) = zs.map Prod.fst ∧ AllAlike (zs.map Prod.snd) ∧ Sortable (zs.map Prod.snd) ∧ (∀ z ∈ zs, bareB z.2 = true ∧ z.2.depth ≤ 8) ∧ ∀ H2, LamX.ExtN H1 H2 → LamX.Tabs T H2 → KD P w K H2 d rs ∧
  (∀ z ∈ zs, ∀ H3, Same H2 H3 → tb (L2.start [y] [z.1]) H3 fun v H4 => Same H3 H4 ∧ Dp K H4 v z.2) ∧ ∀ H3 q, Same H2 H3 → H3 q = none → q ≠ sysModules → Q (.ref q) (upd H3 q (.lst ((zs.mergeSort (dataLe false Prod.snd)).map Prod.fst)))
theorem pe_sortLamD {X : Cx} {P0 : Program} {w0 : World} {T : List (Addr × Str)} {c P : Addr} {y : Str} {params : Arguments} {body e : Expr} {scope : Scope} {te tb : TE} {p lpos kpos pos : Pos} (hg : Gl X "sorted") (hm : X.mg "sorted" = none) (he : PE X e te)
    (TB : LamX.TabB X.base X.mg c P) (hcode : X.env.code = .ref c) (hmT : (P, X.env.qual ++ "<lambda>") ∈ T) (hu : ∀ p ∈ T, p.1 = P → p.2 = X.env.qual ++ "<lambda>") (S : FnScope [y] [y] scope) (hr : Room 3 X.A)
    (hc : X.calm = true) (hP : X.prog = P0) (hw : X.w = w0) (hbody : ∀ (A : Around) (outer : List Env) (s0 : Shared) (H0 : Hp) (q : Str) (f c' : Addr), PE (cxOf CX0 X.prog X.w X.K X.mg X.base [y] q scope f (.ref c') A outer s0 H0 E0) body tb)
    (hdef : defaultsOf params X.env = ([], []) := by rfl) (hfree0 : (scope.names.all fun z => !decide (z.2 = .free)) = true := by rfl) (hclo : cloFrom X.env.cells scope.names [] = [] := by rfl)
    (hbind : ∀ (q : Str) (pm cv ctv u : Value), bindArgs (PySem.W.kla_fn "<lambda>" q params body scope [] pm cv ctv) ⟨[u], []⟩ = pure [(y, u)])
    (hst : starEach [e] X.env = (false, eval e X.env) :: starEach [] X.env := by rfl) (hs : backTo pos (starEach [e] X.env) = (false, eval e X.env) :: backTo pos (starEach [] X.env) := by rfl) (hpl : (backTo pos (starEach [e] X.env)).any (·.1) = false := by rfl)
    (hall : (backToKw pos (keywordEach [⟨some "key", .Lambda params body scope lpos, kpos⟩] X.env)).all (·.1.isSome) = true := by rfl) (hnone : (backToKw pos (keywordEach [⟨some "key", .Lambda params body scope lpos, kpos⟩] X.env)).any (·.1.isNone) = false := by rfl)
    (hks : (backToKw pos (keywordEach [⟨some "key", .Lambda params body scope lpos, kpos⟩] X.env)).filterMap (·.1) = [Str.ofString "key"] := by rfl) :
    PE X (.Call (.Name "sorted" p) [e] [⟨some "key", .Lambda params body scope lpos, kpos⟩] pos) (tSortLamD T P0 w0 X.K y te tb) := by
  subst hP hw
  refine ⟨fun pins s σ H Q I h => ?_⟩
  refine wpAny_Call_Name_kw (ld_blt I hg hm boot_sortedL ?_ (by decide) (by decide))
  have hfree : ∀ z ∈ scope.names, z.2 = .free → ∃ c, X.env.cells.lookup z.1 = some c := fun z hz e => by
    have := List.all_eq_true.mp hfree0 z hz
    rw [decide_eq_true e] at this
    cases this
  have ha : PA X [e] (tCons te tNil) := pa_cons he pa_nil hst
  have h : tCons te tNil σ H (fun vs H1 => match vs with
      | [x] => LamX.Tabs T H1 ∧ ∃ (d : Addr) (rs : List Rw) (zs : List (V × PyData)), x = .ref d ∧ (rs.map fun x => V.ref x.2.1) = zs.map Prod.fst ∧ AllAlike (zs.map Prod.snd) ∧ Sortable (zs.map Prod.snd) ∧ (∀ z ∈ zs, bareB z.2 = true ∧ z.2.depth ≤ 8) ∧ ∀ H2, LamX.ExtN H1 H2 → LamX.Tabs T H2 → KD X.prog X.w X.K H2 d rs ∧
  (∀ z ∈ zs, ∀ H3, Same H2 H3 → tb (L2.start [y] [z.1]) H3 fun v H4 => Same H3 H4 ∧ Dp X.K H4 v z.2) ∧ ∀ H3 q, Same H2 H3 → H3 q = none → q ≠ sysModules → Q (.ref q) (upd H3 q (.lst ((zs.mergeSort (dataLe false Prod.snd)).map Prod.fst)))
      | _ => False) := h
  refine PyProof.Rows.callWith_kw (thn (ha.run pos pins s σ H _ I h) fun us s1 ⟨vs, H1, I1, r1, q1⟩ => ?_) hs hpl hall hnone
  rw [hks]
  match vs, q1 with
  | [x], ⟨hT, l, rs, zs, ex, hk, hal, hsk, hz, q⟩ =>
    subst ex
    obtain ⟨u0, rfl, rx⟩ := vals1 r1
    cases rx
    show wpAny _ _ (evalAll ((do let v ← eval (.Lambda params body scope lpos) X.env; standAt pos; pure v) :: [])) _ _ s1
    refine wpAny_evalAll_cons (wpAny_bind (LamX.lam_make2 I1 TB hcode hmT hu hT hdef hfree fun f c' pm ctv H2 s2 I2 eN T2 hf hfn hfr hco => wpAny_bind (wpAny_standAt (wpAny_pure ?_))))
    refine wpAny_evalAll_nil ?_
    obtain ⟨hl2, keys, fin⟩ := q H2 eN T2
    rw [hclo] at hf
    refine sort_turnD I2 hc (hr.mono (by decide)) hl2 hk hal hsk hz (fun z hz1 v rx H3 s3 J => ?_) fun H3 q s23 n1 n2 => fin H3 q s23 n1 n2
    have of : s3.heap.get? f = _ := J.un.keep f _ hf hfn hfr (by simp)
    obtain ⟨⟨oc, vs, t, hoc, hdc, hvc⟩, _, _⟩ := J.hok c' _ (J.same _ _ hco)
    exact since_lam (tb := tb) (y := z.1) J I2 of ⟨c', oc, vs, t, rfl, hoc, hdc, hvc⟩ S (hbind _ _ _ _ _) hr.in1.in1 rfl rx (fun s0 => hbody _ _ _ _ _ _ _) (keys z hz1 H3 J.same)
end Ld
namespace K49
open PySem PySem.Spec L2 Ld PyProof.Rows
abbrev sIsEnd : Stmt := top 26
theorem nodict_strs : ∀ (us : List Str), PyData.hasDictAll (us.map PyData.str) = false
  | [] => rfl
  | u :: us => by simp [PyData.hasDictAll, PyData.hasDict, nodict_strs us]
/-! ### what is shown of answers is short -/
theorem w_shown {z : Str} (h : Wd z) : (PyData.str z).shown.length ≤ 10 := of_decide_eq_true (List.all_eq_true.mp (show wds.all (fun z => decide ((PyData.str z).shown.length ≤ 10)) = true by decide +kernel) z h)
theorem n_shown {n : Int} (h0 : 0 ≤ n) (h1 : n ≤ 10000) : (PyData.int n).shown.length ≤ 13 := PySem.PyData.shown_int_le2 (by omega) (by omega)
theorem n_shows {n : Int} (h0 : 0 ≤ n) (h1 : n ≤ 10000) : (PyData.int n).showable = true := by
  refine decide_eq_true ?_
  by_cases z : n.natAbs = 0
  · rw [z]
    decide
  · exact Nat.lt_of_lt_of_le ((Nat.log2_lt z).mpr (show n.natAbs < 2 ^ 14 by omega)) (by decide)
theorem wds_shown : ∀ {ws : List Str}, (∀ z ∈ ws, Wd z) → ((PyData.shownAll (ws.map PyData.str)).map (·.length)).sum ≤ 10 * ws.length ∧ (PyData.shownAll (ws.map PyData.str)).length = ws.length
  | [], _ => ⟨Nat.le_refl _, rfl⟩
  | z :: ws, h => by
    have h1 := w_shown (h z List.mem_cons_self)
    obtain ⟨h2, h3⟩ := wds_shown fun y hy => h y (List.mem_cons_of_mem _ hy)
    simp only [List.map_cons, PyData.shownAll, List.sum_cons, List.length_cons]
    omega
/-- so long it is shown, so deep it is -/
structure Tiny (d : PyData) (n : Nat) : Prop where
  sh : d.showable = true
  dp : d.depth ≤ 2
  ln : d.shown.length ≤ n
  nd : d.hasDict = false
theorem nodict_ws (ws : List Str) : (wt ws).hasDict = false := by
  simp only [wt, PyData.hasDict]
  exact nodict_strs ws
theorem tiny_wt {ws : List Str} (h : ∀ z ∈ ws, Wd z) (hl : ws.length ≤ 13) : Tiny (wt ws) 200 := by
  obtain ⟨h1, h2⟩ := wds_shown h
  refine ⟨?_, ?_, ?_, nodict_ws ws⟩
  · show PyData.showableAll (ws.map PyData.str) = true
    exact shows_all (parts_strs fun z hz => asc_of (h z hz).asc)
  · have d := depth_words ws
    simp only [wt, PyData.depth]
    omega
  · have := tupleText_len_le (PyData.shownAll (ws.map PyData.str))
    show (tupleText (PyData.shownAll (ws.map PyData.str))).length ≤ 200
    omega
theorem tiny_str {z : Str} (h : Wd z) : Tiny (.str z) 10 := ⟨rfl, Nat.zero_le _, w_shown h, rfl⟩
theorem tiny_int {n : Int} (h0 : 0 ≤ n) (h1 : n ≤ 10000) : Tiny (.int n) 13 := ⟨n_shows h0 h1, Nat.zero_le _, n_shown h0 h1, rfl⟩
theorem part_of_tuple {ds : List PyData} {k : Nat} (h : ∀ d ∈ ds, Tiny d 200) (hl : ds.length ≤ 3) : Part (.tuple ds) ∧ (PyData.tuple ds).hasDict = false := by
  have all : ∀ {ds : List PyData}, (∀ d ∈ ds, Tiny d 200) → PyData.showableAll ds = true ∧ PyData.depthAll ds ≤ 2 ∧ ((PyData.shownAll ds).map (·.length)).sum ≤ 200 * ds.length ∧ (PyData.shownAll ds).length = ds.length ∧ PyData.hasDictAll ds = false := fun {ds} h => by
    induction ds with
    | nil => exact ⟨rfl, by simp [PyData.depthAll], Nat.le_refl _, rfl, rfl⟩
    | cons d ds ih =>
      obtain ⟨a1, a2, a3, a4, a5⟩ := ih fun x hx => h x (List.mem_cons_of_mem _ hx)
      obtain ⟨b1, b2, b3, b4⟩ := h d List.mem_cons_self
      simp only [PyData.showableAll, PyData.depthAll, PyData.shownAll, PyData.hasDictAll, List.map_cons, List.sum_cons, List.length_cons, a1, a5, b1, b4]
      refine ⟨rfl, by omega, by omega, by omega, rfl⟩
  obtain ⟨a1, a2, a3, a4, a5⟩ := all h
  refine ⟨⟨(fun z e => by cases e), a1, ?_, ?_⟩, by rw [PyData.hasDict]; exact a5⟩
  · simp only [PyData.depth]
    omega
  · have := tupleText_len_le (PyData.shownAll ds)
    show (tupleText (PyData.shownAll ds)).length ≤ 2000
    omega
theorem Tiny.wide {d : PyData} {n m : Nat} (t : Tiny d n) (h : n ≤ m) : Tiny d m := ⟨t.sh, t.dp, Nat.le_trans t.ln h, t.nd⟩
def wordB (s : Str) : Bool := (PyData.str s).showable && decide ((PyData.str s).shown.length ≤ 200)
theorem tiny_lit {s : Str} (h : wordB s = true) : Tiny (.str s) 200 := by
  simp only [wordB, Bool.and_eq_true, decide_eq_true_eq] at h
  exact ⟨h.1, Nat.zero_le _, h.2, rfl⟩
theorem an_part {an : An} (ok : an.Ok) (b : Bool) : Part (an.d b) ∧ (an.d b).hasDict = false := by
  cases an with
  | gone => exact part_of_tuple (k := 0) (fun d hd => by rw [List.mem_singleton.mp hd]; exact tiny_lit (by decide +kernel)) (by decide)
  | own z =>
    refine part_of_tuple (k := 0) (fun d hd => ?_) (show 2 ≤ 3 by decide)
    simp only [List.mem_cons, List.not_mem_nil, or_false] at hd
    rcases hd with rfl | rfl
    · cases b <;> exact tiny_lit (by decide +kernel)
    · exact (tiny_str ok).wide (by decide)
  | to ws n =>
    refine part_of_tuple (k := 0) (fun d hd => ?_) (show 3 ≤ 3 by decide)
    simp only [List.mem_cons, List.not_mem_nil, or_false] at hd
    rcases hd with rfl | rfl | rfl
    · exact tiny_lit (by decide +kernel)
    · have := ok.1
      exact tiny_wt ok.2.1 (by omega)
    · exact (tiny_int ok.2.2.1 ok.2.2.2).wide (by decide)
theorem ans_part {rs : List Rl} (g : Good rs) {ws : List Str} (h : ∀ z ∈ ws, Wd z) (hl : ws.length ≤ 9) : Part (answerOf rs ws) ∧ (answerOf rs ws).hasDict = false := by
  unfold answerOf
  cases e : ruleFor rs ws with
  | none => exact part_of_tuple (k := 0) (fun d hd => by rw [List.mem_singleton.mp hd]; exact tiny_lit (by decide +kernel)) (by decide)
  | some r =>
    have ok := (g.ok r (for_mem e)).an
    show Part (ansOf r ws) ∧ (ansOf r ws).hasDict = false
    unfold ansOf
    split
    · exact an_part ok true
    · have hd : ∀ z ∈ ws.drop r.pl.length, Wd z := fun z hz => h z (List.mem_of_mem_drop hz)
      have ld : (ws.drop r.pl.length).length ≤ 9 := by rw [List.length_drop]; omega
      generalize r.an = an at ok
      cases an with
      | gone => exact an_part (an := .gone) trivial false
      | own z =>
        refine part_of_tuple (k := 0) (fun d hd' => ?_) (show 3 ≤ 3 by decide)
        simp only [List.mem_cons, List.not_mem_nil, or_false] at hd'
        rcases hd' with rfl | rfl | rfl
        · exact tiny_lit (by decide +kernel)
        · exact (tiny_str ok).wide (by decide)
        · exact tiny_wt hd (by omega)
      | to tg n =>
        refine part_of_tuple (k := 0) (fun d hd' => ?_) (show 3 ≤ 3 by decide)
        simp only [List.mem_cons, List.not_mem_nil, or_false] at hd'
        rcases hd' with rfl | rfl | rfl
        · exact tiny_lit (by decide +kernel)
        · refine tiny_wt (fun z hz => ?_) ?_
          · rcases List.mem_append.mp hz with hz | hz
            · exact ok.2.1 z hz
            · exact hd z hz
          · have := ok.1
            rw [List.length_append]
            omega
        · exact (tiny_int ok.2.2.1 ok.2.2.2).wide (by decide)
section
variable {P : Program} {w : World} {K : PySem.W.Frag} {mg : Str → Option Value} {base : Heap} {f : Addr} {fd : FuncData}
/-- is_end: an answer of any kind -/
def spIsEnd (K : PySem.W.Frag) : Sp := fun vs H Q _ => ∃ (a : Addr) (z : Str) (xs : List V), vs = [.ref a] ∧ SqT K H a (.str z :: xs) ∧ Q (.bl (!decide (z = "to"))) H
theorem scIsEnd : FnScope ["answer"] ["answer"] (defScope sIsEnd) := ⟨rfl, rfl, rfl, by decide +kernel, rfl, by decide +kernel, by decide +kernel⟩
theorem ok_isEnd (Fd : Fun K "is_end" "is_end" sIsEnd f fd) (T : Tx mg) : FnOk P w K mg base CX0 1 f fd ["answer"] (spIsEnd K) := by
  refine Fd.ok scIsEnd (fun vs H Q E h => ?_) (fun cdv A outer s H vs Q E hr h => ?_)
  · obtain ⟨a, z, xs, rfl, _⟩ := h
    rfl
  · obtain ⟨a, z, xs, rfl, ha, q⟩ := h
    refine ⟨_, pss_one (ps_ret (pe_cmpR op_ne (pe_ix ix_tup (pv 0) pe_int (fun _ _ => rfl)) pe_str (nomark _))), ?_⟩
    refine ⟨_, rfl, a, _, _, _, rfl, rfl, ha, at0, rfl, ?_⟩
    have e : decide (V.str z = V.str "to") = decide (z = "to") := by
      by_cases h : z = "to"
      · rw [h]
        simp
      · rw [decide_eq_false h, decide_eq_false fun x => h (V.str.inj x)]
    rw [e]
    exact q
end
theorem Tiny.part {d : PyData} (t : Tiny d 200) (n : ∀ z, d ≠ .str z) : Part d := ⟨(fun z e => absurd e (n z)), t.sh, Nat.le_trans t.dp (by decide), Nat.le_trans t.ln (by decide)⟩
theorem rl_small {r : Rl} (ok : r.Ok) : Small r.d ∧ r.d.hasDict = false := by
  have hp : Part (wt r.pl) := (tiny_wt ok.wds (by have := ok.len; omega)).part (fun z e => by cases e)
  obtain ⟨h1, h2⟩ := an_part ok.an r.ex
  refine ⟨small_tuple (fun d hd => ?_) (show 3 ≤ 1000 by decide), ?_⟩
  · simp only [List.mem_cons, List.not_mem_nil, or_false] at hd
    rcases hd with rfl | rfl | rfl
    · cases r.ex <;> exact part_str (asc_of (by decide +kernel))
    · exact hp
    · exact h1
  · have hw := nodict_ws r.pl
    simp only [Rl.d, PyData.hasDict, PyData.hasDictAll, hw, h2]
    rfl
/-- what rule_for answers, as data -/
def outD : Option Rl → PyData
  | none => .none
  | some r => r.d
theorem OutAt.dp {K : PySem.W.Frag} {H : Hp} {v : V} {o : Option Rl} (z : OutAt K H v o) : Dp K H v (outD o) := by
  cases o with
  | none =>
    cases (show v = .non from z)
    exact .non
  | some r => exact RuleAt.dp z
theorem out_small {rs : List Rl} (g : Good rs) (ws : List Str) : Small (outD (ruleFor rs ws)) ∧ (outD (ruleFor rs ws)).hasDict = false := by
  cases e : ruleFor rs ws with
  | none => exact ⟨⟨rfl, by decide, by decide +kernel⟩, rfl⟩
  | some r => exact rl_small (g.ok r (for_mem e))
theorem small_bl (b : Bool) : Small (.bool b) := by
  cases b <;> exact ⟨rfl, by decide, by decide +kernel⟩
section
variable {P : Program} {w : World} {K : PySem.W.Frag} {H H' : Hp} {CT a wa : Addr} {rs : List Rl}
theorem TabAt.ext (z : TabAt P w K CT H a rs) (e : LamX.ExtN H H') : TabAt P w K CT H' a rs := by
  obtain ⟨dx, t, d, xs, rows, m, h1, h2, h3, h4, h5, h6, h7⟩ := z
  have hT : ∀ b ys, SqT K H b ys → SqT K H' b ys := fun b ys q => ext_T e q
  exact ⟨dx, t, d, xs, rows, m, e _ _ h1 (fun _ z => nomatch z), hT _ _ h2, h3.mono hT, h4, ⟨e _ _ h5.at_ (fun _ z => nomatch z), h5.low, h5.few, fun x hx => ⟨nis_mono hT (h5.key x hx).1, (h5.key x hx).2⟩⟩, h6.mono hT, h7⟩
theorem TabAt.sb (z : TabAt P w K CT H a rs) (W : Sm H wa) (s : Sb wa H H') : TabAt P w K CT H' a rs := by
  obtain ⟨dx, t, d, xs, rows, mx, h1, h2, h3, h4, h5, h6, h7⟩ := z
  have hT : ∀ b ys, SqT K H b ys → SqT K H' b ys := fun b ys q => smT W s q
  exact ⟨dx, t, d, xs, rows, mx, s _ _ (W.ne h1 trivial) h1, hT _ _ h2, h3.mono hT, h4, kd_sm h5 (W.ne h5.at_ trivial) W s, h6.mono hT, h7⟩
theorem _root_.Ld.Sm.ext (W : Sm H wa) (e : LamX.ExtN H H') : Sm H' wa := by
  obtain ⟨d, m, h, r⟩ := W
  exact ⟨d, m, e _ _ h (fun _ z => nomatch z), r⟩
end
end K49
/-! The least words, one behind the other. -/
namespace Ld
open PySem L2 PyProof.Rows
def abcS : Str := Str.ofString "abcdefghijklmnopqrstuvwxyz"
def lastOf (z : Str) : Nat := z.cps.toList.getLastD 0
def keptW (z : Str) : Str := Txt.rstripChars z (Str.ofString "z")
def nextW (z : Str) : Str := if z.length < 12 then z ++ Str.ofString "a" else cutS (keptW z) none (some (-1)) ++ ⟨#[lastOf (keptW z) + 1]⟩
def seqW : Nat → Str
  | 0 => Str.ofString "a"
  | i + 1 => nextW (seqW i)
/-- what the steps ask of the first forty words -/
def stepOk (z : Str) : Bool := decide (z.length ≤ 12) && (decide (z.length < 12) || (decide ((keptW z).length ≤ 12) && decide (0 < (keptW z).length) && decide (97 ≤ lastOf (keptW z)) && decide (lastOf (keptW z) < 122) &&
  decide (atI (keptW z).cps.toList (-1) = some (lastOf (keptW z))) && decide (Builtin.Str.occurrences abcS ⟨#[lastOf (keptW z)]⟩ 0 abcS.length 1 = [lastOf (keptW z) - 97]) && decide (atI abcS.cps.toList ((lastOf (keptW z) - 97 : Nat) + 1 : Int) = some (lastOf (keptW z) + 1))))
theorem steps_ok : (List.range 40).all (fun i => stepOk (seqW i)) = true := by decide +kernel
theorem step_ok {i : Nat} (h : i < 40) : stepOk (seqW i) = true := List.all_eq_true.mp steps_ok i (List.mem_range.mpr h)
theorem seq_apart : (List.range 41).all (fun i => (List.range 41).all fun j => decide (i = j) || !decide (seqW i = seqW j)) = true := by decide +kernel
theorem seq_inj {i j : Nat} (hi : i < 41) (hj : j < 41) (e : seqW i = seqW j) : i = j := by
  have h := List.all_eq_true.mp (List.all_eq_true.mp seq_apart i (List.mem_range.mpr hi)) j (List.mem_range.mpr hj)
  by_cases q : i = j
  · exact q
  · rw [decide_eq_false q, decide_eq_true e] at h
    cases h
structure Step (z : Str) : Prop where
  len : z.length ≤ 12
  far : ¬ z.length < 12 → (keptW z).length ≤ 12 ∧ atI (keptW z).cps.toList (-1) = some (lastOf (keptW z)) ∧ Builtin.Str.occurrences abcS ⟨#[lastOf (keptW z)]⟩ 0 abcS.length 1 = [lastOf (keptW z) - 97] ∧
    atI abcS.cps.toList ((lastOf (keptW z) - 97 : Nat) + 1 : Int) = some (lastOf (keptW z) + 1)
theorem step_of {i : Nat} (h : i < 40) : Step (seqW i) := by
  have q := step_ok h
  unfold stepOk at q
  simp only [Bool.and_eq_true, Bool.or_eq_true, decide_eq_true_eq] at q
  refine ⟨q.1, fun n => ?_⟩
  rcases q.2 with q | q
  · exact absurd q n
  · exact ⟨q.1.1.1.1.1.1, q.1.1.2, q.1.2, q.2⟩
theorem cutS_len {z : Str} (h : z.length ≤ 12) : (cutS z none (some (-1))).length ≤ 12 := Nat.le_trans (cutS_length z none (some (-1))) h
/-! as many different things as a list holds -/
theorem few_of {α : Type} [DecidableEq α] : ∀ (l m : List α), l.Nodup → (∀ x ∈ l, x ∈ m) → l.length ≤ m.length
  | [], _, _, _ => Nat.zero_le _
  | a :: l, m, nd, h => by
    obtain ⟨h1, h2⟩ := List.nodup_cons.mp nd
    have hm := h a List.mem_cons_self
    have q := few_of l (m.erase a) h2 fun x hx => by
      have ne : x ≠ a := fun e => h1 (e ▸ hx)
      exact (List.mem_erase_of_ne ne).mpr (h x (List.mem_cons_of_mem _ hx))
    have e := List.length_erase_of_mem hm
    have p : 0 < m.length := List.length_pos_of_mem hm
    simp only [List.length_cons]
    omega
theorem seq_nodup : ∀ n : Nat, n ≤ 41 → ((List.range n).map seqW).Nodup := fun n hn => by
  rw [List.nodup_iff_pairwise_ne, List.pairwise_map]
  have := List.nodup_range (n := n)
  rw [List.nodup_iff_pairwise_ne] at this
  refine this.imp_of_mem fun {i j} hi hj ne e => ne (seq_inj (Nat.lt_of_lt_of_le (List.mem_range.mp hi) hn) (Nat.lt_of_lt_of_le (List.mem_range.mp hj) hn) e)
/-- all words ahead of the i-th are in xs: then they are no more than xs has -/
theorem ahead_few {xs : List Str} {i : Nat} (hi : i ≤ 41) (h : ∀ j < i, seqW j ∈ xs) : i ≤ xs.length := by
  have := few_of ((List.range i).map seqW) xs (seq_nodup i hi) fun x hx => by
    obtain ⟨j, hj, rfl⟩ := List.mem_map.mp hx
    exact h j (List.mem_range.mp hj)
  simpa using this
/-- the strange word is told by what it is -/
structure Odd (xs : List Str) (m : Nat) : Prop where
  lt : m ≤ xs.length
  out : ¬ seqW m ∈ xs
  all : ∀ j < m, seqW j ∈ xs
theorem Odd.one {xs : List Str} {m n : Nat} (a : Odd xs m) (b : Odd xs n) : m = n := by
  rcases Nat.lt_trichotomy m n with h | h | h
  · exact absurd (b.all m h) a.out
  · exact h
  · exact absurd (a.all n h) b.out
end Ld
/-! dict([(k, v), ..]) with keys that are tuples of any depth. -/
namespace Ld
open PySem PySem.W L2 PyProof.Rows
theorem kd_put {P : Program} {w : World} {K : PySem.W.Frag} {H : Hp} {D b : Addr} {rows : List Rw} {k : NestedKey} {v : V} (kd : KD P w K H D rows) (few : rows.length ≤ 900) (hk : NIs K H k (.ref b)) (dp : k.depth ≤ 8) : KD P w K (upd H D (kdO P w D (kPut rows k b v))) D (kPut rows k b v) := by
  have hT : ∀ c ys, SqT K H c ys → SqT K (upd H D (kdO P w D (kPut rows k b v))) c ys := fun c ys q => by
    rcases q with (q | ⟨o, q⟩) | q
    · exact .inl (.inl ((upd_ne (ne_of q kd.at_ fun e => nomatch e)).trans q))
    · exact .inl (.inr ⟨o, (upd_ne (ne_of q kd.at_ fun e => nomatch e)).trans q⟩)
    · exact .inr q
  have ln := kPut_len rows k b v
  refine ⟨upd_same, kd.low, by omega, fun x hx => ?_⟩
  unfold kPut at hx
  split at hx
  · obtain ⟨y, hy, rfl⟩ := List.mem_map.mp hx
    have e : (kSet k v y).1 = y.1 ∧ (kSet k v y).2.1 = y.2.1 := by
      unfold kSet
      split <;> exact ⟨rfl, rfl⟩
    rw [e.1, e.2]
    exact ⟨nis_mono hT (kd.key y hy).1, (kd.key y hy).2⟩
  · rcases List.mem_append.mp hx with hx | hx
    · exact ⟨nis_mono hT (kd.key x hx).1, (kd.key x hx).2⟩
    · rw [List.mem_singleton.mp hx]
      exact ⟨nis_mono hT hk, dp⟩
section
variable {X : Cx} {pins : List (Addr × Obj)} {σ : L2.St}
theorem dset_at {A : Around} {H : Hp} {s : Shared} {E : Value → Shared → Prop} {b d : Addr} {k : NestedKey} {xs : List Rw} {v : V} {u : Value} {Q : Unit → Shared → Prop} (hu : A.units + 8 < cLine) (I : Inv X pins σ H s) (hk : NIs X.K H k (.ref b)) (hd : k.depth ≤ 8) (z : KD X.prog X.w X.K H d xs)
    (rv : RelV v u) (q : ∀ s1, Inv X pins σ (upd H d (kdO X.prog X.w d (kPut xs k b v))) s1 → (∀ c o, c ≠ d → s.heap.get? c = some o → s1.heap.get? c = some o) → Q () s1) : wpAny (model X.prog X.w) A (dictSet d (.ref b) u) Q E s := by
  obtain ⟨ys, p, m⟩ := z.dict I.hok I.kIn
  have ln : ys.length ≤ sizeLine := by
    rw [← p.length]
    exact Nat.le_trans z.few (by decide)
  refine wpAny_dictSet_heap (knd := nestedKind X.prog X.w) (hsz := ln) (show A.units + 8 < cLine by omega) ⟨nis_is I.hok I.kIn hk rfl, hd⟩ m fun h1 m1 sb => ?_
  have ex : ∃ q, h1.get? d = some q := let ⟨q, _, _, hq, _⟩ := m1; ⟨q, hq⟩
  exact q _ (d_write (t' := s.toks + (nestedKind X.prog X.w).draws k) I (by rw [z.at_]; exact True.intro) sb ex (kdO_ok (rows_put k b rv p) m1)) fun c o n e => (sb.2 c n).trans e
theorem loop_pairs {A : Around} {S J l : Addr} {res : Value} {R : Result → Shared → Prop} {vs : List V} (calm : A.in1.handled = none) (hu : A.in1.units + 8 < cLine) (nSJ : S ≠ J) (fp : ∀ H' : Hp, H' J = none → FpOk X pins H' J) :
    ∀ (rest : List Rw) (i : Nat) (acc : List Rw) (ix : Int) (t : Tok) (H : Hp) (s : Shared), Inv X pins σ H s → H J = none → s.heap.IsListIter J l i → SqL X.K H l vs → vs.length = i + rest.length →
      (∀ (j : Nat) (r : Rw), rest[j]? = some r → ∃ b, vs[i + j]? = some (.ref b) ∧ SqT X.K H b [.ref r.2.1, r.2.2] ∧ NIs X.K H r.1 (.ref r.2.1) ∧ r.1.depth ≤ 8) → KD X.prog X.w X.K H S acc → acc.length + rest.length ≤ 900 →
      (∀ H' s', Inv X pins σ H' s' → (∀ c o, c ≠ S → H c = some o → H' c = some o) → KD X.prog X.w X.K H' S (rest.foldl (fun a r => kPut a r.1 r.2.1 r.2.2) acc) → R (.ok (.ret res)) s') →
      codeAny (model X.prog X.w) A (.builtin "dict.update.loop" ⟨[.ref S, .ref J, .int ix t, res], []⟩) R s
  | [], i, acc, ix, t, H, s, I, nJ, it, hl, len, ps, kd, few, q => by
    obtain ⟨its, rv, pl, hz⟩ := I.list hl
    have le := rv.length
    obtain ⟨f0, f1, f2, f3, f4, f5⟩ := fp H nJ
    apply codeAny_builtin ud_entry
    rw [Around.under_plainId ud_plain]
    apply wpAny_bind
    refine wpAny_pyNext_list_end calm it pl.isList (Array.getElem?_eq_none (by rw [List.size_toArray]; simp at len; omega)) fun h1 eb => ?_
    exact wpAny_bind (wpAny_pure (wpAny_pure (q H _ (I.turned (t' := s.toks) (fun c u hc e => eb c u hc e) f0 f1 f3 f4 f5) (fun _ _ _ e => e) kd)))
  | r :: rest, i, acc, ix, t, H, s, I, nJ, it, hl, len, ps, kd, few, q => by
    obtain ⟨b, hb, tb, kb, dp⟩ := ps 0 r rfl
    obtain ⟨its, rv, pl, hz⟩ := I.list hl
    obtain ⟨f0, f1, f2, f3, f4, f5⟩ := fp H nJ
    rw [List.length_cons] at len few
    obtain ⟨u, hu1, ru⟩ := rv.get hb
    cases ru
    apply codeAny_builtin ud_entry
    rw [Around.under_plainId ud_plain]
    apply wpAny_bind
    refine wpAny_pyNext_list_item it pl.isList (x := .ref b) (by simpa using hu1) fun h1 it1 sb => ?_
    have I1 : Inv X pins σ H { s with heap := h1 } := I.turned (t' := s.toks) (fun c u hc e => (sb.2 c hc).trans e) f0 f1 f3 f4 f5
    obtain ⟨js, rj, tj, zj⟩ := I1.tuple tb
    obtain ⟨x, y, rfl, rx, ry⟩ := vals2 rj
    cases rx
    obtain ⟨ob, g, cls, n, dat⟩ := tj
    change wpAny _ A.in1 (holding [Value.ref b] _ >>= _) _ _ _
    apply wpAny_bind
    apply wpAny_holding
    apply wpAny_bind
    apply wpAny_tryCatch
    delta Builtin.Dict.pairItems
    refine wpAny_bind (wpAny_typeOf (T := "tuple") ⟨ob, g, cls⟩ ?_)
    rw [if_pos (by first | decide | rfl | simp)]
    refine wpAny_bind (wpAny_seqItems g dat (wpAny_pure ?_))
    change wpAny _ A.in1 (holding [Value.ref r.2.1, y] (dictSet S (.ref r.2.1) y)) _ _ _
    refine wpAny_holding (dset_at hu I1 kb dp kd ry fun s2 I2 stay => wpAny_pure ⟨plainId_quiet ud_plain _, ?_⟩)
    have kd2 := kd_put (v := r.2.2) kd (by omega) kb dp
    have off : ∀ c o, c ≠ S → H c = some o → (upd H S (kdO X.prog X.w S (kPut acc r.1 r.2.1 r.2.2))) c = some o := fun c o n e => (upd_ne n).trans e
    have hT : ∀ c ys, SqT X.K H c ys → SqT X.K (upd H S (kdO X.prog X.w S (kPut acc r.1 r.2.1 r.2.2))) c ys := fun c ys z => by
      rcases z with (z | ⟨o, z⟩) | z
      · exact .inl (.inl (off _ _ (ne_of z kd.at_ fun e => nomatch e) z))
      · exact .inl (.inr ⟨o, off _ _ (ne_of z kd.at_ fun e => nomatch e) z⟩)
      · exact .inr z
    have hl2 : SqL X.K (upd H S (kdO X.prog X.w S (kPut acc r.1 r.2.1 r.2.2))) l vs := by
      rcases hl with (z | ⟨o, z⟩) | z
      · exact .inl (.inl (off _ _ (ne_of z kd.at_ fun e => nomatch e) z))
      · exact .inl (.inr ⟨o, off _ _ (ne_of z kd.at_ fun e => nomatch e) z⟩)
      · exact .inr z
    have ln := kPut_len acc r.1 r.2.1 r.2.2
    refine loop_pairs calm hu nSJ fp rest (i + 1) _ (ix + 1) 0 _ s2 I2 ((upd_ne nSJ.symm).trans nJ) (it1.at fun o e => stay J o nSJ.symm e) hl2 (by omega) (fun j r2 e => ?_) kd2 (by omega) fun H' s' I' keep kd' => q H' s' I' (fun c o n e => keep c o n (off c o n e)) kd'
    obtain ⟨b2, h1', h2, h3, h4⟩ := ps (j + 1) r2 (by simpa using e)
    exact ⟨b2, by rw [show i + 1 + j = i + (j + 1) by omega]; exact h1', hT _ _ h2, nis_mono hT h3, h4⟩
end
section
variable {X : Cx}
def rDictN (P : Program) (w : World) (K : PySem.W.Frag) : List V → Hp → VK → Prop := fun xs H Q => ∃ (l : Addr) (vs : List V) (rest : List Rw), xs = [.ref l] ∧ SqL K H l vs ∧ vs.length = rest.length ∧ rest.length ≤ 900 ∧
  (∀ (j : Nat) (r : Rw), rest[j]? = some r → ∃ b, vs[j]? = some (.ref b) ∧ SqT K H b [.ref r.2.1, r.2.2] ∧ NIs K H r.1 (.ref r.2.1) ∧ r.1.depth ≤ 8) ∧
  ∀ D G, H D = none → Same H G → KD P w K G D (rest.foldl (fun a r => kPut a r.1 r.2.1 r.2.2) []) → Q (.ref D) G
theorem call_dictN (hc : X.calm = true) (hu : X.A.units + 16 < cLine) : CallR X (.type "dict") (rDictN X.prog X.w X.K) := by
  intro pins s σ H xs us Q I r0 ⟨l, vs, rest, e, hl, len, few, ps, q⟩
  subst e
  obtain ⟨u0, rfl, rx⟩ := vals1 r0
  cases rx
  have calm := I.ok.hd hc
  obtain ⟨its, rv, pl, hz⟩ := I.list hl
  let S := s.heap.objs.size
  have nS : H S = none := I.hok.fresh (Nat.le_refl _)
  have low : (S == sysModules) = false := beq_eq_false_iff_ne.mpr (Nat.ne_of_gt I.big)
  have s1 : Same H (upd H S (kdO X.prog X.w S [])) := Same.new nS
  have I1 : Inv X pins σ (upd H S (kdO X.prog X.w S [])) { s with heap := s.heap.push { cls := .type "dict", data := .dict #[] } } := I.laid (a := S) (o := kdO X.prog X.w S []) (t' := s.toks) (fun b o q => Heap.get?_push_of_some _ q) (Nat.le_refl _) (kdO_ok .nil (Heap.DictOfH.new s.heap))
  have ty : Shared.TypeIs { s with heap := s.heap.push { cls := .type "dict", data := .dict #[] } } (.ref S) "dict" := ⟨_, Heap.get?_push_size _ rfl, rfl⟩
  obtain ⟨ol, n, ho, cls, nod, dat⟩ := id pl
  have up : ∀ b o, s.heap.get? b = some o → (s.heap.push { cls := .type "dict", data := .dict #[] }).get? b = some o := fun b o z => Heap.get?_push_of_some _ z
  refine callType_codes (Q₁ := fun a z => a = .ref S ∧ z = { s with heap := s.heap.push { cls := .type "dict", data := .dict #[] } }) PySem.F.kt_called_dict (PySem.F.kt_typeCall_dict_1 _) PySem.F.entry_dict_init (kt_code_dict_new _ ⟨rfl, rfl⟩) ?_
  rintro a z ⟨rfl, rfl⟩
  refine ⟨ty, PySem.F.args_dict_init_2 _ _, ?_⟩
  delta Builtin.«dict.__init__»
  apply wpAny_bind
  delta Builtin.Dict.selfAndRest
  refine wpAny_bind (wpAny_notOrdered_dict ty ?_)
  change wpAny _ _ (pure (S, [Value.ref l])) _ _ _
  apply wpAny_pure
  change wpAny _ _ (Builtin.Dict.updateFrom "dict.__init__" S (.ref l) [] .none) _ _ _
  delta Builtin.Dict.updateFrom
  refine wpAny_bind (wpAny_typeOf (T := "list") ⟨ol, up _ _ ho, cls⟩ ?_)
  rw [if_pos (by first | decide | rfl | simp)]
  refine wpAny_bind (miss_list (up _ _ ho) cls dat nod calm fun h1 tk1 k1 => ?_)
  rw [if_pos (by first | decide | rfl | simp)]
  apply wpAny_bind
  apply wpAny_rule
  have I2 : Inv X pins σ (upd H S (kdO X.prog X.w S [])) { s with heap := h1, toks := tk1 } := I1.kept (t' := tk1) k1
  have hl1 : h1.IsList l its.toArray := ⟨ol, k1 _ _ (up _ _ ho), cls, n, dat⟩
  refine wpAny_bind (wpAny_pyIter_list hl1 ?_)
  have I3 : Inv X pins σ (upd H S (kdO X.prog X.w S [])) { s with heap := h1.push { cls := .type "list_iterator", data := .fields #[.ref l, .int 0 0] }, toks := tk1 } := I2.kept (t' := tk1) fun b o z => Heap.get?_push_of_some _ z
  have nJ : (upd H S (kdO X.prog X.w S [])) h1.objs.size = none := I2.hok.fresh (Nat.le_refl _)
  have nSJ : S ≠ h1.objs.size := Nat.ne_of_lt (Heap.lt_size (k1 _ _ (Heap.get?_push_size _ rfl)))
  have kd0 : KD X.prog X.w X.K (upd H S (kdO X.prog X.w S [])) S [] := ⟨upd_same, low, Nat.zero_le _, fun x hx => nomatch hx⟩
  have main := loop_pairs (X := X) (pins := pins) (σ := σ) (A := X.A.in1) (S := S) (J := h1.objs.size) (l := l) (res := Value.none) (R := wants (fun r z => r = .none ∧ EP X pins σ Q (.ref S) z) X.xe) (vs := vs) calm (show X.A.units + 1 + 1 + 8 < cLine by omega) nSJ
    (fun H' z => I2.fpOk (Nat.le_refl _) z) rest 0 [] 0 0 _ _ I3 nJ ⟨_, Heap.get?_push_size _ rfl, rfl, rfl⟩ (s1.seq hl) (by omega) (fun j r e => by
      obtain ⟨b, h1', h2, h3, h4⟩ := ps j r e
      exact ⟨b, by rw [Nat.zero_add]; exact h1', same_T s1 h2, nis_mono (fun _ _ z => same_T s1 z) h3, h4⟩) kd0 (by simp; omega)
    (fun H' s' I' keep kd' => ⟨rfl, .ref S, H', I', rfl, q S H' nS (fun c o z => keep c o (ne_of_none z nS) (s1 _ _ z)) kd'⟩)
  first
    | exact wpAny_pure ⟨plainId_quiet ud_plain _, main⟩
    | exact wpAny_bind (wpAny_pure (wpAny_pure ⟨plainId_quiet ud_plain _, main⟩))
end
end Ld
namespace K49
open PySem PySem.Spec L2 Ld PyProof.Rows
theorem leA_eq (a b : List Str) : leA a b = !keyLt b a := by
  rw [← lt_key]
  rfl
theorem leA_tot : PySem.W.TotalLe leA := PySem.W.sortLe_total (listOrd itemOrd) false fun ws => PySem.W.keyToks (keyD ws)
theorem leA_or (a b : List Str) : (leA a b || leA b a) = true := by
  rcases leA_tot.total a b with h | h <;> rw [h] <;> simp
theorem leA_self (a : List Str) : leA a a = true := by
  rcases leA_tot.total a a with h | h <;> exact h
theorem wordsLt_tri : ∀ {ws us : List Str}, ws.length = us.length → wordsLt ws us = false → wordsLt us ws = false → ws = us
  | [], [], _, _, _ => rfl
  | [], _ :: _, h, _, _ => by simp at h
  | _ :: _, [], h, _, _ => by simp at h
  | a :: ws, b :: us, h, h1, h2 => by
    unfold wordsLt at h1 h2
    by_cases e : a = b
    · subst e
      rw [if_pos rfl] at h1 h2
      rw [wordsLt_tri (by simpa using h) h1 h2]
    · rw [if_neg e] at h1
      rw [if_neg (fun q => e q.symm)] at h2
      have q1 := of_decide_eq_false h1
      have q2 := of_decide_eq_false h2
      exact absurd (PySem.W.str_of_cps (List.le_antisymm (List.not_lt.mp q2) (List.not_lt.mp q1))) e
theorem leA_anti {a b : List Str} (h1 : leA a b = true) (h2 : leA b a = true) : a = b := by
  rw [leA_eq, Bool.not_eq_true'] at h1 h2
  unfold keyLt at h1 h2
  by_cases e : a.length = b.length
  · rw [if_pos e] at h2
    rw [if_pos e.symm] at h1
    exact wordsLt_tri e h2 h1
  · rw [if_neg e] at h2
    rw [if_neg (fun q => e q.symm)] at h1
    have := of_decide_eq_false h1
    have := of_decide_eq_false h2
    omega

theorem sortA_perm (js : List (List Str)) : (sortA js).Perm js := List.mergeSort_perm _ _
theorem sortA_same {xs ys : List (List Str)} (n1 : xs.Nodup) (n2 : ys.Nodup) (h : ∀ x, x ∈ xs ↔ x ∈ ys) : sortA xs = sortA ys := by
  have p : xs.Perm ys := (List.perm_ext_iff_of_nodup n1 n2).mpr h
  exact List.Perm.eq_of_pairwise (le := fun a b => leA a b = true) (fun a b _ _ h1 h2 => leA_anti h1 h2) (List.pairwise_mergeSort leA_tot.trans leA_or xs) (List.pairwise_mergeSort leA_tot.trans leA_or ys) ((sortA_perm xs).trans (p.trans (sortA_perm ys).symm))
theorem mem_addJ {js : List (List Str)} {ws x : List Str} : x ∈ addJ js ws ↔ x ∈ js ∨ x = ws := by
  unfold addJ
  split
  · rename_i h
    exact ⟨fun z => .inl z, fun z => z.elim id fun e => e ▸ h⟩
  · simp
theorem nodup_addJ {js : List (List Str)} {ws : List Str} (h : js.Nodup) : (addJ js ws).Nodup := by
  unfold addJ
  split
  · exact h
  · rename_i n
    rw [List.nodup_append]
    refine ⟨h, by simp, fun a ha b hb e => ?_⟩
    rw [List.mem_singleton.mp hb] at e
    exact n (e ▸ ha)
theorem mem_adds {x : List Str} : ∀ {xs js : List (List Str)}, x ∈ xs.foldl addJ js ↔ x ∈ js ∨ x ∈ xs
  | [], js => by simp
  | y :: xs, js => by
    rw [List.foldl_cons, mem_adds, mem_addJ]
    simp only [List.mem_cons]
    exact or_assoc
theorem nodup_adds : ∀ {xs js : List (List Str)}, js.Nodup → (xs.foldl addJ js).Nodup
  | [], _, h => h
  | y :: xs, js, h => by
    rw [List.foldl_cons]
    exact nodup_adds (nodup_addJ h)
theorem rest_of {K : PySem.W.Frag} {H : Hp} : ∀ {ys : List V} {fs : List (List Str)}, Places K H ys fs → ∃ rest : List Rw, rest.length = ys.length ∧ rest.map (·.1) = fs.map kA ∧ ∀ (j : Nat) (r : Rw), rest[j]? = some r → ys[j]? = some (.ref r.2.1) ∧ r.2.2 = .bl true ∧ ∃ ws, r.1 = kA ws ∧ SqT K H r.2.1 (ws.map V.str)
  | _, _, .nil => ⟨[], rfl, rfl, fun j r h => by simp at h⟩
  | _, _, .cons (a := y) (b := ws) h t => by
    obtain ⟨rest, h1, h2, h3⟩ := rest_of t
    obtain ⟨p, rfl, tp⟩ := h
    refine ⟨(kA ws, p, .bl true) :: rest, by simp [h1], by simp [h2], fun j r e => ?_⟩
    cases j with
    | zero =>
      have e' : (kA ws, p, V.bl true) = r := by simpa using e
      subst e'
      exact ⟨rfl, rfl, ws, rfl, tp⟩
    | succ j => exact h3 j r (by simpa using e)
theorem fold_keys : ∀ {rest : List Rw} {fs : List (List Str)} {acc : List Rw} {js : List (List Str)}, rest.map (·.1) = fs.map kA → Paired KeyJ acc js → Paired KeyJ (rest.foldl (fun a r => kPut a r.1 r.2.1 r.2.2) acc) (fs.foldl addJ js)
  | [], [], _, _, _, z => z
  | [], _ :: _, _, _, h, _ => by simp at h
  | _ :: _, [], _, _, h, _ => by simp at h
  | r :: rest, ws :: fs, acc, js, h, z => by
    rw [List.map_cons, List.map_cons] at h
    obtain ⟨h1, h2⟩ := List.cons.inj h
    rw [List.foldl_cons, List.foldl_cons]
    refine fold_keys h2 ?_
    rw [h1]
    unfold kPut addJ
    rw [keyJ_get ws z]
    by_cases m : ws ∈ js
    · rw [if_pos (by simpa using m), if_pos m]
      exact keyJ_set _ _ z
    · rw [if_neg (by simpa using m), if_neg m]
      exact z.snoc (a := (kA ws, r.2.1, r.2.2)) (b := ws) rfl
theorem TabAt.off {P : Program} {w : World} {K : PySem.W.Frag} {CT a D : Addr} {H H' : Hp} {rs : List Rl} {ks : List V} (z : TabAt P w K CT H a rs) (hD : H D = some (.lst ks)) (fr : ∀ c o, c ≠ D → H c = some o → H' c = some o) : TabAt P w K CT H' a rs := by
  obtain ⟨dx, t, d, xs, rows, mx, h1, h2, h3, h4, h5, h6, h7⟩ := z
  have hT : ∀ b ys, SqT K H b ys → SqT K H' b ys := fun b ys q => sqT_off hD fr q
  exact ⟨dx, t, d, xs, rows, mx, fr _ _ (ne_of h1 hD fun e => nomatch e) h1, hT _ _ h2, Rules.at h3 hD fr, h4, ⟨fr _ _ (ne_of h5.at_ hD fun e => nomatch e) h5.at_, h5.low, h5.few, fun x hx => ⟨nis_mono hT (h5.key x hx).1, (h5.key x hx).2⟩⟩, h6.mono hT, h7⟩
theorem places_dp {K : PySem.W.Frag} {H : Hp} : ∀ {xs : List V} {l : List (List Str)}, Places K H xs l → DpAll K H xs (l.map wt)
  | _, _, .nil => .nil
  | _, _, .cons ⟨_, e, z⟩ t => by
    subst e
    exact .cons (dp_wt z) (places_dp t)
/-! ### redirects, and what may be remembered -/
/-- the target and the days of the redirect that rules answer an address with -/
def redirR (r : Rl) (ws : List Str) : Option (List Str × Int) := match r.an with
  | .to tg n => some (if r.ex = true then tg else tg ++ ws.drop r.pl.length, n)
  | .gone => none
  | .own _ => none
def redir (rs : List Rl) (ws : List Str) : Option (List Str × Int) := (ruleFor rs ws).bind fun r => redirR r ws
def AnsIs (K : PySem.W.Frag) (H : Hp) (v : V) (o : Option (List Str × Int)) : Prop := ∃ c s ys, v = .ref c ∧ SqT K H c (.str s :: ys) ∧ (∀ tg n, o = some (tg, n) → s = "to" ∧ ∃ p, ys = [.ref p, .int n] ∧ SqT K H p (tg.map V.str)) ∧ (o = none → s ≠ "to")
theorem ansIs_no {K : PySem.W.Frag} {H : Hp} {v : V} {s : Str} {ds : List PyData} (z : Dp K H v (.tuple (.str s :: ds))) (n : s ≠ "to") : AnsIs K H v none := by
  cases z with
  | tup h1 h2 =>
    cases h2 with
    | cons a b =>
      cases a
      exact ⟨_, _, _, rfl, h1, (fun _ _ e => by cases e), fun _ => n⟩
theorem ansIs_to {K : PySem.W.Frag} {H : Hp} {v : V} {tg : List Str} {n : Int} (z : Dp K H v (.tuple [.str "to", wt tg, .int n])) : AnsIs K H v (some (tg, n)) := by
  cases z with
  | tup h1 h2 =>
    cases h2 with
    | cons a b =>
      cases a
      cases b with
      | cons a2 b2 =>
        cases b2 with
        | cons a3 b3 =>
          cases b3
          cases a3
          cases a2 with
          | tup g1 g2 =>
            refine ⟨_, _, _, rfl, h1, fun tg' n' e => ?_, fun e => by cases e⟩
            obtain ⟨rfl, rfl⟩ := Prod.mk.inj (Option.some.inj e)
            rw [strs_inv g2] at g1
            exact ⟨rfl, _, rfl, g1⟩
/-- an answer: its first word, and a redirect's target and days -/
theorem ans_at {K : PySem.W.Frag} {H : Hp} {v : V} {rs : List Rl} {ws : List Str} (z : Dp K H v (answerOf rs ws)) : AnsIs K H v (redir rs ws) := by
  unfold answerOf at z
  unfold redir
  generalize ruleFor rs ws = o at z
  cases o with
  | none => exact ansIs_no z (by decide +kernel)
  | some r =>
    obtain ⟨e, pl, an⟩ := r
    cases e <;> cases an
    · exact ansIs_no z (by decide +kernel)
    · exact ansIs_no z (by decide +kernel)
    · exact ansIs_to z
    · exact ansIs_no z (by decide +kernel)
    · exact ansIs_no z (by decide +kernel)
    · exact ansIs_to z
theorem redir_sort {rs : List Rl} (g : Good rs) (ws : List Str) : redir (sortR rs) ws = redir rs ws := by
  unfold redir
  rw [ruleFor_perm (sortR_perm rs) (g.sort).one]
/-- days from which on rules are in force, ascending -/
abbrev Hist := List (Int × List Rl)
def Asc : Hist → Prop
  | [] => True
  | r :: h => (∀ t ∈ h, r.1 < t.1) ∧ Asc h
/-- the last day on which rules are in force, as seen on a day -/
def lastOf (day : Int) : Hist → Int
  | [] => day
  | r :: _ => if r.1 ≤ day then r.1 - 1 else day
/-- the rules in force on a day or before with their ages, the first ones first -/
def srcA (day : Int) : Hist → List (List Rl × Int)
  | [] => []
  | r :: h => (if r.1 ≤ day then [(r.2, day - lastOf day h)] else []) ++ srcA day h
def srcR (day : Int) : Hist → Int → List (List Rl × Int)
  | [], _ => []
  | r :: h, u => if r.1 ≤ day then (r.2, day - u) :: srcR day h (r.1 - 1) else srcR day h u
def untilR (day : Int) : Hist → Int → Int
  | [], u => u
  | r :: h, u => if r.1 ≤ day then untilR day h (r.1 - 1) else untilR day h u
theorem srcR_app (day : Int) : ∀ (xs ys : Hist) (u : Int), srcR day (xs ++ ys) u = srcR day xs u ++ srcR day ys (untilR day xs u)
  | [], _, _ => rfl
  | r :: xs, ys, u => by
    show (if r.1 ≤ day then (r.2, day - u) :: srcR day (xs ++ ys) (r.1 - 1) else srcR day (xs ++ ys) u) = (if r.1 ≤ day then (r.2, day - u) :: srcR day xs (r.1 - 1) else srcR day xs u) ++ srcR day ys (if r.1 ≤ day then untilR day xs (r.1 - 1) else untilR day xs u)
    split
    · rw [srcR_app day xs ys, List.cons_append]
    · exact srcR_app day xs ys u
theorem untilR_app (day : Int) : ∀ (xs ys : Hist) (u : Int), untilR day (xs ++ ys) u = untilR day ys (untilR day xs u)
  | [], _, _ => rfl
  | r :: xs, ys, u => by
    show (if r.1 ≤ day then untilR day (xs ++ ys) (r.1 - 1) else untilR day (xs ++ ys) u) = untilR day ys (if r.1 ≤ day then untilR day xs (r.1 - 1) else untilR day xs u)
    split <;> exact untilR_app day xs ys _
theorem until_rev (day : Int) : ∀ {h : Hist}, Asc h → untilR day h.reverse day = lastOf day h
  | [], _ => rfl
  | r :: h, a => by
    rw [List.reverse_cons, untilR_app, until_rev day a.2]
    show (if r.1 ≤ day then r.1 - 1 else lastOf day h) = (if r.1 ≤ day then r.1 - 1 else day)
    split
    · rfl
    · rename_i n
      cases h with
      | nil => rfl
      | cons t h =>
        have := a.1 t List.mem_cons_self
        exact if_neg (by omega)
theorem src_rev (day : Int) : ∀ {h : Hist}, Asc h → srcR day h.reverse day = (srcA day h).reverse
  | [], _ => rfl
  | r :: h, a => by
    rw [List.reverse_cons, srcR_app, src_rev day a.2, until_rev day a.2]
    show (srcA day h).reverse ++ (if r.1 ≤ day then [(r.2, day - lastOf day h)] else []) = ((if r.1 ≤ day then [(r.2, day - lastOf day h)] else []) ++ srcA day h).reverse
    rw [List.reverse_append]
    split <;> rfl
/-- the target that may be remembered of a source -/
def keepOf (ws : List Str) (s : List Rl × Int) : Option (List Str) := match redir s.1 ws with
  | some (tg, n) => if s.2 ≤ n ∧ 1 ≤ n then some tg else none
  | none => none
def keptL (h : Hist) (ws : List Str) (day : Int) : List (List Str) := (srcA day h).filterMap (keepOf ws)
theorem kept_two {xs ys : List (List Str)} (h : ∀ x, x ∈ xs ↔ x ∈ ys) : sortA (xs.foldl addJ []) = sortA (ys.foldl addJ []) := by
  refine sortA_same (nodup_adds List.nodup_nil) (nodup_adds List.nodup_nil) fun x => ?_
  rw [mem_adds, mem_adds, h x]
theorem kept_rev (h : Hist) (ws : List Str) (day : Int) : sortA (((srcA day h).reverse.filterMap (keepOf ws)).foldl addJ []) = sortA ((keptL h ws day).foldl addJ []) :=
  kept_two fun x => by
    unfold keptL
    simp only [List.mem_filterMap, List.mem_reverse]
end K49
/-! list(zip(xs, ys)) of two lists: a new list of new pairs. -/
namespace Ld
open PySem L2 PyProof.Rows PySem.W
theorem nolen_zip : typeLookup (.type "zip") "__len__" = pure none := by rw [typeLookup_type, builtinLookup_eq_fast]; kernel_rfl
theorem nohint_zip : typeLookup (.type "zip") "__length_hint__" = pure none := by rw [typeLookup_type, builtinLookup_eq_fast]; kernel_rfl
/-- how far a zip is -/
structure ZS (h : Heap) (z TI TO i1 i2 l1 l2 : Addr) (i : Nat) : Prop where
  ti : IsPair h TI (.ref i1) (.ref i2)
  a : h.IsListIter i1 l1 i
  b : h.IsListIter i2 l2 i
  to : ∃ o, h.get? TO = some o
  z : (IsZip h z TI TO .none ∧ ∃ a b, IsPair h TO a b) ∨ ∃ T f oT, IsZipHeld h z TI TO T f ∧ h.get? T = some oT ∧ T ≠ z ∧ T ≠ i1 ∧ T ≠ i2
section
variable {prog : Program} {w : World} {A : Around} {E : Value → Shared → Prop} {s : Shared} {z TI TO i1 i2 l1 l2 : Addr} {xs ys : Array Value}
theorem ZS.frame {h h' : Heap} {i : Nat} (t : ZS h z TI TO i1 i2 l1 l2 i) (k : ∀ b o, h.get? b = some o → h'.get? b = some o) : ZS h' z TI TO i1 i2 l1 l2 i where
  ti := k _ _ t.ti
  a := t.a.at fun o e => k _ _ e
  b := t.b.at fun o e => k _ _ e
  to := let ⟨o, e⟩ := t.to; ⟨o, k _ _ e⟩
  z := by
    rcases t.z with ⟨h1, x, y, h2⟩ | ⟨T, f, oT, h1, h2, h3⟩
    · exact .inl ⟨k _ _ h1, x, y, k _ _ h2⟩
    · exact .inr ⟨T, f, oT, k _ _ h1, k _ _ h2, h3⟩
theorem zs_next {i : Nat} {x y : Value} {Q : Option Value → Shared → Prop} (D : ZipApart z TI TO i1 i2 l1 l2) (t : ZS s.heap z TI TO i1 i2 l1 l2 i) (hl1 : s.heap.IsList l1 xs) (hl2 : s.heap.IsList l2 ys) (hx : xs[i]? = some x) (hy : ys[i]? = some y)
    (hQ : ∀ h', ZS h' z TI TO i1 i2 l1 l2 (i + 1) → IsPair h' s.heap.objs.size x y → h'.objs.size = s.heap.objs.size + 1 → (∀ c o, c ≠ z → c ≠ TO → c ≠ i1 → c ≠ i2 → s.heap.get? c = some o → h'.get? c = some o) → Q (some (.ref s.heap.objs.size)) { s with heap := h' }) :
    wpAny (model prog w) A (pyNext (.ref z)) Q E s := by
  have lti : ∀ {b : Addr} {o : Obj}, s.heap.get? b = some o → s.heap.objs.size ≠ b := fun e => Nat.ne_of_gt (Heap.lt_size e)
  have n1 : s.heap.objs.size ≠ i1 := by obtain ⟨o, e, _⟩ := t.a; exact lti e
  have n2 : s.heap.objs.size ≠ i2 := by obtain ⟨o, e, _⟩ := t.b; exact lti e
  rcases t.z with ⟨h1, a, b, h2⟩ | ⟨T, f, oT, h1, h2, h3, h4, h5⟩
  · refine wpAny_pyNext_zip_item D h1 t.ti h2 t.a t.b hl1 hl2 hx hy fun h' g1 g2 g3 g4 g5 g6 g7 => hQ h' ⟨g7 _ _ D.TIz D.TITO D.TIi1 D.TIi2 t.ti, g3, g4, ⟨_, g2⟩, .inr ⟨s.heap.objs.size, false, _, g1, g5, lti h1, n1, n2⟩⟩ g5 g6 g7
  · refine wpAny_pyNext_zip_item_held D h1 h2 t.ti t.a t.b hl1 hl2 hx hy fun h' g1 g2 g3 g4 g5 g6 => hQ h' ⟨g6 _ _ D.TIz D.TIi1 D.TIi2 t.ti, g2, g3, let ⟨o, e⟩ := t.to; ⟨o, g6 _ _ D.TOz D.TOi1 D.TOi2 e⟩, .inr ⟨T, true, _, g1, g6 _ _ h3 h4 h5 h2, h3, h4, h5⟩⟩ g4 g5 fun c o c1 _ c3 c4 e => g6 c o c1 c3 c4 e
theorem zs_end {i : Nat} {Q : Option Value → Shared → Prop} (hh : A.handled = none) (D : ZipApart z TI TO i1 i2 l1 l2) (t : ZS s.heap z TI TO i1 i2 l1 l2 i) (hl1 : s.heap.IsList l1 xs) (hl2 : s.heap.IsList l2 ys) (hend : xs[i]? = none ∨ ys[i]? = none)
    (hQ : ∀ h', (∀ c o, c ≠ z → c ≠ TO → c ≠ i1 → c ≠ i2 → s.heap.get? c = some o → h'.get? c = some o) → Q none { s with heap := h' }) : wpAny (model prog w) A (pyNext (.ref z)) Q E s := by
  rcases t.z with ⟨h1, a, b, h2⟩ | ⟨T, f, oT, h1, h2, h3, h4, h5⟩
  · exact wpAny_pyNext_zip_end hh D h1 t.ti h2 t.a t.b hl1 hl2 hend fun h' k => hQ h' k
  · exact wpAny_pyNext_zip_end_held hh D h1 h2 t.ti t.a t.b hl1 hl2 hend fun h' k => hQ h' fun c o c1 _ c3 c4 e => k c o c1 c3 c4 e
abbrev lstObj (ts : List Addr) (c : Nat) : Obj := { cls := .type "list", dict := none, data := .seq (ts.map Value.ref).toArray c, slots := #[] }
/-- the list so far -/
structure LZ (h0 h : Heap) (z TI TO i1 i2 l1 l2 S : Addr) (xs ys : Array Value) (i : Nat) (ts : List Addr) (c : Nat) : Prop where
  zs : ZS h z TI TO i1 i2 l1 l2 i
  la : h.IsList l1 xs
  lb : h.IsList l2 ys
  lst : h.get? S = some (lstObj ts c)
  sz : h0.objs.size ≤ h.objs.size
  len : ts.length = i
  prs : ∀ (j : Nat) (t : Addr), ts[j]? = some t → ∃ x y, xs[j]? = some x ∧ ys[j]? = some y ∧ IsPair h t x y ∧ h0.objs.size ≤ t ∧ t ≠ z ∧ t ≠ TO ∧ t ≠ i1 ∧ t ≠ i2 ∧ t ≠ S
  one : ts.Nodup
  keep : ∀ b o, h0.get? b = some o → h.get? b = some o
/-- what stands apart -/
structure LA (h0 : Heap) (z TI TO i1 i2 l1 l2 S : Addr) : Prop where
  D : ZipApart z TI TO i1 i2 l1 l2
  nz : h0.get? z = none
  nO : h0.get? TO = none
  n1 : h0.get? i1 = none
  n2 : h0.get? i2 = none
  nS : h0.get? S = none
  Sz : S ≠ z
  SI : S ≠ TI
  SO : S ≠ TO
  S1 : S ≠ i1
  S2 : S ≠ i2
  Sa : S ≠ l1
  Sb : S ≠ l2
theorem keep_of {h0 h : Heap} (k : ∀ b o, h0.get? b = some o → h.get? b = some o) {t : Addr} (e : h.objs.size ≤ t) : h0.get? t = none := by
  cases q : h0.get? t with
  | none => rfl
  | some o => exact absurd (Heap.lt_size (k _ _ q)) (Nat.not_lt.mpr e)
theorem zip_loop {h0 : Heap} {S : Addr} {g : Array GenState} {d : _} {os : _} {R : Result → Shared → Prop} {n : Nat} {res : Value} (hh : A.in1.handled = none) (L : LA h0 z TI TO i1 i2 l1 l2 S) (hn : n ≤ sizeLine) (hx : xs.size = n) (hy : ys.size = n) :
    ∀ (k i : Nat) (h : Heap) (tk : Nat) (ts : List Addr) (c : Nat), n - i = k → i ≤ n → LZ h0 h z TI TO i1 i2 l1 l2 S xs ys i ts c →
    (∀ h' tk' ts' c', (∃ h'', LZ h0 h'' z TI TO i1 i2 l1 l2 S xs ys n ts' c' ∧ ∀ c o, c ≠ z → c ≠ TO → c ≠ i1 → c ≠ i2 → h''.get? c = some o → h'.get? c = some o) → R (.ok (.ret res)) ⟨h', g, d, tk', os⟩) →
    codeAny (model prog w) A (.builtin "list.extend.loop" ⟨[.ref S, .ref z, res], []⟩) R ⟨h, g, d, tk, os⟩ := by
  intro k
  induction k with
  | zero =>
    intro i h tk ts c hk hi hz hR
    have hin : i = n := by omega
    subst hin
    refine codeAny_builtin F.entry_extend_loop ?_
    rw [Around.under_plainId F.plain_extend_loop _]
    show wpAny _ A.in1 (pyNext (.ref z) >>= _) _ _ _
    refine wpAny_bind (zs_end (s := ⟨h, g, d, tk, os⟩) hh L.D hz.zs hz.la hz.lb (.inl (by rw [Array.getElem?_eq_none]; omega)) fun h' k => ?_)
    exact wpAny_pure (hR h' _ ts c ⟨h, hz, k⟩)
  | succ k ih =>
    intro i h tk ts c hk hi hz hR
    have hlt : i < n := by omega
    refine codeAny_builtin F.entry_extend_loop ?_
    rw [Around.under_plainId F.plain_extend_loop _]
    show wpAny _ A.in1 (pyNext (.ref z) >>= _) _ _ _
    obtain ⟨x, ex⟩ : ∃ x, xs[i]? = some x := ⟨_, Array.getElem?_eq_getElem (by omega)⟩
    obtain ⟨y, ey⟩ : ∃ y, ys[i]? = some y := ⟨_, Array.getElem?_eq_getElem (by omega)⟩
    refine wpAny_bind (zs_next (s := ⟨h, g, d, tk, os⟩) L.D hz.zs hz.la hz.lb ex ey fun h' z' p' sz' k' => ?_)
    show wpAny _ A.in1 (updateSeq S (·.push (.ref h.objs.size)) >>= _) _ _ _
    have hS' : h'.get? S = some (lstObj ts c) := k' _ _ L.Sz L.SO L.S1 L.S2 hz.lst
    have lz := hz.len
    refine wpAny_bind ?_
    have ups : (Heap.update h' S (Obj.mapSeq (·.push (.ref h.objs.size)))).get? S = some (Obj.mapSeq (·.push (.ref h.objs.size)) (lstObj ts c)) := Heap.get?_update_self _ hS' rfl
    have oth : ∀ b o, b ≠ S → h'.get? b = some o → (Heap.update h' S (Obj.mapSeq (·.push (.ref h.objs.size)))).get? b = some o := fun b o nb e => (Heap.get?_update_other _ _ (Ne.symm nb)).trans e
    have ltO : ∀ {b : Addr} {o : Obj}, h.get? b = some o → h.objs.size ≠ b := fun e => Nat.ne_of_gt (Heap.lt_size e)
    have nSz : h.objs.size ≠ S := ltO hz.lst
    have nz : h.objs.size ≠ z := by
      rcases hz.zs.z with ⟨h1, _⟩ | ⟨T, f, oT, h1, _⟩
      · exact ltO h1
      · exact ltO h1
    have n1 : h.objs.size ≠ i1 := by obtain ⟨o, e, _⟩ := hz.zs.a; exact ltO e
    have n2 : h.objs.size ≠ i2 := by obtain ⟨o, e, _⟩ := hz.zs.b; exact ltO e
    have fresh : h0.get? h.objs.size = none := keep_of hz.keep (Nat.le_refl _)
    have nO : h.objs.size ≠ TO := by obtain ⟨o, e⟩ := hz.zs.to; exact ltO e
    have eM : Obj.mapSeq (·.push (.ref h.objs.size)) (lstObj ts c) = lstObj (ts ++ [h.objs.size]) (c + 1) := by
      unfold lstObj Obj.mapSeq
      simp
    refine wpAny_updateSeq hS' rfl (wpAny_pure ⟨plainId_quiet F.plain_extend_loop _, ih (i + 1) _ _ (ts ++ [h.objs.size]) (c + 1) (by omega) hlt ?_ hR⟩) (by simp; omega) (by simp; omega)
    have zk : ZS (Heap.update h' S (Obj.mapSeq (·.push (.ref h.objs.size)))) z TI TO i1 i2 l1 l2 (i + 1) :=
      { ti := oth _ _ L.SI.symm z'.ti, a := z'.a.at fun o e => oth _ _ L.S1.symm e, b := z'.b.at fun o e => oth _ _ L.S2.symm e, to := let ⟨o, e⟩ := z'.to; ⟨o, oth _ _ L.SO.symm e⟩
        z := by
          rcases z'.z with ⟨h1, x, y, h2⟩ | ⟨T, f, oT, h1, h2, h3⟩
          · exact .inl ⟨oth _ _ L.Sz.symm h1, x, y, oth _ _ L.SO.symm h2⟩
          · by_cases e : T = S
            · rw [e] at h1 h3
              exact .inr ⟨S, f, _, oth _ _ L.Sz.symm h1, ups, h3⟩
            · exact .inr ⟨T, f, oT, oth _ _ L.Sz.symm h1, oth _ _ e h2, h3⟩ }
    refine ⟨zk, ?_, ?_, by rw [ups, eM], by rw [Heap.size_update]; exact Nat.le_trans hz.sz (Nat.le_trans (Nat.le_succ _) (Nat.le_of_eq sz'.symm)), by rw [List.length_append, lz]; rfl, fun j t hj => ?_, ?_, fun b o e => ?_⟩
    · obtain ⟨o, e, r⟩ := hz.la
      exact ⟨o, oth _ _ L.Sa.symm (k' _ _ L.D.l1z L.D.l1TO L.D.l1i1 L.D.l1i2 e), r⟩
    · obtain ⟨o, e, r⟩ := hz.lb
      exact ⟨o, oth _ _ L.Sb.symm (k' _ _ L.D.l2z L.D.l2TO L.D.l2i1 L.D.l2i2 e), r⟩
    · by_cases hj2 : j < ts.length
      · rw [List.getElem?_append_left hj2] at hj
        obtain ⟨x2, y2, g1, g2, g3, g4, g5, g6, g7, g8, g9⟩ := hz.prs j t hj
        exact ⟨x2, y2, g1, g2, oth _ _ g9 (k' _ _ g5 g6 g7 g8 g3), g4, g5, g6, g7, g8, g9⟩
      · rw [List.getElem?_append_right (by omega)] at hj
        have e0 : j - ts.length = 0 := by
          by_cases q : j - ts.length = 0
          · exact q
          · rw [List.getElem?_eq_none (by simp; omega)] at hj
            cases hj
        rw [e0] at hj
        cases hj
        have ej : j = i := by omega
        subst ej
        exact ⟨x, y, ex, ey, oth _ _ nSz p', hz.sz, nz, nO, n1, n2, nSz⟩
    · refine List.nodup_append.mpr ⟨hz.one, by simp, fun a ha b hb => ?_⟩
      rw [List.mem_singleton.mp hb]
      obtain ⟨j, hj⟩ := List.getElem?_of_mem ha
      obtain ⟨_, _, _, _, g3, _⟩ := hz.prs j a hj
      exact (ltO g3).symm
    · have ne : ∀ {q : Addr}, h0.get? q = none → b ≠ q := fun n e2 => by
        rw [e2, n] at e
        cases e
      exact oth _ _ (ne L.nS) (k' _ _ (ne L.nz) (ne L.nO) (ne L.n1) (ne L.n2) (hz.keep _ _ e))
/-- what list(z) leaves -/
def LzEnd (h0 : Heap) (S : Addr) (xs ys : Array Value) (h' : Heap) : Prop := ∃ (ts : List Addr) (c : Nat), h'.get? S = some (lstObj ts c) ∧ ts.length = xs.size ∧ ts.Nodup ∧ (∀ (j : Nat) (t : Addr), ts[j]? = some t → ∃ x y, xs[j]? = some x ∧ ys[j]? = some y ∧ IsPair h' t x y ∧ h0.objs.size ≤ t ∧ t ≠ S) ∧ ∀ b o, h0.get? b = some o → h'.get? b = some o
theorem lz_end {h0 h' h'' : Heap} {S : Addr} {ts : List Addr} {c : Nat} {n : Nat} (L : LA h0 z TI TO i1 i2 l1 l2 S) (hn : xs.size = n) (y : LZ h0 h'' z TI TO i1 i2 l1 l2 S xs ys n ts c) (k : ∀ c o, c ≠ z → c ≠ TO → c ≠ i1 → c ≠ i2 → h''.get? c = some o → h'.get? c = some o) : LzEnd h0 S xs ys h' := by
  refine ⟨ts, c, k _ _ L.Sz L.SO L.S1 L.S2 y.lst, by rw [y.len, hn], y.one, fun j t hj => ?_, fun b o e => ?_⟩
  · obtain ⟨x2, y2, g1, g2, g3, g4, g5, g6, g7, g8, g9⟩ := y.prs j t hj
    exact ⟨x2, y2, g1, g2, k _ _ g5 g6 g7 g8 g3, g4, g9⟩
  · have ne : ∀ {q : Addr}, h0.get? q = none → b ≠ q := fun n e2 => by
      rw [e2, n] at e
      cases e
    exact k _ _ (ne L.nz) (ne L.nO) (ne L.n1) (ne L.n2) (y.keep _ _ e)
theorem extend_zip {h0 : Heap} {S : Addr} {R : Result → Shared → Prop} {c₀ : Nat} {res : Value} (hh : A.in1.handled = none) (L : LA h0 z TI TO i1 i2 l1 l2 S) (hn : xs.size ≤ sizeLine) (hy : ys.size = xs.size) (hz : LZ h0 s.heap z TI TO i1 i2 l1 l2 S xs ys 0 [] c₀) (f0 : IsZip s.heap z TI TO .none)
    (hR : ∀ h' tk', LzEnd h0 S xs ys h' → R (.ok (.ret res)) { s with heap := h', toks := tk' }) :
    wpAny (model prog w) A.in1 (Builtin.List.listExtendWith (.ref S) (.ref z) res)
      (fun fin s' => match fin with | .done f => R (.ok f) s' | .again c' => c'.quiet = true ∧ codeAny (model prog w) A c' R s') (fun e s' => R (.error e) s') s := by
  have hT : s.TypeIs (.ref z) "zip" := ⟨_, f0, rfl⟩
  unfold Builtin.List.listExtendWith
  refine wpAny_bind (wpAny_typeOf hT ?_)
  have h1 : Builtin.List.listSameRef (.ref S) (.ref z) = false := by simp [Builtin.List.listSameRef, L.Sz]
  have h2 : (Value.type "zip" == Value.type "list") = false := by decide
  have h3 : (Value.type "zip" == Value.type "tuple") = false := by decide
  simp only [h1, h2, h3, Bool.or_false, Bool.false_eq_true, if_false]
  refine wpAny_bind (wpAny_pyIter_zip f0 ?_)
  refine wpAny_bind (wpAny_holding ?_)
  unfold Builtin.List.listLengthHint
  refine wpAny_bind (wpAny_specialOf hT nolen_zip ?_)
  show wpAny _ A.in1 (specialOf (Value.ref z) (Str.ofString "__length_hint__") >>= _) _ _ _
  refine wpAny_bind (wpAny_specialOf hT nohint_zip ?_)
  refine wpAny_pure ?_
  show wpAny _ A.in1 (rule "list.extend.makes-room" >>= fun _ => Builtin.List.listTouch (.ref S) >>= fun _ =>
    again (.builtin "list.extend.loop" ⟨[.ref S, .ref z, res], []⟩)) _ _ _
  refine wpAny_bind (wpAny_rule ?_)
  refine wpAny_bind ?_
  show wpAny _ A.in1 (updateSeq S (·.push .none) >>= fun _ => updateSeq S (·.pop)) _ _ _
  have hS := hz.lst
  refine wpAny_bind (wpAny_updateSeq hS rfl ?_)
  have hS₂ := Heap.get?_update_self (Obj.mapSeq (·.push Value.none)) hS rfl
  refine wpAny_updateSeq hS₂ rfl ?_
  have hS₃ := Heap.get?_update_self (Obj.mapSeq (·.pop)) hS₂ rfl
  have oth : ∀ b o, b ≠ S → s.heap.get? b = some o → ((s.heap.update S (Obj.mapSeq (·.push Value.none))).update S (Obj.mapSeq (·.pop))).get? b = some o :=
    fun b o hb e => (Heap.get?_update_other _ _ (Ne.symm hb)).trans ((Heap.get?_update_other _ _ (Ne.symm hb)).trans e)
  have eM : Obj.mapSeq (·.pop) (Obj.mapSeq (·.push Value.none) (lstObj [] c₀)) = lstObj [] (c₀ + 1 + 1) := by
    unfold lstObj Obj.mapSeq
    simp
  rw [eM] at hS₃
  have z0 := hz.zs
  have zk : ZS ((s.heap.update S (Obj.mapSeq (·.push Value.none))).update S (Obj.mapSeq (·.pop))) z TI TO i1 i2 l1 l2 0 :=
    { ti := oth _ _ L.SI.symm z0.ti, a := z0.a.at fun o e => oth _ _ L.S1.symm e, b := z0.b.at fun o e => oth _ _ L.S2.symm e, to := let ⟨o, e⟩ := z0.to; ⟨o, oth _ _ L.SO.symm e⟩
      z := by
        rcases z0.z with ⟨h1, x, y, h2⟩ | ⟨T, f, oT, h1, _⟩
        · exact .inl ⟨oth _ _ L.Sz.symm h1, x, y, oth _ _ L.SO.symm h2⟩
        · exact absurd (f0.symm.trans h1) (by simp [rawInt]) }
  refine wpAny_pure ⟨plainId_quiet F.plain_extend_loop _, zip_loop hh L hn rfl hy xs.size 0 _ _ [] _ rfl (Nat.zero_le _) ⟨zk, ?_, ?_, hS₃, by rw [Heap.size_update, Heap.size_update]; exact hz.sz, rfl, fun j t hj => by simp at hj, List.nodup_nil, fun b o e => ?_⟩ fun h' tk' ts' c' hq => ?_⟩
  · obtain ⟨o, e, r⟩ := hz.la
    exact ⟨o, oth _ _ L.Sa.symm e, r⟩
  · obtain ⟨o, e, r⟩ := hz.lb
    exact ⟨o, oth _ _ L.Sb.symm e, r⟩
  · exact oth _ _ (fun e2 => by rw [e2, L.nS] at e; cases e) (hz.keep _ _ e)
  · obtain ⟨h'', y, k⟩ := hq
    exact hR h' tk' (lz_end L rfl y k)
end
section
variable {prog : Program} {w : World} {A : Around} {E : Value → Shared → Prop} {s : Shared} {l1 l2 : Addr} {xs ys : Array Value}
/-- list(z), z a zip that nothing was drawn from -/
theorem call_list_zip {h0 : Heap} {z TI TO i1 i2 : Addr} {Q : Value → Shared → Prop} (hh : A.in1.in1.handled = none) (L : LA h0 z TI TO i1 i2 l1 l2 s.heap.objs.size) (hn : xs.size ≤ sizeLine) (hy : ys.size = xs.size) (zs : ZS s.heap z TI TO i1 i2 l1 l2 0) (la : s.heap.IsList l1 xs) (lb : s.heap.IsList l2 ys) (f0 : IsZip s.heap z TI TO .none)
    (kz : h0.objs.size ≤ s.heap.objs.size) (kp : ∀ b o, h0.get? b = some o → s.heap.get? b = some o) (hQ : ∀ h' tk', LzEnd h0 s.heap.objs.size xs ys h' → Q (.ref s.heap.objs.size) { s with heap := h', toks := tk' }) :
    wpAny (model prog w) A (PySem.call (.type "list") [.ref z]) Q E s := by
  refine callType_codes (Q₁ := fun obj s₁ => obj = .ref s.heap.objs.size ∧ s₁ = { s with heap := s.heap.push { cls := .type "list", data := .seq #[] } }) F.called_list (F.typeCall_list_1 _) F.entry_list_init
    (code_list_new _ ⟨rfl, rfl⟩) fun obj s₁ h₁ => ?_
  obtain ⟨rfl, rfl⟩ := h₁
  have hS : (s.heap.push { cls := .type "list", data := .seq #[] }).get? s.heap.objs.size = some { cls := .type "list", data := .seq #[] } := Heap.get?_push_size _ rfl
  have up : ∀ b o, s.heap.get? b = some o → (s.heap.push { cls := .type "list", data := .seq #[] }).get? b = some o := fun b o e => Heap.get?_push_of_some _ e
  refine ⟨⟨_, hS, rfl⟩, F.args_list_init_2 _ _, ?_⟩
  show wpAny _ A.in1.in1 (do let old ← Builtin.List.listItems (.ref s.heap.objs.size); Builtin.List.listUpdate (.ref s.heap.objs.size) (fun _ => #[]); letGo old.toList.reverse; Builtin.List.listExtendWith (.ref s.heap.objs.size) (.ref z) .none) _ _ _
  refine wpAny_bind ?_
  unfold Builtin.List.listItems
  refine wpAny_bind (wpAny_seqItems hS rfl (wpAny_pure ?_))
  show wpAny _ A.in1.in1 (updateSeq s.heap.objs.size (fun _ => #[]) >>= fun _ => letGo (#[] : Array Value).toList.reverse >>= fun _ => Builtin.List.listExtendWith (.ref s.heap.objs.size) (.ref z) .none) _ _ _
  refine wpAny_bind (wpAny_updateSeq hS rfl ?_)
  have hS₂ := Heap.get?_update_self (Obj.mapSeq (fun _ => (#[] : Array Value))) hS rfl
  have oth : ∀ b o, s.heap.get? b = some o → ((s.heap.push { cls := .type "list", data := .seq #[] }).update s.heap.objs.size (Obj.mapSeq (fun _ => (#[] : Array Value)))).get? b = some o :=
    fun b o e => (Heap.get?_update_other _ _ (Nat.ne_of_gt (Heap.lt_size e))).trans (up b o e)
  refine wpAny_bind (wpAny_letGo ?_)
  obtain ⟨c1, hS₂⟩ : ∃ c1, ((s.heap.push { cls := .type "list", data := .seq #[] }).update s.heap.objs.size (Obj.mapSeq (fun _ => (#[] : Array Value)))).get? s.heap.objs.size = some (lstObj [] c1) := ⟨_, get?_update_seq hS fun _ => #[]⟩
  refine extend_zip (h0 := h0) (c₀ := c1) hh L hn hy ⟨zs.frame oth, ?_, ?_, hS₂, by rw [Heap.size_update, Heap.size_push]; omega, rfl, fun j t hj => by simp at hj, List.nodup_nil, fun b o e => oth _ _ (kp _ _ e)⟩ (oth _ _ f0) fun h' tk' q => ⟨rfl, hQ h' tk' q⟩
  · obtain ⟨o, e, r⟩ := la
    exact ⟨o, oth _ _ e, r⟩
  · obtain ⟨o, e, r⟩ := lb
    exact ⟨o, oth _ _ e, r⟩
end
section
variable {P : Program} {w : World} {H : Hp} {h : Heap} {it : Addr}
theorem hok_putO {o : HO} (ok : HOk P w H h) (n : H it = none) (new : ObjOk P w (upd H it o) h it o) : HOk P w (upd H it o) h := fun b u e => by
  by_cases z : b = it
  · subst z
    rw [upd_same] at e
    cases e
    exact new
  · rw [upd_ne z] at e
    have ne : ∀ {c : Addr} {o : HO}, H c = some o → c ≠ it := fun e z => by
      rw [z, n] at e
      cases e
    exact (ok b u e).stay (fun _ _ _ q => q) (fun c q => by rw [upd_ne (ne q)]; exact q) (fun c xs q => by rw [upd_ne (ne q)]; exact q)
end
section
variable {X : Cx} {pins : List (Addr × Obj)} {σ : L2.St} {H H1 : Hp} {s s1 : Shared}
theorem since_pairs (J : Since X H s H1 s1) : ∀ ps : List (Addr × V × V), (∀ p ∈ ps, s.heap.get? p.1 = none ∧ H1 p.1 = none ∧ ∃ x y, IsPair s1.heap p.1 x y ∧ RelV p.2.1 x ∧ RelV p.2.2 y) → (ps.map (·.1)).Nodup →
    ∃ H2, Since X H s H2 s1 ∧ (∀ p ∈ ps, H2 p.1 = some (.tup [p.2.1, p.2.2])) ∧ ∀ b, b ∉ ps.map (·.1) → H2 b = H1 b
  | [], _, _ => ⟨H1, J, (fun p h => nomatch h), fun _ _ => rfl⟩
  | p :: ps, hp, nd => by
    rw [List.map_cons, List.nodup_cons] at nd
    obtain ⟨H2, J2, a2, b2⟩ := since_pairs J ps (fun q hq => hp q (List.mem_cons_of_mem _ hq)) nd.2
    obtain ⟨n0, n1, x, y, hT, rx, ry⟩ := hp p List.mem_cons_self
    have n2 : H2 p.1 = none := (b2 _ nd.1).trans n1
    refine ⟨upd H2 p.1 (.tup [p.2.1, p.2.2]), ⟨J2.os, J2.bare, un_put J2.un n0 n2, hok_putO J2.hok n2 ⟨show 2 ≤ sizeLine by decide, [x, y], .cons rx (.cons ry .nil), ⟨_, hT, rfl, _, rfl⟩⟩, J2.same.trans (Same.new n2)⟩, fun q hq => ?_, fun b hb => ?_⟩
    · rcases List.mem_cons.mp hq with rfl | hq
      · exact upd_same
      · have ne : q.1 ≠ p.1 := fun e => nd.1 (by rw [← e]; exact List.mem_map_of_mem hq)
        rw [upd_ne ne]
        exact a2 q hq
    · rw [List.map_cons, List.mem_cons, not_or] at hb
      rw [upd_ne hb.1]
      exact b2 b hb.2
end
/-- list(zip(a, b)) of two lists of one length -/
def tListZip (K : PySem.W.Frag) (ta : TA) : TE := fun σ H Q => ta σ H fun vs H1 => ∃ a b xs ys, vs = [.ref a, .ref b] ∧ SqL K H1 a xs ∧ SqL K H1 b ys ∧ ys.length = xs.length ∧
  ∀ l (ts : List Addr) H2, Same H1 H2 → H1 l = none → l ≠ sysModules → H2 l = some (.lst (ts.map V.ref)) → ts.length = xs.length → (∀ (j : Nat) (t : Addr), ts[j]? = some t → H1 t = none) → (∀ (j : Nat) (t : Addr) x y, ts[j]? = some t → xs[j]? = some x → ys[j]? = some y → H2 t = some (.tup [x, y])) → Q (.ref l) H2
theorem pe_listZip {X : Cx} {e e2 : Expr} {ta : TA} {p p2 pos pos2 : Pos} (hc : X.calm = true) (hg : Gl X "list") (hm : X.mg "list" = none) (hg2 : Gl X "zip") (hm2 : X.mg "zip" = none) (ha : PA X [e, e2] ta)
    (hs : starEach [e, e2] X.env = (false, eval e X.env) :: starEach [e2] X.env := by rfl) (hpl : (backTo pos2 (starEach [e2] X.env)).any (·.1) = false := by rfl)
    (hs2 : starEach [.Call (.Name "zip" p2) [e, e2] [] pos2] X.env = (false, eval (.Call (.Name "zip" p2) [e, e2] [] pos2) X.env) :: starEach [] X.env := by rfl) :
    PE X (.Call (.Name "list" p) [.Call (.Name "zip" p2) [e, e2] [] pos2] [] pos) (tListZip X.K ta) := by
  refine ⟨fun pins s σ H Q I h => ?_⟩
  refine Call_ (ld_blt I hg hm (show bootBuiltins "list" = some (.type "list") by decide +kernel) (PyProof.Rows.callWith_type1 (args_cons (Call_ (ld_blt I hg2 hm2 PyProof.Rows.boot_zip (PyProof.Rows.callWith_type1 (thn (ha.run pos2 pins s σ H _ I h) fun us s1 ⟨vs, H1, I1, r1, q1⟩ => ?_) hs hpl))) hs2) hs2 rfl))
  obtain ⟨a, b, xs, ys, ex, hqx, hqy, hl, q⟩ := q1
  subst ex
  cases r1 with
  | cons r rr =>
    cases rr with
    | cons r' rr =>
      cases rr
      cases r
      cases r'
      obtain ⟨its, rv, p1, z1⟩ := I1.list hqx
      obtain ⟨its2, rv2, p2, z2⟩ := I1.list hqy
      have la : a < s1.heap.objs.size := p1.lt
      have lb : b < s1.heap.objs.size := p2.lt
      have len1 : its.toArray.size = xs.length := by rw [List.size_toArray, ← rv.length]
      have len2 : its2.toArray.size = xs.length := by rw [List.size_toArray, ← rv2.length, hl]
      refine call_zip_2 p1.isList p2.isList fun h' hz hTI hTO h1 h2 hsz hk => args_nil ?_
      have nn : ∀ k, s1.heap.get? (s1.heap.objs.size + k) = none := fun k => Heap.get?_none_of_le (Nat.le_add_right _ _)
      have n0 := nn 0
      have kl : ∀ {c : Addr} {xs : Array Value}, s1.heap.IsList c xs → h'.IsList c xs := fun ⟨o, e, r⟩ => ⟨o, hk _ _ e, r⟩
      refine call_list_zip (s := { s1 with heap := h' }) (h0 := s1.heap) (z := s1.heap.objs.size + 4) (TI := s1.heap.objs.size + 2) (TO := s1.heap.objs.size + 3) (i1 := s1.heap.objs.size) (i2 := s1.heap.objs.size + 1) (l1 := a) (l2 := b) (xs := its.toArray) (ys := its2.toArray)
        (I1.ok.hd hc) ⟨PySem.W.ktu_apart s1.heap.objs.size a b la lb, nn 4, nn 3, n0, nn 1, ?_, ?_, ?_, ?_, ?_, ?_, ?_, ?_⟩ (by rw [len1]; exact z1) (by rw [len1, len2]) ⟨hTI, h1, h2, ⟨_, hTO⟩, .inl ⟨hz, _, _, hTO⟩⟩ (kl p1.isList) (kl p2.isList) hz (by show _ ≤ h'.objs.size; omega) hk fun h2 tk2 ⟨ts, c, e1, e2, e3, e4, e5⟩ => ?_
      · show s1.heap.get? h'.objs.size = none
        rw [hsz]
        exact nn 5
      · show h'.objs.size ≠ _
        omega
      · show h'.objs.size ≠ _
        omega
      · show h'.objs.size ≠ _
        omega
      · show h'.objs.size ≠ _
        omega
      · show h'.objs.size ≠ _
        omega
      · exact Nat.ne_of_gt (Nat.lt_of_lt_of_le la (show s1.heap.objs.size ≤ h'.objs.size by omega))
      · exact Nat.ne_of_gt (Nat.lt_of_lt_of_le lb (show s1.heap.objs.size ≤ h'.objs.size by omega))
      · have S5 : h'.objs.size = s1.heap.objs.size + 5 := hsz
        have J0 : Since X H1 s1 H1 { s1 with heap := h2, toks := tk2 } := ⟨rfl, I1.bare, Un.kept e5, I1.hok.kept e5, Same.refl H1⟩
        have lt : ts.length = xs.length := by rw [e2, len1]
        let ps : List (Addr × V × V) := ts.zip (xs.zip ys)
        have lp : (xs.zip ys).length = xs.length := by rw [List.length_zip, hl, Nat.min_self]
        have pm : ps.map (·.1) = ts := by
          show (ts.zip (xs.zip ys)).map (·.1) = ts
          rw [List.map_fst_zip]
          omega
        have fr : ∀ {t : Addr}, s1.heap.objs.size ≤ t → H1 t = none := fun e => I1.hok.fresh e
        have at_ : ∀ {i : Nat} {t : Addr} {x y : V}, ts[i]? = some t → xs[i]? = some x → ys[i]? = some y → (t, x, y) ∈ ps := fun {i t x y} h1 h2 h3 =>
          List.mem_of_getElem? (i := i) (by show (ts.zip (xs.zip ys))[i]? = _; rw [List.getElem?_zip_eq_some]; exact ⟨h1, by rw [List.getElem?_zip_eq_some]; exact ⟨h2, h3⟩⟩)
        have hps : ∀ p ∈ ps, s1.heap.get? p.1 = none ∧ H1 p.1 = none ∧ ∃ x y, IsPair h2 p.1 x y ∧ RelV p.2.1 x ∧ RelV p.2.2 y := fun p hp => by
          obtain ⟨j, hj⟩ := List.getElem?_of_mem hp
          obtain ⟨t, x, y⟩ := p
          have hj2 : (ts.zip (xs.zip ys))[j]? = some (t, x, y) := hj
          rw [List.getElem?_zip_eq_some, List.getElem?_zip_eq_some] at hj2
          obtain ⟨g1, g2, g3⟩ := hj2
          obtain ⟨x2, y2, k1, k2, k3, k4, k5⟩ := e4 j t g1
          obtain ⟨u, hu, ru⟩ := rv.get g2
          obtain ⟨u2, hu2, ru2⟩ := rv2.get g3
          have eu : x2 = u := Option.some.inj (k1.symm.trans (by simpa using hu))
          have eu2 : y2 = u2 := Option.some.inj (k2.symm.trans (by simpa using hu2))
          subst eu eu2
          exact ⟨Heap.get?_none_of_le k4, fr k4, x2, y2, k3, ru, ru2⟩
        obtain ⟨H2, J2, a2, b2⟩ := since_pairs J0 ps hps (by rw [pm]; exact e3)
        · have nS : H2 h'.objs.size = none := by
            rw [b2 _ (by
              rw [pm]
              intro hm
              obtain ⟨j, hj⟩ := List.getElem?_of_mem hm
              obtain ⟨_, _, _, _, _, _, g⟩ := e4 j _ hj
              exact g rfl)]
            exact fr (by omega)
          have ln : (ts.map V.ref).length ≤ sizeLine := by
            rw [List.length_map, lt]
            exact z1
          have rv3 : Vals (ts.map V.ref) (ts.map Value.ref) := by
            generalize ts = l
            induction l with
            | nil => exact .nil
            | cons a l ih => exact .cons rfl ih
          have J4 : Since X H1 s1 (upd H2 h'.objs.size (.lst (ts.map V.ref))) { s1 with heap := h2, toks := tk2 } :=
            ⟨J2.os, J2.bare, un_put J2.un (Heap.get?_none_of_le (show s1.heap.objs.size ≤ h'.objs.size by omega)) nS, hok_put J2.hok nS ⟨ln, ts.map Value.ref, c, rv3, e1⟩, J2.same.trans (Same.new nS)⟩
          refine ⟨.ref h'.objs.size, _, J4.inv I1, rfl, q _ ts _ J4.same (fr (by omega)) (Nat.ne_of_gt (Nat.lt_of_lt_of_le I1.big (show s1.heap.objs.size ≤ h'.objs.size by omega))) upd_same lt (fun j t hj => ?_) fun j t x y h1 h2 h3 => ?_⟩
          · obtain ⟨_, _, _, _, _, g, _⟩ := e4 j t hj
            exact fr g
          · have m := a2 _ (at_ h1 h2 h3)
            rw [upd_ne (fun e => by rw [e, nS] at m; cases m)]
            exact m
end Ld
namespace K49
open PySem L2 Ld PyProof.Rows
/-! ### the class Server -/
def smeth (i : Nat) : Stmt := match top 33 with
  | .ClassDef _ _ _ body _ _ _ _ _ _ _ => body.getD i (.Pass ⟨0, 0, 0, 0⟩)
  | s => s
abbrev sIsDay : Stmt := top 11
abbrev sSInit : Stmt := smeth 0
abbrev sSSet : Stmt := smeth 1
abbrev sSTable : Stmt := smeth 3
abbrev sSAns : Stmt := smeth 4
abbrev sSKept : Stmt := smeth 5
abbrev sSSrc : Stmt := smeth 6
structure Scl (K : PySem.W.Frag) (CS : Addr) : Prop where
  cls : Cls K CS
  no1 : NoAttr K CS "_days"
  no2 : NoAttr K CS "_tables"
/-- a server: where its days and its tables lie -/
def SrvAt (P : Program) (w : World) (K : PySem.W.Frag) (CT CS : Addr) (H : Hp) (a D T : Addr) (hs : Hist) : Prop := ∃ (dx : Addr) (ts : List Addr), H a = some (.ins CS dx [("_days", .ref D), ("_tables", .ref T)]) ∧ H D = some (.lst (hs.map fun r => V.int r.1)) ∧ H T = some (.lst (ts.map V.ref)) ∧ D ≠ T ∧ Paired (fun t r => TabAt P w K CT H t r.2) ts hs
section
variable {P : Program} {w : World} {K : PySem.W.Frag} {mg : Str → Option Value} {base : Heap} {f : Addr} {fd : FuncData} {CT CS : Addr}
theorem SrvAt.same {H H' : Hp} {a D T : Addr} {hs : Hist} (z : SrvAt P w K CT CS H a D T hs) (s : Same H H') : SrvAt P w K CT CS H' a D T hs :=
  let ⟨dx, ts, h1, h2, h3, h4, h5⟩ := z; ⟨dx, ts, s _ _ h1, s _ _ h2, s _ _ h3, h4, Paired.mono (fun _ _ q => q.same s) h5⟩
theorem SrvAt.ext {H H' : Hp} {a D T : Addr} {hs : Hist} (z : SrvAt P w K CT CS H a D T hs) (s : LamX.ExtN H H') : SrvAt P w K CT CS H' a D T hs :=
  let ⟨dx, ts, h1, h2, h3, h4, h5⟩ := z; ⟨dx, ts, s _ _ h1 (fun _ e => nomatch e), s _ _ h2 (fun _ e => nomatch e), s _ _ h3 (fun _ e => nomatch e), h4, Paired.mono (fun _ _ q => TabAt.ext q s) h5⟩
theorem SrvAt.sb {H H' : Hp} {a D T wa : Addr} {hs : Hist} (z : SrvAt P w K CT CS H a D T hs) (W : Sm H wa) (nD : D ≠ wa) (s : Sb wa H H') : SrvAt P w K CT CS H' a D T hs :=
  let ⟨dx, ts, h1, h2, h3, h4, h5⟩ := z; ⟨dx, ts, s _ _ (W.ne h1 trivial) h1, s _ _ nD h2, s _ _ (W.ne h3 (notSm_refs fun x hx => by obtain ⟨p, _, e⟩ := List.mem_map.mp hx; exact ⟨p, e.symm⟩)) h3, h4, Paired.mono (fun _ _ q => TabAt.sb q W s) h5⟩
theorem SrvAt.good {H : Hp} {a D T : Addr} {hs : Hist} (z : SrvAt P w K CT CS H a D T hs) : ∀ r ∈ hs, Good r.2 := by
  obtain ⟨dx, ts, h1, h2, h3, h4, h5⟩ := z
  clear h1 h2 h3 h4
  induction h5 with
  | nil => exact fun r h => by cases h
  | cons a b ih =>
    intro r h
    rcases List.mem_cons.mp h with rfl | h
    · obtain ⟨_, _, _, _, _, _, _, _, _, g, _⟩ := a
      exact g
    · exact ih r h
/-! #### is_day -/
def spDay (K : PySem.W.Frag) : Sp := fun vs H Q _ => ∃ (v : V) (d : PyData), vs = [v] ∧ Dd K H v d ∧ Q (.bl (numD 1000000 d)) H
theorem scDay : FnScope ["value"] ["value"] (defScope sIsDay) := ⟨rfl, rfl, rfl, by decide +kernel, rfl, by decide +kernel, by decide +kernel⟩
theorem ok_isDay (Fd : Fun K "is_day" "is_day" sIsDay f fd) {t : Tok} (hm : mg "LAST_DAY" = some (.int 1000000 t)) (DN : Df P w K mg base 1 "is_number_to" ["value", "highest"] (spNum K)) : FnOk P w K mg base CX0 2 f fd ["value"] (spDay K) := by
  refine Fd.ok scDay (fun vs H Q E h => ?_) (fun cdv A outer s H vs Q E hr h => ?_)
  · obtain ⟨v, d, rfl, _⟩ := h
    rfl
  · obtain ⟨v, d, rfl, hv, q⟩ := h
    refine ⟨_, pss_one (ps_ret (pe_df DN hr (pa_cons (pv 0) (pa_cons (pe_glob (v := .int 1000000) (by rfl) hm ⟨_, rfl⟩) pa_nil)))), ?_⟩
    exact ⟨_, rfl, v, d, _, rfl, hv, q⟩
/-! #### Server() -/
def spSInit (P : Program) (w : World) (K : PySem.W.Frag) (CT CS : Addr) : Sp := fun vs H Q _ => ∃ (a dx : Addr), vs = [.ref a] ∧ H a = some (.ins CS dx []) ∧ ∀ H' D T, (∀ b o, b ≠ a → H b = some o → H' b = some o) → H D = none → H T = none → SrvAt P w K CT CS H' a D T [] → Q .non H'
theorem scSInit : FnScope ["self"] ["self"] (defScope sSInit) := ⟨rfl, rfl, rfl, by decide +kernel, rfl, by decide +kernel, by decide +kernel⟩
theorem ok_sinit (Fd : Fun K "__init__" "Server.__init__" sSInit f fd) (S : Scl K CS) : FnOk P w K mg base CX0 1 f fd ["self"] (spSInit P w K CT CS) := by
  refine Fd.ok scSInit (fun vs H Q E h => ?_) (fun cdv A outer s H vs Q E hr h => ?_)
  · obtain ⟨a, dx, rfl, _⟩ := h
    rfl
  · obtain ⟨a, dx, rfl, ha, q⟩ := h
    refine ⟨_, pss_cons (ps_fld (pv 0) (pe_lst pa_nil) rfl) (pss_one (ps_fld (pv 0) (pe_lst pa_nil) rfl)), ?_⟩
    refine ⟨(show 0 ≤ sizeLine by decide), fun D hD => ⟨_, rfl, a, CS, dx, _, rfl, (upd_ne (ne_of_none ha hD)).trans ha, S.cls, S.no1, (show 0 < 1000 by decide), (show 0 ≤ sizeLine by decide), fun T hT => ?_⟩⟩
    have nDa : D ≠ a := (ne_of_none ha hD).symm
    have nTa : T ≠ a := fun e => by
      rw [e, upd_same] at hT
      cases hT
    have hT1 : (upd H D (.lst [])) T = none := (upd_ne nTa).symm.trans hT
    have nTD : T ≠ D := fun e => by
      rw [e, upd_same] at hT1
      cases hT1
    have hTH : H T = none := (upd_ne nTD).symm.trans hT1
    refine ⟨_, rfl, a, CS, dx, _, rfl, (upd_ne nTa.symm).trans upd_same, S.cls, S.no2, (show 1 < 1000 by decide), ?_⟩
    refine q _ D T (fun b o nb e => ?_) hD hTH ⟨dx, [], upd_same, ?_, ?_, nTD.symm, .nil⟩
    · rw [upd_ne nb, upd_ne (ne_of_none (o := o) (by rw [upd_ne nb, upd_ne (ne_of_none e hD)]; exact e) hT), upd_ne nb, upd_ne (ne_of_none e hD)]
      exact e
    · rw [upd_ne nDa, upd_ne nTD.symm, upd_ne nDa]
      exact upd_same
    · rw [upd_ne nTa]
      exact upd_same
/-! #### set_table, with a day and a table that fit -/
def spSSet (P : Program) (w : World) (K : PySem.W.Frag) (CT CS : Addr) : Sp := fun vs H Q _ => ∃ (a D T t : Addr) (d : Int) (hs : Hist) (rs : List Rl), vs = [.ref a, .int d, .ref t] ∧ SrvAt P w K CT CS H a D T hs ∧ TabAt P w K CT H t rs ∧ 0 ≤ d ∧ d ≤ 1000000 ∧ (∀ r ∈ hs, r.1 < d) ∧ hs.length ≤ 100 ∧
  ∀ H', (∀ b o, b ≠ D → b ≠ T → H b = some o → H' b = some o) → SrvAt P w K CT CS H' a D T (hs ++ [(d, rs)]) → Q .non H'
theorem scSSet : FnScope ["self", "day", "table"] ["self", "day", "table"] (defScope sSSet) := ⟨rfl, rfl, rfl, by decide +kernel, rfl, by decide +kernel, by decide +kernel⟩
theorem at_last {xs : List V} {v : V} (pos : 0 < xs.length) (h : xs[xs.length - 1]? = some v) : atI xs (-1) = some v := by
  unfold atI ixN
  rw [if_neg (by decide), if_pos (by omega), show ((-1 : Int) + (xs.length : Int)).toNat = xs.length - 1 by omega]
  exact h
theorem ok_sset (Fd : Fun K "set_table" "Server.set_table" sSSet f fd) (T : Tx mg) (S : Scl K CS) (I : C8.InsC K CT) (gT : mg "Table" = some (.ref CT)) (DD : Df P w K mg base 2 "is_day" ["value"] (spDay K)) : FnOk P w K mg base CX0 3 f fd ["self", "day", "table"] (spSSet P w K CT CS) := by
  refine Fd.ok scSSet (fun vs H Q E h => ?_) (fun cdv A outer s H vs Q E hr h => ?_)
  · obtain ⟨a, D, T, t, d, hs, rs, rfl, _⟩ := h
    rfl
  · obtain ⟨a, D, Tl, t, d, hs, rs, rfl, hS, hT, d0, d1, asc, few, q⟩ := h
    refine ⟨_, pss_cons (ps_if (PW.pt (pw_or (pt_not (pt_val (pe_df DD hr (pa_cons (pv 1) pa_nil)))) (pw_or1 (PW.pt (pw_and (pt_truth (pe_fld (pv 0) rfl) (fun _ => rfl)) (pw_and1 (pt_cmpR op_le (pv 1) (pe_ix ix_list (pe_fld (pv 0) rfl) (pe_un un_neg pe_int) (fun _ _ => rfl)) (nomark _)))))))) pss_dead pss_nil)
      (pss_cons (ps_if (pt_not (pt_val (pe_callB (C8.call_isC I) (by rfl) T.isi bootN (pa_cons (pv 2) (pa_cons (pe_glob (v := .ref CT) (by rfl) gT rfl) pa_nil))))) pss_dead pss_nil)
      (pss_cons (ps_expr (pe_bm PySem.F.plainAttrs_list PySem.F.slot_list_append PySem.F.type_list_append mt_append (pe_fld (pv 0) rfl) (pa_cons (pv 1) pa_nil)))
      (pss_one (ps_expr (pe_bm PySem.F.plainAttrs_list PySem.F.slot_list_append PySem.F.type_list_append mt_append (pe_fld (pv 0) rfl) (pa_cons (pv 2) pa_nil)))))), ?_⟩
    obtain ⟨dx, ts, h1, h2, h3, h4, h5⟩ := id hS
    have nd1 : numD 1000000 (.int d) = true := by simp [numD, d0, d1]
    refine ⟨_, rfl, _, .int d, rfl, .int d, _, rfl, ?_⟩
    show if (!numD 1000000 (.int d)) = true then _ else _
    rw [nd1]
    refine iteF ⟨_, rfl, a, CS, dx, _, .ref D, rfl, h1, S.cls, S.no1, rfl, _, .inl ⟨_, .of h2, rfl⟩, ?_⟩
    have lts := Paired.length h5
    have look : ∀ {x : V}, hs ≠ [] → atI (hs.map fun r => V.int r.1) (-1) = some x → ∃ e : Int, x = .int e ∧ e < d := fun {x} hn hx => by
      have pos : 0 < (hs.map fun r => V.int r.1).length := by
        rw [List.length_map]
        exact List.length_pos_iff.mpr hn
      obtain ⟨y, hy⟩ : ∃ y, (hs.map fun r => V.int r.1)[(hs.map fun r => V.int r.1).length - 1]? = some y := ⟨_, List.getElem?_eq_getElem (by omega)⟩
      rw [at_last pos hy] at hx
      cases hx
      obtain ⟨r, hr, rfl⟩ := List.mem_map.mp (List.mem_of_getElem? hy)
      exact ⟨_, rfl, asc r hr⟩
    have tail : ∀ {ys : List V}, 0 < ys.length → ∃ x, atI ys (-1) = some x := fun {ys} pos => ⟨_, at_last pos (List.getElem?_eq_getElem (by omega))⟩
    cases hs
    case' nil => refine iteF (iteF ?_)
    case' cons r0 hs0 =>
      obtain ⟨x, hx⟩ := tail (ys := (r0 :: hs0).map fun r => V.int r.1) (by simp)
      obtain ⟨e, rfl, he⟩ := look (by simp) hx
      refine iteT ⟨_, rfl, _, rfl, a, CS, dx, _, .ref D, rfl, h1, S.cls, S.no1, rfl, 1, rfl, D, _, _, _, rfl, rfl, .of h2, hx, _, _, rfl, rfl, _, rfl, ?_⟩
      rw [decide_eq_false (by omega)]
      refine iteF ?_
    all_goals
      obtain ⟨tdx, tt, td, tz, trows, tm, o8, _⟩ := id hT
      refine ⟨_, rfl, t, tdx, _, rfl, o8, _, rfl, iteF ?_⟩
      refine ⟨_, rfl, a, CS, dx, _, .ref D, rfl, h1, S.cls, S.no1, rfl, Or.inl ⟨rfl, _, Or.inl (Or.inl h2)⟩, _, rfl, D, _, _, rfl, rfl, h2, Nat.lt_of_le_of_lt (by rw [List.length_map]; exact few) (show 100 < sizeLine by decide), ?_⟩
      have nTD : Tl ≠ D := h4.symm
      have naD : a ≠ D := ne_of h1 h2 fun e => nomatch e
      have naT : a ≠ Tl := ne_of h1 h3 fun e => nomatch e
      have g1 := fun o => (upd_ne (o := o) (H := H) naD).trans h1
      have g3 := fun o => (upd_ne (o := o) (H := H) nTD).trans h3
      refine ⟨_, rfl, a, CS, dx, _, .ref Tl, rfl, g1 _, S.cls, S.no2, rfl, Or.inl ⟨rfl, _, Or.inl (Or.inl (g3 _))⟩, _, rfl, Tl, _, _, rfl, rfl, g3 _, Nat.lt_of_le_of_lt (by rw [List.length_map, lts]; exact few) (show 100 < sizeLine by decide), ?_⟩
      have off1 : ∀ (u v : HO) b o, b ≠ D → b ≠ Tl → H b = some o → (upd (upd H D u) Tl v) b = some o := fun u v b o n1 n2 e => by
        rw [upd_ne n2, upd_ne n1]
        exact e
      refine q _ (off1 _ _) ⟨dx, ts ++ [t], off1 _ _ _ _ naD naT h1, ?_, ?_, h4, ?_⟩
      · rw [upd_ne h4, upd_same, List.map_append]
        rfl
      · rw [upd_same, List.map_append]
        rfl
      · have st : ∀ {t : Addr} {rs : List Rl} (u v : List V), TabAt P w K CT H t rs → TabAt P w K CT (upd (upd H D (.lst u)) Tl (.lst v)) t rs := fun u v z =>
          TabAt.off (TabAt.off z h2 fun c o n e => (upd_ne n).trans e) (g3 _) fun c o n e => (upd_ne n).trans e
        exact (Paired.mono (fun _ _ z => st _ _ z) h5).snoc (st _ _ hT)
end
end K49
namespace K49
open PySem L2 Ld PyProof.Rows
def SrcAt (P : Program) (w : World) (K : PySem.W.Frag) (CT : Addr) (H : Hp) (xs : List V) (ss : List (List Rl × Int)) : Prop := Paired (fun v r => ∃ p t, v = V.ref p ∧ SqT K H p [.ref t, .int r.2] ∧ TabAt P w K CT H t r.1) xs ss
/-- .. of tables that stood before -/
def SrcH (P : Program) (w : World) (K : PySem.W.Frag) (CT : Addr) (H G : Hp) (xs : List V) (ss : List (List Rl × Int)) : Prop := Paired (fun v r => ∃ p t, v = V.ref p ∧ SqT K G p [.ref t, .int r.2] ∧ TabAt P w K CT H t r.1) xs ss
/-- the sources of a day -/
def srcOf (h : Hist) (day : Int) : List (List Rl × Int) := if (srcR day h.reverse day).isEmpty = true then [([], 0)] else srcR day h.reverse day
section
variable {P : Program} {w : World} {K : PySem.W.Frag} {mg : Str → Option Value} {base : Heap} {f : Addr} {fd : FuncData} {CT CS : Addr}
theorem SrcAt.same {H H' : Hp} {xs : List V} {ss : List (List Rl × Int)} (z : SrcAt P w K CT H xs ss) (s : Same H H') : SrcAt P w K CT H' xs ss := Paired.mono (fun _ _ ⟨p, t, e, h1, h2⟩ => ⟨p, t, e, same_T s h1, h2.same s⟩) z
theorem SrcAt.off {H H' : Hp} {D : Addr} {ks : List V} {xs : List V} {ss : List (List Rl × Int)} (z : SrcAt P w K CT H xs ss) (hD : H D = some (.lst ks)) (fr : ∀ c o, c ≠ D → H c = some o → H' c = some o) : SrcAt P w K CT H' xs ss :=
  Paired.mono (fun _ _ ⟨p, t, e, h1, h2⟩ => ⟨p, t, e, sqT_off hD fr h1, TabAt.off h2 hD fr⟩) z
theorem SrcH.same {H G G' : Hp} {xs : List V} {ss : List (List Rl × Int)} (z : SrcH P w K CT H G xs ss) (s : Same G G') : SrcH P w K CT H G' xs ss := Paired.mono (fun _ _ ⟨p, t, e, h1, h2⟩ => ⟨p, t, e, same_T s h1, h2⟩) z
theorem SrcH.off {H G G' : Hp} {D : Addr} {ks : List V} {xs : List V} {ss : List (List Rl × Int)} (z : SrcH P w K CT H G xs ss) (hD : G D = some (.lst ks)) (fr : ∀ c o, c ≠ D → G c = some o → G' c = some o) : SrcH P w K CT H G' xs ss :=
  Paired.mono (fun _ _ ⟨p, t, e, h1, h2⟩ => ⟨p, t, e, sqT_off hD fr h1, h2⟩) z
theorem SrcH.at {H G : Hp} {xs : List V} {ss : List (List Rl × Int)} (z : SrcH P w K CT H G xs ss) (s : Same H G) : SrcAt P w K CT G xs ss := Paired.mono (fun _ _ ⟨p, t, e, h1, h2⟩ => ⟨p, t, e, h1, h2.same s⟩) z
def spSSrc (P : Program) (w : World) (K : PySem.W.Frag) (CT CS : Addr) : Sp := fun vs H Q _ => ∃ (a D T : Addr) (hs : Hist) (day : Int) (H0 : Hp), vs = [.ref a, .int day] ∧ SrvAt P w K CT CS H0 a D T hs ∧ Same H0 H ∧ hs.length ≤ 100 ∧
  ∀ H' l xs, Same H H' → H l = none → H' l = some (.lst xs) → SrcAt P w K CT H' xs (srcOf hs day) → ((srcR day hs.reverse day).isEmpty = false → SrcH P w K CT H0 H' xs (srcOf hs day)) → Q (.ref l) H'
def ssrcN : List Str := ["self", "day", "found", "until", "start", "table"]
theorem scSSrc : FnScope ssrcN ["self", "day"] (defScope sSSrc) := ⟨rfl, rfl, rfl, by decide +kernel, rfl, by decide +kernel, by decide +kernel⟩
theorem ok_ssrc (Fd : Fun K "sources" "Server.sources" sSSrc f fd) (T : Tx mg) (Y : Ty mg) (zip : mg "zip" = none) (S : Scl K CS) (B0 : Tmk0 P w K mg base CT) : FnOk P w K mg base CX0 8 f fd ["self", "day"] (spSSrc P w K CT CS) := by
  refine Fd.ok scSSrc (fun vs H Q E h => ?_) (fun cdv A outer s H vs Q E hr h => ?_)
  · obtain ⟨a, D, T, hs, day, H0, rfl, _⟩ := h
    rfl
  · obtain ⟨a, D, Tl, hs, day, H0, rfl, hS0, s0, few, q⟩ := h
    have nd := scSSrc.nd
    refine ⟨_, pss_cons (ps_set (i := 2) nd rfl (Or.inl rfl) (pe_lst pa_nil))
      (pss_cons (ps_set (i := 3) nd rfl (Or.inl rfl) (pv 1))
      (pss_cons (ps_for PassesOwn.never rfl (RT.pi_revA (by rfl) Y.rev (pe_listZip rfl (by rfl) T.list (by rfl) zip (pa_cons (pe_fld (pv 0) rfl) (pa_cons (pe_fld (pv 0) rfl) pa_nil)))) (pg_tup rfl (pgs_cons (pg_name (i := 4) nd rfl (Or.inl rfl)) (pgs_cons (pg_name (i := 5) nd rfl (Or.inl rfl)) pgs_nil)))
        (pss_one (ps_if (pt_cmpR op_le (pv 4) (pv 1) (nomark _)) (pss_cons (ps_expr (pe_bm PySem.F.plainAttrs_list PySem.F.slot_list_append PySem.F.type_list_append mt_append (pv 2) (pa_cons (pe_tup (pa_cons (pv 5) (pa_cons (pe_op op_sub (pv 1) (pv 3)) pa_nil))) pa_nil)))
          (pss_one (ps_set (i := 3) nd rfl (Or.inl rfl) (pe_op op_sub (pv 4) pe_int)))) pss_nil)))
      (pss_one (ps_ret (pe_ifExp (pt_truth (pv 2) (fun _ => rfl)) (pv 2) (pe_lst (pa_cons (pe_tup (pa_cons (pe_table0 B0 hr) (pa_cons pe_int pa_nil))) pa_nil))))))), ?_⟩
    obtain ⟨dx, ts, h01, h02, h03, h4, h5⟩ := id hS0
    have h1 := s0 _ _ h01
    have h2 := s0 _ _ h02
    have h3 := s0 _ _ h03
    have lts := Paired.length h5
    refine ⟨(show 0 ≤ sizeLine by decide), fun F hF => ⟨_, rfl, ?_⟩⟩
    have s1 := Same.new (o := .lst []) hF
    have kF := upd_same (H := H) (a := F) (o := .lst [])
    generalize upd H F (.lst []) = G1 at s1 kF ⊢
    refine ⟨_, rfl, a, CS, dx, _, .ref D, rfl, s1 _ _ h1, S.cls, S.no1, rfl, _, rfl, a, CS, dx, _, .ref Tl, rfl, s1 _ _ h1, S.cls, S.no2, rfl, D, Tl, _, _, rfl, .of (s1 _ _ h2), .of (s1 _ _ h3), by rw [List.length_map, List.length_map, lts], fun zl ps G2 s2 nz _ kz lp np pr => ?_⟩
    rw [List.length_map] at lp
    have s12 := s1.trans s2
    have kF2 := s2 _ _ kF
    have nFz : F ≠ zl := fun e => by
      rw [← e, kF] at nz
      cases nz
    refine ⟨zl, _, rfl, .inl ⟨.of kz, RT.for_Itv (K := K) (a := zl) (xs := ps.map V.ref) (fun i σ G => Same H G ∧ (∀ c o, c ≠ F → G2 c = some o → G c = some o) ∧ ∃ u v4 v5 ys, σ = [some (.ref a), some (.int day), some (.ref F), some (.int u), v4, v5] ∧ u = untilR day (hs.reverse.take i) day ∧ G F = some (.lst ys) ∧ SrcH P w K CT H0 G ys (srcR day (hs.reverse.take i) day) ∧ ys.length ≤ i)
      ⟨s12, (fun _ _ _ e => e), day, none, none, [], rfl, rfl, kF2, .nil, Nat.le_refl _⟩ (fun i σ G h => .of (h.2.1 _ _ nFz.symm kz)) ?_ ?_⟩⟩
    · rintro i x σ G hi hx ⟨sG, frG, u, v4, v5, ys, rfl, eu, kFG, hsrc, ly⟩
      rw [List.length_map] at hi hx
      rw [lp] at hi
      have hi : i < hs.length := by simpa using hi
      have lp2 : ps.length = hs.length := by simpa using lp
      rw [List.getElem?_map, lp2] at hx
      obtain ⟨t, ht, rfl⟩ := Option.map_eq_some_iff.mp hx
      obtain ⟨r, hr2⟩ : ∃ r, hs[hs.length - 1 - i]? = some r := ⟨_, List.getElem?_eq_getElem (by omega)⟩
      obtain ⟨tb, htb⟩ : ∃ tb, ts[hs.length - 1 - i]? = some tb := ⟨_, List.getElem?_eq_getElem (by omega)⟩
      have pr1 := pr (hs.length - 1 - i) t (.int r.1) (.ref tb) ht (by rw [List.getElem?_map, hr2]; rfl) (by rw [List.getElem?_map, htb]; rfl)
      have nFt : t ≠ F := fun e => by
        rw [e, kF2] at pr1
        cases pr1
      have prG := frG _ _ nFt pr1
      have er : hs.reverse[i]? = some r := by rw [List.getElem?_reverse hi]; exact hr2
      have tk : hs.reverse.take (i + 1) = hs.reverse.take i ++ [r] := by rw [List.take_add_one, er]; rfl
      have e1 : untilR day (hs.reverse.take (i + 1)) day = if r.1 ≤ day then r.1 - 1 else u := by
        rw [tk, untilR_app, ← eu]
        rfl
      have e2 : srcR day (hs.reverse.take (i + 1)) day = srcR day (hs.reverse.take i) day ++ if r.1 ≤ day then [(r.2, day - u)] else [] := by
        rw [tk, srcR_app, ← eu]
        rfl
      have tab : TabAt P w K CT H0 tb r.2 := by
        obtain ⟨r', g1, g2⟩ := paired_get h5 htb
        rw [hr2] at g1
        cases g1
        exact g2
      refine ⟨t, _, rfl, .of prG, rfl, _, _, rfl, _, _, rfl, rfl, ?_⟩
      refine ⟨_, rfl, _, rfl, _, _, rfl, rfl, _, rfl, ?_⟩
      by_cases c : r.1 ≤ day
      · rw [decide_eq_true c]
        rw [if_pos c] at e1 e2
        refine iteT ⟨_, rfl, Or.inl ⟨rfl, _, Or.inl (Or.inl kFG)⟩, _, rfl, _, rfl, _, rfl, _, _, rfl, rfl, (show 2 ≤ sizeLine by decide), fun p hp => ?_⟩
        have s3 := Same.new (o := .tup [V.ref tb, .int (day - u)]) hp
        have kp : SqT K (upd G p (.tup [V.ref tb, .int (day - u)])) p [V.ref tb, .int (day - u)] := .of upd_same
        have kF3 := s3 _ _ kFG
        refine ⟨F, ys, _, rfl, rfl, kF3, Nat.lt_of_le_of_lt (show ys.length ≤ 100 by omega) (by decide), ?_⟩
        have hsrc3 := hsrc.same s3
        have sG3 := sG.trans s3
        have frG3 : ∀ c o, c ≠ F → G2 c = some o → (upd G p (.tup [V.ref tb, .int (day - u)])) c = some o := fun c o n e => s3 _ _ (frG c o n e)
        generalize hG3 : upd G p (.tup [V.ref tb, .int (day - u)]) = G3 at s3 kp kF3 hsrc3 sG3 frG3
        have off : ∀ (o' : HO) c o, c ≠ F → G3 c = some o → (upd G3 F o') c = some o := fun o' c o n e => (upd_ne n).trans e
        have fin := (hsrc3.off kF3 (off (.lst (ys ++ [.ref p])))).snoc (a := V.ref p) (b := (r.2, day - u)) ⟨p, tb, rfl, sqT_off kF3 (off _) kp, tab⟩
        show tSeq _ _ _ _ _
        refine ⟨_, rfl, _, _, rfl, rfl, ?_⟩
        refine ⟨fun b o e => ?_, fun c o n e => ?_, _, _, _, ys ++ [.ref p], rfl, e1.symm, ?_, ?_, ?_⟩
        · rw [upd_ne (ne_of_none e hF)]
          exact sG3 b o e
        · exact off _ c o n (frG3 c o n e)
        · exact upd_same
        · rw [e2]
          exact fin
        · rw [List.length_append, List.length_singleton]
          omega
      · rw [decide_eq_false c]
        rw [if_neg c] at e1 e2
        exact iteF ⟨sG, frG, _, _, _, ys, rfl, e1.symm, kFG, by rw [e2, List.append_nil]; exact hsrc, by omega⟩
    · rintro σ G ⟨sG, frG, u, v4, v5, ys, rfl, eu, kFG, hsrc, ly⟩
      rw [List.length_map, lp] at hsrc
      rw [List.take_of_length_le (by simp)] at hsrc
      refine ⟨_, rfl, _, .inl ⟨ys, .of kFG, rfl⟩, ?_⟩
      have le := Paired.length hsrc
      cases hy : ys with
      | nil =>
        have e0 : (srcR day hs.reverse day).isEmpty = true := by
          rw [hy] at le
          exact List.isEmpty_iff.mpr (List.length_eq_zero_iff.mp le.symm)
        refine iteF fun t0 G3 n3 s3 tab => ⟨(show 2 ≤ sizeLine by decide), fun p hp => ⟨(show 1 ≤ sizeLine by decide), fun l hl => ?_⟩⟩
        have y1 := Same.new (o := .tup [V.ref t0, .int 0]) hp
        have kp : SqT K (upd G3 p (.tup [V.ref t0, .int 0])) p [V.ref t0, .int 0] := .of upd_same
        have tab1 := tab.same y1
        have s31 := s3.trans y1
        generalize upd G3 p (.tup [V.ref t0, .int 0]) = G4 at y1 kp tab1 s31 hl ⊢
        have y2 := Same.new (o := .lst [V.ref p]) hl
        have s4 := sG.trans (s31.trans y2)
        refine q _ l [.ref p] s4 ((sG.trans s31).free hl) upd_same ?_ (fun c => by rw [e0] at c; cases c)
        unfold srcOf
        rw [if_pos e0]
        exact .cons ⟨p, t0, rfl, same_T y2 kp, tab1.same y2⟩ .nil
      | cons y ys0 =>
        have e0 : ¬ (srcR day hs.reverse day).isEmpty = true := by
          intro c
          rw [List.isEmpty_iff.mp c, hy] at le
          cases le
        have hs2 : SrcH P w K CT H0 G ys (srcOf hs day) := by
          unfold srcOf
          rw [if_neg e0]
          exact hsrc
        exact iteT ⟨_, rfl, q _ F ys sG hF (by rw [hy] at kFG ⊢; exact kFG) (hs2.at (s0.trans sG)) fun _ => hs2⟩
theorem sqT_offK {G G2 : Hp} {D p : Addr} {rows : List Rw} {xs : List V} (hD : G D = some (kdO P w D rows)) (fr : ∀ c o, c ≠ D → G c = some o → G2 c = some o) (h : SqT K G p xs) : SqT K G2 p xs := by
  rcases h with (h | ⟨o, h⟩) | h
  · exact .inl (.inl (fr _ _ (ne_of h hD fun e => nomatch e) h))
  · exact .inl (.inr ⟨o, fr _ _ (ne_of h hD fun e => nomatch e) h⟩)
  · exact .inr h
/-! ### kept -/
theorem addJ_len (js : List (List Str)) (ws : List Str) : (addJ js ws).length ≤ js.length + 1 := by
  unfold addJ
  split
  · omega
  · simp
theorem adds_len : ∀ (xs : List (List Str)) (js : List (List Str)), (xs.foldl addJ js).length ≤ js.length + xs.length
  | [], js => Nat.le_refl _
  | x :: xs, js => by
    rw [List.foldl_cons]
    have h1 := adds_len xs (addJ js x)
    have h2 := addJ_len js x
    simp only [List.length_cons]
    omega
def keptS (h : Hist) (ws : List Str) (day : Int) : List (List Str) := sortA ((keptL h ws day).foldl addJ [])
theorem src_len (day : Int) : ∀ h : Hist, (srcA day h).length ≤ h.length
  | [] => Nat.le_refl _
  | r :: h => by
    have := src_len day h
    show ((if r.1 ≤ day then [(r.2, day - lastOf day h)] else []) ++ srcA day h).length ≤ h.length + 1
    rw [List.length_append]
    split <;> simp <;> omega
theorem redir_nil (ws : List Str) : redir [] ws = none := by
  unfold redir
  have : ruleFor [] ws = none := by
    cases e : ruleFor [] ws with
    | none => rfl
    | some r => exact absurd (for_mem e) (by simp)
  rw [this]
  rfl
theorem kept_of {h : Hist} (a : Asc h) (ws : List Str) (day : Int) : sortA (((srcOf h day).filterMap (keepOf ws)).foldl addJ []) = keptS h ws day := by
  unfold srcOf keptS
  rw [src_rev day a]
  split
  · rename_i e
    have e2 : srcA day h = [] := by simpa using e
    unfold keptL
    rw [e2]
    have : keepOf ws ([], 0) = none := by
      unfold keepOf
      rw [redir_nil]
    simp [this]
  · exact kept_rev h ws day
end
end K49
namespace K49
open PySem L2 Ld PyProof.Rows
abbrev sSDays : Stmt := smeth 2
section
variable {P : Program} {w : World} {K : PySem.W.Frag} {mg : Str → Option Value} {base : Heap} {f : Addr} {fd : FuncData} {CT CS : Addr}
/-! ### what a server tells -/
/-- the rules in force on a day -/
def inForce (hs : Hist) (day : Int) : List Rl := match srcOf hs day with
  | [] => []
  | r :: _ => r.1
theorem src_pos (hs : Hist) (day : Int) : srcOf hs day ≠ [] := by
  unfold srcOf
  split
  · exact fun e => by cases e
  · rename_i h
    exact fun e => h (by rw [e]; rfl)
def spSTable (P : Program) (w : World) (K : PySem.W.Frag) (CT CS : Addr) : Sp := fun vs H Q _ => ∃ (a D T : Addr) (hs : Hist) (day : Int), vs = [.ref a, .int day] ∧ SrvAt P w K CT CS H a D T hs ∧ hs.length ≤ 100 ∧ ∀ H' t, Same H H' → TabAt P w K CT H' t (inForce hs day) → Q (.ref t) H'
theorem scSTable : FnScope ["self", "day"] ["self", "day"] (defScope sSTable) := ⟨rfl, rfl, rfl, by decide +kernel, rfl, by decide +kernel, by decide +kernel⟩
theorem ok_stable {fG : Addr} {fdG : FuncData} (Fd : Fun K "table" "Server.table" sSTable f fd) (S : Scl K CS) (mG : Meth K CS "sources" fG) (FG : FnOk P w K mg base CX0 8 fG fdG ["self", "day"] (spSSrc P w K CT CS)) (bG : Binds K fdG ["self", "day"] []) : FnOk P w K mg base CX0 9 f fd ["self", "day"] (spSTable P w K CT CS) := by
  refine Fd.ok scSTable (fun vs H Q E h => ?_) (fun cdv A outer s H vs Q E hr h => ?_)
  · obtain ⟨a, D, T, hs, day, rfl, _⟩ := h
    rfl
  · obtain ⟨a, D, Tl, hs, day, rfl, hS, few, q⟩ := h
    refine ⟨_, pss_one (ps_ret (pe_ix ix_tup (pe_ix ix_list (pe_meth (E := E0) (dvs := []) (pv 0) S.cls mG FG (hr.mono (by decide)) bG .nil (fun _ _ _ _ _ _ _ z => z) (pa_cons (pv 1) pa_nil)) pe_int (fun _ _ => rfl)) pe_int (fun _ _ => rfl))), ?_⟩
    obtain ⟨dx, ts, h1, _⟩ := id hS
    refine ⟨_, rfl, a, dx, _, rfl, h1, rfl, _, rfl, a, D, Tl, hs, day, H, rfl, hS, Same.refl H, few, fun H' l xs s1 nl hl src _ => ?_⟩
    obtain ⟨r, ss, es⟩ : ∃ r ss, srcOf hs day = r :: ss := by
      cases e : srcOf hs day with
      | nil => exact absurd e (src_pos hs day)
      | cons r ss => exact ⟨r, ss, rfl⟩
    have ef : inForce hs day = r.1 := by
      unfold inForce
      rw [es]
    rw [es] at src
    cases src with
    | cons hd tl =>
      obtain ⟨p, t, rfl, hp, tab⟩ := hd
      refine ⟨l, _, 0, _, rfl, rfl, .of hl, at_of (j := 0) rfl rfl, p, _, 0, _, rfl, rfl, hp, at_of (j := 0) rfl rfl, q H' t s1 ?_⟩
      rw [ef]
      exact tab
def spSAns (P : Program) (w : World) (K : PySem.W.Frag) (CT CS : Addr) : Sp := fun vs H Q _ => ∃ (a b D T : Addr) (hs : Hist) (ws : List Str) (day : Int), vs = [.ref a, .ref b, .int day] ∧ SrvAt P w K CT CS H a D T hs ∧ hs.length ≤ 100 ∧ SqT K H b (ws.map V.str) ∧ ws.length ≤ 10000 ∧ ∀ y H', Same H H' → Dp K H' y (answerOf (inForce hs day) ws) → Q y H'
theorem scSAns : FnScope ["self", "address", "day"] ["self", "address", "day"] (defScope sSAns) := ⟨rfl, rfl, rfl, by decide +kernel, rfl, by decide +kernel, by decide +kernel⟩
theorem ok_sans {fT fA : Addr} {fdT fdA : FuncData} (Fd : Fun K "answer" "Server.answer" sSAns f fd) (S : Scl K CS) (C : Tcl K CT) (mT : Meth K CS "table" fT) (FT : FnOk P w K mg base CX0 9 fT fdT ["self", "day"] (spSTable P w K CT CS)) (bT : Binds K fdT ["self", "day"] [])
    (mA : Meth K CT "answer" fA) (FA : FnOk P w K mg base CX0 4 fA fdA ["self", "address"] (spAns P w K CT)) (bA : Binds K fdA ["self", "address"] []) : FnOk P w K mg base CX0 10 f fd ["self", "address", "day"] (spSAns P w K CT CS) := by
  refine Fd.ok scSAns (fun vs H Q E h => ?_) (fun cdv A outer s H vs Q E hr h => ?_)
  · obtain ⟨a, b, D, T, hs, ws, day, rfl, _⟩ := h
    rfl
  · obtain ⟨a, b, D, Tl, hs, ws, day, rfl, hS, few, hb, hw, q⟩ := h
    refine ⟨_, pss_one (ps_ret (pe_meth (E := E0) (dvs := []) (pe_meth (E := E0) (dvs := []) (pv 0) S.cls mT FT (hr.mono (by decide)) bT .nil (fun _ _ _ _ _ _ _ z => z) (pa_cons (pv 2) pa_nil)) C.cls mA FA (hr.mono (by decide)) bA .nil (fun _ _ _ _ _ _ _ z => z) (pa_cons (pv 1) pa_nil))), ?_⟩
    obtain ⟨dx, ts, h1, _⟩ := id hS
    refine ⟨_, rfl, a, dx, _, rfl, h1, rfl, _, rfl, a, D, Tl, hs, day, rfl, hS, few, fun H' t s1 tab => ?_⟩
    obtain ⟨tdx, tt, td, tz, trows, tm, o8, _⟩ := id tab
    exact ⟨t, tdx, _, rfl, o8, rfl, _, rfl, t, b, _, ws, rfl, tab, same_T s1 hb, hw, fun y H2 s2 dy => q y H2 (s1.trans s2) dy⟩
end
end K49
namespace K49
open PySem L2 Ld PyProof.Rows
abbrev sHist : Stmt := top 43
abbrev sServer : Stmt := top 44
structure HOk (r : Int × List Rl) : Prop where
  lo : 0 ≤ r.1
  hi : r.1 ≤ 1000
  g : Good r.2
  t3 : ∀ t ∈ r.2, t.T3
  few : r.2.length ≤ 5
structure HistOk (h : Hist) : Prop where
  asc : Asc h
  each : ∀ r ∈ h, HOk r
  few : h.length ≤ 10
theorem asc_snoc : ∀ {h : Hist} {r : Int × List Rl}, Asc h → (∀ t ∈ h, t.1 < r.1) → Asc (h ++ [r])
  | [], _, _, _ => ⟨(fun _ h => nomatch h), trivial⟩
  | t :: h, r, a, l => ⟨fun x hx => by
      rcases List.mem_append.mp hx with hx | hx
      · exact a.1 x hx
      · rw [List.mem_singleton.mp hx]
        exact l t List.mem_cons_self, asc_snoc a.2 fun x hx => l x (List.mem_cons_of_mem _ hx)⟩
theorem asc_at : ∀ {h : Hist} {i : Nat} {r : Int × List Rl}, Asc h → h[i]? = some r → ∀ t ∈ h.take i, t.1 < r.1
  | [], _, _, _, e, _, _ => by simp at e
  | x :: h, 0, _, _, _, t, ht => by simp at ht
  | x :: h, i + 1, r, a, e, t, ht => by
    have e : h[i]? = some r := by simpa using e
    rw [List.take_succ_cons] at ht
    rcases List.mem_cons.mp ht with rfl | ht
    · exact a.1 r (List.mem_of_getElem? e)
    · exact asc_at a.2 e t ht
/-- a row of a history, apart from the list D -/
def HistQ (K : PySem.W.Frag) (D : Addr) (H : Hp) (v : V) (r : Int × List Rl) : Prop := ∃ p l ys, v = V.ref p ∧ SqT K H p [.int r.1, .ref l] ∧ l ≠ D ∧ H l = some (.lst ys) ∧ Rules K H ys r.2
section
variable {P : Program} {w : World} {K : PySem.W.Frag} {mg : Str → Option Value} {base : Heap} {f : Addr} {fd : FuncData} {CT CS : Addr}
theorem rules_refs {H : Hp} {xs : List V} {rs : List Rl} (h : Rules K H xs rs) : ∀ x ∈ xs, ∃ p, x = V.ref p := by
  induction h with
  | nil => exact fun x h => by cases h
  | cons a b ih =>
    intro x hx
    rcases List.mem_cons.mp hx with rfl | hx
    · obtain ⟨p, _, _, e, _⟩ := a
      exact ⟨p, e⟩
    · exact ih x hx
theorem HistQ.same {D : Addr} {H H' : Hp} {v : V} {r : Int × List Rl} (z : HistQ K D H v r) (s : Same H H') : HistQ K D H' v r :=
  let ⟨p, l, ys, e, h1, n, h2, h3⟩ := z; ⟨p, l, ys, e, same_T s h1, n, s _ _ h2, h3.same s⟩
theorem HistQ.ext {D : Addr} {H H' : Hp} {v : V} {r : Int × List Rl} (z : HistQ K D H v r) (s : LamX.ExtN H H') : HistQ K D H' v r :=
  let ⟨p, l, ys, e, h1, n, h2, h3⟩ := z; ⟨p, l, ys, e, ext_T s h1, n, s _ _ h2 (fun _ q => nomatch q), h3.mono fun _ _ q => ext_T s q⟩
theorem HistQ.sb {D wa : Addr} {H H' : Hp} {v : V} {r : Int × List Rl} (z : HistQ K D H v r) (W : Sm H wa) (s : Sb wa H H') : HistQ K D H' v r :=
  let ⟨p, l, ys, e, h1, n, h2, h3⟩ := z; ⟨p, l, ys, e, smT W s h1, n, s _ _ (W.ne h2 (notSm_refs (rules_refs h3))) h2, h3.mono fun _ _ q => smT W s q⟩
theorem HistQ.put {D : Addr} {H : Hp} {v : V} {r : Int × List Rl} {ks ks' : List V} (z : HistQ K D H v r) (hD : H D = some (.lst ks)) : HistQ K D (upd H D (.lst ks')) v r :=
  let ⟨p, l, ys, e, h1, n, h2, h3⟩ := z; ⟨p, l, ys, e, sqT_list hD h1, n, (upd_ne n).trans h2, h3.mono fun _ _ q => sqT_list hD q⟩
/-- a list of such rows at D -/
def HistAt (K : PySem.W.Frag) (H : Hp) (D : Addr) (h : Hist) : Prop := ∃ xs, H D = some (.lst xs) ∧ Paired (HistQ K D H) xs h
theorem histq_refs {D : Addr} {H : Hp} {xs : List V} {h : Hist} (z : Paired (HistQ K D H) xs h) : ∀ x ∈ xs, ∃ p, x = V.ref p := by
  induction z with
  | nil => exact fun x h => by cases h
  | cons a b ih =>
    intro x hx
    rcases List.mem_cons.mp hx with rfl | hx
    · obtain ⟨p, _, _, e, _⟩ := a
      exact ⟨p, e⟩
    · exact ih x hx
theorem HistAt.same {H H' : Hp} {D : Addr} {h : Hist} (z : HistAt K H D h) (s : Same H H') : HistAt K H' D h := let ⟨xs, h1, h2⟩ := z; ⟨xs, s _ _ h1, Paired.mono (fun _ _ q => q.same s) h2⟩
theorem HistAt.ext {H H' : Hp} {D : Addr} {h : Hist} (z : HistAt K H D h) (s : LamX.ExtN H H') : HistAt K H' D h := let ⟨xs, h1, h2⟩ := z; ⟨xs, s _ _ h1 (fun _ q => nomatch q), Paired.mono (fun _ _ q => q.ext s) h2⟩
theorem HistAt.sb {H H' : Hp} {D wa : Addr} {h : Hist} (z : HistAt K H D h) (W : Sm H wa) (s : Sb wa H H') : HistAt K H' D h := let ⟨xs, h1, h2⟩ := z; ⟨xs, s _ _ (W.ne h1 (notSm_refs (histq_refs h2))) h1, Paired.mono (fun _ _ q => q.sb W s) h2⟩
def spHist (K : PySem.W.Frag) : Sp := fun vs H Q _ => ∃ (wa pa : Addr) (zs : List Str) (most : Int), vs = [.ref wa, .ref pa, .int most] ∧ 1 ≤ most ∧ most ≤ 4 ∧ Sm H wa ∧ H pa = some (.lst (zs.map V.str)) ∧ zs ≠ [] ∧ zs.length ≤ 50 ∧ (∀ z ∈ zs, z ∈ tmenu) ∧
  ∀ (l : Addr) (h : Hist) (H' : Hp), HistAt K H' l h → HistOk h → h ≠ [] → h.length ≤ 4 → (∀ r ∈ h, r.1 ≤ 20) → Sm H' wa → Sb wa H H' → H l = none → Q (.ref l) H'
def histN : List Str := ["_law_stream_here", "_law_words_here", "_law_most", "_law_found", "_law_day", "_law_turn"]
theorem scHist : FnScope histN ["_law_stream_here", "_law_words_here", "_law_most"] (defScope sHist) := ⟨rfl, rfl, rfl, by decide +kernel, rfl, by decide +kernel, by decide +kernel⟩
theorem ok_hist (Fd : Fun K "_law_history" "_law_history" sHist f fd) (T : Tx mg) (D : Df P w K mg base 1 "_law_draw" ["_law_stream_here", "_law_size"] spDraw) (R : Df P w K mg base 5 "_law_rules" ["_law_stream_here", "_law_words_here", "_law_most"] (spRulesOf P w K)) :
    FnOk P w K mg base CX0 6 f fd ["_law_stream_here", "_law_words_here", "_law_most"] (spHist K) := by
  refine Fd.ok scHist (fun vs H Q E h => ?_) (fun cdv A outer s H vs Q E hr h => ?_)
  · obtain ⟨wa, pa, zs, most, rfl, _⟩ := h
    rfl
  · obtain ⟨wa, pa, zs, most, rfl, m1, m3, W, hp, hne, hlen, hm, q⟩ := h
    have nd := scHist.nd
    refine ⟨_, pss_cons (ps_par (i := 3) (j := 4) (by rfl) nd rfl rfl (by decide) rfl rfl (pa_cons (pe_lstN pa_nil) (pa_cons (pe_df D hr (pa_cons (pv 0) (pa_cons pe_int pa_nil))) pa_nil)) (by rfl))
      (pss_cons (ps_for PassesOwn.never rfl (pi_range1 rfl T.range (pa_cons (pe_op op_add pe_int (pe_df D hr (pa_cons (pv 0) (pa_cons (pv 2) pa_nil)))) pa_nil)) (pg_name (i := 5) nd rfl (Or.inl rfl))
        (pss_cons (ps_expr (pe_bm PySem.F.plainAttrs_list PySem.F.slot_list_append PySem.F.type_list_append mt_append (pv 3) (pa_cons (pe_tup (pa_cons (pv 4) (pa_cons (pe_df R hr (pa_cons (pv 0) (pa_cons (pv 1) (pa_cons pe_int pa_nil)))) pa_nil))) pa_nil)))
        (pss_one (ps_set (i := 4) nd rfl (Or.inl rfl) (pe_op op_add (pe_op op_add (pv 4) pe_int) (pe_df D hr (pa_cons (pv 0) (pa_cons pe_int pa_nil))))))))
      (pss_one (ps_ret (pv 3)))), ?_⟩
    refine ⟨(show 0 ≤ sizeLine by decide), fun F hF nF => ?_⟩
    have s1 := Same.new (o := .lst []) hF
    have kF := upd_same (H := H) (a := F) (o := .lst [])
    have W1 := W.same s1
    have hp1 := s1 _ _ hp
    have nFw : F ≠ wa := fun e => by
      obtain ⟨_, _, h, _⟩ := W
      rw [e, h] at hF
      cases hF
    have b1 : Sb wa H (upd H F (.lst [])) := .of s1
    generalize upd H F (.lst []) = G1 at s1 kF W1 hp1 b1 ⊢
    refine ⟨_, rfl, wa, 3, rfl, W1, by decide, by decide, fun d0 G2 d00 d01 W2 s2 => ⟨_, _, rfl, ?_⟩⟩
    refine ⟨_, rfl, _, rfl, wa, most, rfl, W2, by omega, by omega, fun k G3 k0 k1 W3 s3 => ?_⟩
    have s23 := s2.trans s3
    have kF3 := s23 _ _ nFw kF
    have hp3 := s23 _ _ (W1.ne hp1 (notSm_strs _)) hp1
    have b3 := b1.trans s23
    refine ⟨_, _, rfl, rfl, 1 + k, rfl, by omega, by omega, for_range (lo := 0) (n := (1 + k).toNat) (fun i σ G => Sb wa H G ∧ Sm G wa ∧ G pa = some (.lst (zs.map V.str)) ∧ ∃ (d : Int) (v5 : Option V) (xs : List V) (h : Hist), σ = [some (.ref wa), some (.ref pa), some (.int most), some (.ref F), some (.int d), v5] ∧ G F = some (.lst xs) ∧ Paired (HistQ K F G) xs h ∧ Asc h ∧ (∀ r ∈ h, HOk r ∧ r.1 < d ∧ r.1 ≤ 20) ∧ 0 ≤ d ∧ d ≤ 3 + 5 * i ∧ h.length = i)
      ⟨b3, W3, hp3, d0, none, [], [], rfl, kF3, .nil, trivial, (fun r h => nomatch h), d00, by omega, rfl⟩ ?_ ?_⟩
    · rintro i σ G hi ⟨bG, WG, hpG, d, v5, xs, h, rfl, kFG, hq, asc, hok, d0, d1, lh⟩
      have i4 : i < 4 := by omega
      refine ⟨_, rfl, Or.inl ⟨rfl, _, Or.inl (Or.inl kFG)⟩, _, rfl, _, rfl, _, rfl, wa, pa, zs, 5, rfl, by decide, WG, hpG, hne, hlen, hm, fun l ys rs G4 hl hR g t3 few W4 s4 nl => ⟨(show 2 ≤ sizeLine by decide), fun p hp2 => ?_⟩⟩
      have nlF : l ≠ F := fun e => by
        rw [e, kFG] at nl
        cases nl
      have s5 := Same.new (o := .tup [V.int d, .ref l]) hp2
      have s45 := s4.trans (.of s5)
      have kF5 := s45 _ _ nFw kFG
      have W5 := W4.same s5
      have hp5 := s45 _ _ (WG.ne hpG (notSm_strs _)) hpG
      have hq5 : Paired (HistQ K F (upd G4 p (.tup [V.int d, .ref l]))) xs h := Paired.mono (fun _ _ z => (HistQ.sb z WG s4).same s5) hq
      have kp : SqT K (upd G4 p (.tup [V.int d, .ref l])) p [V.int d, .ref l] := .of upd_same
      have hl5 := s5 _ _ hl
      have hR5 := hR.same s5
      have b5 := bG.trans s45
      clear s4 s5 hl hR s45 W4
      generalize upd G4 p (.tup [V.int d, .ref l]) = G5 at kF5 W5 hp5 hq5 kp hl5 hR5 b5 ⊢
      have lx := Paired.length hq
      refine ⟨F, xs, _, rfl, rfl, kF5, Nat.lt_of_le_of_lt (show xs.length ≤ 4 by omega) (by decide), ?_⟩
      have sb6 : Sb wa H (upd G5 F (.lst (xs ++ [.ref p]))) := fun c o n e => by
        rw [upd_ne (ne_of_none e hF)]
        exact b5 c o n e
      have kF6 := upd_same (H := G5) (a := F) (o := .lst (xs ++ [.ref p]))
      have W6 : Sm (upd G5 F (.lst (xs ++ [.ref p]))) wa := W5.off nFw.symm fun c o n e => (upd_ne n).trans e
      have npF : pa ≠ F := ne_of_none hp hF
      have hp6 : (upd G5 F (.lst (xs ++ [.ref p]))) pa = some (.lst (zs.map V.str)) := (upd_ne npF).trans hp5
      have hq6 : Paired (HistQ K F (upd G5 F (.lst (xs ++ [.ref p])))) (xs ++ [.ref p]) (h ++ [(d, rs)]) :=
        (Paired.mono (fun _ _ z => HistQ.put z kF5) hq5).snoc ⟨p, l, ys, rfl, sqT_list kF5 kp, nlF, (upd_ne nlF).trans hl5, hR5.mono fun _ _ q => sqT_list kF5 q⟩
      generalize upd G5 F (.lst (xs ++ [.ref p])) = G6 at sb6 kF6 W6 hp6 hq6 ⊢
      refine ⟨_, rfl, _, _, rfl, rfl, _, rfl, wa, 4, rfl, W6, by decide, by decide, fun k2 G7 k20 k21 W7 s7 => ⟨_, _, rfl, rfl, ?_⟩⟩
      refine ⟨sb6.trans s7, W7, s7 _ _ (W6.ne hp6 (notSm_strs _)) hp6, d + 1 + k2, _, xs ++ [.ref p], h ++ [(d, rs)], rfl, s7 _ _ nFw kF6, Paired.mono (fun _ _ z => HistQ.sb z W6 s7) hq6, asc_snoc asc fun t ht => (hok t ht).2.1, fun r hr => ?_, by omega, by omega, by simp [lh]⟩
      rcases List.mem_append.mp hr with hr | hr
      · have := hok r hr
        exact ⟨this.1, by omega, this.2.2⟩
      · rw [List.mem_singleton.mp hr]
        exact ⟨⟨d0, show d ≤ 1000 by omega, g, t3, few⟩, show d < d + 1 + k2 by omega, show d ≤ 20 by omega⟩
    · rintro σ G ⟨bG, WG, hpG, d, v5, xs, h, rfl, kFG, hq, asc, hok, d0, d1, lh⟩
      have n4 : (1 + k).toNat ≤ 4 ∧ 1 ≤ (1 + k).toNat := by omega
      refine ⟨_, rfl, q F h G ⟨xs, kFG, hq⟩ ⟨asc, fun r hr => (hok r hr).1, by omega⟩ (fun e => ?_) (by omega) (fun r hr => (hok r hr).2.2) WG bG hF⟩
      rw [e] at lh
      simp at lh
      omega
/-! ### the server of a history -/
def sortH (h : Hist) : Hist := h.map fun r => (r.1, sortR r.2)
/-- how a server is made and a table put into it -/
structure Smk (P : Program) (w : World) (K : PySem.W.Frag) (mg : Str → Option Value) (base : Heap) (CT CS : Addr) : Prop where
  s : Scl K CS
  gS : mg "Server" = some (.ref CS)
  new : ∃ fI fdI, Mk K CS fI ∧ Binds K fdI ["self"] [] ∧ FnOk P w K mg base CX0 1 fI fdI ["self"] (spSInit P w K CT CS)
  set : ∃ fS fdS, Meth K CS "set_table" fS ∧ Binds K fdS ["self", "day", "table"] [] ∧ FnOk P w K mg base CX0 3 fS fdS ["self", "day", "table"] (spSSet P w K CT CS)
def spServer (P : Program) (w : World) (K : PySem.W.Frag) (CT CS : Addr) : Sp := fun vs H Q _ => ∃ (hl : Addr) (h : Hist), vs = [.ref hl] ∧ HistAt K H hl h ∧ HistOk h ∧ ∀ H' a D T, Same H H' → H D = none → H T = none → SrvAt P w K CT CS H' a D T (sortH h) → Q (.ref a) H'
def servN : List Str := ["_law_history_here", "_law_found", "_law_day", "_law_rules_here"]
theorem scServer : FnScope servN ["_law_history_here"] (defScope sServer) := ⟨rfl, rfl, rfl, by decide +kernel, rfl, by decide +kernel, by decide +kernel⟩
theorem ok_server (Fd : Fun K "_law_server" "_law_server" sServer f fd) (T : Tx mg) (M : Smk P w K mg base CT CS) (B : TmkB P w K mg base CT) : FnOk P w K mg base CX0 8 f fd ["_law_history_here"] (spServer P w K CT CS) := by
  refine Fd.ok scServer (fun vs H Q E h => ?_) (fun cdv A outer s H vs Q E hr h => ?_)
  · obtain ⟨hl, h, rfl, _⟩ := h
    rfl
  · obtain ⟨hl, h, rfl, hA, ok, q⟩ := h
    have nd := scServer.nd
    obtain ⟨fI, fdI, mI, bI, FI⟩ := M.new
    obtain ⟨fS, fdS, mS, bS, FS⟩ := M.set
    have S := M.s
    refine ⟨_, pss_cons (ps_set (i := 1) nd rfl (Or.inl rfl) (pe_make0 (E := E0) (dvs := []) mI FI (hr.mono (by decide)) (by rfl) M.gS bI .nil (fun _ _ _ _ _ _ _ z => False.elim z)))
      (pss_cons (ps_for PassesOwn.never rfl (pi_list (pv 0)) (pg_tup rfl (pgs_cons (pg_name (i := 2) nd rfl (Or.inl rfl)) (pgs_cons (pg_name (i := 3) nd rfl (Or.inl rfl)) pgs_nil)))
        (pss_one (ps_expr (pe_meth (E := E0) (dvs := []) (pv 1) S.cls mS FS (hr.mono (by decide)) bS .nil (fun _ _ _ _ _ _ _ z => z) (pa_cons (pv 2) (pa_cons (pe_tableB B hr (pa_cons (pv 3) pa_nil)) pa_nil))))))
      (pss_one (ps_ret (pv 1)))), ?_⟩
    intro x dx nx ndx nex
    have y1 : Same H (upd (upd H dx (.own x)) x (.ins CS dx [])) := fun b o e => by
      rw [upd_ne (ne_of_none e nx), upd_ne (ne_of_none e ndx)]
      exact e
    refine ⟨x, dx, rfl, upd_same, fun G D Tl fr nD nT srv => ⟨rfl, ?_⟩⟩
    have nDH : H D = none := y1.free nD
    have nTH : H Tl = none := y1.free nT
    have sG : Same H G := fun b o e => fr b o (ne_of_none e nx) (y1 b o e)
    obtain ⟨xs, hx, hp⟩ := hA
    have lx := Paired.length hp
    refine ⟨_, rfl, hl, rfl, ⟨_, .of (sG _ _ hx)⟩, for_list (K := K) (a := hl) (xs := xs) (fun i σ G => Same H G ∧ ∃ v2 v3, σ = [some (.ref hl), some (.ref x), v2, v3] ∧ SrvAt P w K CT CS G x D Tl (sortH (h.take i)))
      ⟨sG, none, none, rfl, srv⟩ (fun i σ G _ z => .of (z.1 _ _ hx)) ?_ ?_⟩
    · rintro i y σ G2 hy ⟨s2, v2, v3, rfl, srv2⟩
      obtain ⟨r, er, p, l, ys, rfl, hp2, nlD, hl2, hR⟩ := pair_get hp hy
      have hi : i < h.length := (List.getElem?_eq_some_iff.mp er).1
      have okr := ok.each r (List.mem_of_getElem? er)
      have tk : h.take (i + 1) = h.take i ++ [r] := by rw [List.take_add_one, er]; rfl
      obtain ⟨sdx, sts, o8, _⟩ := id srv2
      have four := ok.few
      refine ⟨p, _, rfl, same_T s2 hp2, rfl, _, _, rfl, _, _, rfl, rfl, ?_⟩
      refine ⟨_, rfl, x, sdx, _, rfl, o8, rfl, _, rfl, _, rfl, ?_⟩
      dsimp only [tNil]
      refine make_spB (.inl (.of (s2 _ _ hl2))) (hR.same s2) okr.g fun tb G3 nb s3 Tb => ?_
      refine ⟨x, D, Tl, tb, r.1, sortH (h.take i), sortR r.2, rfl, srv2.same s3, Tb, okr.lo, by have := okr.hi; omega, fun t ht => ?_, ?_, fun G4 fr4 srv4 => ?_⟩
      · obtain ⟨u, hu, rfl⟩ := List.mem_map.mp ht
        exact asc_at ok.asc er u hu
      · unfold sortH
        rw [List.length_map, List.length_take]
        omega
      · refine ⟨fun b o e => ?_, _, _, rfl, ?_⟩
        · exact fr4 b o (ne_of_none e nDH) (ne_of_none e nTH) (s3 _ _ (s2 _ _ e))
        · rw [tk]
          unfold sortH at srv4 ⊢
          rw [List.map_append]
          exact srv4
    · rintro σ G2 ⟨s2, v2, v3, rfl, srv2⟩
      rw [List.take_of_length_le (by omega)] at srv2
      exact ⟨_, rfl, q G2 x D Tl s2 nDH nTH srv2⟩
end
end K49
/-! != of two lists, by the own == of what stands in them. -/
namespace Ld
open PySem L2 PyProof.Rows
/-- one turn of the walk through both lists is over: the next one -/
theorem ne_again {P : Program} {w : World} {A : Around} {R : Result → Shared → Prop} {args : Args} {s : Shared} (h : wpAny (model P w) A.in1 (Builtin.«list.__eq__.loop» args) (fun fin s' => match fin with | .done f => R (.ok f) s' | .again c' => c'.quiet = true ∧ codeAny (model P w) A c' R s') (fun e s' => R (.error e) s') s) :
    (Code.builtin "list.__eq__.loop" args).quiet = true ∧ codeAny (model P w) A (.builtin "list.__eq__.loop" args) R s := by
  have plain := MeetsSeq3.plain_eq_loop
  refine ⟨plainId_quiet plain args, codeAny_builtin MeetsSeq3.entry_eq_loop ?_⟩
  rw [show A.under (.builtin "list.__eq__.loop" args) = A.in1 from Around.under_plainId plain args]
  exact h
/-- turns of the walk through both lists, each of which says that the two are alike -/
theorem ne_turns {P : Program} {w : World} {A : Around} {R : Result → Shared → Prop} {l b : Addr} {us vs : Array Value} {St : Shared → Prop} (same : us.size = vs.size)
    (lu : ∀ s, St s → s.heap.IsList l us) (lv : ∀ s, St s → s.heap.IsList b vs)
    (alike : ∀ j (ju : j < us.size) (jv : j < vs.size) s, St s → wpAny (model P w) A.in1 (eqBool us[j] vs[j]) (fun c s' => c = true ∧ St s') (fun e s' => R (.error e) s') s)
    (fin : ∀ s, St s → R (.ok (.ret (.bool false))) s) (left : Nat) :
    ∀ (i : Nat) (s : Shared), us.size - i = left → St s → wpAny (model P w) A.in1 (Builtin.«list.__eq__.loop» ⟨[.ref l, .ref b, rawInt i, rawInt 3], []⟩) (fun fin s' => match fin with | .done f => R (.ok f) s' | .again c' => c'.quiet = true ∧ codeAny (model P w) A c' R s') (fun e s' => R (.error e) s') s := by
  have toN : ∀ i : Nat, ((i : Nat) : Int).toNat = i := fun i => Int.toNat_natCast i
  induction left with
  | zero =>
    intro i s over st
    have f := fin s st
    obtain ⟨⟨_, _, _, _⟩, gu, rfl, _, rfl⟩ := lu s st
    obtain ⟨⟨_, _, _, _⟩, gv, rfl, _, rfl⟩ := lv s st
    cases s
    wp_walk using AutoSeq1.wpAny_loadPart' gu, AutoSeq1.wpAny_loadPart' gv
    rw [toN, Array.getElem?_eq_none (show us.size ≤ i by omega), Array.getElem?_eq_none (show vs.size ≤ i by omega)]
    wp_walk using AutoSeq1.wpAny_loadPart' gu, AutoSeq1.wpAny_loadPart' gv
    have e : (us.size != vs.size) = false := by simp [same]
    rw [← e] at f
    exact f
  | succ left more =>
    intro i s over st
    have iu : i < us.size := by omega
    have iv : i < vs.size := by omega
    have turn := alike i iu iv s st
    obtain ⟨⟨_, _, _, _⟩, gu, rfl, _, rfl⟩ := lu s st
    obtain ⟨⟨_, _, _, _⟩, gv, rfl, _, rfl⟩ := lv s st
    cases s
    wp_walk using AutoSeq1.wpAny_loadPart' gu, AutoSeq1.wpAny_loadPart' gv
    rw [toN, Array.getElem?_eq_getElem iu, Array.getElem?_eq_getElem iv]
    refine wpAny_bind (wpAny_mono turn (fun c s' z => ?_) fun _ _ z => z)
    obtain ⟨rfl, st'⟩ := z
    wp_walk
    exact ne_again (more (i + 1) s' (by omega) st')
section
variable {X : Cx} {k : Nat} {f C : Addr} {fd : FuncData} {ps : List Str} {sp : Sp}
theorem refs_vals : ∀ {as : List Addr} {us : List Value}, Vals (as.map V.ref) us → us = as.map Value.ref
  | [], _, h => by cases h; rfl
  | a :: as, _, h => by
    cases h with
    | cons r t =>
      cases r
      rw [refs_vals t]
      rfl
theorem list_refs {pins : List (Addr × Obj)} {σ : L2.St} {H : Hp} {s : Shared} {l : Addr} {as : List Addr} (I : Inv X pins σ H s) (h : H l = some (.lst (as.map V.ref))) : s.heap.IsList l (as.map Value.ref).toArray := by
  obtain ⟨z, its, n, r, hl, e⟩ := I.lstM h
  rw [refs_vals r] at e
  exact ⟨_, e, rfl, n, rfl⟩
/-- two things that their class's own == says are alike -/
def AlikeO (C : Addr) (sp : Sp) (H : Hp) (a c : Addr) : Prop := (∃ dx fs dy gs, H a = some (.ins C dx fs) ∧ H c = some (.ins C dy gs)) ∧ sp [.ref a, .ref c] H (fun v H2 => v = .bl true ∧ H2 = H) E0
theorem eqB_own (hs : PySem.W.findIn X.K (.ref C) "__eq__" = some (some (.ref f))) (hf : PySem.W.isFn X.K (.ref f) = true) (F : FnOk X.prog X.w X.K X.mg X.base CX0 k f fd ps sp) (hr : Room (k + 1) X.A) (hb : Binds X.K fd ps []) {pins : List (Addr × Obj)} {σ : L2.St} {H : Hp} {s : Shared} {a c : Addr} {E : Value → Shared → Prop}
    (I : Inv X pins σ H s) (al : AlikeO C sp H a c) : wpAny (model X.prog X.w) X.A.in1 (eqBool (.ref a) (.ref c)) (fun t s' => t = true ∧ Inv X pins σ H s') E s := by
  obtain ⟨⟨dx, fs, dy, gs, ha, hc⟩, q⟩ := al
  unfold eqBool
  refine wpAny_holding ?_
  refine wpAny_ite_split (fun _ => wpAny_bind (wpAny_rule (wpAny_pure ⟨rfl, I⟩))) (fun _ => ?_)
  obtain ⟨mA0, J, _⟩ := ins_get I.hok ha
  obtain ⟨od, J, _⟩ := J.look
  obtain ⟨mB, J2, _⟩ := ins_get I.hok hc
  obtain ⟨od2, J2, _⟩ := J2.look
  obtain ⟨m, hF⟩ := I.fr
  refine wpAny_bind (PySem.W.cmp_K (op := .Eq) (tb := .ref C) hr.in1.units0 hF I.ok.mod.kin J J2.type (by simp [PySem.W.notFirst]) hs hf (wpAny_mono (run_own (vs := [.ref a, .ref c]) F hb hr.in1 rfl I (.cons rfl (.cons rfl .nil)) q) (fun v s' z => ?_) fun _ _ z => z))
  obtain ⟨y, H2, I2, ry, e, e2⟩ := z
  subst e e2
  cases ry
  exact wpAny_truthy_bool ⟨rfl, I2⟩
def rNeLO (C : Addr) (sp : Sp) : R2 := fun x y H Q => ∃ (l b : Addr) (as cs : List Addr), x = .ref l ∧ y = .ref b ∧ H l = some (.lst (as.map V.ref)) ∧ H b = some (.lst (cs.map V.ref)) ∧ as.length = cs.length ∧ (∀ (j : Nat) a c, as[j]? = some a → cs[j]? = some c → AlikeO C sp H a c) ∧ Q (.bl false) H
theorem op_neLO (hs : PySem.W.findIn X.K (.ref C) "__eq__" = some (some (.ref f))) (hf : PySem.W.isFn X.K (.ref f) = true) (F : FnOk X.prog X.w X.K X.mg X.base CX0 k f fd ps sp) (hr : Room (k + 1) X.A) (hb : Binds X.K fd ps []) : OpR X (compareOp .NotEq) (rNeLO C sp) := by
  intro pins s σ H x y v u Q I rx ry ⟨l, b, as, cs, e1, e2, hl, hc, hlen, al, q⟩
  subst e1 e2
  cases rx
  cases ry
  show wpAny (model X.prog X.w) X.A (richCompare .NotEq (.ref l) (.ref b)) (EP X pins σ Q) X.xe s
  obtain ⟨⟨_, _, _, _⟩, ho, rfl, _, rfl⟩ := list_refs I hl
  obtain ⟨⟨_, _, _, _⟩, ho2, rfl, _, rfl⟩ := list_refs I hc
  have hsz : ((as.map Value.ref).toArray).size = ((cs.map Value.ref).toArray).size := by simp [hlen]
  refine wpAny_richCompare_same_room (T := "list") (op := .NotEq) ⟨_, ho, rfl⟩ ⟨_, ho2, rfl⟩ PySem.F.slot_list_ne (wpAny_call (codeAny_call_builtin PySem.F.slot_list_ne.plain PySem.F.entry_list_ne (PySem.F.slot_list_ne.check _ _ _ _ _ _ _ _ ⟨_, ho, rfl⟩ (PySem.F.args_list_ne_2 _ _) ?_))) hr.units0
  have turns := ne_turns (P := X.prog) (w := X.w) (A := X.A) (R := wants (fun v s' => v ≠ .notImplemented ∧ EP X pins σ Q v s') X.xe) (l := l) (b := b) (St := Inv X pins σ H) hsz (fun s I => list_refs I hl) (fun s I => list_refs I hc)
    (fun j h1 h2 s I => by
      rw [List.size_toArray, List.length_map] at h1 h2
      simp only [List.getElem_toArray, List.getElem_map]
      exact eqB_own hs hf F hr hb I (al j _ _ (List.getElem?_eq_getElem h1) (List.getElem?_eq_getElem h2)))
    (fun s I => ⟨(fun z => nomatch z), .bl false, H, I, rfl, q⟩) _ 0 s rfl I
  cases s
  have both := AutoSeq1.sub_list_list
  have long : (((as.map Value.ref).toArray).size != ((cs.map Value.ref).toArray).size) ≠ true := by simp [hsz]
  wp_walk using AutoSeq1.wpAny_loadPart' ho, AutoSeq1.wpAny_loadPart' ho2
  exact ne_again turns
end
end Ld
/-! == of two lists by the own == of what stands in them, whichever it says. -/
namespace Ld
open PySem L2 PyProof.Rows
/-- all of the first n say yes -/
def allB (b : Nat → Bool) : Nat → Bool
  | 0 => true
  | n + 1 => allB b n && b n
theorem allB_iff (b : Nat → Bool) : ∀ n, allB b n = true ↔ ∀ j < n, b j = true
  | 0 => ⟨fun _ j h => absurd h (Nat.not_lt_zero j), fun _ => rfl⟩
  | n + 1 => by
    rw [allB, Bool.and_eq_true, allB_iff b n]
    constructor
    · rintro ⟨h1, h2⟩ j hj
      by_cases e : j = n
      · rw [e]; exact h2
      · exact h1 j (by omega)
    · exact fun h => ⟨fun j hj => h j (by omega), h n (Nat.lt_succ_self n)⟩
theorem eqB_walk {P : Program} {w : World} {A : Around} {R : Result → Shared → Prop} {l b : Addr} {us vs : Array Value} {St : Shared → Prop} {bs : Nat → Bool} (same : us.size = vs.size)
    (lu : ∀ s, St s → s.heap.IsList l us) (lv : ∀ s, St s → s.heap.IsList b vs)
    (turn : ∀ j (ju : j < us.size) (jv : j < vs.size) s, St s → wpAny (model P w) A.in1 (eqBool us[j] vs[j]) (fun c s' => c = bs j ∧ St s') (fun e s' => R (.error e) s') s)
    (fin : ∀ s, St s → R (.ok (.ret (.bool (allB bs us.size)))) s) (left : Nat) :
    ∀ (i : Nat) (s : Shared), us.size - i = left → i ≤ us.size → (∀ j < i, bs j = true) → St s → wpAny (model P w) A.in1 (Builtin.«list.__eq__.loop» ⟨[.ref l, .ref b, rawInt i, rawInt 2], []⟩) (fun fin s' => match fin with | .done f => R (.ok f) s' | .again c' => c'.quiet = true ∧ codeAny (model P w) A c' R s') (fun e s' => R (.error e) s') s := by
  have toN : ∀ i : Nat, ((i : Nat) : Int).toNat = i := fun i => Int.toNat_natCast i
  induction left with
  | zero =>
    intro i s over le yes st
    have ei : i = us.size := by omega
    have f := fin s st
    rw [(allB_iff bs us.size).mpr (ei ▸ yes)] at f
    obtain ⟨⟨_, _, _, _⟩, gu, rfl, _, rfl⟩ := lu s st
    obtain ⟨⟨_, _, _, _⟩, gv, rfl, _, rfl⟩ := lv s st
    cases s
    wp_walk using AutoSeq1.wpAny_loadPart' gu, AutoSeq1.wpAny_loadPart' gv
    rw [toN, Array.getElem?_eq_none (show us.size ≤ i by omega), Array.getElem?_eq_none (show vs.size ≤ i by omega)]
    wp_walk using AutoSeq1.wpAny_loadPart' gu, AutoSeq1.wpAny_loadPart' gv
    have e : (us.size == vs.size) = true := by simp [same]
    rw [← e] at f
    exact f
  | succ left more =>
    intro i s over le yes st
    have iu : i < us.size := by omega
    have iv : i < vs.size := by omega
    have t := turn i iu iv s st
    obtain ⟨⟨_, _, _, _⟩, gu, rfl, _, rfl⟩ := lu s st
    obtain ⟨⟨_, _, _, _⟩, gv, rfl, _, rfl⟩ := lv s st
    cases s
    wp_walk using AutoSeq1.wpAny_loadPart' gu, AutoSeq1.wpAny_loadPart' gv
    rw [toN, Array.getElem?_eq_getElem iu, Array.getElem?_eq_getElem iv]
    refine wpAny_bind (wpAny_mono t (fun c s' z => ?_) fun _ _ z => z)
    obtain ⟨rfl, st'⟩ := z
    cases hb : bs i with
    | true =>
      wp_walk
      exact ne_again (more (i + 1) s' (by omega) (by omega) (fun j hj => by
        by_cases e : j = i
        · rw [e]; exact hb
        · exact yes j (by omega)) st')
    | false =>
      have no : allB bs us.size = false := by
        cases e : allB bs us.size with
        | false => rfl
        | true =>
          have := (allB_iff bs us.size).mp e i iu
          rw [hb] at this
          cases this
      have f := fin s' st'
      rw [no] at f
      obtain ⟨⟨_, _, _, _⟩, gu2, rfl, _, rfl⟩ := lu s' st'
      obtain ⟨⟨_, _, _, _⟩, gv2, rfl, _, rfl⟩ := lv s' st'
      cases s'
      wp_walk using AutoSeq1.wpAny_loadPart' gu2, AutoSeq1.wpAny_loadPart' gv2
      rw [Array.getElem?_eq_getElem iu, Array.getElem?_eq_getElem iv]
      wp_walk
      exact f
section
variable {X : Cx} {k : Nat} {f C : Addr} {fd : FuncData} {ps : List Str} {sp : Sp}
/-- what the class's own == says of two things -/
def SaysO (X : Cx) (C : Addr) (sp : Sp) (H : Hp) (a c : Addr) (t : Bool) : Prop := (∃ dx fs dy gs, H a = some (.ins C dx fs) ∧ H c = some (.ins C dy gs)) ∧ (a = c → ∀ pins σ s, Inv X pins σ H s → t = true) ∧ sp [.ref a, .ref c] H (fun v H2 => v = .bl t ∧ H2 = H) E0
theorem eqB_says (hs : PySem.W.findIn X.K (.ref C) "__eq__" = some (some (.ref f))) (hf : PySem.W.isFn X.K (.ref f) = true) (F : FnOk X.prog X.w X.K X.mg X.base CX0 k f fd ps sp) (hr : Room (k + 1) X.A) (hb : Binds X.K fd ps []) {pins : List (Addr × Obj)} {σ : L2.St} {H : Hp} {s : Shared} {a c : Addr} {t : Bool} {E : Value → Shared → Prop}
    (I : Inv X pins σ H s) (al : SaysO X C sp H a c t) : wpAny (model X.prog X.w) X.A.in1 (eqBool (.ref a) (.ref c)) (fun r s' => r = t ∧ Inv X pins σ H s') E s := by
  obtain ⟨⟨dx, fs, dy, gs, ha, hc⟩, same, q⟩ := al
  unfold eqBool
  refine wpAny_holding ?_
  refine wpAny_ite_split (fun h => wpAny_bind (wpAny_rule (wpAny_pure ⟨(same (by have := eq_of_beq h; injection this) _ _ _ I).symm, I⟩))) (fun _ => ?_)
  obtain ⟨mA0, J, _⟩ := ins_get I.hok ha
  obtain ⟨od, J, _⟩ := J.look
  obtain ⟨mB, J2, _⟩ := ins_get I.hok hc
  obtain ⟨od2, J2, _⟩ := J2.look
  obtain ⟨m, hF⟩ := I.fr
  refine wpAny_bind (PySem.W.cmp_K (op := .Eq) (tb := .ref C) hr.in1.units0 hF I.ok.mod.kin J J2.type (by simp [PySem.W.notFirst]) hs hf (wpAny_mono (run_own (vs := [.ref a, .ref c]) F hb hr.in1 rfl I (.cons rfl (.cons rfl .nil)) q) (fun v s' z => ?_) fun _ _ z => z))
  obtain ⟨y, H2, I2, ry, e, e2⟩ := z
  subst e e2
  cases ry
  exact wpAny_truthy_bool ⟨rfl, I2⟩
def rEqLB (X : Cx) (C : Addr) (sp : Sp) : R2 := fun x y H Q => ∃ (l b : Addr) (as cs : List Addr) (bs : Nat → Bool), x = .ref l ∧ y = .ref b ∧ H l = some (.lst (as.map V.ref)) ∧ H b = some (.lst (cs.map V.ref)) ∧ as.length = cs.length ∧ (∀ (j : Nat) a c, as[j]? = some a → cs[j]? = some c → SaysO X C sp H a c (bs j)) ∧ Q (.bl (allB bs as.length)) H
theorem op_eqLB (hs : PySem.W.findIn X.K (.ref C) "__eq__" = some (some (.ref f))) (hf : PySem.W.isFn X.K (.ref f) = true) (F : FnOk X.prog X.w X.K X.mg X.base CX0 k f fd ps sp) (hr : Room (k + 1) X.A) (hb : Binds X.K fd ps []) : OpR X (compareOp .Eq) (rEqLB X C sp) := by
  intro pins s σ H x y v u Q I rx ry ⟨l, b, as, cs, bs, e1, e2, hl, hc, hlen, al, q⟩
  subst e1 e2
  cases rx
  cases ry
  show wpAny (model X.prog X.w) X.A (richCompare .Eq (.ref l) (.ref b)) (EP X pins σ Q) X.xe s
  obtain ⟨⟨_, _, _, _⟩, ho, rfl, _, rfl⟩ := list_refs I hl
  obtain ⟨⟨_, _, _, _⟩, ho2, rfl, _, rfl⟩ := list_refs I hc
  have hsz : ((as.map Value.ref).toArray).size = ((cs.map Value.ref).toArray).size := by simp [hlen]
  refine wpAny_richCompare_same_room (T := "list") (op := .Eq) ⟨_, ho, rfl⟩ ⟨_, ho2, rfl⟩ PySem.F.slot_list_eq (wpAny_call (codeAny_call_builtin PySem.F.slot_list_eq.plain PySem.F.entry_list_eq (PySem.F.slot_list_eq.check _ _ _ _ _ _ _ _ ⟨_, ho, rfl⟩ (PySem.F.args_list_eq_2 _ _) ?_))) hr.units0
  have turns := eqB_walk (P := X.prog) (w := X.w) (A := X.A) (R := wants (fun v s' => v ≠ .notImplemented ∧ EP X pins σ Q v s') X.xe) (l := l) (b := b) (St := Inv X pins σ H) (bs := bs) hsz (fun s I => list_refs I hl) (fun s I => list_refs I hc)
    (fun j h1 h2 s I => by
      rw [List.size_toArray, List.length_map] at h1 h2
      simp only [List.getElem_toArray, List.getElem_map]
      exact eqB_says hs hf F hr hb I (al j _ _ (List.getElem?_eq_getElem h1) (List.getElem?_eq_getElem h2)))
    (fun s I => ⟨(fun z => nomatch z), .bl _, H, I, rfl, by rw [List.size_toArray, List.length_map]; exact q⟩) _ 0 s rfl (Nat.zero_le _) (fun j hj => absurd hj (Nat.not_lt_zero j)) I
  cases s
  have both := AutoSeq1.sub_list_list
  have long : (((as.map Value.ref).toArray).size != ((cs.map Value.ref).toArray).size) ≠ true := by simp [hsz]
  wp_walk using AutoSeq1.wpAny_loadPart' ho, AutoSeq1.wpAny_loadPart' ho2
  exact ne_again turns
end
end Ld
namespace K49
open PySem L2 Ld PyProof.Rows
section
variable {K : PySem.W.Frag} {H : Hp}
mutual
/-- what stands at a place is one -/
theorem dp_det (hT : ∀ a xs ys, SqT K H a xs → SqT K H a ys → xs = ys) : ∀ (d : PyData) (v : V) (d' : PyData), bareB d = true → bareB d' = true → Dp K H v d → Dp K H v d' → d = d'
  | .none, _, _, _, _, z, z' => by cases z; cases z'; rfl
  | .bool b, _, _, _, _, z, z' => by cases z; cases z'; rfl
  | .int i, _, _, _, _, z, z' => by cases z; cases z'; rfl
  | .str x, _, _, _, _, z, z' => by cases z; cases z'; rfl
  | .list ds, _, _, e, _, _, _ => by cases e
  | .dict ds, _, _, e, _, _, _ => by cases e
  | .tuple ds, _, d', e, e', z, z' => by
    cases z with
    | tup h1 h2 =>
      cases z' with
      | tup g1 g2 =>
        have := hT _ _ _ h1 g1
        subst this
        rw [dpAll_det hT ds _ _ e e' h2 g2]
      | _ => cases e'
theorem dpAll_det (hT : ∀ a xs ys, SqT K H a xs → SqT K H a ys → xs = ys) : ∀ (ds : List PyData) (vs : List V) (ds' : List PyData), bareAll ds = true → bareAll ds' = true → DpAll K H vs ds → DpAll K H vs ds' → ds = ds'
  | [], _, _, _, _, z, z' => by cases z; cases z'; rfl
  | d :: ds, _, ds', e, e', z, z' => by
    have e2 := Bool.and_eq_true_iff.mp (show (bareB d && bareAll ds) = true from e)
    cases z with
    | cons a b =>
      cases z' with
      | cons a' b' =>
        have e3 := Bool.and_eq_true_iff.mp (show (bareB _ && bareAll _) = true from e')
        rw [dp_det hT d _ _ e2.1 e3.1 a a', dpAll_det hT ds _ _ e2.2 e3.2 b b']
end
end
theorem bare_rl (r : Rl) : bareB r.d = true := by
  obtain ⟨e, pl, an⟩ := r
  cases an <;> simp [Rl.d, An.d, wt, bareB, bareAll, bare_ws]
theorem bare_rls : ∀ rs : List Rl, bareAll (rs.map Rl.d) = true
  | [] => rfl
  | r :: rs => Bool.and_eq_true_iff.mpr ⟨bare_rl r, bare_rls rs⟩
/-- a table says one list of rules -/
theorem tab_one {X : Cx} {pins : List (Addr × Obj)} {σ : L2.St} {H : Hp} {s : Shared} {CT a : Addr} {rs ts : List Rl} (I : Inv X pins σ H s) (h : TabAt X.prog X.w X.K CT H a rs) (g : TabAt X.prog X.w X.K CT H a ts) : rs = ts := by
  obtain ⟨dx, t, d, xs, rows, mx, h1, h2, h3, h4, h5, h6, h7⟩ := h
  obtain ⟨dy, u, d', ys, rows', my, g1, g2, g3, g4, g5, g6, g7⟩ := g
  rw [h1] at g1
  have e := (HO.ins.inj (Option.some.inj g1)).2.2
  have et : t = u := by
    have := (List.cons.inj e).1
    have := (Prod.mk.inj this).2
    injection this
  subst et
  have ex := I.tuple_inj h2 g2
  subst ex
  have ed := dpAll_det (fun a xs ys z z' => I.tuple_inj z z') _ _ _ (bare_rls rs) (bare_rls ts) h3.dp g3.dp
  have e1 := eqv_rls rs ts
  rw [← ed, PySem.SeqAt.eqvAll_refl _ (lay_rls h4.ok)] at e1
  exact of_decide_eq_true e1.symm
end K49
/-! xs != [], whatever is in xs. -/
namespace Ld
open PySem L2 PyProof.Rows
def rNe0 : R2 := fun x y H Q => ∃ a b xs, x = .ref a ∧ y = .ref b ∧ H a = some (.lst xs) ∧ H b = some (.lst []) ∧ Q (.bl (!xs.isEmpty)) H
theorem op_ne0 {X : Cx} (hu : X.A.units + 64 < cLine) : OpR X (compareOp .NotEq) rNe0 := by
  intro pins s σ H x y v u Q I rx ry h
  obtain ⟨a, b, xs, rfl, rfl, ha, hb, q⟩ := h
  cases xs with
  | nil => exact op_neD hu pins s σ H _ _ v u Q I rx ry ⟨.list [], .list [], .lst (.of ha) .nil, .lst (.of hb) .nil, by decide, by decide, q⟩
  | cons y ys =>
    cases rx
    cases ry
    obtain ⟨_, its, n, r, e1⟩ := (show ObjOk X.prog X.w H s.heap a (.lst (y :: ys)) from I.hok a _ ha)
    obtain ⟨_, its2, n2, r2, e2⟩ := (show ObjOk X.prog X.w H s.heap b (.lst []) from I.hok b _ hb)
    cases r2
    have ln : its.length = ys.length + 1 := by rw [← r.length]; rfl
    show wpAny (model X.prog X.w) X.A (richCompare .NotEq (.ref a) (.ref b)) (EP X pins σ Q) X.xe s
    refine wpAny_richCompare_same_room (T := "list") (op := .NotEq) ⟨_, e1, rfl⟩ ⟨_, e2, rfl⟩ PySem.F.slot_list_ne (wpAny_call (codeAny_call_builtin PySem.F.slot_list_ne.plain PySem.F.entry_list_ne (PySem.F.slot_list_ne.check _ _ _ _ _ _ _ _ ⟨_, e1, rfl⟩ (PySem.F.args_list_ne_2 _ _) ?_))) (by omega)
    have fin : EP X pins σ Q (.bool true) s := ⟨.bl true, H, I, rfl, q⟩
    cases s
    have both := AutoSeq1.sub_list_list
    have long : (its.toArray.size != ([] : List Value).toArray.size) = true := by simp [ln]
    wp_walk using AutoSeq1.wpAny_loadPart' e1, AutoSeq1.wpAny_loadPart' e2
    exact ⟨(fun z => nomatch z), fin⟩
end Ld
namespace K49
open PySem L2 Ld PyProof.Rows
section
variable {P : Program} {w : World} {K : PySem.W.Frag} {mg : Str → Option Value} {base : Heap} {f : Addr} {fd : FuncData}
def spShufV (K : PySem.W.Frag) : Sp := fun vs H Q _ => ∃ (wa la : Addr) (xs : List V), vs = [.ref wa, .ref la] ∧ Sm H wa ∧ SqL K H la xs ∧ xs.length ≤ 100 ∧
  ∀ (l : Addr) (ys : List V) (H' : Hp), H' l = some (.lst ys) → (∀ z ∈ ys, z ∈ xs) → ys.length = xs.length → Sm H' wa → Sb wa H H' → H l = none → Q (.ref l) H'
theorem ok_shufV (Fd : Fun K "_law_shuffled" "_law_shuffled" sShuf f fd) (T : Tx mg) (D : Df P w K mg base 1 "_law_draw" ["_law_stream_here", "_law_size"] spDraw) : FnOk P w K mg base CX0 2 f fd ["_law_stream_here", "_law_items"] (spShufV K) := by
  refine Fd.ok scShuf (fun vs H Q E h => ?_) (fun cdv A outer s H vs Q E hr h => ?_)
  · obtain ⟨wa, la, zs, rfl, _⟩ := h
    rfl
  · obtain ⟨wa, la, zs, rfl, W, hS, hlen, q⟩ := h
    have nd := scShuf.nd
    refine ⟨_, pss_cons (ps_par (i := 2) (j := 3) (by rfl) nd rfl rfl (by decide) rfl rfl (pa_cons (pe_callTy call_list_of (by rfl) T.list (by decide +kernel) (pa_cons (pv 1) pa_nil)) (pa_cons (pe_lstN pa_nil) pa_nil)) (by rfl))
      (pss_cons (ps_while PassesOwn.never (pt_cmpR (op_ne0 hr.units) (pv 2) (pe_lst pa_nil) (nomark _))
        (pss_one (ps_expr (pe_bm PySem.F.plainAttrs_list PySem.F.slot_list_append PySem.F.type_list_append mt_append (pv 3) (pa_cons (pe_bm PySem.F.plainAttrs_list PySem.F.slot_list_pop PySem.F.type_list_pop mt_popAt (pv 2)
          (pa_cons (pe_df D hr (pa_cons (pv 0) (pa_cons (pe_callB call_len_seq (by rfl) T.len PySem.boot_len (pa_cons (pv 2) pa_nil)) pa_nil))) pa_nil)) pa_nil)))))
      (pss_one (ps_ret (pv 3)))), ?_⟩
    refine ⟨_, rfl, la, _, rfl, .inl hS, fun l hl => ⟨(show 0 ≤ sizeLine by decide), fun mx hm nm => ⟨_, _, rfl, ?_⟩⟩⟩
    have s1 := Same.new (o := .lst (zs)) hl
    have s2 := Same.new (o := .lst []) hm
    have nl : H l = none := hl
    have nmx : H mx = none := s1.free hm
    have kl := s2 _ _ (upd_same (H := H) (a := l) (o := .lst (zs)))
    have km := upd_same (H := upd H l (.lst (zs))) (a := mx) (o := .lst [])
    have ne : l ≠ mx := ne_of_none (upd_same (H := H) (a := l) (o := .lst (zs))) hm
    have s12 := s1.trans s2
    have W2 := W.same s12
    have b2 : Sb wa H (upd (upd H l (.lst (zs))) mx (.lst [])) := .of s12
    generalize upd (upd H l (.lst (zs))) mx (.lst []) = G2 at kl km W2 b2 ⊢
    have wlH : ∀ c, H c = none → c ≠ wa := fun c hc e => by
      obtain ⟨_, _, h, _⟩ := W
      rw [e, h] at hc
      cases hc
    refine ⟨fun m σ G => ∃ us ys : List V, σ = [some (.ref wa), some (.ref la), some (.ref l), some (.ref mx)] ∧ G l = some (.lst (us)) ∧ G mx = some (.lst (ys)) ∧ (∀ z ∈ us, z ∈ zs) ∧ (∀ z ∈ ys, z ∈ zs) ∧ us.length + ys.length = zs.length ∧ Sm G wa ∧ Sb wa H G ∧ m = us.length,
      ⟨_, zs, [], rfl, kl, km, (fun z hz => hz), (fun z hz => nomatch hz), rfl, W2, b2, rfl⟩, ?_⟩
    rintro m σ G ⟨us, ys, rfl, gl, gm, hu, hy, hlen2, WG, sG, rfl⟩
    refine ⟨_, rfl, (show 0 ≤ sizeLine by decide), fun d hd => ?_⟩
    have s3 := Same.new (o := .lst []) hd
    have gl3 := s3 _ _ gl
    have gm3 := s3 _ _ gm
    have WG3 := WG.same s3
    have sG3 := sG.trans (.of s3)
    have kd3 := upd_same (H := G) (a := d) (o := .lst [])
    refine ⟨l, d, us, rfl, rfl, gl3, kd3, _, rfl, ?_⟩
    generalize upd G d (.lst []) = G3 at gl3 gm3 WG3 sG3 kd3 ⊢
    cases hus : us with
    | nil =>
      subst hus
      exact iteF ⟨_, rfl, q mx ys G3 gm3 hy (by simpa using hlen2) WG3 sG3 nmx⟩
    | cons u0 us0 =>
      rw [← hus]
      have e0 : us.isEmpty = false := by
        rw [hus]
        rfl
      rw [e0]
      have nlw := wlH l nl
      have nmw := wlH mx nmx
      have pos : 0 < us.length := by rw [hus]; simp
      refine iteT ⟨_, fun σ' G' h => h, ?_⟩
      refine ⟨_, rfl, Or.inl ⟨rfl, _, Or.inl (Or.inl gm3)⟩, _, rfl, Or.inl ⟨rfl, _, Or.inl (Or.inl gl3)⟩, _, rfl, _, rfl, l, _, rfl, .inl (.of gl3), wa, _, rfl, WG3, by omega, by omega, fun k G4 k0 k1 W4 s4 => ?_⟩
      have gl4 := s4 _ _ nlw gl3
      have gm4 := s4 _ _ nmw gm3
      obtain ⟨z, hz⟩ : ∃ z, us[k.toNat]? = some z := ⟨us[k.toNat]'(by omega), List.getElem?_eq_getElem _⟩
      have hzm := hu z (List.mem_of_getElem? hz)
      refine ⟨l, us, k, k.toNat, z, rfl, rfl, gl4, by omega, by omega, seq_at k0 k1, hz, ?_⟩
      have gm5 : (upd G4 l (.lst ((us).eraseIdx k.toNat))) mx = some (.lst (ys)) := (upd_ne ne.symm).trans gm4
      refine ⟨mx, ys, z, rfl, rfl, gm5, Nat.lt_of_le_of_lt (show ys.length ≤ 100 by omega) (by decide), ?_⟩
      have le : (us.eraseIdx k.toNat).length = us.length - 1 := List.length_eraseIdx_of_lt (by omega)
      have sb : ∀ {A B : Hp}, Sb wa H A → (∀ c o, c ≠ l → c ≠ mx → A c = some o → B c = some o) → Sb wa H B := fun {A B} h1 h2 c o n e => h2 c o (ne_of_none e nl) (ne_of_none e nmx) (h1 c o n e)
      refine ⟨(us.eraseIdx k.toNat).length, by omega, us.eraseIdx k.toNat, ys ++ [z], rfl, ?_, ?_, fun x hx => hu x (List.mem_of_mem_eraseIdx hx), fun x hx => ?_, by rw [List.length_append, List.length_singleton]; omega, ?_, ?_, rfl⟩
      · rw [upd_ne ne, upd_same]
      · exact upd_same
      · rcases List.mem_append.mp hx with h | h
        · exact hy x h
        · rw [List.mem_singleton.mp h]
          exact hzm
      · obtain ⟨a1, a2, a3, a4⟩ := W4
        exact ⟨a1, a2, by rw [upd_ne (wlH mx nmx).symm, upd_ne (wlH l nl).symm]; exact a3, a4⟩
      · exact sb (sG3.trans s4) fun c o n1 n2 e => by
          rw [upd_ne n2, upd_ne n1]
          exact e
end
/-- places out of some places -/
theorem places_of {K : PySem.W.Frag} {H : Hp} {xs : List V} {pls : List (List Str)} (z : Places K H xs pls) : ∀ {ys : List V}, (∀ y ∈ ys, y ∈ xs) → ∃ qls, Places K H ys qls ∧ ∀ q ∈ qls, q ∈ pls
  | [], _ => ⟨[], .nil, fun q h => by cases h⟩
  | y :: ys, h => by
    obtain ⟨qls, h1, h2⟩ := places_of z (ys := ys) fun x hx => h x (List.mem_cons_of_mem _ hx)
    obtain ⟨i, hi⟩ := List.getElem?_of_mem (h y List.mem_cons_self)
    obtain ⟨ws, e, p, rfl, t⟩ := pair_get z hi
    exact ⟨ws :: qls, .cons ⟨p, rfl, t⟩ h1, fun q hq => by
      rcases List.mem_cons.mp hq with rfl | hq
      · exact List.mem_of_getElem? e
      · exact h2 q hq⟩
end K49
namespace K49
open PySem PySem.Spec L2 Ld PyProof.Rows
theorem call_reprDK {X : Cx} {K : PySem.W.Frag} (hG : X.A.guards = some []) (hu : X.A.units + 64 < cLine) (hK : X.K = K := by rfl) : CallR X (.builtin "repr") (fun xs H Q => ∃ v d, xs = [v] ∧ Dp K H v d ∧ d.hasDict = false ∧ Small d ∧ Q (.str d.shown) H) := by
  subst hK
  exact call_reprD hG hu
theorem op_catWK {X : Cx} {K : PySem.W.Frag} (hK : X.K = K := by rfl) : OpR X (binaryOp .Add) (rCatW K) := by
  subst hK
  exact op_catW
theorem ix_listK {X : Cx} {K : PySem.W.Frag} (hK : X.K = K := by rfl) : IxR X (rIxL K) := by
  subst hK
  exact ix_list
theorem small_list {ds : List PyData} (h : ∀ d ∈ ds, Tiny d 200) (hl : ds.length ≤ 100) : Small (.list ds) ∧ (PyData.list ds).hasDict = false := by
  have all : ∀ {ds : List PyData}, (∀ d ∈ ds, Tiny d 200) → PyData.showableAll ds = true ∧ PyData.depthAll ds ≤ 2 ∧ ((PyData.shownAll ds).map (·.length)).sum ≤ 200 * ds.length ∧ (PyData.shownAll ds).length = ds.length ∧ PyData.hasDictAll ds = false := fun {ds} h => by
    induction ds with
    | nil => exact ⟨rfl, by simp [PyData.depthAll], Nat.le_refl _, rfl, rfl⟩
    | cons d ds ih =>
      obtain ⟨a1, a2, a3, a4, a5⟩ := ih fun x hx => h x (List.mem_cons_of_mem _ hx)
      obtain ⟨b1, b2, b3, b4⟩ := h d List.mem_cons_self
      simp only [PyData.showableAll, PyData.depthAll, PyData.shownAll, PyData.hasDictAll, List.map_cons, List.sum_cons, List.length_cons, a1, a5, b1, b4]
      refine ⟨rfl, by omega, by omega, by omega, rfl⟩
  obtain ⟨a1, a2, a3, a4, a5⟩ := all h
  refine ⟨⟨a1, ?_, ?_⟩, a5⟩
  · simp only [PyData.depth]
    omega
  · have := listText_len_le (PyData.shownAll ds)
    simp only [PyData.shown]
    exact Nat.le_trans (show (listText (PyData.shownAll ds)).length ≤ 30000 by omega) (by decide)
theorem places_list {K : PySem.W.Frag} {H : Hp} {a : Addr} {xs : List V} {l : List (List Str)} (h : H a = some (.lst xs)) (z : Places K H xs l) : Dp K H (.ref a) (.list (l.map wt)) := .lst (.of h) (places_dp z)
/-! ### what is kept, of sorted rules -/
theorem last_sort (day : Int) : ∀ h : Hist, lastOf day (sortH h) = lastOf day h
  | [] => rfl
  | _ :: _ => rfl
theorem src_sort (day : Int) : ∀ h : Hist, srcA day (sortH h) = (srcA day h).map fun s => (sortR s.1, s.2)
  | [] => rfl
  | r :: h => by
    show (if r.1 ≤ day then [(sortR r.2, day - lastOf day (sortH h))] else []) ++ srcA day (sortH h) = ((if r.1 ≤ day then [(r.2, day - lastOf day h)] else []) ++ srcA day h).map _
    rw [last_sort, src_sort day h, List.map_append]
    split <;> rfl
theorem src_mem (day : Int) : ∀ {h : Hist} {s : List Rl × Int}, s ∈ srcA day h → ∃ r ∈ h, r.2 = s.1
  | [], _, e => by cases e
  | r :: h, s, e => by
    have e : s ∈ (if r.1 ≤ day then [(r.2, day - lastOf day h)] else []) ++ srcA day h := e
    rcases List.mem_append.mp e with e | e
    · split at e
      · rw [List.mem_singleton.mp e]
        exact ⟨r, List.mem_cons_self, rfl⟩
      · cases e
    · obtain ⟨t, h1, h2⟩ := src_mem day e
      exact ⟨t, List.mem_cons_of_mem _ h1, h2⟩
theorem fm_congr {α β : Type} {f g : α → Option β} : ∀ {l : List α}, (∀ x ∈ l, f x = g x) → l.filterMap f = l.filterMap g
  | [], _ => rfl
  | x :: l, h => by
    rw [List.filterMap_cons, List.filterMap_cons, h x List.mem_cons_self, fm_congr fun y hy => h y (List.mem_cons_of_mem _ hy)]
theorem kept_sort {h : Hist} (g : ∀ r ∈ h, Good r.2) (ws : List Str) (day : Int) : keptS (sortH h) ws day = keptS h ws day := by
  unfold keptS keptL
  rw [src_sort, List.filterMap_map]
  congr 2
  refine fm_congr fun s hs => ?_
  obtain ⟨r, h1, h2⟩ := src_mem day hs
  unfold keepOf Function.comp
  show (match redir (sortR s.1) ws with | some (tg, n) => if s.2 ≤ n ∧ 1 ≤ n then some tg else none | none => none) = _
  rw [redir_sort (h2 ▸ g r h1)]
  all_goals (cases redir s.1 ws <;> rfl)
theorem asc_sortH : ∀ {h : Hist}, Asc h → Asc (sortH h)
  | [], _ => trivial
  | r :: h, a => ⟨fun t ht => by
      obtain ⟨u, hu, rfl⟩ := List.mem_map.mp ht
      exact a.1 u hu, asc_sortH a.2⟩
/-- targets are short, of the words of rules and address -/
theorem redir_wd {rs : List Rl} (g : ∀ r ∈ rs, r.Ok) {ws tg : List Str} {n : Int} (hw : ∀ z ∈ ws, Wd z) (hl : ws.length ≤ 9) (e : redir rs ws = some (tg, n)) : (∀ z ∈ tg, Wd z) ∧ tg.length ≤ 13 := by
  unfold redir at e
  cases hr : ruleFor rs ws with
  | none =>
    rw [hr] at e
    cases e
  | some r =>
    rw [hr] at e
    have ok := (g r (for_mem hr)).an
    have e : redirR r ws = some (tg, n) := e
    unfold redirR at e
    generalize r.an = an at ok e
    cases an with
    | gone => cases e
    | own z => cases e
    | to tg0 n0 =>
      have e := (Prod.mk.inj (Option.some.inj e)).1
      obtain ⟨l4, w4, _⟩ := ok
      subst e
      split
      · exact ⟨w4, by omega⟩
      · refine ⟨fun z hz => ?_, ?_⟩
        · rcases List.mem_append.mp hz with hz | hz
          · exact w4 z hz
          · exact hw z (List.mem_of_mem_drop hz)
        · rw [List.length_append, List.length_drop]
          omega
theorem kept_wd {h : Hist} (g : ∀ r ∈ h, Good r.2) {ws : List Str} (hw : ∀ z ∈ ws, Wd z) (hl : ws.length ≤ 9) (day : Int) : ∀ tg ∈ keptS h ws day, (∀ z ∈ tg, Wd z) ∧ tg.length ≤ 13 := fun tg ht => by
  unfold keptS at ht
  have ht := (sortA_perm _).mem_iff.mp ht
  rw [mem_adds] at ht
  rcases ht with ht | ht
  · cases ht
  · obtain ⟨s, hs, e⟩ := List.mem_filterMap.mp ht
    obtain ⟨r, h1, h2⟩ := src_mem day hs
    unfold keepOf at e
    cases ho : redir s.1 ws with
    | none =>
      rw [ho] at e
      cases e
    | some q =>
      obtain ⟨t, n⟩ := q
      rw [ho] at e
      have e : (if s.2 ≤ n ∧ 1 ≤ n then some t else none) = some tg := e
      split at e
      · cases e
        exact redir_wd (h2 ▸ (g r h1).ok) hw hl ho
      · cases e
theorem kept_len (h : Hist) (ws : List Str) (day : Int) : (keptS h ws day).length ≤ h.length := by
  unfold keptS
  rw [(sortA_perm _).length_eq]
  have h1 := adds_len (keptL h ws day) []
  have h2 := List.length_filterMap_le (keepOf ws) (srcA day h)
  have h3 := src_len day h
  simp only [List.length_nil, Nat.zero_add] at h1
  unfold keptL at h1
  unfold keptL
  omega
theorem kept_small {h : Hist} (g : ∀ r ∈ h, Good r.2) (few : h.length ≤ 100) {ws : List Str} (hw : ∀ z ∈ ws, Wd z) (hl : ws.length ≤ 9) (day : Int) : Small (.list ((keptS h ws day).map wt)) ∧ (PyData.list ((keptS h ws day).map wt)).hasDict = false := by
  refine small_list (fun d hd => ?_) (by rw [List.length_map]; exact Nat.le_trans (kept_len h ws day) few)
  obtain ⟨tg, ht, rfl⟩ := List.mem_map.mp hd
  obtain ⟨h1, h2⟩ := kept_wd g hw hl day tg ht
  exact tiny_wt h1 h2
theorem sortA_sorted {l : List (List Str)} (h : l.Pairwise fun a b => leA a b = true) : sortA l = l := List.mergeSort_of_pairwise h
end K49
namespace K49
open PySem L2 Ld PyProof.Rows
abbrev sSCopy : Stmt := smeth 7
abbrev sSEq : Stmt := smeth 8
theorem for_zip {K : PySem.W.Frag} {a b : Addr} {xs ys : List V} {g : TG} {tb : TS} {D : Ends} {σ : L2.St} {H : Hp} (Pv : Nat → L2.St → Hp → Prop) (same : xs.length = ys.length) (start : Pv 0 σ H) (stays : ∀ i σ H, i ≤ xs.length → Pv i σ H → SqL K H a xs ∧ SqL K H b ys)
    (turn : ∀ i x y σ H T, xs[i]? = some x → ys[i]? = some y → H T = none → Pv i σ H → g (.ref T) σ (upd H T (.tup [x, y])) fun σ2 H2 => tb { D with nx := Pv (i + 1), ct := Pv (i + 1), bk := D.nx } σ2 H2) (after : ∀ σ H, Pv xs.length σ H → D.nx σ H) :
    ∃ W : Nat → Nat → L2.St → Hp → Prop, (∃ m, W 0 m σ H) ∧ ∀ i m σ H, W i m σ H →
      ((Itz K a b).stop i H ∧ D.nx σ H) ∨ ((Itz K a b).go i H ∧ ∃ N : L2.St → Hp → Prop, (∀ σ' H', N σ' H' → ∃ m', m' < m ∧ W (i + 1) m' σ' H') ∧ ∀ x H', (Itz K a b).yld i H x H' → g x σ H' fun σ2 H2 => tb { D with nx := N, ct := N, bk := D.nx } σ2 H2) := by
  refine ⟨fun i m σ H => m + i = xs.length ∧ Pv i σ H, ⟨xs.length, rfl, start⟩, fun i m σ H ⟨e, p⟩ => ?_⟩
  obtain ⟨sa, sb⟩ := stays i σ H (by omega) p
  by_cases lt : i < xs.length
  · refine Or.inr ⟨⟨xs, ys, xs[i], ys[i], sa, sb, List.getElem?_eq_getElem lt, List.getElem?_eq_getElem (by omega)⟩, Pv (i + 1), fun σ' H' p' => ⟨m - 1, by omega, by omega, p'⟩, fun x H' y => ?_⟩
    obtain ⟨T, u, v, rfl, nT, rfl, hu, hv⟩ := y
    exact turn i u v σ H T (hu xs sa) (hv ys sb) nT p
  · have e2 : i = xs.length := by omega
    subst e2
    exact Or.inl ⟨⟨xs, ys, sa, sb, .inl (Nat.le_refl _)⟩, after σ H p⟩
section
variable {P : Program} {w : World} {K : PySem.W.Frag} {mg : Str → Option Value} {base : Heap} {f : Addr} {fd : FuncData} {CT CS : Addr}
def spSCopy (P : Program) (w : World) (K : PySem.W.Frag) (CT CS : Addr) : Sp := fun vs H Q _ => ∃ (a D T : Addr) (hs : Hist), vs = [.ref a] ∧ SrvAt P w K CT CS H a D T hs ∧ Asc hs ∧ (∀ r ∈ hs, 0 ≤ r.1 ∧ r.1 ≤ 1000000) ∧ hs.length ≤ 90 ∧
  ∀ H' a2 D2 T2, Same H H' → H a2 = none → H D2 = none → H T2 = none → SrvAt P w K CT CS H' a2 D2 T2 hs → Q (.ref a2) H'
def copyN : List Str := ["self", "server", "day", "table"]
theorem scSCopy : FnScope copyN ["self"] (defScope sSCopy) := ⟨rfl, rfl, rfl, by decide +kernel, rfl, by decide +kernel, by decide +kernel⟩
theorem ok_scopy (Fd : Fun K "copied" "Server.copied" sSCopy f fd) (zip : mg "zip" = none) (M : Smk P w K mg base CT CS) : FnOk P w K mg base CX0 5 f fd ["self"] (spSCopy P w K CT CS) := by
  refine Fd.ok scSCopy (fun vs H Q E h => ?_) (fun cdv A outer s H vs Q E hr h => ?_)
  · obtain ⟨a, D, T, hs, rfl, _⟩ := h
    rfl
  · obtain ⟨a, D, Tl, hs, rfl, hS, asc, rng, few, q⟩ := h
    have nd := scSCopy.nd
    obtain ⟨fI, fdI, mI, bI, FI⟩ := M.new
    obtain ⟨fS, fdS, mS, bS, FS⟩ := M.set
    have S := M.s
    refine ⟨_, pss_cons (ps_set (i := 1) nd rfl (Or.inl rfl) (pe_make0 (E := E0) (dvs := []) mI FI (hr.mono (by decide)) (by rfl) M.gS bI .nil (fun _ _ _ _ _ _ _ z => False.elim z)))
      (pss_cons (ps_for PassesOwn.never rfl (pi_zip rfl zip (pa_cons (pe_fld (pv 0) rfl) (pa_cons (pe_fld (pv 0) rfl) pa_nil))) (pg_tup rfl (pgs_cons (pg_name (i := 2) nd rfl (Or.inl rfl)) (pgs_cons (pg_name (i := 3) nd rfl (Or.inl rfl)) pgs_nil)))
        (pss_one (ps_expr (pe_meth (E := E0) (dvs := []) (pv 1) S.cls mS FS (hr.mono (by decide)) bS .nil (fun _ _ _ _ _ _ _ z => z) (pa_cons (pv 2) (pa_cons (pv 3) pa_nil))))))
      (pss_one (ps_ret (pv 1)))), ?_⟩
    intro x dx nx ndx nex
    have y1 : Same H (upd (upd H dx (.own x)) x (.ins CS dx [])) := fun b o e => by
      rw [upd_ne (ne_of_none e nx), upd_ne (ne_of_none e ndx)]
      exact e
    refine ⟨x, dx, rfl, upd_same, fun G D2 T2 fr nD nT srv => ⟨rfl, ?_⟩⟩
    have nDH : H D2 = none := y1.free nD
    have nTH : H T2 = none := y1.free nT
    have sG : Same H G := fun b o e => fr b o (ne_of_none e nx) (y1 b o e)
    obtain ⟨dx1, ts, h1, h2, h3, h4, h5⟩ := id hS
    have lts := Paired.length h5
    refine ⟨_, rfl, a, CS, dx1, _, .ref D, rfl, sG _ _ h1, S.cls, S.no1, rfl, _, rfl, a, CS, dx1, _, .ref Tl, rfl, sG _ _ h1, S.cls, S.no2, rfl, D, Tl, _, _, rfl, .of (sG _ _ h2), .of (sG _ _ h3), for_zip (K := K) (a := D) (b := Tl) (xs := hs.map fun r => V.int r.1) (ys := ts.map V.ref) (fun i σ G => Same H G ∧ ∃ v2 v3, σ = [some (.ref a), some (.ref x), v2, v3] ∧ SrvAt P w K CT CS G x D2 T2 (hs.take i)) (by rw [List.length_map, List.length_map, lts])
      ⟨sG, none, none, rfl, srv⟩ (fun i σ G _ z => ⟨.of (z.1 _ _ h2), .of (z.1 _ _ h3)⟩) ?_ ?_⟩
    · rintro i u v σ G2 Tp hu hv nTp ⟨s2, v2, v3, rfl, srv2⟩
      rw [List.getElem?_map] at hu hv
      obtain ⟨r, er, rfl⟩ := Option.map_eq_some_iff.mp hu
      obtain ⟨t, et, rfl⟩ := Option.map_eq_some_iff.mp hv
      obtain ⟨r', er', tab⟩ := paired_get h5 et
      rw [er] at er'
      cases er'
      have tk : hs.take (i + 1) = hs.take i ++ [r] := by rw [List.take_add_one, er]; rfl
      have y2 := Same.new (o := .tup [V.int r.1, .ref t]) nTp
      have srv3 := srv2.same y2
      obtain ⟨sdx, sts, o8, _⟩ := id srv3
      refine ⟨Tp, _, rfl, .of upd_same, rfl, _, _, rfl, _, _, rfl, rfl, ?_⟩
      have rg := rng r (List.mem_of_getElem? er)
      refine ⟨_, rfl, x, sdx, _, rfl, o8, rfl, _, rfl, _, rfl, x, D2, T2, t, r.1, hs.take i, r.2, rfl, srv3, tab.same (s2.trans y2), rg.1, rg.2, fun z hz => asc_at asc er z hz, by rw [List.length_take]; omega, fun G4 fr4 srv4 => ⟨fun b o e => fr4 b o (ne_of_none e nDH) (ne_of_none e nTH) (y2 _ _ (s2 _ _ e)), _, _, rfl, ?_⟩⟩
      rw [tk]
      exact srv4
    · rintro σ G2 ⟨s2, v2, v3, rfl, srv2⟩
      rw [List.length_map, List.take_length] at srv2
      exact ⟨_, rfl, q G2 x D2 T2 s2 nx nDH nTH srv2⟩
/-! ### == of servers -/
theorem ints_dp {K : PySem.W.Frag} {H : Hp} : ∀ ns : List Int, DpAll K H (ns.map V.int) (ns.map PyData.int)
  | [] => .nil
  | n :: ns => .cons (.int n) (ints_dp ns)
theorem lay_ints : ∀ ns : List Int, PyData.canLayAll0 (ns.map PyData.int) = true
  | [] => rfl
  | n :: ns => by simp only [List.map_cons, PyData.canLayAll0, PyData.canLay0, lay_ints ns, Bool.and_self]
theorem deep_ints : ∀ ns : List Int, PyData.depthAll (ns.map PyData.int) = 0
  | [] => rfl
  | n :: ns => by simp only [List.map_cons, PyData.depthAll, PyData.depth, deep_ints ns, Nat.max_self]
theorem shaped_ints (ns : List Int) : SeqAt.shaped (.list (ns.map PyData.int)) = true := by
  unfold SeqAt.shaped
  have h2 : (PyData.list (ns.map PyData.int)).depth ≤ 64 := by
    simp only [PyData.depth, deep_ints]
    omega
  rw [decide_eq_true h2]
  simp only [PyData.canLay0, lay_ints, Bool.and_self]
theorem eqv_ints : ∀ xs ys : List Int, PyData.eqvAll (xs.map PyData.int) (ys.map PyData.int) = decide (xs = ys)
  | [], [] => rfl
  | [], _ :: _ => rfl
  | _ :: _, [] => rfl
  | x :: xs, y :: ys => by
    show (PyData.eqv (.int x) (.int y) && PyData.eqvAll (xs.map PyData.int) (ys.map PyData.int)) = _
    rw [eqv_int, eqv_ints xs ys]
    by_cases h1 : x = y
    · subst h1
      by_cases h2 : xs = ys
      · subst h2
        simp
      · rw [decide_eq_false h2, Bool.and_false, decide_eq_false fun e => h2 (List.cons.inj e).2]
    · rw [decide_eq_false h1, Bool.false_and, decide_eq_false fun e => h1 (List.cons.inj e).1]
def spSEq (P : Program) (w : World) (K : PySem.W.Frag) (CT CS : Addr) : Sp := fun vs H Q _ => ∃ (a b D1 T1 D2 T2 : Addr) (hs gs : Hist), vs = [.ref a, .ref b] ∧ SrvAt P w K CT CS H a D1 T1 hs ∧ SrvAt P w K CT CS H b D2 T2 gs ∧ Q (.bl (decide (hs = gs))) H
theorem scSEq : FnScope ["self", "other"] ["self", "other"] (defScope sSEq) := ⟨rfl, rfl, rfl, by decide +kernel, rfl, by decide +kernel, by decide +kernel⟩
theorem ok_seq {fE : Addr} {fdE : FuncData} (Fd : Fun K "__eq__" "Server.__eq__" sSEq f fd) (T : Tx mg) (S : Scl K CS) (I : C8.InsC K CS) (gS : mg "Server" = some (.ref CS)) (hs : PySem.W.findIn K (.ref CT) "__eq__" = some (some (.ref fE))) (hf : PySem.W.isFn K (.ref fE) = true) (FE : FnOk P w K mg base CX0 1 fE fdE ["self", "other"] (spEq P w K CT)) (bE : Binds K fdE ["self", "other"] []) :
    FnOk P w K mg base CX0 3 f fd ["self", "other"] (spSEq P w K CT CS) := by
  refine Fd.ok scSEq (fun vs H Q E h => ?_) (fun cdv A outer s H vs Q E hr h => ?_)
  · obtain ⟨a, b, D1, T1, D2, T2, hs, gs, rfl, _⟩ := h
    rfl
  · obtain ⟨a, b, D1, T1, D2, T2, hs', gs, rfl, hA, hB, q⟩ := h
    refine ⟨_, pss_one (ps_ret (pe_and (pe_callB (C8.call_isC I) (by rfl) T.isi bootN (pa_cons (pv 1) (pa_cons (pe_glob (v := .ref CS) (by rfl) gS rfl) pa_nil)))
      (pe_and (pe_cmpR (op_eqD hr.units) (pe_fld (pv 0) rfl) (pe_fld (pv 1) rfl) (nomark _)) (pe_one (pe_cmpR (op_eqLB hs hf FE (hr.mono (by decide)) bE) (pe_fld (pv 0) rfl) (pe_fld (pv 1) rfl) (nomark _)))))), ?_⟩
    obtain ⟨dx, ts, h1, h2, h3, h4, h5⟩ := hA
    obtain ⟨dy, us, g1, g2, g3, g4, g5⟩ := hB
    have e1 : (hs'.map fun r => V.int r.1) = (hs'.map (·.1)).map V.int := by rw [List.map_map]; rfl
    have e2 : (gs.map fun r => V.int r.1) = (gs.map (·.1)).map V.int := by rw [List.map_map]; rfl
    refine ⟨_, rfl, b, dy, _, rfl, g1, _, rfl, ?_⟩
    refine iteT ⟨_, rfl, a, CS, dx, _, .ref D1, rfl, h1, S.cls, S.no1, rfl, _, rfl, b, CS, dy, _, .ref D2, rfl, g1, S.cls, S.no1, rfl, .list ((hs'.map (·.1)).map .int), .list ((gs.map (·.1)).map .int), .lst (.of (e1 ▸ h2)) (ints_dp _), .lst (.of (e2 ▸ g2)) (ints_dp _), shaped_ints _, shaped_ints _, _, rfl, ?_⟩
    have ev : PyData.eqv (.list ((hs'.map (·.1)).map .int)) (.list ((gs.map (·.1)).map .int)) = decide (hs'.map (·.1) = gs.map (·.1)) := eqv_ints _ _
    have lts := Paired.length h5
    have lus := Paired.length g5
    split
    · rename_i h
      rw [ev] at h
      have ed := of_decide_eq_true h
      have el : hs'.length = gs.length := by
        have := congrArg List.length ed
        simpa using this
      refine ⟨_, rfl, a, CS, dx, _, .ref T1, rfl, h1, S.cls, S.no2, rfl, _, rfl, b, CS, dy, _, .ref T2, rfl, g1, S.cls, S.no2, rfl, T1, T2, ts, us, (fun j => decide ((hs'[j]?).map (·.2) = (gs[j]?).map (·.2))), rfl, rfl, h3, g3, by omega, fun j t u et eu => ?_, ?_⟩
      · obtain ⟨r, er, tr⟩ := paired_get h5 et
        obtain ⟨r', er', tr'⟩ := paired_get g5 eu
        have eb : decide ((hs'[j]?).map (·.2) = (gs[j]?).map (·.2)) = decide (r.2 = r'.2) := by
          rw [er, er']
          simp
        obtain ⟨a1, a2, a3, a4, a5, a6, o1, _⟩ := id tr
        obtain ⟨b1, b2, b3, b4, b5, b6, o2, _⟩ := id tr'
        show SaysO _ CT _ H t u (decide ((hs'[j]?).map (·.2) = (gs[j]?).map (·.2)))
        rw [eb]
        refine ⟨⟨_, _, _, _, o1, o2⟩, fun e pins σ s I => ?_, t, u, r.2, r'.2, rfl, tr, tr', rfl, rfl⟩
        subst e
        exact decide_eq_true (tab_one I tr tr')
      · have same : Ld.allB (fun j => decide ((hs'[j]?).map (·.2) = (gs[j]?).map (·.2))) ts.length = decide (hs' = gs) := by
          rw [Bool.eq_iff_iff, Ld.allB_iff, decide_eq_true_iff]
          constructor
          · intro all
            refine List.ext_getElem? fun j => ?_
            by_cases hj : j < ts.length
            · have a1 := of_decide_eq_true (all j hj)
              have a2 : (hs'.map (·.1))[j]? = (gs.map (·.1))[j]? := by rw [ed]
              rw [List.getElem?_map, List.getElem?_map] at a2
              rw [List.getElem?_eq_getElem (show j < hs'.length by omega), List.getElem?_eq_getElem (show j < gs.length by omega)] at a1 a2 ⊢
              have a1 := Option.some.inj a1
              have a2 := Option.some.inj a2
              exact congrArg some (Prod.ext a2 a1)
            · rw [List.getElem?_eq_none (by omega), List.getElem?_eq_none (by omega)]
          · rintro rfl j _
            exact decide_eq_true rfl
        rw [same]
        exact q
    · rename_i h
      have n : hs' ≠ gs := fun e => h (by rw [ev, e]; exact decide_eq_true rfl)
      have e0 : PyData.eqv (.list ((hs'.map (·.1)).map .int)) (.list ((gs.map (·.1)).map .int)) = false := Bool.eq_false_iff.mpr h
      rw [decide_eq_false n] at q
      exact q
end
end K49
/-! {k: v for .. if ..}, the keys tuples of any depth. -/
namespace Ld
open L2 PySem PySem.Spec PyProof.Rows
def tDcI (P : Program) (w : World) (K : PySem.W.Frag) (wi : TI) (g : TG) (tt : TT) (tk tv : TE) (own : List Nat) : TE := fun σ H Q => wi σ H fun J H1 => ∀ D, H1 D = none → (D == sysModules) = false → ∃ W : Nat → Nat → Hp → Prop, (∃ m, W 0 m (upd H1 D (kdO P w D []))) ∧ ∀ i m G, W i m G →
  (J.stop i G ∧ Q (.ref D) G) ∨ (J.go i G ∧ ∃ Nx : Hp → Prop, (∀ G', Nx G' → ∃ m', m' < m ∧ W (i + 1) m' G') ∧ ∀ x G', J.yld i G x G' → g x (wipe σ own) G' fun σ2 G2 => wipe σ2 own = wipe σ own ∧ tt σ2 G2 fun b G3 => if b = true then tk σ2 G3 fun y G4 => tv σ2 G4 fun z G5 => moreN P w K D y z G5 Nx else Nx G3)
section
variable {X : Cx}
theorem dcI_core {pins0 : List (Addr × Obj)} {s0 : Shared} {σ0 : L2.St} {H0 : Hp} {Q0 : VK} {kx vx tg iter : Expr} {ifs : List Expr} {scope : Scope} {own : List (Str × Nat)} {pos pos2 : Pos} {wi : TI} {g : TG} {tt : TT} {tk tv : TE} {use : Option (Value → Sem Unit)} {Qf : Value → Shared → Prop} (hu : X.A.units + 16 < cLine) (hc : X.calm = true) (hN : X.N.Nodup)
    (I0 : Inv X pins0 σ0 H0 s0) (hi : PI X tg iter wi) (ok : BlkOk X.N X.env.scope scope own)
    (hg : ∀ (s : Shared) (H : Hp) (C : Addr) (cl : List (Str × Addr)) (fp : List Addr), PG (X.blk s H scope (compEnvC scope cl C X.env) fp) tg g)
    (ht : ∀ (s : Shared) (H : Hp) (C : Addr) (cl : List (Str × Addr)) (fp : List Addr), PTs (X.blk s H scope (compEnvC scope cl C X.env) fp) ifs tt)
    (hk : ∀ (s9 : Shared) (H9 : Hp) (C9 : Addr) (cl : List (Str × Addr)) (fp : List Addr), PE (X.blk s9 H9 scope (compEnvC scope cl C9 X.env) fp) kx tk)
    (he : ∀ (s9 : Shared) (H9 : Hp) (C9 : Addr) (cl : List (Str × Addr)) (fp : List Addr), PE (X.blk s9 H9 scope (compEnvC scope cl C9 X.env) fp) vx tv) (hs : ∀ x, foldedSetIterable iter X.env x = pure x)
    (h0 : tDcI X.prog X.w X.K wi g tt tk tv (own.map (·.2)) σ0 H0 Q0)
    (back : ∀ D C s' m H', Inv X pins0 σ0 H' s' → Q0 (.ref D) H' → s'.heap.Ns C m → FpOk X pins0 H' C → compPost (model X.prog X.w) X.A X.xe use Qf (.ref D) C (.ok .next) s') :
    wpAny (model X.prog X.w) X.A (comprehension (.DictComp kx vx [⟨tg, iter, ifs, 0⟩] scope pos) scope X.env pos2 newDict false (eval iter X.env) use) Qf X.xe s0 := by
  have cells0 : ∀ y ∈ scope.names, y.2 = .free → ∃ c, X.env.cells.lookup y.1 = some c := fun y hy e => (ok.free y hy e).elim (fun q => I0.ok.has _ (.inl q)) fun q => I0.ok.has _ (.inr q)
  refine wpAny_comprehension_free (use := use) rfl hs (closure_ok cells0) ok.kind (fun y hy e => by rw [ok.uniq y hy, e]) (thn (hi.run pins0 s0 σ0 H0 _ I0 h0) fun xv s1 hx => thn hx fun itv s2 h2 => ?_)
  obtain ⟨it, fp, tn, J, H2, e2, I2, T, st2, f2, q2⟩ := h2
  subst e2
  refine wpAny_newObj_type (newEnv_comp ?block); have low2 : (s2.heap.objs.size == sysModules) = false := beq_eq_false_iff_ne.mpr (Nat.ne_of_gt I2.big)
  obtain ⟨W, ⟨m0, w0⟩, turn⟩ := q2 _ I2.fresh low2
  have J3 : Inv X pins0 σ0 (upd H2 s2.heap.objs.size (kdO X.prog X.w s2.heap.objs.size [])) { s2 with heap := s2.heap.push { cls := .type "dict", data := .dict #[] } } :=
    I2.laid (t' := s2.toks) (fun b0 o0 q => Heap.get?_push_of_some _ q) (Nat.le_refl _) (kdO_ok .nil (Heap.DictOfH.new s2.heap))
  have old2 : ∀ b ∈ fp, b < s2.heap.objs.size := fun b hb => let ⟨_, e, _⟩ := T.obj _ _ st2 b hb; Heap.lt_size e
  have fp3 : ∀ b ∈ fp, FpOk X pins0 (upd H2 s2.heap.objs.size (kdO X.prog X.w s2.heap.objs.size [])) b ∧ b < (s2.heap.push { cls := .type "dict", data := .dict #[] }).objs.size := fun b hb =>
    ⟨⟨by rw [upd_ne (Nat.ne_of_lt (old2 b hb))]; exact (f2 b hb).1, (f2 b hb).2⟩, by rw [Heap.size_push]; exact Nat.lt_succ_of_lt (old2 b hb)⟩
  have st3 : tn 0 (s2.heap.push { cls := .type "dict", data := .dict #[] }) := T.keep _ _ _ st2 fun b _ o e => Heap.get?_push_of_some _ e
  generalize hD : s2.heap.objs.size = D at *
  generalize hH3 : upd H2 D (kdO X.prog X.w D []) = H3 at *
  generalize hs3 : ({ s2 with heap := s2.heap.push { cls := .type "dict", data := .dict #[] } } : Shared) = s3 at J3 ⊢
  have hp3 : s3.heap = s2.heap.push { cls := .type "dict", data := .dict #[] } := by rw [← hs3]
  rw [← hp3] at fp3 st3
  have B4 := block_start J3 ok hN fp3
  have gg := hg s3 H3 s3.heap.objs.size (cellsFrom (s3.heap.objs.size + 1) scope.names (cloFrom X.env.cells scope.names [])) fp
  have gt := ht s3 H3 s3.heap.objs.size (cellsFrom (s3.heap.objs.size + 1) scope.names (cloFrom X.env.cells scope.names [])) fp
  have gk := hk s3 H3 s3.heap.objs.size (cellsFrom (s3.heap.objs.size + 1) scope.names (cloFrom X.env.cells scope.names [])) fp
  have ge := he s3 H3 s3.heap.objs.size (cellsFrom (s3.heap.objs.size + 1) scope.names (cloFrom X.env.cells scope.names [])) fp
  show codeAny _ _ (.compStart (.DictComp kx vx [⟨tg, iter, ifs, 0⟩] scope pos) 0 (.ref it) (.ref D) (compEnvC scope (cellsFrom (s3.heap.objs.size + 1) scope.names (cloFrom X.env.cells scope.names [])) s3.heap.objs.size X.env)) (compPost (model X.prog X.w) X.A X.xe use Qf (.ref D) s3.heap.objs.size) { s3 with heap := pushCells (s3.heap.push { cls := .type "dict", data := .dict #[] }) scope.names }
  generalize hce : compEnvC scope (cellsFrom (s3.heap.objs.size + 1) scope.names (cloFrom X.env.cells scope.names [])) s3.heap.objs.size X.env = ce at B4 gg gt gk ge ⊢
  have ceL : ce.locals = s3.heap.objs.size := by rw [← hce]; rfl
  generalize hs4 : ({ s3 with heap := pushCells (s3.heap.push { cls := .type "dict", data := .dict #[] }) scope.names } : Shared) = s4 at B4 ⊢
  have st4 : tn 0 s4.heap := T.keep _ _ _ st3 fun b0 _ o0 e0 => by rw [← hs4]; exact pushCells_keeps _ _ _ _ (Heap.get?_push_of_some _ e0)
  have apart : ∀ {σ' : L2.St} {H' : Hp} {s' : Shared}, Inv (X.blk s3 H3 scope ce fp) [] σ' H' s' → (∀ b ∈ fp, H' b = none) → ∀ b ∈ fp, FpOk (X.blk s3 H3 scope ce fp) [] H' b := fun {σ' H' s'} I' hn b hb =>
    ⟨hn b hb, (I'.ok.exf b hb).1, I'.ok.exfs b hb, .inl hb, (I'.ok.exf b hb).2, fun q hq => absurd (show q ∈ ([] : List (Addr × Obj)) ++ [] from hq) (by simp)⟩
  have loop : codeAny (model X.prog X.w) X.A (.compLoop (.DictComp kx vx [⟨tg, iter, ifs, 0⟩] scope pos) 0 (.ref it) (.ref D) ce) (compPost (model X.prog X.w) X.A X.xe use Qf (.ref D) s3.heap.objs.size) s4 := by
    refine compLoop_anyD (fun n s' => ∃ i G, Inv (X.blk s3 H3 scope ce fp) [] (wipe σ0 (own.map (·.2))) G s' ∧ tn i s'.heap ∧ (∀ b ∈ fp, G b = none) ∧ W i n G) ?_ m0 ⟨0, H3, B4, st4, fun b hb => (fp3 b hb).1.1, w0⟩
    rintro n s5 ⟨i, G, B5, st5, n5, w5⟩
    rcases turn i n G w5 with ⟨stop, qq⟩ | ⟨go, Nx, hNx, step⟩
    · refine thnF (T.done (X.blk s3 H3 scope ce fp) rfl rfl rfl hc i [] s5 _ G (fun _ _ => False) B5 (apart B5 n5) st5 stop) fun r s6 ⟨hr, B6⟩ => ?_
      subst hr
      have I7 : Inv X pins0 σ0 G s6 := J3.call' (ch := fp) B6.os B6.base B6.hok B6.bare fun b hb => ⟨(fp3 b hb).1.2.2.2.1, (fp3 b hb).1.2.1, (fp3 b hb).1.2.2.2.2.1, (fp3 b hb).1.2.2.2.2.2⟩
      have nC : G s3.heap.objs.size = none := by
        have z : G ce.locals = none := B6.free
        rw [ceL] at z
        exact z
      obtain ⟨m, hn, _⟩ := B6.loc
      have hn : s6.heap.Ns s3.heap.objs.size m := ceL ▸ (show s6.heap.Ns ce.locals m from hn)
      exact back D s3.heap.objs.size s6 m G I7 qq hn (J3.fpOk (Nat.le_refl _) nC)
    · refine thnF (T.item (X.blk s3 H3 scope ce fp) rfl rfl rfl hc i [] s5 _ G (fun _ _ => False) B5 (apart B5 n5) st5 go) fun r s6 ⟨u, hr, h6⟩ => ?_
      subst hr
      refine thnF h6 fun _ s7 ⟨x, G7, B7, r7, y7, st7, n7⟩ => ?_
      refine thnF (gg.run _ s7 _ G7 x u _ (B7.pinned (apart B7 n7) (T.obj _ _ st7)) r7 (step x G7 y7)) fun _ s8 ⟨σ8, G8, B8, hw8, q8⟩ => ?_
      refine thnF (gt.run _ s8 σ8 G8 _ B8 q8) fun b s9 ⟨G9, B9, q9⟩ => ?_
      have fin : ∀ {s12 : Shared} {G12 : Hp}, Inv (X.blk s3 H3 scope ce fp) ([] ++ pinsAt fp s7.heap) σ8 G12 s12 → Nx G12 → ∃ m, m < n ∧ ∃ i H', Inv (X.blk s3 H3 scope ce fp) [] (wipe σ0 (own.map (·.2))) H' s12 ∧ tn i s12.heap ∧ (∀ b ∈ fp, H' b = none) ∧ W i m H' := fun {s12 G12} B12 nx => by
        obtain ⟨m', hm, w'⟩ := hNx _ nx
        have pin' : ∀ b ∈ fp, ∀ o, s7.heap.get? b = some o → s12.heap.get? b = some o ∧ G12 b = none := fun b hb o e =>
          let z := B12.pin (b, o) (List.mem_append_right _ (List.mem_append_right _ (mem_pinsAt hb e)))
          ⟨z.1, z.2.1⟩
        have hl : (wipe σ0 (own.map (·.2))).length = σ8.length := by rw [← hw8, wipe_length]
        refine ⟨m', hm, i + 1, _, (B12.unpinned (pins := [])).weak hl (fun j v e => ?_), T.keep _ _ _ st7 fun b hb o e => (pin' b hb o e).1, fun b hb => ?_, w'⟩
        · rw [← hw8] at e
          exact (wipe_some e).1
        · exact let ⟨o7, e7, _⟩ := T.obj _ _ st7 b hb; (pin' b hb o7 e7).2
      cases b with
      | false => exact fin B9 (by simpa using q9)
      | true =>
      have q8 := (show (tk σ8 G9 fun y G4 => tv σ8 G4 fun z G5 => moreN X.prog X.w X.K D y z G5 Nx) from by simpa using q9)
      refine thnF (gk.run _ s9 σ8 _ _ B9 q8) fun z1 s10 ⟨yk, G10, B10, r10, q10⟩ => ?_
      refine thnF (ge.run _ s10 σ8 G10 _ B10 q10) fun z2 s11 ⟨yv, G11, B11, r11, kb, kk, rs, ek, hkk, hkd, hkD, nx⟩ => ?_
      subst ek
      cases r10
      refine dset_kd (X := X.blk s3 H3 scope ce fp) hu B11 hkk hkd hkD r11 fun s12 B12 => ?_
      exact fin B12 nx
  exact codeAny_compStart_dict loop  (T.self (X.A) 0 _ _ _ (st4) loop)
theorem pe_dcI {kx vx tg iter : Expr} {ifs : List Expr} {scope : Scope} {own : List (Str × Nat)} {pos : Pos} {wi : TI} {g : TG} {tt : TT} {tk tv : TE} (hu : X.A.units + 16 < cLine) (hc : X.calm = true) (hN : X.N.Nodup) (hi : PI X tg iter wi) (ok : BlkOk X.N X.env.scope scope own)
    (hg : ∀ (s : Shared) (H : Hp) (C : Addr) (cl : List (Str × Addr)) (fp : List Addr), PG (X.blk s H scope (compEnvC scope cl C X.env) fp) tg g)
    (ht : ∀ (s : Shared) (H : Hp) (C : Addr) (cl : List (Str × Addr)) (fp : List Addr), PTs (X.blk s H scope (compEnvC scope cl C X.env) fp) ifs tt)
    (hk : ∀ (s9 : Shared) (H9 : Hp) (C9 : Addr) (cl : List (Str × Addr)) (fp : List Addr), PE (X.blk s9 H9 scope (compEnvC scope cl C9 X.env) fp) kx tk)
    (he : ∀ (s9 : Shared) (H9 : Hp) (C9 : Addr) (cl : List (Str × Addr)) (fp : List Addr), PE (X.blk s9 H9 scope (compEnvC scope cl C9 X.env) fp) vx tv) (hs : ∀ x, foldedSetIterable iter X.env x = pure x := by intro _; rfl) :
    PE X (.DictComp kx vx [⟨tg, iter, ifs, 0⟩] scope pos) (tDcI X.prog X.w X.K wi g tt tk tv (own.map (·.2))) := by
  refine ⟨fun pins0 s0 σ0 H0 Q0 I0 h0 => ?_⟩
  rw [arm_eval_DictComp]
  refine dcI_core hu hc hN I0 hi ok hg ht hk he hs h0 fun D C s1 m G I1 q hn f => ⟨m, hn, fun h2 sb => ?_⟩
  obtain ⟨f0, f1, f2', f3, f4, f5⟩ := f
  exact ⟨.ref D, G, I1.turned (t' := s1.toks) (fun b o hb e => (sb.2 b hb).trans e) f0 f1 f3 f4 f5, rfl, q⟩
end
end Ld
/-! d.get(k), del d[k], the keys tuples of any depth. -/
namespace Ld
open L2 PySem PySem.Spec PyProof.Rows
def tGetN (P : Program) (w : World) (K : PySem.W.Frag) (td ty : TE) : TE := fun σ H Q => td σ H fun x H1 => ∃ d rs0, x = .ref d ∧ KD P w K H1 d rs0 ∧ ty σ H1 fun y H2 => ∃ b k rs, y = .ref b ∧ NIs K H2 k (.ref b) ∧ k.depth ≤ 8 ∧ KD P w K H2 d rs ∧ Q ((kGet rs k).getD .non) H2
section
variable {X : Cx} {o e : Expr} {apos cpos : Pos} {td ty : TE}
theorem pe_getN (hu : X.A.units + 16 < cLine) (ho : PE X o td) (he : PE X e ty) (m : M1 X o "get" apos e cpos) : PE X (.Call (.Attribute o "get" apos) [e] [] cpos) (tGetN X.prog X.w X.K td ty) := by
  refine ⟨fun pins s σ H Q I h => ?_⟩
  refine wpAny_Call_method m.base m.few m.line PySem.F.plainAttrs_dict PySem.F.slot_dict_get PySem.F.type_dict_get (thn (ho.run pins s σ H _ I h) fun u s1 ⟨x, H1, I1, rx, d, rs0, ex, z0, q1⟩ => ?_)
  subst ex
  obtain rfl : u = Value.ref d := rx
  obtain ⟨ys0, p0, m0⟩ := z0.dict I1.hok I1.kIn
  refine ⟨m0.typeIs, fun b q => ?_, ?_⟩
  · cases q
    obtain ⟨ob, es, ep, ho, hx, _⟩ := m0
    exact ⟨ob, ho, hx.2.1⟩
  rw [m.trees]
  refine wpAny_dict_get1_heap (kroom hu) z0.low (thn (he.run pins s1 σ H1 _ I1 q1) fun iv s2 ⟨y, H2, I2, ry, b, k, rs, ey, hk, hd, z, q⟩ => ?_)
  subst ey
  obtain rfl : iv = Value.ref b := ry
  obtain ⟨ys, p, mm⟩ := z.dict I2.hok I2.kIn
  refine ⟨b, k, ys, rfl, ⟨nis_is I2.hok I2.kIn hk rfl, hd⟩, mm, ?_⟩
  refine ⟨_, H2, I2.tok _, ?_, q⟩
  obtain ⟨g1, g2⟩ := rows_get k p
  cases e2 : kGet rs k with
  | none =>
    rw [e2] at g1
    cases e3 : atKey ys k with
    | none => exact rfl
    | some pp => rw [e3] at g1; cases g1
  | some v =>
    obtain ⟨pp, e3, r⟩ := g2 v e2
    rw [e3]
    exact r
def kDel (rs : List Rw) (k : NestedKey) : List Rw := rs.filter fun x => decide (x.1 ≠ k)
theorem rows_del (k : NestedKey) : ∀ {xs : List Rw} {ys : List (NestedKey × Addr × Value)}, Paired KR xs ys → Paired KR (kDel xs k) (withoutH ys k)
  | _, _, .nil => .nil
  | x :: xs, y :: ys, .cons a b => by
    have ih := rows_del k b
    unfold kDel withoutH at ih ⊢
    rw [List.filter_cons, List.filter_cons, a.1]
    split
    · exact .cons a ih
    · exact ih
/-- del d[k], the key there -/
def sDelN (P : Program) (w : World) (K : PySem.W.Frag) (td ty : TE) : TS := fun D σ H => td σ H fun x H1 => ty σ H1 fun y H2 => ∃ d b k rs, x = .ref d ∧ y = .ref b ∧ NIs K H2 k (.ref b) ∧ k.depth ≤ 8 ∧ KD P w K H2 d rs ∧ (kGet rs k).isSome = true ∧ D.nx σ (upd H2 d (kdO P w d (kDel rs k)))
theorem ps_delN {i : Expr} {tpos pos : Pos} (hu : X.A.units + 16 < cLine) (ho : PE X o td) (hi : PE X i ty) : PS X (.Delete [.Subscript o i tpos] pos) (sDelN X.prog X.w X.K td ty) := by
  refine ⟨fun pins s σ H D I h => ?_⟩
  refine wpAny_Delete (wpAny_deleteEach_cons (wpAny_delete_Subscript (thn (ho.run pins s σ H _ I h) fun u s1 ⟨x, H1, I1, rx, q1⟩ => thn (hi.run pins s1 σ H1 _ I1 q1) fun iv s2 ⟨y, H2, I2, ry, d, b, k, rs, ex, ey, hk, hd, z, some_, q2⟩ => ?_)))
  subst ex ey
  obtain rfl : u = Value.ref d := rx
  obtain rfl : iv = Value.ref b := ry
  obtain ⟨ys, p, m⟩ := z.dict I2.hok I2.kIn
  have ln : ys.length ≤ sizeLine := by
    rw [← p.length]
    exact Nat.le_trans z.few (by decide)
  obtain ⟨v, ev⟩ := Option.isSome_iff_exists.mp some_
  obtain ⟨pp, e3, _⟩ := (rows_get k p).2 v ev
  refine wpAny_delItem_heap (hsz := ln) (kroom hu) ⟨nis_is I2.hok I2.kIn hk rfl, hd⟩ z.low m e3 fun h1 m1 sb => ?_
  have ex : ∃ q, h1.get? d = some q := let ⟨q, _, _, hq, _⟩ := m1; ⟨q, hq⟩
  exact wpAny_deleteEach_nil ⟨σ, _, d_write (t' := s2.toks + (nestedKind X.prog X.w).draws k) I2 (by rw [z.at_]; exact True.intro) sb ex (kdO_ok (rows_del k p) m1), q2⟩
end
end Ld
/-! {k: v for k in d if ..}, d locked meanwhile; d[k] within a comprehension. -/
namespace Ld
open L2 PySem PySem.Spec PyProof.Rows
def rKdL (P : Program) (w : World) (K : PySem.W.Frag) : R2 := fun x y H Q => ∃ (b d : Addr) (o : Obj) (k : NestedKey) (xs : List Rw) (v : V), x = .ref d ∧ y = .ref b ∧ NIs K H k (.ref b) ∧ k.depth ≤ 8 ∧ KDL P w K H o d xs ∧ kGet xs k = some v ∧ Q v H
def rKd (P : Program) (w : World) (K : PySem.W.Frag) : R2 := fun x y H Q => ∃ (b d : Addr) (k : NestedKey) (xs : List Rw) (v : V), x = .ref d ∧ y = .ref b ∧ NIs K H k (.ref b) ∧ k.depth ≤ 8 ∧ KD P w K H d xs ∧ kGet xs k = some v ∧ Q v H
theorem ix_kdLK {X : Cx} {P : Program} {w : World} {K : PySem.W.Frag} (hu : X.A.units + 16 < cLine) (hP : X.prog = P := by rfl) (hw : X.w = w := by rfl) (hK : X.K = K := by rfl) : IxR X (rKdL P w K) := by
  subst hP hw hK
  exact ix_kdL hu
theorem ix_kdK {X : Cx} {P : Program} {w : World} {K : PySem.W.Frag} (hu : X.A.units + 16 < cLine) (hP : X.prog = P := by rfl) (hw : X.w = w := by rfl) (hK : X.K = K := by rfl) : IxR X (rKd P w K) := by
  subst hP hw hK
  exact ix_kd hu
theorem pe_fldK {X : Cx} {K : PySem.W.Frag} {e : Expr} {f : Str} {pos : Pos} {ta : TE} (he : PE X e ta) (hb : attributeBase e f X.env (eval e X.env) = eval e X.env) (hK : X.K = K := by rfl) : PE X (.Attribute e f pos) (tFld K ta f) := by
  subst hK
  exact pe_fld he hb
theorem dcI_keys {P : Program} {w : World} {K : PySem.W.Frag} {d : Addr} {o : Obj} {rows : List Rw} {g : TG} {tt : TT} {tk tv : TE} {vs : List Nat} {σ : L2.St} {H1 : Hp} {D : Addr} {Qd : Hp → Prop} (Pv : Nat → Hp → Prop) (start : Pv 0 (upd H1 D (kdO P w D []))) (stays : ∀ i G, i ≤ rows.length → Pv i G → G d = some (.frz o (kdO P w d rows)))
    (turn : ∀ i r G, rows[i]? = some r → Pv i G → g (.ref r.2.1) (wipe σ vs) G fun σ2 G2 => wipe σ2 vs = wipe σ vs ∧ tt σ2 G2 fun b G3 => if b = true then tk σ2 G3 fun y G4 => tv σ2 G4 fun z G5 => moreN P w K D y z G5 (Pv (i + 1)) else Pv (i + 1) G3) (after : ∀ G, Pv rows.length G → Qd G) :
    ∃ W : Nat → Nat → Hp → Prop, (∃ m, W 0 m (upd H1 D (kdO P w D []))) ∧ ∀ i m G, W i m G → ((ItN P w d o rows).stop i G ∧ Qd G) ∨ ((ItN P w d o rows).go i G ∧ ∃ Nx : Hp → Prop, (∀ G', Nx G' → ∃ m', m' < m ∧ W (i + 1) m' G') ∧
      ∀ x G', (ItN P w d o rows).yld i G x G' → g x (wipe σ vs) G' fun σ2 G2 => wipe σ2 vs = wipe σ vs ∧ tt σ2 G2 fun b G3 => if b = true then tk σ2 G3 fun y G4 => tv σ2 G4 fun z G5 => moreN P w K D y z G5 Nx else Nx G3) := by
  refine ⟨fun i m G => m + i = rows.length ∧ Pv i G, ⟨rows.length, rfl, start⟩, fun i m G ⟨e, p⟩ => ?_⟩
  have q := stays i G (by omega) p
  by_cases lt : i < rows.length
  · refine Or.inr ⟨⟨q, lt⟩, Pv (i + 1), fun G' p' => ⟨m - 1, by omega, by omega, p'⟩, fun x G' y => ?_⟩
    obtain ⟨rfl, r, er, rfl⟩ := y
    exact turn i r G' er p
  · have e2 : i = rows.length := by omega
    subst e2
    exact Or.inl ⟨⟨q, Nat.le_refl _⟩, after G p⟩
end Ld
namespace K49
open PySem L2 Ld PyProof.Rows
/-! ### the class Reader -/
def rmeth (i : Nat) : Stmt := match top 28 with
  | .ClassDef _ _ _ body _ _ _ _ _ _ _ => body.getD i (.Pass ⟨0, 0, 0, 0⟩)
  | s => s
abbrev sRInit : Stmt := rmeth 0
abbrev sRAsk : Stmt := rmeth 1
abbrev sRMem : Stmt := rmeth 2
abbrev sRChk : Stmt := rmeth 5
abbrev sRVal : Stmt := rmeth 6
structure Rcl (K : PySem.W.Frag) (CR : Addr) : Prop where
  cls : Cls K CR
  no1 : NoAttr K CR "_server"
  no2 : NoAttr K CR "_day"
  no3 : NoAttr K CR "_held"
/-- what a reader remembers: for an address a target, the days told, and the last day -/
abbrev Mem : Type := List (List Str × List Str × Int × Int)
def memGet (m : Mem) (ws : List Str) : Option (List Str × Int × Int) := (m.find? fun e => decide (e.1 = ws)).map (·.2)
def memPut (m : Mem) (ws : List Str) (v : List Str × Int × Int) : Mem := if (memGet m ws).isSome = true then m.map (fun e => if e.1 = ws then (ws, v) else e) else m ++ [(ws, v)]
def askM (hs : Hist) (m : Mem) (ws : List Str) (day : Int) : Mem := match memGet m ws with
  | some (_, _, u) => if u < day then (match redir (inForce hs day) ws with | some (tg, n) => if 0 < n then memPut m ws (tg, n, day + n) else m | none => m) else m
  | none => match redir (inForce hs day) ws with | some (tg, n) => if 0 < n then memPut m ws (tg, n, day + n) else m | none => m
def askD (hs : Hist) (m : Mem) (ws : List Str) (day : Int) : PyData := match memGet m ws with
  | some (tg, n, u) => if u < day then answerOf (inForce hs day) ws else .tuple [.str "to", wt tg, .int n]
  | none => answerOf (inForce hs day) ws
def MemV (K : PySem.W.Frag) (H : Hp) (v : V) (e : List Str × Int × Int) : Prop := ∃ t p, v = .ref t ∧ SqT K H t [.ref p, .int e.2.1, .int e.2.2] ∧ SqT K H p (e.1.map V.str)
def MemR (K : PySem.W.Frag) (H : Hp) (x : Rw) (e : List Str × List Str × Int × Int) : Prop := x.1 = kA e.1 ∧ MemV K H x.2.2 e.2
theorem MemR.mono {K : PySem.W.Frag} {H H' : Hp} {x : Rw} {e : List Str × List Str × Int × Int} (z : MemR K H x e) (hT : ∀ a xs, SqT K H a xs → SqT K H' a xs) : MemR K H' x e := let ⟨e1, t, p, e2, h1, h2⟩ := z; ⟨e1, t, p, e2, hT _ _ h1, hT _ _ h2⟩
theorem mem_get {K : PySem.W.Frag} {H : Hp} {ws : List Str} : ∀ {rows : List Rw} {m : Mem}, Paired (MemR K H) rows m → match memGet m ws with
    | some e => ∃ v, kGet rows (kA ws) = some v ∧ MemV K H v e
    | none => kGet rows (kA ws) = none
  | _, _, .nil => rfl
  | x :: rows, e :: m, .cons a b => by
    have ih := mem_get (ws := ws) b
    rw [kGet_cons]
    by_cases c : e.1 = ws
    · have g : memGet (e :: m) ws = some e.2 := by
        unfold memGet
        rw [List.find?_cons_of_pos (by simpa using c)]
        rfl
      rw [g, if_pos (by rw [a.1, c])]
      exact ⟨_, rfl, a.2⟩
    · have g : memGet (e :: m) ws = memGet m ws := by
        unfold memGet
        rw [List.find?_cons_of_neg (by simpa using c)]
      rw [g, if_neg (fun z => c (kA_inj (a.1.symm.trans z)))]
      exact ih
theorem mem_set {K : PySem.W.Frag} {H : Hp} {ws : List Str} {v : V} {e : List Str × Int × Int} (hv : MemV K H v e) : ∀ {rows : List Rw} {m : Mem}, Paired (MemR K H) rows m → Paired (MemR K H) (rows.map (kSet (kA ws) v)) (m.map fun x => if x.1 = ws then (ws, e) else x)
  | _, _, .nil => .nil
  | x :: rows, y :: m, .cons a b => by
    refine .cons ?_ (mem_set hv b)
    show MemR K H (kSet (kA ws) v x) (if y.1 = ws then (ws, e) else y)
    unfold kSet
    by_cases c : y.1 = ws
    · rw [if_pos (by rw [a.1, c]), if_pos c]
      exact ⟨by rw [a.1, c], hv⟩
    · rw [if_neg (fun z => c (kA_inj (a.1.symm.trans z))), if_neg c]
      exact a
theorem mem_put {K : PySem.W.Frag} {H : Hp} {ws : List Str} {b : Addr} {v : V} {e : List Str × Int × Int} (hv : MemV K H v e) {rows : List Rw} {m : Mem} (z : Paired (MemR K H) rows m) : Paired (MemR K H) (kPut rows (kA ws) b v) (memPut m ws e) := by
  have g := mem_get (ws := ws) z
  unfold kPut memPut
  cases hm : memGet m ws with
  | none =>
    rw [hm] at g
    have g : kGet rows (kA ws) = none := g
    rw [g]
    exact z.snoc ⟨rfl, hv⟩
  | some x =>
    rw [hm] at g
    obtain ⟨v', g, _⟩ := g
    rw [g]
    exact mem_set hv z
theorem memPut_len (m : Mem) (ws : List Str) (e : List Str × Int × Int) : (memPut m ws e).length ≤ m.length + 1 := by
  unfold memPut
  split
  · rw [List.length_map]
    omega
  · rw [List.length_append]
    exact Nat.le_refl _
section
variable {P : Program} {w : World} {K : PySem.W.Frag} {mg : Str → Option Value} {base : Heap} {f : Addr} {fd : FuncData} {CT CS CR : Addr}
def MemAt (P : Program) (w : World) (K : PySem.W.Frag) (H : Hp) (M : Addr) (m : Mem) : Prop := ∃ rows, KD P w K H M rows ∧ Paired (MemR K H) rows m
/-- a reader: its server stood before, apart from what the reader changes -/
def RdrAt (P : Program) (w : World) (K : PySem.W.Frag) (CT CS CR : Addr) (H : Hp) (a D T M : Addr) (dy : Int) (hs : Hist) (m : Mem) : Prop := ∃ dx sv Hb, H a = some (.ins CR dx [("_server", .ref sv), ("_day", .int dy), ("_held", .ref M)]) ∧ SrvAt P w K CT CS Hb sv D T hs ∧ Hb a = none ∧ Hb M = none ∧ Same Hb H ∧ MemAt P w K H M m
theorem MemAt.same {H H' : Hp} {M : Addr} {m : Mem} (z : MemAt P w K H M m) (s : Same H H') : MemAt P w K H' M m := let ⟨r, h1, h2⟩ := z; ⟨r, h1.same s, Paired.mono (fun _ _ q => q.mono fun _ _ q => same_T s q) h2⟩
theorem MemAt.ext {H H' : Hp} {M : Addr} {m : Mem} (z : MemAt P w K H M m) (s : LamX.ExtN H H') : MemAt P w K H' M m :=
  let ⟨r, kd, h2⟩ := z; ⟨r, ⟨s _ _ kd.at_ (fun _ e => nomatch e), kd.low, kd.few, fun x hx => ⟨nis_mono (fun a xs z => ext_T s z) (kd.key x hx).1, (kd.key x hx).2⟩⟩, Paired.mono (fun _ _ q => q.mono fun _ _ q => ext_T s q) h2⟩
theorem MemAt.sb {H H' : Hp} {M wa : Addr} {m : Mem} (z : MemAt P w K H M m) (W : Sm H wa) (n : M ≠ wa) (s : Sb wa H H') : MemAt P w K H' M m := let ⟨r, h1, h2⟩ := z; ⟨r, kd_sm h1 n W s, Paired.mono (fun _ _ q => q.mono fun _ _ q => smT W s q) h2⟩
theorem RdrAt.same {H H' : Hp} {a D T M : Addr} {dy : Int} {hs : Hist} {m : Mem} (z : RdrAt P w K CT CS CR H a D T M dy hs m) (s : Same H H') : RdrAt P w K CT CS CR H' a D T M dy hs m := let ⟨dx, sv, Hb, h1, h2, h3, h4, h5, h6⟩ := z; ⟨dx, sv, Hb, s _ _ h1, h2, h3, h4, h5.trans s, h6.same s⟩
theorem RdrAt.ext {H H' : Hp} {a D T M : Addr} {dy : Int} {hs : Hist} {m : Mem} (z : RdrAt P w K CT CS CR H a D T M dy hs m) (s : LamX.ExtN H H') : RdrAt P w K CT CS CR H' a D T M dy hs m := by
  obtain ⟨dx, sv, Hb, h1, h2, h3, h4, h5, h6⟩ := z
  refine ⟨dx, sv, fun b => match Hb b with | some (.tbl _) => none | o => o, s _ _ h1 (fun _ e => nomatch e), h2.ext fun b o e n => ?_, by simp only [h3], by simp only [h4], fun b o e => ?_, h6.ext s⟩
  · show (match Hb b with | some (.tbl _) => none | o => o) = some o
    rw [e]
    cases o with
    | tbl ps => exact absurd rfl (n ps)
    | _ => rfl
  · have e : (match Hb b with | some (.tbl _) => none | o => o) = some o := e
    cases eb : Hb b with
    | none => rw [eb] at e; cases e
    | some o' =>
      rw [eb] at e
      have k : ∀ ps, o' ≠ .tbl ps := fun ps z => by rw [z] at e; cases e
      have : o' = o := by
        cases o' with
        | tbl ps => exact absurd rfl (k ps)
        | _ => exact Option.some.inj e
      rw [← this]
      exact s _ _ (h5 _ _ eb) k
theorem RdrAt.sb {H H' : Hp} {a D T M wa : Addr} {dy : Int} {hs : Hist} {m : Mem} (z : RdrAt P w K CT CS CR H a D T M dy hs m) (W : Sm H wa) (nD : D ≠ wa) (nM : M ≠ wa) (s : Sb wa H H') : RdrAt P w K CT CS CR H' a D T M dy hs m := by
  obtain ⟨dx, sv, Hb, h1, h2, h3, h4, h5, h6⟩ := z
  have go : ∀ Hc : Hp, SrvAt P w K CT CS Hc sv D T hs → Hc a = none → Hc M = none → (∀ b o, Hc b = some o → b ≠ wa ∧ H b = some o) → RdrAt P w K CT CS CR H' a D T M dy hs m := fun Hc k1 k2 k3 k4 =>
    ⟨dx, sv, Hc, s _ _ (W.ne h1 trivial) h1, k1, k2, k3, fun b o e => s _ _ (k4 b o e).1 (k4 b o e).2, h6.sb W nM s⟩
  cases e : Hb wa with
  | none => exact go Hb h2 h3 h4 fun b o z => ⟨ne_of_none z e, h5 _ _ z⟩
  | some o =>
    have Wb : Sm Hb wa := by
      obtain ⟨d, k, z, r⟩ := W
      rw [h5 _ _ e] at z
      exact ⟨d, k, by rw [e, z], r⟩
    refine go (fun b => if b = wa then none else Hb b) (h2.sb Wb nD fun b o n z => (if_neg n).trans z) ?_ ?_ fun b o z => ?_
    · show (if a = wa then none else Hb a) = none
      split
      · rfl
      · exact h3
    · exact (if_neg nM).trans h4
    · have z : (if b = wa then none else Hb b) = some o := z
      by_cases c : b = wa
      · rw [if_pos c] at z
        cases z
      · rw [if_neg c] at z
        exact ⟨c, h5 _ _ z⟩
theorem RdrAt.srv {H : Hp} {a D T M : Addr} {dy : Int} {hs : Hist} {m : Mem} (z : RdrAt P w K CT CS CR H a D T M dy hs m) : ∃ dx sv, H a = some (.ins CR dx [("_server", .ref sv), ("_day", .int dy), ("_held", .ref M)]) ∧ SrvAt P w K CT CS H sv D T hs ∧ MemAt P w K H M m := let ⟨dx, sv, Hb, h1, h2, h3, h4, h5, h6⟩ := z; ⟨dx, sv, h1, h2.same h5, h6⟩
theorem TabAt.offI {t a C dx0 : Addr} {fs : List (Str × V)} {G G' : Hp} {rs : List Rl} (z : TabAt P w K CT G t rs) (ha : G a = some (.ins C dx0 fs)) (hf : ∀ (r d m : V), fs ≠ [(("_rules" : Str), r), ("_found", d), ("_longest", m)]) (fr : ∀ b o, b ≠ a → G b = some o → G' b = some o) : TabAt P w K CT G' t rs := by
  obtain ⟨dx, t, d, xs, rows, mx, h1, h2, h3, h4, h5, h6, h7⟩ := z
  have hT : ∀ b ys, SqT K G b ys → SqT K G' b ys := fun b ys h => by
    rcases h with (h | ⟨o, h⟩) | h
    · exact .inl (.inl (fr _ _ (ne_of h ha fun e => nomatch e) h))
    · exact .inl (.inr ⟨o, fr _ _ (ne_of h ha fun e => nomatch e) h⟩)
    · exact .inr h
  exact ⟨dx, t, d, xs, rows, mx, fr _ _ (ne_of h1 ha fun e => hf _ _ _ (HO.ins.inj e).2.2.symm) h1, hT _ _ h2, h3.mono hT, h4, ⟨fr _ _ (ne_of h5.at_ ha fun e => nomatch e) h5.at_, h5.low, h5.few, fun x hx => ⟨nis_mono hT (h5.key x hx).1, (h5.key x hx).2⟩⟩, h6.mono hT, h7⟩
theorem SrvAt.offI {s D T a C dx0 : Addr} {fs : List (Str × V)} {G G' : Hp} {hs : Hist} (z : SrvAt P w K CT CS G s D T hs) (ha : G a = some (.ins C dx0 fs)) (hf : ∀ (r d m : V), fs ≠ [(("_rules" : Str), r), ("_found", d), ("_longest", m)]) (n : s ≠ a) (fr : ∀ b o, b ≠ a → G b = some o → G' b = some o) : SrvAt P w K CT CS G' s D T hs :=
  let ⟨dx, ts, g1, g2, g3, g4, g5⟩ := z
  ⟨dx, ts, fr _ _ n g1, fr _ _ (ne_of g2 ha fun e => nomatch e) g2, fr _ _ (ne_of g3 ha fun e => nomatch e) g3, g4, Paired.mono (fun _ _ q => TabAt.offI q ha hf fr) g5⟩
/-! #### Reader(server) -/
def spRInit (P : Program) (w : World) (K : PySem.W.Frag) (CT CS CR : Addr) : Sp := fun vs H Q _ => ∃ (a dx s D T : Addr) (hs : Hist), vs = [.ref a, .ref s] ∧ H a = some (.ins CR dx []) ∧ SrvAt P w K CT CS H s D T hs ∧ Asc hs ∧ (∀ r ∈ hs, 0 ≤ r.1 ∧ r.1 ≤ 1000000) ∧ hs.length ≤ 90 ∧
  ∀ H' D2 T2 M2, (∀ b o, b ≠ a → H b = some o → H' b = some o) → H D2 = none → H T2 = none → H M2 = none → RdrAt P w K CT CS CR H' a D2 T2 M2 0 hs [] → Q .non H'
theorem scRInit : FnScope ["self", "server"] ["self", "server"] (defScope sRInit) := ⟨rfl, rfl, rfl, by decide +kernel, rfl, by decide +kernel, by decide +kernel⟩
theorem ok_rinit {fC : Addr} {fdC : FuncData} (Fd : Fun K "__init__" "Reader.__init__" sRInit f fd) (S : Scl K CS) (R : Rcl K CR) (mC : Meth K CS "copied" fC) (bC : Binds K fdC ["self"] []) (FC : FnOk P w K mg base CX0 5 fC fdC ["self"] (spSCopy P w K CT CS)) : FnOk P w K mg base CX0 6 f fd ["self", "server"] (spRInit P w K CT CS CR) := by
  refine Fd.ok scRInit (fun vs H Q E h => ?_) (fun cdv A outer s H vs Q E hr h => ?_)
  · obtain ⟨a, dx, s, D, T, hs, rfl, _⟩ := h
    rfl
  · obtain ⟨a, dx, sv, D, Tl, hs, rfl, ha, hS, asc, rng, few, q⟩ := h
    refine ⟨_, pss_cons (ps_fld (pv 0) (pe_meth0 (E := E0) (dvs := []) (pv 1) S.cls mC FC (hr.mono (by decide)) bC .nil (fun _ _ _ _ _ _ _ z => z)) rfl) (pss_cons (ps_fld (pv 0) pe_int rfl) (pss_one (ps_fld (pv 0) pe_dnewN rfl))), ?_⟩
    obtain ⟨sdx, sts, o1, _⟩ := id hS
    refine ⟨_, rfl, sv, sdx, _, rfl, o1, rfl, sv, D, Tl, hs, rfl, hS, asc, rng, few, fun G1 s2 D2 T2 s1 n2 nD nT hS2 => ?_⟩
    have ha1 := s1 _ _ ha
    have n2a : s2 ≠ a := fun e => by rw [e, ha] at n2; cases n2
    refine ⟨_, rfl, a, CR, dx, _, rfl, ha1, R.cls, R.no1, (show 0 < 1000 by decide), ?_⟩
    refine ⟨_, rfl, a, CR, dx, _, rfl, upd_same, R.cls, R.no2, (show 1 < 1000 by decide), ?_⟩
    intro M hM low
    have nMa : M ≠ a := fun e => by rw [e, upd_same] at hM; cases hM
    have hM1 : G1 M = none := by rw [upd_ne nMa, upd_ne nMa] at hM; exact hM
    refine ⟨_, rfl, a, CR, dx, _, rfl, (upd_ne nMa.symm).trans upd_same, R.cls, R.no3, (show 2 < 1000 by decide), ?_⟩
    have fr : ∀ b o, b ≠ a → G1 b = some o → (upd (upd (upd (upd G1 a (.ins CR dx [("_server", .ref s2)])) a (.ins CR dx [("_server", .ref s2), ("_day", .int 0)])) M (kdO P w M [])) a (.ins CR dx [("_server", .ref s2), ("_day", .int 0), ("_held", .ref M)])) b = some o := fun b o n e => by
      rw [upd_ne n, upd_ne (ne_of_none e hM1), upd_ne n, upd_ne n]
      exact e
    refine q _ D2 T2 M (fun b o n e => fr b o n (s1 _ _ e)) nD nT (s1.free hM1) ⟨dx, s2, fun b => if b = a then none else G1 b, upd_same, hS2.offI ha1 (fun _ _ _ e => nomatch e) n2a fun b o n e => (if_neg n).trans e, if_pos rfl, (if_neg nMa).trans hM1, fun b o e => ?_, ⟨[], ⟨(upd_ne nMa).trans upd_same, low, Nat.zero_le _, fun x hx => nomatch hx⟩, .nil⟩⟩
    have e : (if b = a then none else G1 b) = some o := e
    by_cases c : b = a
    · rw [if_pos c] at e
      cases e
    · rw [if_neg c] at e
      exact fr b o c e
end
end K49
namespace K49
open PySem L2 Ld PyProof.Rows
section
variable {P : Program} {w : World} {K : PySem.W.Frag} {mg : Str → Option Value} {base : Heap} {f : Addr} {fd : FuncData} {CT CS CR : Addr}
theorem MemV.mono {H H' : Hp} {v : V} {e : List Str × Int × Int} (z : MemV K H v e) (hT : ∀ a xs, SqT K H a xs → SqT K H' a xs) : MemV K H' v e := let ⟨t, p, e, h1, h2⟩ := z; ⟨t, p, e, hT _ _ h1, hT _ _ h2⟩
/-! #### _check_day, for a day that fits -/
def spRChk (P : Program) (w : World) (K : PySem.W.Frag) (CR : Addr) : Sp := fun vs H Q _ => ∃ (a dx : Addr) (s M : V) (day dy : Int), vs = [.ref a, .int day] ∧ H a = some (.ins CR dx [("_server", s), ("_day", .int dy), ("_held", M)]) ∧ 0 ≤ day ∧ day ≤ 1000000 ∧ dy ≤ day ∧ Q .non H
theorem scRChk : FnScope ["self", "day"] ["self", "day"] (defScope sRChk) := ⟨rfl, rfl, rfl, by decide +kernel, rfl, by decide +kernel, by decide +kernel⟩
theorem ok_rchk (Fd : Fun K "_check_day" "Reader._check_day" sRChk f fd) (R : Rcl K CR) (DD : Df P w K mg base 2 "is_day" ["value"] (spDay K)) : FnOk P w K mg base CX0 3 f fd ["self", "day"] (spRChk P w K CR) := by
  refine Fd.ok scRChk (fun vs H Q E h => ?_) (fun cdv A outer s H vs Q E hr h => ?_)
  · obtain ⟨a, dx, sv, M, day, dy, rfl, _⟩ := h
    rfl
  · obtain ⟨a, dx, sv, M, day, dy, rfl, ha, d0, d1, d2, q⟩ := h
    refine ⟨_, pss_one (ps_if (PW.pt (pw_or (pt_not (pt_val (pe_df DD hr (pa_cons (pv 1) pa_nil)))) (pw_or1 (pt_cmpR op_lt (pv 1) (pe_fld (pv 0) rfl) (nomark _))))) pss_dead pss_nil), ?_⟩
    have nd1 : numD 1000000 (.int day) = true := by simp [numD, d0, d1]
    refine ⟨_, rfl, _, .int day, rfl, .int day, _, rfl, ?_⟩
    show if (!numD 1000000 (.int day)) = true then _ else _
    rw [nd1]
    refine iteF ⟨_, rfl, _, rfl, a, CR, dx, _, .int dy, rfl, ha, R.cls, R.no2, rfl, _, _, rfl, rfl, _, rfl, ?_⟩
    rw [decide_eq_false (by omega)]
    exact iteF q
/-! #### _valid -/
def validM (m : Mem) (ws : List Str) (day : Int) : Option (List Str × Int × Int) := match memGet m ws with
  | some e => if e.2.2 < day then none else some e
  | none => none
def OptMem (K : PySem.W.Frag) (H : Hp) (v : V) : Option (List Str × Int × Int) → Prop
  | some e => MemV K H v e
  | none => v = .non
def spRVal (P : Program) (w : World) (K : PySem.W.Frag) (CR : Addr) : Sp := fun vs H Q _ => ∃ (a dx b M : Addr) (s dy : V) (day : Int) (m : Mem) (ws : List Str), vs = [.ref a, .ref b, .int day] ∧ H a = some (.ins CR dx [("_server", s), ("_day", dy), ("_held", .ref M)]) ∧ MemAt P w K H M m ∧ SqT K H b (ws.map V.str) ∧ ∀ v, OptMem K H v (validM m ws day) → Q v H
theorem scRVal : FnScope ["self", "address", "day", "held"] ["self", "address", "day"] (defScope sRVal) := ⟨rfl, rfl, rfl, by decide +kernel, rfl, by decide +kernel, by decide +kernel⟩
theorem ok_rval (Fd : Fun K "_valid" "Reader._valid" sRVal f fd) (R : Rcl K CR) : FnOk P w K mg base CX0 1 f fd ["self", "address", "day"] (spRVal P w K CR) := by
  refine Fd.ok scRVal (fun vs H Q E h => ?_) (fun cdv A outer s H vs Q E hr h => ?_)
  · obtain ⟨a, dx, b, M, sv, dy, day, m, ws, rfl, _⟩ := h
    rfl
  · obtain ⟨a, dx, b, M, sv, dy, day, m, ws, rfl, ha, hM, hb, q⟩ := h
    have nd := scRVal.nd
    have hu16 : (A.deeper (envOfC "Reader._valid" (defScope sRVal) s.heap.objs.size f cdv)).units + 16 < cLine := Nat.lt_of_le_of_lt (Nat.add_le_add_left (by decide) _) hr.units
    refine ⟨_, pss_cons (ps_set (i := 3) nd rfl (Or.inl rfl) (pe_getN hu16 (pe_fld (pv 0) rfl) (pv 1) ⟨rfl, rfl, rfl, rfl⟩))
      (pss_one (ps_ret (pe_ifExp (PW.pt (pw_or (pt_cmpR op_isN (pv 3) pe_non (nomark _)) (pw_or1 (pt_cmpR op_lt (pe_ix ix_tup (pv 3) pe_int (fun _ _ => rfl)) (pv 2) (nomark _))))) pe_non (pv 3)))), ?_⟩
    obtain ⟨rows, kd, pr⟩ := id hM
    have g := mem_get (ws := ws) pr
    refine ⟨_, rfl, a, CR, dx, _, .ref M, rfl, ha, R.cls, R.no3, rfl, M, rows, rfl, kd, _, rfl, b, kA ws, rows, rfl, nis_ws hb, kA_deep ws, kd, ?_⟩
    unfold validM at q
    cases hm : memGet m ws with
    | none =>
      rw [hm] at g q
      have g : kGet rows (kA ws) = none := g
      rw [g]
      exact ⟨_, rfl, rfl, _, rfl, iteT (q _ rfl)⟩
    | some e =>
      rw [hm] at g q
      obtain ⟨v, g, t, p, rfl, ht, hp⟩ := g
      rw [g]
      refine ⟨_, rfl, rfl, _, rfl, iteF ⟨_, rfl, t, _, _, _, rfl, rfl, ht, at2, _, rfl, _, _, rfl, rfl, _, rfl, ?_⟩⟩
      have q : ∀ v, OptMem K H v (if e.2.2 < day then none else some e) → Q v H := q
      by_cases c : e.2.2 < day
      · rw [if_pos c] at q
        rw [decide_eq_true c]
        exact iteT (q _ rfl)
      · rw [if_neg c] at q
        rw [decide_eq_false c]
        exact iteF ⟨_, rfl, q _ ⟨t, p, rfl, ht, hp⟩⟩
/-! #### ask, on a day that fits -/
theorem memAt_ins {H : Hp} {a C dx M : Addr} {f1 f2 : List (Str × V)} {m : Mem} (ha : H a = some (.ins C dx f1)) (z : MemAt P w K H M m) : MemAt P w K (upd H a (.ins C dx f2)) M m := by
  obtain ⟨rows, kd, pr⟩ := z
  have hT : ∀ b ys, SqT K H b ys → SqT K (upd H a (.ins C dx f2)) b ys := fun b ys q => sqT_ins ha q
  exact ⟨rows, ⟨(upd_ne (ne_of kd.at_ ha fun e => nomatch e)).trans kd.at_, kd.low, kd.few, fun x hx => ⟨nis_mono hT (kd.key x hx).1, (kd.key x hx).2⟩⟩, Paired.mono (fun _ _ q => q.mono hT) pr⟩
def spRAsk (P : Program) (w : World) (K : PySem.W.Frag) (CT CS CR : Addr) : Sp := fun vs H Q _ => ∃ (a b D T M : Addr) (dy day : Int) (hs : Hist) (m : Mem) (ws : List Str), vs = [.ref a, .ref b, .int day] ∧ RdrAt P w K CT CS CR H a D T M dy hs m ∧ hs.length ≤ 100 ∧ 0 ≤ day ∧ day ≤ 1000000 ∧ dy ≤ day ∧ SqT K H b (ws.map V.str) ∧ ws.length ≤ 10000 ∧ m.length ≤ 800 ∧
  ∀ y H', (∀ c o, c ≠ a → c ≠ M → H c = some o → H' c = some o) → RdrAt P w K CT CS CR H' a D T M day hs (askM hs m ws day) → Dp K H' y (askD hs m ws day) → Q y H'
def askN : List Str := ["self", "address", "day", "held", "answer"]
theorem scRAsk : FnScope askN ["self", "address", "day"] (defScope sRAsk) := ⟨rfl, rfl, rfl, by decide +kernel, rfl, by decide +kernel, by decide +kernel⟩
theorem ok_rask {fH fV fA : Addr} {fdH fdV fdA : FuncData} (Fd : Fun K "ask" "Reader.ask" sRAsk f fd) (T : Tx mg) (S : Scl K CS) (R : Rcl K CR) (mH : Meth K CR "_check_day" fH) (bH : Binds K fdH ["self", "day"] []) (FH : FnOk P w K mg base CX0 3 fH fdH ["self", "day"] (spRChk P w K CR))
    (mV : Meth K CR "_valid" fV) (bV : Binds K fdV ["self", "address", "day"] []) (FV : FnOk P w K mg base CX0 1 fV fdV ["self", "address", "day"] (spRVal P w K CR)) (mA : Meth K CS "answer" fA) (bA : Binds K fdA ["self", "address", "day"] []) (FA : FnOk P w K mg base CX0 10 fA fdA ["self", "address", "day"] (spSAns P w K CT CS))
    (IE : Df P w K mg base 1 "is_end" ["answer"] (spIsEnd K)) : FnOk P w K mg base CX0 11 f fd ["self", "address", "day"] (spRAsk P w K CT CS CR) := by
  refine Fd.ok scRAsk (fun vs H Q E h => ?_) (fun cdv A outer s H vs Q E hr h => ?_)
  · obtain ⟨a, b, D, T, M, dy, day, hs, m, ws, rfl, _⟩ := h
    rfl
  · obtain ⟨a, b, D, Tl, M, dy, day, hs, m, ws, rfl, hR, few, d0, d1, d2, hb, hw, few8, q⟩ := h
    have nd := scRAsk.nd
    have hu16 : (A.deeper (envOfC "Reader.ask" (defScope sRAsk) s.heap.objs.size f cdv)).units + 16 < cLine := Nat.lt_of_le_of_lt (Nat.add_le_add_left (by decide) _) hr.units
    refine ⟨_, pss_cons (ps_expr (pe_meth (E := E0) (dvs := []) (pv 0) R.cls mH FH (hr.mono (by decide)) bH .nil (fun _ _ _ _ _ _ _ z => z) (pa_cons (pv 2) pa_nil)))
      (pss_cons (ps_fld (pv 0) (pv 2) rfl)
      (pss_cons (ps_set (i := 3) nd rfl (Or.inl rfl) (pe_meth (E := E0) (dvs := []) (pv 0) R.cls mV FV (hr.mono (by decide)) bV .nil (fun _ _ _ _ _ _ _ z => z) (pa_cons (pe_callTy call_tupleT (by rfl) T.tuple (by decide +kernel) (pa_cons (pv 1) pa_nil)) (pa_cons (pv 2) pa_nil))))
      (pss_cons (ps_if (pt_cmpR op_notN (pv 3) pe_non (nomark _)) (pss_one (ps_ret (pe_tup (pa_cons pe_str (pa_cons (pe_ix ix_tup (pv 3) pe_int (fun _ _ => rfl)) (pa_cons (pe_ix ix_tup (pv 3) pe_int (fun _ _ => rfl)) pa_nil)))))) pss_nil)
      (pss_cons (ps_set (i := 4) nd rfl (Or.inl rfl) (pe_meth (E := E0) (dvs := []) (pe_fld (pv 0) rfl) S.cls mA FA (hr.mono (by decide)) bA .nil (fun _ _ _ _ _ _ _ z => z) (pa_cons (pv 1) (pa_cons (pv 2) pa_nil))))
      (pss_cons (ps_if (PW.pt (pw_and (pt_not (pt_val (pe_df IE hr (pa_cons (pv 4) pa_nil)))) (pw_and1 (pt_cmpR op_gt (pe_ix ix_tup (pv 4) pe_int (fun _ _ => rfl)) pe_int (nomark _)))))
        (pss_one (ps_asg (pe_tup (pa_cons (pe_ix ix_tup (pv 4) pe_int (fun _ _ => rfl)) (pa_cons (pe_ix ix_tup (pv 4) pe_int (fun _ _ => rfl)) (pa_cons (pe_op op_add (pv 2) (pe_ix ix_tup (pv 4) pe_int (fun _ _ => rfl))) pa_nil)))) (pg_sub (pe_fld (pv 0) rfl) (pe_callTy call_tupleT (by rfl) T.tuple (by decide +kernel) (pa_cons (pv 1) pa_nil)) (pset_kd hu16)))) pss_nil)
      (pss_one (ps_ret (pv 4)))))))), ?_⟩
    obtain ⟨dx, sv, Hb, ha, hS, nba, nbM, sb, hM⟩ := hR
    refine ⟨_, rfl, a, dx, _, rfl, ha, rfl, _, rfl, a, dx, _, _, day, dy, rfl, ha, d0, d1, d2, ?_⟩
    refine ⟨_, rfl, _, rfl, a, CR, dx, _, rfl, ha, R.cls, R.no2, (show 3 < 1000 by decide), ?_⟩
    have s1 : Same Hb (upd H a (.ins CR dx [("_server", .ref sv), ("_day", .int day), ("_held", .ref M)])) := fun c o e => by
      rw [upd_ne (ne_of_none e nba)]
      exact sb _ _ e
    have fr1 : ∀ c o, c ≠ a → H c = some o → (upd H a (.ins CR dx [("_server", .ref sv), ("_day", .int day), ("_held", .ref M)])) c = some o := fun c o n e => (upd_ne n).trans e
    have hM1 : MemAt P w K (upd H a (.ins CR dx [("_server", .ref sv), ("_day", .int day), ("_held", .ref M)])) M m := memAt_ins ha hM
    have hb1 : SqT K (upd H a (.ins CR dx [("_server", .ref sv), ("_day", .int day), ("_held", .ref M)])) b (ws.map V.str) := sqT_ins ha hb
    have ha1 := upd_same (H := H) (a := a) (o := .ins CR dx [("_server", .ref sv), ("_day", .int day), ("_held", .ref M)])
    change (_ : L2.St → Hp → Prop) _ (upd H a (.ins CR dx [("_server", .ref sv), ("_day", .int day), ("_held", .ref M)]))
    generalize upd H a (.ins CR dx [("_server", .ref sv), ("_day", .int day), ("_held", .ref M)]) = H1 at s1 fr1 hM1 hb1 ha1 ⊢
    refine ⟨_, rfl, a, dx, _, rfl, ha1, rfl, _, rfl, b, _, rfl, hb1, _, rfl, a, dx, b, M, _, _, day, m, ws, rfl, ha1, hM1, hb1, fun v hv => ?_⟩
    unfold validM at hv
    -- what is remembered still holds
    have held : ∀ tg n u, memGet m ws = some (tg, n, u) → ¬ u < day → askM hs m ws day = m ∧ askD hs m ws day = .tuple [.str "to", wt tg, .int n] := fun tg n u e c => by
      unfold askM askD
      rw [e]
      exact ⟨if_neg c, if_neg c⟩
    have fresh : (memGet m ws = none ∨ ∃ tg n u, memGet m ws = some (tg, n, u) ∧ u < day) → (askM hs m ws day = match redir (inForce hs day) ws with | some (tg, n) => if 0 < n then memPut m ws (tg, n, day + n) else m | none => m) ∧ askD hs m ws day = answerOf (inForce hs day) ws := fun z => by
      unfold askM askD
      rcases z with e | ⟨tg, n, u, e, c⟩
      · rw [e]
        exact ⟨rfl, rfl⟩
      · rw [e]
        exact ⟨if_pos c, if_pos c⟩
    have split2 : (∃ tg n u, memGet m ws = some (tg, n, u) ∧ ¬ u < day ∧ MemV K H1 v (tg, n, u)) ∨ ((memGet m ws = none ∨ ∃ tg n u, memGet m ws = some (tg, n, u) ∧ u < day) ∧ v = .non) := by
      cases e : memGet m ws with
      | none =>
        rw [e] at hv
        exact .inr ⟨.inl rfl, hv⟩
      | some x =>
        obtain ⟨tg, n, u⟩ := x
        rw [e] at hv
        have hv : OptMem K H1 v (if u < day then none else some (tg, n, u)) := hv
        by_cases c : u < day
        · rw [if_pos c] at hv
          exact .inr ⟨.inr ⟨tg, n, u, rfl, c⟩, hv⟩
        · rw [if_neg c] at hv
          exact .inl ⟨tg, n, u, rfl, c, hv⟩
    rcases split2 with ⟨tg, n, u, e, c, t, p, rfl, ht, hp⟩ | ⟨z, rfl⟩
    · obtain ⟨e1, e2⟩ := held tg n u e c
      refine ⟨_, rfl, rfl, _, rfl, iteT ⟨_, rfl, t, _, _, _, rfl, rfl, ht, at0, _, rfl, t, _, _, _, rfl, rfl, ht, at1, (show 3 ≤ sizeLine by decide), fun r hr' => ?_⟩⟩
      have y1 := Same.new (o := .tup [V.str "to", .ref p, .int n]) hr'
      refine q _ _ (fun c o n1 n2 e => y1 _ _ (fr1 c o n1 e)) ?_ ?_
      · rw [e1]
        exact ⟨dx, sv, Hb, y1 _ _ ha1, hS, nba, nbM, s1.trans y1, hM1.same y1⟩
      · rw [e2]
        exact .tup (.of upd_same) (.cons (.str _) (.cons (dp_wt (same_T y1 hp)) (.cons (.int _) .nil)))
    · obtain ⟨e1, e2⟩ := fresh z
      refine ⟨_, rfl, rfl, _, rfl, iteF ?_⟩
      have hS1 := hS.same s1
      obtain ⟨sdx, sts, o1, _⟩ := id hS1
      refine ⟨_, rfl, a, CR, dx, _, .ref sv, rfl, ha1, R.cls, R.no1, rfl, sv, sdx, _, rfl, o1, rfl, _, rfl, _, rfl, sv, b, D, Tl, hs, ws, day, rfl, hS1, few, hb1, hw, fun y H2 s2 dy2 => ?_⟩
      have ha2 := s2 _ _ ha1
      have hM2 := hM1.same s2
      have hb2 := same_T s2 hb1
      obtain ⟨c0, s0, ys, rfl, hc, hto, hno⟩ := ans_at dy2
      refine ⟨_, rfl, c0, s0, ys, rfl, hc, _, rfl, ?_⟩
      have stop : askM hs m ws day = m → Q (.ref c0) H2 := fun em => by
        refine q _ _ (fun c o n1 n2 e => s2 _ _ (fr1 c o n1 e)) ?_ ?_
        · rw [em]
          exact ⟨dx, sv, Hb, ha2, hS, nba, nbM, s1.trans s2, hM2⟩
        · rw [e2]
          exact dy2
      cases ho : redir (inForce hs day) ws with
      | none =>
        rw [decide_eq_false (hno ho)]
        rw [ho] at e1
        exact iteF ⟨_, rfl, stop e1⟩
      | some q2 =>
        obtain ⟨tg, n⟩ := q2
        obtain ⟨rfl, pt, rfl, hpt⟩ := hto tg n ho
        rw [ho] at e1
        rw [decide_eq_true rfl]
        refine iteT ⟨_, rfl, c0, _, _, _, rfl, rfl, hc, at_of (j := 2) rfl rfl, _, _, rfl, rfl, _, rfl, ?_⟩
        by_cases c : n > 0
        · rw [decide_eq_true c]
          have e1 : askM hs m ws day = memPut m ws (tg, n, day + n) := e1.trans (if_pos c)
          refine iteT ⟨_, rfl, c0, _, _, _, rfl, rfl, hc, at1, _, rfl, c0, _, _, _, rfl, rfl, hc, at_of (j := 2) rfl rfl, _, rfl, _, rfl, c0, _, _, _, rfl, rfl, hc, at_of (j := 2) rfl rfl, _, _, rfl, rfl, (show 3 ≤ sizeLine by decide), fun t ht => ?_⟩
          have y1 := Same.new (o := .tup [V.ref pt, .int n, .int (day + n)]) ht
          have ha3 := y1 _ _ ha2
          have hM3 := hM2.same y1
          have hb3 := same_T y1 hb2
          have mv : MemV K (upd H2 t (.tup [V.ref pt, .int n, .int (day + n)])) (.ref t) (tg, n, day + n) := ⟨t, pt, rfl, .of upd_same, same_T y1 hpt⟩
          have dp3 : Dp K (upd H2 t (.tup [V.ref pt, .int n, .int (day + n)])) (.ref c0) (answerOf (inForce hs day) ws) := dp_same y1 dy2
          have s23 := s2.trans y1
          generalize upd H2 t (.tup [V.ref pt, .int n, .int (day + n)]) = H3 at y1 ha3 hM3 hb3 mv dp3 s23 ⊢
          obtain ⟨rows, kd, pr⟩ := hM3
          have lr := Paired.length pr
          have hT : ∀ c ys, SqT K H3 c ys → SqT K (upd H3 M (kdO P w M (kPut rows (kA ws) b (.ref t)))) c ys := fun c ys q => sqT_kd kd.at_ q
          refine ⟨_, rfl, a, CR, dx, _, .ref M, rfl, ha3, R.cls, R.no3, rfl, _, rfl, b, _, rfl, hb3, b, M, kA ws, rows, rfl, rfl, nis_ws hb3, kA_deep ws, kd, ⟨_, rfl, ?_⟩⟩
          have naM : a ≠ M := ne_of ha3 kd.at_ fun e => nomatch e
          refine q _ _ (fun c o n1 n2 e => (upd_ne n2).trans (s23 _ _ (fr1 c o n1 e))) ?_ ?_
          · rw [e1]
            refine ⟨dx, sv, Hb, (upd_ne naM).trans ha3, hS, nba, nbM, fun c o e => (upd_ne (ne_of_none e nbM)).trans (s23 _ _ (s1 _ _ e)), _, kd_put kd (by omega) (nis_ws hb3) (kA_deep ws), ?_⟩
            exact mem_put (mv.mono hT) (Paired.mono (fun _ _ z => MemR.mono z hT) pr)
          · rw [e2]
            exact dp_off hT _ _ (bare_ans _ _) dp3
        · rw [decide_eq_false c]
          exact iteF ⟨_, rfl, stop (e1.trans (if_neg c))⟩
end
end K49
/-! GenMK: o.m(e, .., k = v, ..): a method called by place and by name at once; keyword-only parameters that are all told. -/
namespace Ld
open PySem L2 PyProof.Rows
def tMethN (C : Addr) (m : Str) (n nk : Nat) (sp : Sp) (gV : List V → List V → List V) (E : XK) (to : TE) (t tk : TA) : TE := fun σ H Q => to σ H fun x H1 => ∃ a dx fs, x = V.ref a ∧ H1 a = some (.ins C dx fs) ∧ fs.lookup m = none ∧
  t σ H1 fun vs H2 => tk σ H2 fun zs H3 => vs.length = n ∧ zs.length = nk ∧ sp (gV (.ref a :: vs) zs) H3 Q E
section
variable {X : Cx} {CX : CXT} {E : XK} {k n : Nat} {C f : Addr} {fd : FuncData} {ps ks : List Str} {sp : Sp} {m : Str} {o e : Expr} {es : List Expr} {pos apos : Pos} {kws : List Keyword} {to : TE} {t tk : TA} {g : List Value → List Value → List Value} {gV : List V → List V → List V}
theorem pe_methN {pl : Sem Bool} (he : PE X o to) (c : Cls X.K C) (hm : Meth X.K C m f) (F : FnOk X.prog X.w X.K X.mg X.base CX k f fd ps sp) (hr : Room k X.A) (hb : KBn X.K fd ps (n + 1) ks g gV) (hx : Passes CX X E) (ha : PA X (e :: es) t) (hkw : PK X kws tk)
    (hall : (backToKw pos (keywordEach kws X.env)).all (·.1.isSome) = true := by rfl) (hks : (backToKw pos (keywordEach kws X.env)).filterMap (·.1) = ks := by rfl)
    (hpl : ((backTo pos (starEach (e :: es) X.env)).any (·.1) || (backToKw pos (keywordEach kws X.env)).any (·.1.isNone)) = false := by rfl) (hst : starEach (e :: es) X.env = (false, eval e X.env) :: starEach es X.env := by rfl)
    (ht : eval (.Call (.Attribute o m apos) (e :: es) kws pos) X.env = (do
      let ov ← eval o X.env
      standAt apos.atName
      let (fv, fst) ← holding [ov] (getMethod ov m pl)
      callWith pos fv fst (backTo pos (starEach (e :: es) X.env)) (backToKw pos (keywordEach kws X.env))) := by rfl) :
    PE X (.Call (.Attribute o m apos) (e :: es) kws pos) (tMethN C m n ks.length sp gV E to t tk) := by
  refine ⟨fun pins0 s0 σ0 H0 Q0 I0 h0 => ?_⟩
  refine PySem.W.methodCall_KW (pl := pl) (thn (he.run pins0 s0 σ0 H0 _ I0 h0) fun u0 s1 ⟨x, H1, I1, rx, a, dx, fs, ex, ea, l, q⟩ => ?_) ht
  subst ex
  cases (show u0 = Value.ref a from rx)
  refine getmeth_ok I1 ea c hm l (?_ : _)
  refine PySem.W.callWith_KW (first := [.ref a]) (h₀ := X.base) I1.ok.mod.kin hm.kp hall (thn (ha.run pos pins0 s1 σ0 H1 _ I1 q) fun us s2 ⟨vs, H2, I2, r, q2⟩ => ?_) hpl hst
  refine thn (hkw.run pos pins0 s2 σ0 H2 _ I2 q2) fun ws s3 ⟨zs, H3, I3, rz, l1, l2, q3⟩ => ⟨I3.kIn, ?_⟩
  rw [hks]
  exact run_fnN (us := .ref a :: us) (vs := .ref a :: vs) F hr hb hx I3 (.cons rfl r) rz (congrArg Nat.succ l1) l2 q3
end
/-- the told ones stand behind the others -/
def gEnd (vs zs : List V) : List V := vs ++ zs
theorem kb_end {K : PySem.W.Frag} {fd : FuncData} {ps : List Str} {n : Nat} {ks : List Str} (h : ∀ us ws : List Value, us.length = n → ws.length = ks.length → bindArgs fd ⟨us, ks.zip ws⟩ = pure (ps.zip (us ++ ws))) : KBn K fd ps n ks (fun us ws => us ++ ws) gEnd :=
  ⟨fun s us ws _ l1 l2 => .of_eq (h us ws l1 l2), fun r1 r2 => r1.append r2⟩
end Ld
namespace K49
open PySem L2 Ld PyProof.Rows
abbrev sRFol : Stmt := rmeth 4
/-- a walk of at most k steps more, by a table rs and the targets t -/
def walkW (t : List Str → Option (List Str)) (rs : List Rl) : Nat → List Str → List (List Str) × PyData
  | 0, ws => ([ws], if (t ws).isSome then .none else answerOf rs ws)
  | k + 1, ws => match t ws with
    | none => ([ws], answerOf rs ws)
    | some tg => (ws :: (walkW t rs k tg).1, (walkW t rs k tg).2)
theorem pair_getF {α β : Type} {F : α → β → Prop} : ∀ {xs : List α} {l : List β}, Paired F xs l → ∀ {i : Nat} {x : α}, xs[i]? = some x → ∃ k, l[i]? = some k ∧ F x k
  | _, _, .nil, _, _, h => by simp at h
  | _, _, .cons a _, 0, _, h => ⟨_, rfl, by simp at h; exact h ▸ a⟩
  | _, _, .cons _ b, i + 1, _, h => let ⟨k, e, f⟩ := pair_getF b (i := i) (by simpa using h); ⟨k, by simpa using e, f⟩
/-- where a reader goes on to -/
def stepT (hs : Hist) (m : Mem) (day : Int) (ws : List Str) : Option (List Str) := match validM m ws day with
  | some e => some e.1
  | none => (redir (inForce hs day) ws).map (·.1)
section
variable {P : Program} {w : World} {K : PySem.W.Frag} {mg : Str → Option Value} {base : Heap} {f : Addr} {fd : FuncData} {CT CS CR : Addr}
def AdrR (K : PySem.W.Frag) (H : Hp) (v : V) (ws : List Str) : Prop := ∃ p, v = .ref p ∧ SqT K H p (ws.map V.str)
theorem AdrR.mono {H H' : Hp} {v : V} {ws : List Str} (z : AdrR K H v ws) (hT : ∀ a xs, SqT K H a xs → SqT K H' a xs) : AdrR K H' v ws := let ⟨p, e, h⟩ := z; ⟨p, e, hT _ _ h⟩
def spRFol (P : Program) (w : World) (K : PySem.W.Frag) (CT CS CR : Addr) : Sp := fun vs H Q _ => ∃ (a b D T M : Addr) (dy day steps : Int) (hs : Hist) (m : Mem) (ws : List Str), vs = [.ref a, .ref b, .int day, .int steps] ∧ RdrAt P w K CT CS CR H a D T M dy hs m ∧ hs.length ≤ 100 ∧ 0 ≤ day ∧ day ≤ 1000000 ∧ dy ≤ day ∧ 0 ≤ steps ∧ steps ≤ 1000 ∧ SqT K H b (ws.map V.str) ∧
  (∀ x ∈ (walkW (stepT hs m day) (inForce hs day) steps.toNat ws).1, x.length ≤ 10000) ∧
  ∀ t l xs y H', Same H H' → H t = none → H l = none → t ≠ l → SqT K H' t [.ref l, y] → H' l = some (.lst xs) → Paired (AdrR K H') xs (walkW (stepT hs m day) (inForce hs day) steps.toNat ws).1 → Dp K H' y (walkW (stepT hs m day) (inForce hs day) steps.toNat ws).2 → Q (.ref t) H'
def FolI (P : Program) (w : World) (K : PySem.W.Frag) (CT : Addr) (H : Hp) (a b tb l : Addr) (day st : Int) (ws : List Str) (t : List Str → Option (List Str)) (rs : List Rl) (k : Nat) (σ : L2.St) (G : Hp) : Prop := ∃ (pre : List (List Str)) (cur : List Str) (xs : List V) (v6 v7 : Option V),
  σ = [some (.ref a), some (.ref b), some (.int day), some (.int st), some (.ref tb), some (.ref l), v6, v7] ∧ G l = some (.lst xs) ∧ Paired (AdrR K G) xs (pre ++ [cur]) ∧ pre.length + k = st.toNat ∧
  pre ++ (walkW t rs k cur).1 = (walkW t rs st.toNat ws).1 ∧ (walkW t rs k cur).2 = (walkW t rs st.toNat ws).2 ∧ Same H G ∧ TabAt P w K CT G tb rs
def folN : List Str := ["self", "address", "day", "steps", "table", "walk", "held", "answer"]
theorem scRFol : FnScope folN ["self", "address", "day", "steps"] (defScope sRFol) := ⟨rfl, rfl, rfl, by decide +kernel, rfl, by decide +kernel, by decide +kernel⟩
theorem ok_rfol {fH fV fT fA : Addr} {fdH fdV fdT fdA : FuncData} {kws : List (Str × V)} (Fd : FunD K "follow" "Reader.follow" (defArgs sRFol) (defBody sRFol) (defScope sRFol) [] kws f fd) (T : Tx mg) (S : Scl K CS) (R : Rcl K CR) (C : Tcl K CT) (mH : Meth K CR "_check_day" fH) (bH : Binds K fdH ["self", "day"] []) (FH : FnOk P w K mg base CX0 3 fH fdH ["self", "day"] (spRChk P w K CR))
    (mV : Meth K CR "_valid" fV) (bV : Binds K fdV ["self", "address", "day"] []) (FV : FnOk P w K mg base CX0 1 fV fdV ["self", "address", "day"] (spRVal P w K CR)) (mT : Meth K CS "table" fT) (bT : Binds K fdT ["self", "day"] []) (FT : FnOk P w K mg base CX0 9 fT fdT ["self", "day"] (spSTable P w K CT CS))
    (mA : Meth K CT "answer" fA) (bA : Binds K fdA ["self", "address"] []) (FA : FnOk P w K mg base CX0 4 fA fdA ["self", "address"] (spAns P w K CT)) (IE : Df P w K mg base 1 "is_end" ["answer"] (spIsEnd K)) : FnOk P w K mg base CX0 10 f fd ["self", "address", "day", "steps"] (spRFol P w K CT CS CR) := by
  refine Fd.ok0 scRFol (fun vs H Q E h => ?_) (fun cdv A outer s H vs Q E hr h => ?_)
  · obtain ⟨a, b, D, T, M, dy, day, st, hs, m, ws, rfl, _⟩ := h
    rfl
  · obtain ⟨a, b, D, Tl, M, dy, day, st, hs, m, ws, rfl, hR, few, d0, d1, d2, s0, s1, hb, hw, q⟩ := h
    have nd := scRFol.nd
    refine ⟨_, pss_cons (ps_expr (pe_meth (E := E0) (dvs := []) (pv 0) R.cls mH FH (hr.mono (by decide)) bH .nil (fun _ _ _ _ _ _ _ z => z) (pa_cons (pv 2) pa_nil)))
      (pss_cons (ps_set (i := 4) nd rfl (Or.inl rfl) (pe_meth (E := E0) (dvs := []) (pe_fld (pv 0) rfl) S.cls mT FT (hr.mono (by decide)) bT .nil (fun _ _ _ _ _ _ _ z => z) (pa_cons (pv 2) pa_nil)))
      (pss_cons (ps_set (i := 5) nd rfl (Or.inl rfl) (pe_lstN (pa_cons (pe_callTy call_tupleT (by rfl) T.tuple (by decide +kernel) (pa_cons (pv 1) pa_nil)) pa_nil)))
      (pss_one (ps_while PassesOwn.never (pt_val pe_bl)
        (pss_cons (ps_set (i := 6) nd rfl (Or.inl rfl) (pe_meth (E := E0) (dvs := []) (pv 0) R.cls mV FV (hr.mono (by decide)) bV .nil (fun _ _ _ _ _ _ _ z => z) (pa_cons (pe_ix ix_list (pv 5) (pe_un un_neg pe_int) (fun _ _ => rfl)) (pa_cons (pv 2) pa_nil))))
        (pss_cons (ps_set (i := 7) nd rfl (Or.inl rfl) (pe_ifExp (pt_cmpR op_isN (pv 6) pe_non (nomark _)) (pe_meth (E := E0) (dvs := []) (pv 4) C.cls mA FA (hr.mono (by decide)) bA .nil (fun _ _ _ _ _ _ _ z => z) (pa_cons (pe_ix ix_list (pv 5) (pe_un un_neg pe_int) (fun _ _ => rfl)) pa_nil)) (pe_tup (pa_cons pe_str (pa_cons (pe_ix ix_tup (pv 6) pe_int (fun _ _ => rfl)) (pa_cons (pe_ix ix_tup (pv 6) pe_int (fun _ _ => rfl)) pa_nil))))))
        (pss_cons (ps_if (pt_val (pe_df IE hr (pa_cons (pv 7) pa_nil))) (pss_one (ps_ret (pe_tup (pa_cons (pv 5) (pa_cons (pv 7) pa_nil))))) pss_nil)
        (pss_cons (ps_if (pt_cmpR op_gt (pe_callB call_len_seq (by rfl) T.len PySem.boot_len (pa_cons (pv 5) pa_nil)) (pv 3) (nomark _)) (pss_one (ps_ret (pe_tup (pa_cons (pv 5) (pa_cons pe_non pa_nil))))) pss_nil)
        (pss_one (ps_expr (pe_bm PySem.F.plainAttrs_list PySem.F.slot_list_append PySem.F.type_list_append mt_append (pv 5) (pa_cons (pe_ix ix_tup (pv 7) pe_int (fun _ _ => rfl)) pa_nil)))))))))))), ?_⟩
    obtain ⟨dx, sv, Hb, ha, hS, nba, nbM, sb, hM⟩ := hR
    refine ⟨_, rfl, a, dx, _, rfl, ha, rfl, _, rfl, a, dx, _, _, day, dy, rfl, ha, d0, d1, d2, ?_⟩
    have hS1 := hS.same sb
    obtain ⟨sdx, sts, o1, _⟩ := id hS1
    refine ⟨_, rfl, a, CR, dx, _, .ref sv, rfl, ha, R.cls, R.no1, rfl, sv, sdx, _, rfl, o1, rfl, _, rfl, sv, D, Tl, hs, day, rfl, hS1, few, fun G1 tb y1 tab => ?_⟩
    refine ⟨_, rfl, b, _, rfl, same_T y1 hb, (show 1 ≤ sizeLine by decide), fun l hl low => ?_⟩
    have nlH := y1.free hl
    have z2 := Same.new (o := .lst [V.ref b]) hl
    have kl := upd_same (H := G1) (a := l) (o := .lst [V.ref b])
    have y2 := y1.trans z2
    have tab2 := tab.same z2
    clear hl
    generalize upd G1 l (.lst [V.ref b]) = G2 at z2 kl y2 tab2 ⊢
    refine ⟨FolI P w K CT H a b tb l day st ws (stepT hs m day) (inForce hs day), ⟨st.toNat, [], ws, [.ref b], none, none, rfl, kl, .cons ⟨b, rfl, same_T y2 hb⟩ .nil, Nat.zero_add _, rfl, rfl, y2, tab2⟩, ?_⟩
    rintro k σ G ⟨pre, cur, xs, v6, v7, rfl, kl, hx, hk, hw1, hw2, sG, tG⟩
    refine ⟨_, rfl, iteT ⟨fun σ' H' => ∃ m', m' < k ∧ FolI P w K CT H a b tb l day st ws (stepT hs m day) (inForce hs day) m' σ' H', fun _ _ z => z, ?_⟩⟩
    have lx := Paired.length hx
    rw [List.length_append] at lx
    have lx : xs.length = pre.length + 1 := lx
    obtain ⟨pc, epc, hpc⟩ : ∃ p, xs[xs.length - 1]? = some (V.ref p) ∧ SqT K G p (cur.map V.str) := by
      obtain ⟨x, hx1⟩ : ∃ x, xs[xs.length - 1]? = some x := ⟨_, List.getElem?_eq_getElem (by omega)⟩
      obtain ⟨y, hy, p, rfl, hp⟩ := pair_getF hx hx1
      rw [lx, Nat.add_sub_cancel, List.getElem?_append_right (Nat.le_refl _), Nat.sub_self] at hy
      cases hy
      exact ⟨p, hx1, hp⟩
    have lc : cur.length ≤ 10000 := by
      refine hw cur ?_
      rw [← hw1]
      refine List.mem_append_right _ ?_
      cases k with
      | zero => exact List.mem_cons_self
      | succ k =>
        unfold walkW
        split <;> exact List.mem_cons_self
    have haG := sG _ _ ha
    have hMG := hM.same sG
    refine ⟨_, rfl, a, dx, _, rfl, haG, rfl, _, rfl, 1, rfl, l, _, _, _, rfl, rfl, .of kl, at_last (by omega) epc, _, rfl, a, dx, pc, M, _, _, day, m, cur, rfl, haG, hMG, hpc, fun v hv => ?_⟩
    cases e : validM m cur day
    case' some r =>
      obtain ⟨tg, n, u⟩ := r
      rw [e] at hv
      obtain ⟨t, pt, rfl, ht, hpt⟩ := hv
      refine ⟨_, rfl, rfl, _, rfl, iteF ⟨_, rfl, t, _, _, _, rfl, rfl, ht, at0, _, rfl, t, _, _, _, rfl, rfl, ht, at1, (show 3 ≤ sizeLine by decide), fun c hc => ?_⟩⟩
      have z3 := Same.new (o := .tup [V.str "to", .ref pt, .int n]) hc
      have an : AnsIs K (upd G c (.tup [V.str "to", .ref pt, .int n])) (.ref c) (some (tg, n)) := ⟨c, "to", _, rfl, .of upd_same, fun tg' n' e => by cases e; exact ⟨rfl, pt, rfl, same_T z3 hpt⟩, fun e => by cases e⟩
      have es : stepT hs m day cur = some tg := by
        unfold stepT
        rw [e]
      have eo : (some (tg, n) : Option (List Str × Int)).map (·.1) = stepT hs m day cur := es.symm
      have dn : stepT hs m day cur = none → Dp K (upd G c (.tup [V.str "to", .ref pt, .int n])) (.ref c) (answerOf (inForce hs day) cur) := fun e => by rw [es] at e; cases e
      generalize upd G c (.tup [V.str "to", .ref pt, .int n]) = G3 at z3 an dn ⊢
      generalize V.ref c = y7 at an dn ⊢
      generalize (some (tg, n) : Option (List Str × Int)) = o at an eo
      have key := And.intro z3 (And.intro an (And.intro eo dn))
      clear z3 an eo dn ht hpt es e hc
      revert key
    case' none =>
      rw [e] at hv
      cases hv
      obtain ⟨tdx, tt, td, tz, trows, tm, o8, _⟩ := id tG
      refine ⟨_, rfl, rfl, _, rfl, iteT ⟨_, rfl, tb, tdx, _, rfl, o8, rfl, _, rfl, 1, rfl, l, _, _, _, rfl, rfl, .of kl, at_last (by omega) epc, tb, pc, _, cur, rfl, tG, hpc, lc, fun y7 G3 z3 dy7 => ?_⟩⟩
      have an := ans_at dy7
      have eo : (redir (inForce hs day) cur).map (·.1) = stepT hs m day cur := by
        unfold stepT
        rw [e]
      have dn : stepT hs m day cur = none → Dp K G3 y7 (answerOf (inForce hs day) cur) := fun _ => dy7
      generalize redir (inForce hs day) cur = o at an eo
      have key := And.intro z3 (And.intro an (And.intro eo dn))
      clear z3 an eo dn dy7 e
      revert key
    all_goals
      rintro ⟨z3, ⟨c, s0', ys, rfl, hc, hto, hno⟩, eo, dn⟩
      have kl3 := z3 _ _ kl
      have hx3 := Paired.mono (fun _ _ q => AdrR.mono q fun _ _ z => same_T z3 z) hx
      have sG3 := sG.trans z3
      have tG3 := tG.same z3
      refine ⟨_, rfl, c, s0', ys, rfl, hc, _, rfl, ?_⟩
      cases o with
      | none =>
        rw [decide_eq_false (hno rfl)]
        have es : stepT hs m day cur = none := eo.symm
        have we : walkW (stepT hs m day) (inForce hs day) k cur = ([cur], answerOf (inForce hs day) cur) := by
          cases k with
          | zero =>
            unfold walkW
            rw [es]
            rfl
          | succ k =>
            unfold walkW
            rw [es]
        rw [we] at hw1 hw2
        refine iteT ⟨_, rfl, _, rfl, (show 2 ≤ sizeLine by decide), fun t ht => ?_⟩
        have z4 := Same.new (o := .tup [V.ref l, .ref c]) ht
        have hT4 : ∀ a ys, SqT K _ a ys → SqT K _ a ys := fun a ys q => same_T z4 q
        refine q t l xs _ _ (sG3.trans z4) ((sG3).free ht) nlH (fun e => by rw [e, kl3] at ht; cases ht) (.of upd_same) (z4 _ _ kl3) ?_ ?_
        · rw [← hw1]
          exact Paired.mono (fun _ _ q => AdrR.mono q hT4) hx3
        · rw [← hw2]
          exact dp_same z4 (dn es)
      | some r =>
        obtain ⟨tg, n⟩ := r
        obtain ⟨rfl, pt, rfl, hpt⟩ := hto tg n rfl
        have es : stepT hs m day cur = some tg := eo.symm
        rw [decide_eq_true rfl]
        refine iteF ⟨_, rfl, l, xs, rfl, .inl (.of kl3), _, rfl, _, _, rfl, rfl, _, rfl, ?_⟩
        cases k with
        | zero =>
          have we : walkW (stepT hs m day) (inForce hs day) 0 cur = ([cur], .none) := by
            unfold walkW
            rw [es]
            rfl
          rw [we] at hw1 hw2
          rw [decide_eq_true (show (xs.length : Int) > st by omega)]
          refine iteT ⟨_, rfl, (show 2 ≤ sizeLine by decide), fun t ht => ?_⟩
          have z4 := Same.new (o := .tup [V.ref l, .non]) ht
          have hT4 : ∀ a ys, SqT K _ a ys → SqT K _ a ys := fun a ys q => same_T z4 q
          refine q t l xs _ _ (sG3.trans z4) ((sG3).free ht) nlH (fun e => by rw [e, kl3] at ht; cases ht) (.of upd_same) (z4 _ _ kl3) ?_ ?_
          · rw [← hw1]
            exact Paired.mono (fun _ _ q => AdrR.mono q hT4) hx3
          · rw [← hw2]
            exact .non
        | succ k =>
          have we : walkW (stepT hs m day) (inForce hs day) (k + 1) cur = (cur :: (walkW (stepT hs m day) (inForce hs day) k tg).1, (walkW (stepT hs m day) (inForce hs day) k tg).2) := by
            rw [walkW, es]
          rw [we] at hw1 hw2
          rw [decide_eq_false (show ¬ (xs.length : Int) > st by omega)]
          refine iteF ⟨_, rfl, Or.inl ⟨rfl, _, Or.inl (Or.inl kl3)⟩, _, rfl, c, _, _, _, rfl, rfl, hc, at1, l, xs, _, rfl, rfl, kl3, Nat.lt_of_le_of_lt (show xs.length ≤ 1001 by omega) (by decide), ?_⟩
          have hT4 : ∀ a ys, SqT K G3 a ys → SqT K (upd G3 l (.lst (xs ++ [.ref pt]))) a ys := fun a ys q => sqT_list kl3 q
          refine ⟨k, Nat.lt_succ_self k, pre ++ [cur], tg, _, _, _, rfl, upd_same, ?_, by rw [List.length_append]; simp; omega, ?_, hw2, ?_, ?_⟩
          · exact Paired.snoc (Paired.mono (fun _ _ q => AdrR.mono q hT4) hx3) ⟨pt, rfl, hT4 _ _ hpt⟩
          · rw [List.append_assoc]
            exact hw1
          · exact fun b' o' e' => (upd_ne (ne_of_none e' nlH)).trans (sG3 _ _ e')
          · exact tG3.off kl3 (fun c o n e => (upd_ne n).trans e)
end
end K49
namespace K49
open PySem L2 Ld PyProof.Rows
abbrev sForce : Stmt := top 46
/-! ### the rules in force, as the law finds them -/
def forceL (h : Hist) (day : Int) : List Rl := h.foldl (fun acc r => if r.1 ≤ day then r.2 else acc) []
theorem force_snoc (h : Hist) (r : Int × List Rl) (day : Int) : forceL (h ++ [r]) day = if r.1 ≤ day then r.2 else forceL h day := by
  unfold forceL
  rw [List.foldl_append]
  rfl
def headOf : List (List Rl × Int) → List Rl
  | [] => []
  | r :: _ => r.1
theorem head_if (l : List (List Rl × Int)) : headOf (if l.isEmpty = true then [([], 0)] else l) = headOf l := by
  cases l <;> rfl
theorem in_head (hs : Hist) (day : Int) : inForce hs day = headOf (srcR day hs.reverse day) := by
  rw [← head_if]
  unfold inForce srcOf
  generalize (if (srcR day hs.reverse day).isEmpty = true then [(([] : List Rl), (0 : Int))] else srcR day hs.reverse day) = l
  cases l <;> rfl
theorem force_head (day : Int) : ∀ (h : Hist) (u : Int), headOf (srcR day h u) = forceL h.reverse day
  | [], _ => rfl
  | r :: h, u => by
    rw [List.reverse_cons, force_snoc]
    show headOf (if r.1 ≤ day then (r.2, day - u) :: srcR day h (r.1 - 1) else srcR day h u) = _
    split
    · rfl
    · exact force_head day h u
theorem in_force (hs : Hist) (day : Int) : inForce hs day = forceL hs day := by
  rw [in_head, force_head, List.reverse_reverse]
theorem force_good {h : Hist} (g : ∀ r ∈ h, Good r.2) (day : Int) : Good (forceL h day) := by
  have go : ∀ (h : Hist) (acc : List Rl), (∀ r ∈ h, Good r.2) → Good acc → Good (h.foldl (fun acc r => if r.1 ≤ day then r.2 else acc) acc) := fun h => by
    induction h with
    | nil => exact fun _ _ z => z
    | cons r h ih =>
      intro acc g z
      rw [List.foldl_cons]
      refine ih _ (fun x hx => g x (List.mem_cons_of_mem _ hx)) ?_
      split
      · exact g r List.mem_cons_self
      · exact z
  exact go h [] g ⟨(fun r hr => by cases hr), by decide, List.nodup_nil⟩
section
variable {P : Program} {w : World} {K : PySem.W.Frag} {mg : Str → Option Value} {base : Heap} {f : Addr} {fd : FuncData} {CT : Addr}
def spForce (K : PySem.W.Frag) : Sp := fun vs H Q _ => ∃ (hl : Addr) (h : Hist) (day : Int), vs = [.ref hl, .int day] ∧ HistAt K H hl h ∧ ∀ H' l ys, Same H H' → H' l = some (.lst ys) → Rules K H' ys (forceL h day) → Q (.ref l) H'
def forceN : List Str := ["_law_history_here", "_law_day", "_law_found", "_law_begin", "_law_rules_here"]
theorem scForce : FnScope forceN ["_law_history_here", "_law_day"] (defScope sForce) := ⟨rfl, rfl, rfl, by decide +kernel, rfl, by decide +kernel, by decide +kernel⟩
theorem ok_force (Fd : Fun K "_law_force" "_law_force" sForce f fd) : FnOk P w K mg base CX0 1 f fd ["_law_history_here", "_law_day"] (spForce K) := by
  refine Fd.ok scForce (fun vs H Q E h => ?_) (fun cdv A outer s H vs Q E hr h => ?_)
  · obtain ⟨hl, h, day, rfl, _⟩ := h
    rfl
  · obtain ⟨hl, h, day, rfl, hA, q⟩ := h
    have nd := scForce.nd
    refine ⟨_, pss_cons (ps_set (i := 2) nd rfl (Or.inl rfl) (pe_lst pa_nil))
      (pss_cons (ps_for PassesOwn.never rfl (pi_list (pv 0)) (pg_tup rfl (pgs_cons (pg_name (i := 3) nd rfl (Or.inl rfl)) (pgs_cons (pg_name (i := 4) nd rfl (Or.inl rfl)) pgs_nil)))
        (pss_one (ps_set (i := 2) nd rfl (Or.inl rfl) (pe_ifExp (pt_cmpR op_le (pv 3) (pv 1) (nomark _)) (pv 4) (pv 2)))))
      (pss_one (ps_ret (pv 2)))), ?_⟩
    obtain ⟨xs, hx, hp⟩ := hA
    have lx := Paired.length hp
    refine ⟨(show 0 ≤ sizeLine by decide), fun F hF => ?_⟩
    have s1 := Same.new (o := .lst []) hF
    have kF := upd_same (H := H) (a := F) (o := .lst [])
    generalize upd H F (.lst []) = G1 at s1 kF ⊢
    refine ⟨_, rfl, hl, rfl, ⟨_, .of (s1 _ _ hx)⟩, for_list (K := K) (a := hl) (xs := xs) (fun i σ G => G = G1 ∧ ∃ l ys v3 v4, σ = [some (.ref hl), some (.int day), some (.ref l), v3, v4] ∧ G l = some (.lst ys) ∧ Rules K G ys (forceL (h.take i) day))
      ⟨rfl, F, [], none, none, rfl, kF, .nil⟩ (fun i σ G _ z => by rw [z.1]; exact .of (s1 _ _ hx)) ?_ ?_⟩
    · rintro i y σ G hy ⟨rfl, l0, ys0, v3, v4, rfl, kl, hR0⟩
      obtain ⟨r, er, p, l, ys, rfl, hp2, nlD, hl2, hR⟩ := pair_get hp hy
      have tk : h.take (i + 1) = h.take i ++ [r] := by rw [List.take_add_one, er]; rfl
      refine ⟨p, _, rfl, same_T s1 hp2, rfl, _, _, rfl, _, _, rfl, rfl, _, rfl, _, rfl, _, _, rfl, rfl, _, rfl, ?_⟩
      by_cases c : r.1 ≤ day
      · rw [decide_eq_true c]
        refine iteT ⟨_, rfl, rfl, l, ys, _, _, rfl, s1 _ _ hl2, ?_⟩
        rw [tk, force_snoc, if_pos c]
        exact hR.same s1
      · rw [decide_eq_false c]
        refine iteF ⟨_, rfl, rfl, l0, ys0, _, _, rfl, kl, ?_⟩
        rw [tk, force_snoc, if_neg c]
        exact hR0
    · rintro σ G ⟨rfl, l0, ys0, v3, v4, rfl, kl, hR0⟩
      rw [List.take_of_length_le (by omega)] at hR0
      exact ⟨_, rfl, q _ l0 ys0 s1 kl hR0⟩
end
end K49
namespace K49
open PySem PySem.Spec L2 Ld PyProof.Rows
theorem get_cons (e : List Str × List Str × Int × Int) (m : Mem) (ws : List Str) : memGet (e :: m) ws = if e.1 = ws then some e.2 else memGet m ws := by
  unfold memGet
  by_cases c : e.1 = ws
  · rw [List.find?_cons_of_pos (by simpa using c), if_pos c]
    rfl
  · rw [List.find?_cons_of_neg (by simpa using c), if_neg c]
/-! ### what is shown of walks is short -/
structure Slim (d : PyData) (k n : Nat) : Prop where
  sh : d.showable = true
  dp : d.depth ≤ k
  ln : d.shown.length ≤ n
  nd : d.hasDict = false
theorem Slim.wide {d : PyData} {k n k' n' : Nat} (s : Slim d k n) (h1 : k ≤ k') (h2 : n ≤ n') : Slim d k' n' := ⟨s.sh, Nat.le_trans s.dp h1, Nat.le_trans s.ln h2, s.nd⟩
theorem slim_all {k n : Nat} : ∀ {ds : List PyData}, (∀ d ∈ ds, Slim d k n) → PyData.showableAll ds = true ∧ PyData.depthAll ds ≤ k ∧ ((PyData.shownAll ds).map (·.length)).sum ≤ n * ds.length ∧ (PyData.shownAll ds).length = ds.length ∧ PyData.hasDictAll ds = false
  | [], _ => ⟨rfl, Nat.zero_le _, Nat.le_refl _, rfl, rfl⟩
  | d :: ds, h => by
    obtain ⟨a1, a2, a3, a4, a5⟩ := slim_all fun x hx => h x (List.mem_cons_of_mem _ hx)
    obtain ⟨b1, b2, b3, b4⟩ := h d List.mem_cons_self
    simp only [PyData.showableAll, PyData.depthAll, PyData.shownAll, PyData.hasDictAll, List.map_cons, List.sum_cons, List.length_cons, a1, a5, b1, b4]
    refine ⟨rfl, by omega, ?_, by omega, rfl⟩
    rw [Nat.mul_succ]
    omega
theorem slim_tup {k n : Nat} {ds : List PyData} (h : ∀ d ∈ ds, Slim d k n) : Slim (.tuple ds) (k + 1) (n * ds.length + 2 * ds.length + 3) := by
  obtain ⟨a1, a2, a3, a4, a5⟩ := slim_all h
  refine ⟨a1, ?_, ?_, by rw [PyData.hasDict]; exact a5⟩
  · simp only [PyData.depth]
    omega
  · have := tupleText_len_le (PyData.shownAll ds)
    show (tupleText (PyData.shownAll ds)).length ≤ _
    omega
theorem slim_list {k n : Nat} {ds : List PyData} (h : ∀ d ∈ ds, Slim d k n) : Slim (.list ds) (k + 1) (n * ds.length + 2 * ds.length + 3) := by
  obtain ⟨a1, a2, a3, a4, a5⟩ := slim_all h
  refine ⟨a1, ?_, ?_, by rw [PyData.hasDict]; exact a5⟩
  · simp only [PyData.depth]
    omega
  · have := listText_len_le (PyData.shownAll ds)
    show (listText (PyData.shownAll ds)).length ≤ _
    omega
theorem slim_word {z : Str} (h : Wd z) : Slim (.str z) 0 10 := ⟨rfl, Nat.le_refl _, w_shown h, rfl⟩
theorem slim_lit {s : Str} (h : wordB s = true) : Slim (.str s) 0 200 := let t := tiny_lit h; ⟨t.sh, (by simp [PyData.depth]), t.ln, t.nd⟩
theorem slim_int {n : Int} (h0 : 0 ≤ n) (h1 : n ≤ 10000) : Slim (.int n) 0 13 := ⟨n_shows h0 h1, Nat.zero_le _, n_shown h0 h1, rfl⟩
theorem slim_wt {ws : List Str} {N : Nat} (h : ∀ z ∈ ws, Wd z) (hl : ws.length ≤ N) : Slim (wt ws) 1 (12 * N + 3) := by
  refine (slim_tup (k := 0) (n := 10) fun d hd => ?_).wide (Nat.le_refl _) ?_
  · obtain ⟨z, hz, rfl⟩ := List.mem_map.mp hd
    exact slim_word (h z hz)
  · rw [List.length_map]
    omega
theorem slim_3 {N : Nat} {ds : List PyData} (h : ∀ d ∈ ds, Slim d 1 (12 * N + 203)) (l : ds.length ≤ 3) : Slim (.tuple ds) 2 (36 * N + 700) :=
  (slim_tup h).wide (Nat.le_refl _) (by
    have : (12 * N + 203) * ds.length ≤ (12 * N + 203) * 3 := Nat.mul_le_mul_left _ l
    omega)
theorem slim_ans {rs : List Rl} (g : ∀ r ∈ rs, r.Ok) {ws : List Str} {N : Nat} (h : ∀ z ∈ ws, Wd z) (hl : ws.length + 4 ≤ N) : Slim (answerOf rs ws) 2 (36 * N + 700) := by
  have an1 : ∀ {an : An} (b : Bool), an.Ok → Slim (an.d b) 2 (36 * N + 700) := fun {an} b ok => by
    cases an with
    | gone => exact slim_3 (fun d hd => by rw [List.mem_singleton.mp hd]; exact (slim_lit (by decide +kernel)).wide (by decide) (by omega)) (by decide)
    | own z =>
      refine slim_3 (fun d hd => ?_) (show 2 ≤ 3 by decide)
      simp only [List.mem_cons, List.not_mem_nil, or_false] at hd
      rcases hd with rfl | rfl
      · cases b <;> exact (slim_lit (by decide +kernel)).wide (by decide) (by omega)
      · exact (slim_word ok).wide (by decide) (by omega)
    | to tg n =>
      refine slim_3 (fun d hd => ?_) (show 3 ≤ 3 by decide)
      simp only [List.mem_cons, List.not_mem_nil, or_false] at hd
      rcases hd with rfl | rfl | rfl
      · exact (slim_lit (by decide +kernel)).wide (by decide) (by omega)
      · exact (slim_wt ok.2.1 (N := N) (by have := ok.1; omega)).wide (by decide) (by omega)
      · exact (slim_int ok.2.2.1 ok.2.2.2).wide (by decide) (by omega)
  unfold answerOf
  cases e : ruleFor rs ws with
  | none => exact slim_3 (fun d hd => by rw [List.mem_singleton.mp hd]; exact (slim_lit (by decide +kernel)).wide (by decide) (by omega)) (by decide)
  | some r =>
    have ok := (g r (for_mem e)).an
    show Slim (ansOf r ws) _ _
    unfold ansOf
    split
    · exact an1 true ok
    · have hd : ∀ z ∈ ws.drop r.pl.length, Wd z := fun z hz => h z (List.mem_of_mem_drop hz)
      have ld : (ws.drop r.pl.length).length + 4 ≤ N := by rw [List.length_drop]; omega
      generalize r.an = an at ok
      cases an with
      | gone => exact an1 (an := .gone) false trivial
      | own z =>
        refine slim_3 (fun d hd' => ?_) (show 3 ≤ 3 by decide)
        simp only [List.mem_cons, List.not_mem_nil, or_false] at hd'
        rcases hd' with rfl | rfl | rfl
        · exact (slim_lit (by decide +kernel)).wide (by decide) (by omega)
        · exact (slim_word ok).wide (by decide) (by omega)
        · exact (slim_wt hd (N := N) (by omega)).wide (by decide) (by omega)
      | to tg n =>
        refine slim_3 (fun d hd' => ?_) (show 3 ≤ 3 by decide)
        simp only [List.mem_cons, List.not_mem_nil, or_false] at hd'
        rcases hd' with rfl | rfl | rfl
        · exact (slim_lit (by decide +kernel)).wide (by decide) (by omega)
        · refine (slim_wt (fun z hz => ?_) (N := N) ?_).wide (by decide) (by omega)
          · rcases List.mem_append.mp hz with hz | hz
            · exact ok.2.1 z hz
            · exact hd z hz
          · have := ok.1
            rw [List.length_append]
            omega
        · exact (slim_int ok.2.2.1 ok.2.2.2).wide (by decide) (by omega)
/-! ### walks of the words of rules -/
def AllWd (ws : List Str) : Prop := ∀ z ∈ ws, Wd z
theorem AllWd.low {ws : List Str} (h : AllWd ws) : LowW ws := fun z hz => (h z hz).low
theorem redir_far {rs : List Rl} (g : ∀ r ∈ rs, r.Ok) {ws tg : List Str} {n : Int} (hw : AllWd ws) (e : redir rs ws = some (tg, n)) : AllWd tg ∧ tg.length ≤ ws.length + 4 := by
  unfold redir at e
  cases hr : ruleFor rs ws with
  | none =>
    rw [hr] at e
    cases e
  | some r =>
    rw [hr] at e
    have ok := (g r (for_mem hr)).an
    have e : redirR r ws = some (tg, n) := e
    unfold redirR at e
    generalize r.an = an at ok e
    cases an with
    | gone => cases e
    | own z => cases e
    | to tg0 n0 =>
      have e := (Prod.mk.inj (Option.some.inj e)).1
      obtain ⟨l4, w4, _⟩ := ok
      subst e
      split
      · exact ⟨w4, by omega⟩
      · refine ⟨fun z hz => ?_, ?_⟩
        · rcases List.mem_append.mp hz with hz | hz
          · exact w4 z hz
          · exact hw z (List.mem_of_mem_drop hz)
        · rw [List.length_append, List.length_drop]
          omega
theorem walk_far {t : List Str → Option (List Str)} {rs : List Rl} (ht : ∀ ws tg, AllWd ws → t ws = some tg → AllWd tg ∧ tg.length ≤ ws.length + 9) : ∀ (k : Nat) (ws : List Str) (L : Nat), AllWd ws → ws.length ≤ L → ∀ x ∈ (walkW t rs k ws).1, AllWd x ∧ x.length ≤ L + 9 * k
  | 0, ws, L, hw, hl, x, hx => by
    rw [List.mem_singleton.mp hx]
    exact ⟨hw, by omega⟩
  | k + 1, ws, L, hw, hl, x, hx => by
    cases e : t ws with
    | none =>
      rw [walkW, e] at hx
      rw [List.mem_singleton.mp hx]
      exact ⟨hw, by omega⟩
    | some tg =>
      rw [walkW, e] at hx
      obtain ⟨w1, l1⟩ := ht ws tg hw e
      rcases List.mem_cons.mp hx with rfl | hx
      · exact ⟨hw, by omega⟩
      · obtain ⟨a, b⟩ := walk_far ht k tg (L + 9) w1 (by omega) x hx
        exact ⟨a, by omega⟩
theorem walk_many (t : List Str → Option (List Str)) (rs : List Rl) : ∀ (k : Nat) (ws : List Str), (walkW t rs k ws).1.length ≤ k + 1
  | 0, _ => Nat.le_refl _
  | k + 1, ws => by
    cases e : t ws with
    | none =>
      rw [walkW, e]
      exact Nat.succ_le_succ (Nat.zero_le _)
    | some tg =>
      rw [walkW, e]
      exact Nat.succ_le_succ (walk_many t rs k tg)
theorem ans_some (rs : List Rl) (ws : List Str) : answerOf rs ws ≠ .none := by
  unfold answerOf
  cases ruleFor rs ws with
  | none => exact fun e => by cases e
  | some r =>
    show ansOf r ws ≠ _
    unfold ansOf
    split
    · generalize r.an = an
      cases an <;> exact fun e => by cases e
    · generalize r.an = an
      cases an <;> exact fun e => by cases e
theorem walk_end {t : List Str → Option (List Str)} {rs : List Rl} : ∀ (k : Nat) (ws : List Str), (walkW t rs k ws).2 = .none ∨ ∃ x ∈ (walkW t rs k ws).1, (walkW t rs k ws).2 = answerOf rs x
  | 0, ws => by
    cases e : t ws with
    | none => exact .inr ⟨ws, List.mem_singleton.mpr rfl, by rw [walkW, e]; rfl⟩
    | some tg => exact .inl (by rw [walkW, e]; rfl)
  | k + 1, ws => by
    cases e : t ws with
    | none =>
      rw [walkW, e]
      exact .inr ⟨ws, List.mem_singleton.mpr rfl, rfl⟩
    | some tg =>
      rw [walkW, e]
      rcases walk_end k tg with h | ⟨x, hx, h⟩
      · exact .inl h
      · exact .inr ⟨x, List.mem_cons_of_mem _ hx, h⟩
/-- where a walk ends by an answer, more steps change nothing -/
theorem walk_more {t : List Str → Option (List Str)} {rs : List Rl} : ∀ (k n : Nat) (ws : List Str), k ≤ n → (walkW t rs k ws).2 ≠ .none → walkW t rs n ws = walkW t rs k ws
  | 0, n, ws, _, h => by
    cases e : t ws with
    | none =>
      cases n with
      | zero => rfl
      | succ n =>
        rw [walkW, walkW, e]
        rfl
    | some tg => exact absurd (by rw [walkW, e]; rfl) h
  | k + 1, 0, ws, l, h => by omega
  | k + 1, n + 1, ws, l, h => by
    cases e : t ws with
    | none => rw [walkW, walkW, e]
    | some tg =>
      rw [walkW, e] at h
      rw [walkW, walkW, e]
      have z := walk_more (t := t) (rs := rs) k n tg (by omega) h
      simp only [z]
theorem walk_same {t t' : List Str → Option (List Str)} {rs rs' : List Rl} (h1 : ∀ ws, t ws = t' ws) (h2 : ∀ ws, answerOf rs ws = answerOf rs' ws) : ∀ (k : Nat) (ws : List Str), walkW t rs k ws = walkW t' rs' k ws
  | 0, ws => by rw [walkW, walkW, h1, h2]
  | k + 1, ws => by
    rw [walkW, walkW, h1, h2]
    cases t' ws with
    | none => rfl
    | some tg => simp only [walk_same h1 h2 k tg]
/-- a walk and its end, as one -/
def outW (x : List (List Str) × PyData) : PyData := .tuple [.list (x.1.map wt), x.2]
theorem out_slim {t : List Str → Option (List Str)} {rs : List Rl} (g : ∀ r ∈ rs, r.Ok) {k : Nat} {ws : List Str} (hk : k ≤ 30) (far : ∀ x ∈ (walkW t rs k ws).1, AllWd x ∧ x.length ≤ 900) : Small (outW (walkW t rs k ws)) ∧ (outW (walkW t rs k ws)).hasDict = false := by
  have n := walk_many t rs k ws
  have h1 : Slim (.list ((walkW t rs k ws).1.map wt)) 3 400000 := by
    refine (slim_list (k := 1) (n := 12 * 900 + 3) fun d hd => ?_).wide (by decide) ?_
    · obtain ⟨x, hx, rfl⟩ := List.mem_map.mp hd
      exact slim_wt (far x hx).1 (far x hx).2
    · rw [List.length_map]
      omega
  have h2 : Slim (walkW t rs k ws).2 3 400000 := by
    rcases walk_end (t := t) (rs := rs) k ws with e | ⟨x, hx, e⟩
    · rw [e]
      exact ⟨rfl, Nat.zero_le _, (by decide +kernel), rfl⟩
    · rw [e]
      exact (slim_ans (N := 904) g (far x hx).1 (by have := (far x hx).2; omega)).wide (by decide) (by decide)
  have := slim_tup (k := 3) (n := 400000) (ds := [.list ((walkW t rs k ws).1.map wt), (walkW t rs k ws).2]) fun d hd => by
    simp only [List.mem_cons, List.not_mem_nil, or_false] at hd
    rcases hd with rfl | rfl
    · exact h1
    · exact h2
  exact ⟨⟨this.sh, Nat.le_trans this.dp (by decide), Nat.le_trans this.ln (show 400000 * 2 + 2 * 2 + 3 ≤ sizeLine by decide)⟩, this.nd⟩
/-! ### what a reader remembers -/
structure MOk (m : Mem) (n : Nat) : Prop where
  one : (m.map (·.1)).Nodup
  tgt : ∀ e ∈ m, AllWd e.2.1 ∧ e.2.1.length ≤ 9
  few : m.length ≤ n
theorem mok_nil : MOk [] 0 := ⟨List.nodup_nil, (fun e he => by cases he), Nat.le_refl _⟩
theorem get_mem {m : Mem} {ws : List Str} {e : List Str × Int × Int} (h : memGet m ws = some e) : (ws, e) ∈ m := by
  induction m with
  | nil => cases h
  | cons x m ih =>
    rw [get_cons] at h
    by_cases c : x.1 = ws
    · rw [if_pos c] at h
      cases h
      rw [← c]
      exact List.mem_cons_self
    · rw [if_neg c] at h
      exact List.mem_cons_of_mem _ (ih h)
theorem get_not {m : Mem} {ws : List Str} (h : memGet m ws = none) : ws ∉ m.map (·.1) := by
  induction m with
  | nil => exact fun h => by cases h
  | cons x m ih =>
    rw [get_cons] at h
    by_cases c : x.1 = ws
    · rw [if_pos c] at h
      cases h
    · rw [if_neg c] at h
      intro z
      rw [List.map_cons] at z
      rcases List.mem_cons.mp z with z | z
      · exact c z.symm
      · exact ih h z
theorem MOk.put {m : Mem} {n : Nat} (z : MOk m n) {ws tg : List Str} {d u : Int} (h1 : AllWd tg) (h2 : tg.length ≤ 9) : MOk (memPut m ws (tg, d, u)) (n + 1) := by
  refine ⟨?_, fun e he => ?_, Nat.le_trans (memPut_len _ _ _) (Nat.succ_le_succ z.few)⟩
  · unfold memPut
    split
    · have : (m.map fun e => if e.1 = ws then (ws, tg, d, u) else e).map (·.1) = m.map (·.1) := by
        rw [List.map_map]
        refine List.map_congr_left fun e he => ?_
        show (if e.1 = ws then (ws, tg, d, u) else e).1 = e.1
        by_cases c : e.1 = ws
        · rw [if_pos c, c]
        · rw [if_neg c]
      rw [this]
      exact z.one
    · rename_i c
      have c : memGet m ws = none := by
        cases e : memGet m ws with
        | none => rfl
        | some x => rw [e] at c; exact absurd rfl c
      rw [List.map_append, List.nodup_append]
      refine ⟨z.one, by simp, fun a ha b hb => ?_⟩
      have hb := List.mem_singleton.mp hb
      rw [hb]
      intro e
      rw [show a = ws from e] at ha
      exact get_not c ha
  · unfold memPut at he
    split at he
    · obtain ⟨x, hx, rfl⟩ := List.mem_map.mp he
      by_cases c : x.1 = ws
      · rw [if_pos c]
        exact ⟨h1, h2⟩
      · rw [if_neg c]
        exact z.tgt x hx
    · rcases List.mem_append.mp he with he | he
      · exact z.tgt e he
      · rw [List.mem_singleton.mp he]
        exact ⟨h1, h2⟩
theorem MOk.more {m : Mem} {n n' : Nat} (z : MOk m n) (h : n ≤ n') : MOk m n' := ⟨z.one, z.tgt, Nat.le_trans z.few h⟩
theorem MOk.ask {m : Mem} {n : Nat} {hs : Hist} {ws : List Str} {day : Int} (z : MOk m n) (g : ∀ r ∈ inForce hs day, r.Ok) (hw : AllWd ws) (hl : ws.length ≤ 5) : MOk (askM hs m ws day) (n + 1) := by
  have go : MOk (match redir (inForce hs day) ws with | some (tg, n) => if 0 < n then memPut m ws (tg, n, day + n) else m | none => m) (n + 1) := by
    cases ho : redir (inForce hs day) ws with
    | none => exact z.more (Nat.le_succ _)
    | some q =>
      obtain ⟨tg, d⟩ := q
      obtain ⟨a, b⟩ := redir_far g hw ho
      show MOk (if 0 < d then memPut m ws (tg, d, day + d) else m) (n + 1)
      split
      · exact z.put a (by omega)
      · exact z.more (Nat.le_succ _)
  unfold askM
  cases memGet m ws with
  | none => exact go
  | some x =>
    obtain ⟨tg, d, t⟩ := x
    show MOk (if t < day then _ else m) (n + 1)
    split
    · exact go
    · exact z.more (Nat.le_succ _)
theorem step_far {hs : Hist} {m : Mem} {n : Nat} (z : MOk m n) {day : Int} (g : ∀ r ∈ inForce hs day, r.Ok) (ws tg : List Str) (hw : AllWd ws) (e : stepT hs m day ws = some tg) : AllWd tg ∧ tg.length ≤ ws.length + 9 := by
  unfold stepT at e
  cases hv : validM m ws day with
  | some x =>
    rw [hv] at e
    have e : some x.1 = some tg := e
    cases e
    unfold validM at hv
    cases hg : memGet m ws with
    | none =>
      rw [hg] at hv
      cases hv
    | some y =>
      rw [hg] at hv
      have hv : (if y.2.2 < day then none else some y) = some x := hv
      split at hv
      · cases hv
      · cases hv
        obtain ⟨a, b⟩ := z.tgt _ (get_mem hg)
        exact ⟨a, Nat.le_trans (show x.1.length ≤ 9 from b) (Nat.le_add_left _ _)⟩
  | none =>
    rw [hv] at e
    have e : (redir (inForce hs day) ws).map (·.1) = some tg := e
    cases ho : redir (inForce hs day) ws with
    | none =>
      rw [ho] at e
      cases e
    | some q =>
      rw [ho] at e
      cases e
      obtain ⟨a, b⟩ := redir_far (n := q.2) g hw ho
      exact ⟨a, Nat.le_trans b (by omega)⟩
end K49
/-! GenKQ: == and != of two dicts of nested keys that hold the same keys with equal data, in the same sequence. -/
namespace Ld
open PySem L2 PyProof.Rows
section
variable {K : Type} [DecidableEq K] {prog : Program} {w : World} {knd : HeapKind prog w K} {s : Shared} {A : Around} {E : Value → Shared → Prop}
/-- row by row: the same key, and values that are == -/
def TwinH (A : Around) (s : Shared) (x y : K × Addr × Value) : Prop := x.1 = y.1 ∧ SeqAt.EqAt A s x.2.2 y.2.2 true
theorem twin_at {A : Around} {s : Shared} : ∀ {ka kb : List (K × Addr × Value)} {i : Nat} {x : K × Addr × Value}, Paired (TwinH A s) ka kb → ka[i]? = some x → ∃ y, kb[i]? = some y ∧ TwinH A s x y
  | _, _, _, _, .nil, h => by simp at h
  | _, _, 0, _, .cons a _, h => ⟨_, rfl, by simp at h; exact h ▸ a⟩
  | _, _, i + 1, _, .cons _ b, h => let ⟨y, e, t⟩ := twin_at (i := i) b (by simpa using h); ⟨y, by simpa using e, t⟩
theorem same_pairsH {nm : String} {a b : Addr} {ka kb : List (K × Addr × Value)} {Q : Bool → Shared → Prop} (ha : (a == sysModules) = false) (hb : (b == sysModules) = false) (hu : knd.room A)
    (da : s.heap.DictOfH knd a ka) (db : s.heap.DictOfH knd b kb) (tw : Paired (TwinH A s) ka kb) (h : Q true s) : wpAny (model prog w) A (Builtin.Dict.samePairs nm a b) Q E s := by
  obtain ⟨oa, es, ep, ga, _, ta, hka, isa, _⟩ := da
  obtain ⟨ob, fs, eq, gb, _, tb, hkb, isb, ndb⟩ := db
  have n1 := size_of_entries hka
  have n2 := size_of_entries hkb
  have n12 : es.size = fs.size := by rw [n1, n2, Paired.length tw]
  unfold Builtin.Dict.samePairs; unfold Builtin.Dict.showsAll
  simp only [ha, hb, Bool.false_eq_true, if_false, pure_bind]
  refine wpAny_bind (wpAny_dictEntries ga ta (wpAny_bind (wpAny_dictEntries gb tb ?_)))
  have nn : (es.size != fs.size) = false := by simp [n12]
  simp only [nn, Bool.false_eq_true, if_false]
  refine wpAny_bind (wpAny_dictEpoch ga ta (wpAny_bind ?_))
  rw [Std.Legacy.Range.forIn_eq_forIn_range', show Std.Legacy.Range.size ⟨0, es.size, 1, by decide⟩ = es.size from by simp [Std.Legacy.Range.size]]
  refine wpAny_forIn_list _ (fun rest q z => z = s ∧ q = (none, ()) ∧ ∃ i, rest = List.range' i (es.size - i) ∧ i ≤ es.size) _ ?_ ?_ _ _ ⟨rfl, rfl, 0, by simp, Nat.zero_le _⟩
  · rintro j rest q z ⟨rfl, rfl, i, hr, hi⟩
    have lt : i < es.size := by
      rcases Nat.lt_or_ge i es.size with l | l
      · exact l
      · rw [Nat.sub_eq_zero_of_le l] at hr
        cases hr
    have c : es.size - i = (es.size - (i + 1)) + 1 := by omega
    rw [c, List.range'_succ] at hr
    injection hr with e1 e2
    subst e1
    obtain ⟨x, ex⟩ : ∃ x, ka[j]? = some x := ⟨_, List.getElem?_eq_getElem (by omega)⟩
    obtain ⟨y, ey, k1, k2⟩ := twin_at tw ex
    have gx : es[j]? = some (entryOfKey knd x) := by rw [entry_at hka, ex]; rfl
    refine wpAny_bind (wpAny_dictEntries ga ta ?_)
    rw [gx]
    refine wpAny_bind (wpAny_holding (wpAny_bind (wpAny_dictFind_heap hu (isa x (List.mem_of_getElem? ex)) gb tb hkb isb ndb (fun none' => ?_) (fun m p em => ?_))))
    · obtain ⟨yk, yp⟩ := y
      exact absurd (show kb[j]? = some (x.1, yp) by rw [ey, k1]) (none' j yp)
    · obtain ⟨yk, yp⟩ := y
      have mj : m = j := idxH_unique ndb em (show kb[j]? = some (x.1, yp) by rw [ey, k1])
      subst mj
      have gy : fs[m]? = some (entryOfKey knd (yk, yp)) := by rw [entry_at hkb, ey]; rfl
      refine wpAny_bind (wpAny_dictEntries gb tb ?_)
      rw [gy]
      refine wpAny_holding (k2 prog w _ _ ?_)
      change wpAny _ _ (if (!true) = true then _ else _) _ _ _
      rw [if_neg (by decide)]
      refine wpAny_bind (wpAny_dictEpoch ga ta ?_)
      rw [if_neg (by simp)]
      exact wpAny_pure ⟨rfl, rfl, m + 1, e2, lt⟩
  · rintro q z ⟨rfl, rfl, _⟩
    exact wpAny_pure h
end
section
variable {X : Cx}
/-- rows of two dicts that are alike -/
def TwinR (K : PySem.W.Frag) (H : Hp) (x y : Rw) : Prop := x.1 = y.1 ∧ ∃ d, Dp K H x.2.2 d ∧ Dp K H y.2.2 d ∧ SeqAt.shaped d = true ∧ PyData.eqv d d = true
theorem twins {pins : List (Addr × Obj)} {σ : L2.St} {H : Hp} {s : Shared} {A : Around} (I : Inv X pins σ H s) (hu : A.units + 65 < cLine) : ∀ {ra rb : List Rw} {ya yb : List (NestedKey × Addr × Value)}, Paired (TwinR X.K H) ra rb → Paired KR ra ya → Paired KR rb yb → Paired (TwinH A.in1 s) ya yb
  | _, _, _, _, .nil, .nil, .nil => .nil
  | _, _, _, _, .cons a b, .cons c d, .cons e f => by
    refine .cons ⟨c.1.symm.trans (a.1.trans e.1), ?_⟩ (twins I hu b d f)
    obtain ⟨_, t, h1, h2, sh, eq⟩ := a
    obtain ⟨as, r1⟩ := Dp.reads I t _ _ h1 c.2.2
    obtain ⟨bs, r2⟩ := Dp.reads I t _ _ h2 e.2.2
    have z := PySem.W.keq_at (A := A) r1 r2 sh sh (show A.units + 1 + 64 < cLine by omega)
    rw [eq] at z
    exact z
def rKQ (P : Program) (w : World) (K : PySem.W.Frag) (r : Bool) : R2 := fun x y H Q => ∃ (a b : Addr) (ra rb : List Rw), x = .ref a ∧ y = .ref b ∧ KD P w K H a ra ∧ KD P w K H b rb ∧ Paired (TwinR K H) ra rb ∧ Q (.bl r) H
theorem op_eqKQ (hu : X.A.units + 65 < cLine) : OpR X (compareOp .Eq) (rKQ X.prog X.w X.K true) := by
  intro pins s σ H x y v u Q I rv ru h
  obtain ⟨a, b, ra, rb, rfl, rfl, za, zb, tw, q⟩ := h
  obtain rfl : v = Value.ref a := rv
  obtain rfl : u = Value.ref b := ru
  obtain ⟨ya, pa, ma⟩ := za.dict I.hok I.kIn
  obtain ⟨yb, pb, mb⟩ := zb.dict I.hok I.kIn
  refine wpAny_richCompare_same_room (op := .Eq) ma.typeIs mb.typeIs PySem.F.slot_dict_eq (wpAny_call_entry PySem.F.slot_dict_eq ma.typeIs PySem.F.entry_dict_eq ?_ (PySem.F.args_dict_eq_2 _ _)) (by omega)
  change wpAny _ _ (Builtin.Dict.dictSlotArgs _ _ >>= _) _ _ s; unfold Builtin.Dict.dictSlotArgs
  refine wpAny_bind (wpAny_bind (wpAny_notOrdered_dict ma.typeIs ?_))
  refine wpAny_pure (wpAny_bind (wpAny_isInstance (T := "dict") mb.typeIs PySem.F.sub_dict_dict ?_))
  simp only [Bool.not_true, if_neg Bool.false_ne_true]
  refine wpAny_bind (wpAny_pure (wpAny_bind (wpAny_pure (wpAny_bind (same_pairsH za.low zb.low (kroom (by omega)) ma mb (twins I hu tw pa pb) ?_)))))
  exact wpAny_pure ⟨_, rfl, (fun z => nomatch z), .bl _, H, I, rfl, q⟩
theorem op_neKQ (hu : X.A.units + 65 < cLine) : OpR X (compareOp .NotEq) (rKQ X.prog X.w X.K false) := by
  intro pins s σ H x y v u Q I rv ru h
  obtain ⟨a, b, ra, rb, rfl, rfl, za, zb, tw, q⟩ := h
  obtain rfl : v = Value.ref a := rv
  obtain rfl : u = Value.ref b := ru
  obtain ⟨ya, pa, ma⟩ := za.dict I.hok I.kIn
  obtain ⟨yb, pb, mb⟩ := zb.dict I.hok I.kIn
  refine wpAny_richCompare_same_room (op := .NotEq) ma.typeIs mb.typeIs PySem.F.slot_dict_ne (wpAny_call_entry PySem.F.slot_dict_ne ma.typeIs PySem.F.entry_dict_ne ?_ (PySem.F.args_dict_ne_2 _ _)) (by omega)
  change wpAny _ _ (Builtin.Dict.dictSlotArgs _ _ >>= _) _ _ s; unfold Builtin.Dict.dictSlotArgs
  refine wpAny_bind (wpAny_bind (wpAny_notOrdered_dict ma.typeIs ?_))
  refine wpAny_pure (wpAny_bind (wpAny_isInstance (T := "dict") mb.typeIs PySem.F.sub_dict_dict ?_))
  simp only [Bool.not_true, if_neg Bool.false_ne_true]
  refine wpAny_bind (wpAny_pure (wpAny_bind (wpAny_pure (wpAny_bind (same_pairsH za.low zb.low (kroom (by omega)) ma mb (twins I hu tw pa pb) ?_)))))
  exact wpAny_pure ⟨_, rfl, (fun z => nomatch z), .bl _, H, I, rfl, q⟩
end
end Ld
namespace K49
open PySem L2 Ld PyProof.Rows
/-! ### plain facts -/
theorem sort_nil : sortR [] = [] := List.length_eq_zero_iff.mp (by rw [(sortR_perm []).length_eq]; rfl)
theorem force_sort (day : Int) (h : Hist) : forceL (sortH h) day = sortR (forceL h day) := by
  have go : ∀ (h : Hist) (acc : List Rl), (h.map fun r => (r.1, sortR r.2)).foldl (fun acc r => if r.1 ≤ day then r.2 else acc) (sortR acc) = sortR (h.foldl (fun acc r => if r.1 ≤ day then r.2 else acc) acc) := fun h => by
    induction h with
    | nil => exact fun _ => rfl
    | cons r h ih =>
      intro acc
      rw [List.map_cons, List.foldl_cons, List.foldl_cons]
      show List.foldl _ (if r.1 ≤ day then sortR r.2 else sortR acc) _ = _
      by_cases c : r.1 ≤ day
      · rw [if_pos c, if_pos c]
        exact ih r.2
      · rw [if_neg c, if_neg c]
        exact ih acc
  have := go h []
  rw [sort_nil] at this
  exact this
theorem in_sort (h : Hist) (day : Int) : inForce (sortH h) day = sortR (inForce h day) := by rw [in_force, in_force, force_sort]
theorem in_good {h : Hist} (g : ∀ r ∈ h, Good r.2) (day : Int) : Good (inForce h day) := by
  rw [in_force]
  exact force_good g day
theorem in_ok {h : Hist} (g : ∀ r ∈ h, Good r.2) (day : Int) : ∀ r ∈ inForce (sortH h) day, r.Ok := fun r hr => by
  rw [in_sort] at hr
  exact (in_good g day).ok r ((sortR_perm _).mem_iff.mp hr)
theorem step_sort {h : Hist} (g : ∀ r ∈ h, Good r.2) (m : Mem) (day : Int) (ws : List Str) : stepT (sortH h) m day ws = stepT h m day ws := by
  unfold stepT
  rw [in_sort, redir_sort (in_good g day)]
/-! ### what stays where a reader is asked -/
section
variable {P : Program} {w : World} {K : PySem.W.Frag} {CT CS CR : Addr} {G G' Gb : Hp} {wa x D T M : Addr}
theorem sqT_off3 {C dx p : Addr} {fs : List (Str × V)} {rows : List Rw} {xs : List V} (W : Sm G wa) (hx : G x = some (.ins C dx fs)) (hM : G M = some (kdO P w M rows)) (fr : ∀ c o, c ≠ wa → c ≠ x → c ≠ M → G c = some o → G' c = some o) (h : SqT K G p xs) : SqT K G' p xs := by
  obtain ⟨d, k, ew, _⟩ := W
  rcases h with (h | ⟨o, h⟩) | h
  · exact .inl (.inl (fr _ _ (ne_of h ew fun e => nomatch e) (ne_of h hx fun e => nomatch e) (ne_of h hM fun e => nomatch e) h))
  · exact .inl (.inr ⟨o, fr _ _ (ne_of h ew fun e => nomatch e) (ne_of h hx fun e => nomatch e) (ne_of h hM fun e => nomatch e) h⟩)
  · exact .inr h
def off3 (wa x M : Addr) (G : Hp) : Hp := fun b => if b = wa ∨ b = x ∨ b = M then none else G b
theorem off3_same : Same (off3 wa x M G) G := fun b o e => by
  unfold off3 at e
  split at e
  · cases e
  · exact e
theorem off3_fr {c : Addr} {o : HO} (h1 : c ≠ wa) (h2 : c ≠ x) (h3 : c ≠ M) (e : G c = some o) : off3 wa x M G c = some o := (if_neg fun h => by rcases h with h | h | h <;> contradiction).trans e
/-- what stands in Gb is none of the three -/
structure Ap (Gb : Hp) (wa x D M : Addr) : Prop where
  w0 : Gb wa = none
  x0 : Gb x = none
  m0 : Gb M = none
  nD : D ≠ wa
  nM : M ≠ wa
  nx : x ≠ wa
theorem ap_off3 (nD : D ≠ wa) (nM : M ≠ wa) (nx : x ≠ wa) : Ap (off3 wa x M G) wa x D M := ⟨if_pos (.inl rfl), if_pos (.inr (.inl rfl)), if_pos (.inr (.inr rfl)), nD, nM, nx⟩
/-- how things stand while a reader is asked -/
structure Wk (P : Program) (w : World) (K : PySem.W.Frag) (CT CS CR : Addr) (Gb G : Hp) (wa x D T M : Addr) (hs : Hist) (day : Int) (m : Mem) (n : Nat) : Prop where
  sm : Same Gb G
  W : Sm G wa
  R : ∃ dy, dy ≤ day ∧ RdrAt P w K CT CS CR G x D T M dy hs m
  ok : MOk m n
variable {hs : Hist} {day : Int} {m : Mem} {n : Nat}
theorem Wk.same (z : Wk P w K CT CS CR Gb G wa x D T M hs day m n) (s : Same G G') : Wk P w K CT CS CR Gb G' wa x D T M hs day m n := ⟨z.sm.trans s, z.W.same s, let ⟨dy, h, r⟩ := z.R; ⟨dy, h, r.same s⟩, z.ok⟩
theorem Wk.draw (A : Ap Gb wa x D M) (z : Wk P w K CT CS CR Gb G wa x D T M hs day m n) (W : Sm G' wa) (s : Sb wa G G') : Wk P w K CT CS CR Gb G' wa x D T M hs day m n :=
  ⟨fun b o e => s b o (ne_of_none e A.w0) (z.sm b o e), W, let ⟨dy, h, r⟩ := z.R; ⟨dy, h, r.sb z.W A.nD A.nM s⟩, z.ok⟩
theorem Wk.late (z : Wk P w K CT CS CR Gb G wa x D T M hs day m n) {day' : Int} (h : day ≤ day') : Wk P w K CT CS CR Gb G wa x D T M hs day' m n := ⟨z.sm, z.W, let ⟨dy, l, r⟩ := z.R; ⟨dy, Int.le_trans l h, r⟩, z.ok⟩
theorem Wk.ask (A : Ap Gb wa x D M) (z : Wk P w K CT CS CR Gb G wa x D T M hs day m n) (fr : ∀ c o, c ≠ x → c ≠ M → G c = some o → G' c = some o) {d : Int} {m' : Mem} {n' : Nat} (R : RdrAt P w K CT CS CR G' x D T M d hs m') (ok : MOk m' n') : Wk P w K CT CS CR Gb G' wa x D T M hs d m' n' :=
  ⟨fun b o e => fr b o (ne_of_none e A.x0) (ne_of_none e A.m0) (z.sm b o e), let ⟨d, k, e, r⟩ := z.W; ⟨d, k, fr _ _ A.nx.symm A.nM.symm e, r⟩, ⟨d, Int.le_refl _, R⟩, ok⟩
theorem Wk.at_ (z : Wk P w K CT CS CR Gb G wa x D T M hs day m n) : ∃ dx sv dy, G x = some (.ins CR dx [("_server", .ref sv), ("_day", .int dy), ("_held", .ref M)]) ∧ dy ≤ day ∧ RdrAt P w K CT CS CR G x D T M dy hs m := by
  obtain ⟨dy, l, r⟩ := z.R
  obtain ⟨dx, sv, Hb, h1, _⟩ := id r
  exact ⟨dx, sv, dy, h1, l, r⟩
theorem places_refs {K : PySem.W.Frag} {G : Hp} {ys : List V} {pls : List (List Str)} (z : Places K G ys pls) : ∀ x ∈ ys, ∃ p, x = V.ref p := fun x hx => by
  obtain ⟨i, hi⟩ := List.getElem?_of_mem hx
  obtain ⟨_, _, p, e, _⟩ := pair_get z hi
  exact ⟨p, e⟩
theorem places_mem {K : PySem.W.Frag} {G : Hp} {ys : List V} {pls : List (List Str)} (z : Places K G ys pls) {x : V} (hx : x ∈ ys) : ∃ p ws, x = V.ref p ∧ ws ∈ pls ∧ SqT K G p (ws.map V.str) := by
  obtain ⟨i, hi⟩ := List.getElem?_of_mem hx
  obtain ⟨ws, e1, p, e, h⟩ := pair_get z hi
  exact ⟨p, ws, e, List.mem_of_getElem? e1, h⟩
theorem Wk.sq (z : Wk P w K CT CS CR Gb G wa x D T M hs day m n) (fr : ∀ c o, c ≠ x → c ≠ M → G c = some o → G' c = some o) {p : Addr} {xs : List V} (h : SqT K G p xs) : SqT K G' p xs := by
  obtain ⟨dy, _, r⟩ := z.R
  obtain ⟨dx, sv, Hb, h1, _, _, _, _, rows, kd, _⟩ := r
  exact sqT_off3 z.W h1 kd.at_ (fun c o _ h2 h3 e => fr c o h2 h3 e) h
theorem out_dp {t wl : Addr} {xs : List V} {y : V} {r : List (List Str) × PyData} (ht : SqT K G t [.ref wl, y]) (hw : G wl = some (.lst xs)) (hx : Paired (AdrR K G) xs r.1) (hy : Dp K G y r.2) : Dp K G (.ref t) (outW r) :=
  .tup ht (.cons (.lst (.of hw) (places_dp hx)) (.cons hy .nil))
theorem ask_some (hs : Hist) (m : Mem) (ws : List Str) (day : Int) : askD hs m ws day ≠ .none := by
  unfold askD
  cases memGet m ws with
  | none => exact ans_some _ _
  | some e =>
    obtain ⟨tg, n, u⟩ := e
    show (if u < day then answerOf (inForce hs day) ws else _) ≠ _
    split
    · exact ans_some _ _
    · exact fun e => by cases e
theorem dp_non {v : V} {d : PyData} (h : Dp K G v d) : (d = .none → v = .non) ∧ (d ≠ .none → v ≠ .non) := by
  cases h with
  | non => exact ⟨fun _ => rfl, fun n => absurd rfl n⟩
  | bl => exact ⟨(fun e => by cases e), fun _ e => by cases e⟩
  | int => exact ⟨(fun e => by cases e), fun _ e => by cases e⟩
  | str => exact ⟨(fun e => by cases e), fun _ e => by cases e⟩
  | lst => exact ⟨(fun e => by cases e), fun _ e => by cases e⟩
  | tup => exact ⟨(fun e => by cases e), fun _ e => by cases e⟩
/-- walks of a reader, by words and lengths -/
theorem far_of {h : Hist} (g : ∀ r ∈ h, Good r.2) {m : Mem} {n : Nat} (ok : MOk m n) (day : Int) {ws : List Str} (hw : AllWd ws) (hl : ws.length ≤ 5) (k : Nat) : ∀ x ∈ (walkW (stepT (sortH h) m day) (inForce (sortH h) day) k ws).1, AllWd x ∧ x.length ≤ 5 + 9 * k :=
  walk_far (fun us tg hu e => step_far ok (in_ok g day) us tg hu e) k ws 5 hw hl
end
end K49
namespace K49
open PySem L2 Ld PyProof.Rows
abbrev sLKept : Stmt := top 47
theorem for_enum {K : PySem.W.Frag} {a : Addr} {xs : List V} {g : TG} {tb : TS} {D : Ends} {σ : L2.St} {H : Hp} (Pv : Nat → L2.St → Hp → Prop) (start : Pv 0 σ H) (stays : ∀ i σ H, i ≤ xs.length → Pv i σ H → SqL K H a xs)
    (turn : ∀ i x σ H T, xs[i]? = some x → H T = none → Pv i σ H → g (.ref T) σ (upd H T (.tup [.int (i : Nat), x])) fun σ2 H2 => tb { D with nx := Pv (i + 1), ct := Pv (i + 1), bk := D.nx } σ2 H2) (after : ∀ σ H, Pv xs.length σ H → D.nx σ H) :
    ∃ W : Nat → Nat → L2.St → Hp → Prop, (∃ m, W 0 m σ H) ∧ ∀ i m σ H, W i m σ H →
      ((Ite K a).stop i H ∧ D.nx σ H) ∨ ((Ite K a).go i H ∧ ∃ N : L2.St → Hp → Prop, (∀ σ' H', N σ' H' → ∃ m', m' < m ∧ W (i + 1) m' σ' H') ∧ ∀ x H', (Ite K a).yld i H x H' → g x σ H' fun σ2 H2 => tb { D with nx := N, ct := N, bk := D.nx } σ2 H2) := by
  refine ⟨fun i m σ H => m + i = xs.length ∧ Pv i σ H, ⟨xs.length, rfl, start⟩, fun i m σ H ⟨e, p⟩ => ?_⟩
  have st := stays i σ H (by omega) p
  by_cases lt : i < xs.length
  · refine Or.inr ⟨⟨xs, xs[i], st, List.getElem?_eq_getElem lt⟩, Pv (i + 1), fun σ' H' p' => ⟨m - 1, by omega, by omega, p'⟩, fun x H' y => ?_⟩
    obtain ⟨T, u, rfl, nT, rfl, hu⟩ := y
    exact turn i u σ H T (hu xs st) nT p
  · have e2 : i = xs.length := by omega
    subst e2
    exact Or.inl ⟨⟨xs, st, Nat.le_refl _⟩, after σ H p⟩
theorem cut_one (xs : List V) (i : Nat) : cutV xs (some ((i : Int) + 1)) (some ((i : Int) + 2)) = (xs.drop (i + 1)).take 1 := by
  unfold cutV
  rw [show (i : Int) + 1 = ((i + 1 : Nat) : Int) by omega, show (i : Int) + 2 = ((i + 2 : Nat) : Int) by omega, HT.sIx_nat, HT.sIx_nat]
  by_cases h : i + 1 ≤ xs.length
  · rw [Nat.min_eq_left h]
    by_cases h2 : i + 2 ≤ xs.length
    · rw [Nat.min_eq_left h2]
      congr 1
      omega
    · rw [Nat.min_eq_right (by omega)]
      rw [List.drop_of_length_le (by omega)]
      simp
  · rw [List.drop_of_length_le (by omega), List.drop_of_length_le (by omega)]
    simp
section
variable {P : Program} {w : World} {K : PySem.W.Frag} {mg : Str → Option Value} {base : Heap} {f : Addr} {fd : FuncData} {c Pt : Addr} {TL : List (Addr × Str)}
def lamK : Str := (envOfC "_law_kept" (defScope sLKept) 0 0 .none).qual ++ "<lambda>"
def spLKept (K : PySem.W.Frag) (TL : List (Addr × Str)) : Sp := fun vs H Q _ => ∃ (hl b : Addr) (h : Hist) (ws : List Str) (day : Int), vs = [.ref hl, .ref b, .int day] ∧ LamX.Tabs TL H ∧ HistAt K H hl h ∧ HistOk h ∧ SqT K H b (ws.map V.str) ∧ ws.length ≤ 900 ∧ LowW ws ∧
  ∀ H' l xs, LamX.ExtN H H' → LamX.Tabs TL H' → H' l = some (.lst xs) → Places K H' xs (keptS h ws day) → Q (.ref l) H'
def lkN : List Str := ["_law_history_here", "_law_address", "_law_day", "_law_found", "_law_at", "_law_begin", "_law_rules_here", "_law_end", "_law_answer_here", "_law_row", "_law_one"]
theorem scLK : FnScope lkN ["_law_history_here", "_law_address", "_law_day"] (defScope sLKept) := ⟨rfl, rfl, rfl, by decide +kernel, rfl, by decide +kernel, by decide +kernel⟩
theorem ok_lkept (Fd : Fun K "_law_kept" "_law_kept" sLKept f fd) (hc : fd.code = .ref c) (T : Tx mg) (Y : Ty mg) (enum : mg "enumerate" = none) (dict : mg "dict" = none) (TB : LamX.TabB base mg c Pt) (hmT : (Pt, lamK) ∈ TL) (huT : ∀ p ∈ TL, p.1 = Pt → p.2 = lamK) (LA : Df P w K mg base 1 "_law_answer" ["_law_rules_here", "_law_address"] (spLA K)) :
    FnOk P w K mg base CX0 4 f fd ["_law_history_here", "_law_address", "_law_day"] (spLKept K TL) := by
  refine fun_okC Fd hc scLK (fun vs H Q E h => ?_) (fun A outer s H vs Q E hr h => ?_)
  · obtain ⟨hl, b, h, ws, day, rfl, _⟩ := h
    rfl
  · obtain ⟨hl, b, h, ws, day, rfl, hT, hA, ok, hb, hw, low, q⟩ := h
    have nd := scLK.nd
    have hu16 : (A.deeper (envOfC "_law_kept" (defScope sLKept) s.heap.objs.size f (.ref c))).units + 16 < cLine := Nat.lt_of_le_of_lt (Nat.add_le_add_left (by decide) _) hr.units
    refine ⟨_, pss_cons (ps_set (i := 3) nd rfl (Or.inl rfl) (pe_lst pa_nil))
      (pss_cons (ps_for PassesOwn.never rfl (pi_enum rfl enum (pa_cons (pv 0) pa_nil)) (pg_tup rfl (pgs_cons (pg_name (i := 4) nd rfl (Or.inl rfl)) (pgs_cons (pg_tup rfl (pgs_cons (pg_name (i := 5) nd rfl (Or.inl rfl)) (pgs_cons (pg_name (i := 6) nd rfl (Or.inl rfl)) pgs_nil))) pgs_nil)))
        (pss_cons (ps_set (i := 7) nd rfl (Or.inl rfl) (pe_callB (cr_min rfl) (by rfl) T.min (by decide +kernel) (pa_cons (pe_op op_catN (pe_lst (pa_cons (pv 2) pa_nil)) (pe_lc (own := [("_law_row", 9)]) (g := gName 9) (tt := tYes) (by rfl) nd (pi_list (pe_slice sl_list (pv 0) (po_some (pe_op op_add (pv 4) pe_int)) (po_some (pe_op op_add (pv 4) pe_int)))) (blkOk_by (own := [("_law_row", 9)]) (N := lkN) (sc := defScope sLKept) (by decide +kernel))
            (fun _ _ _ _ _ => pg_name (i := 9) nd rfl (Or.inl rfl)) (fun _ _ _ _ _ => pts_nil) (fun _ _ _ _ _ => pe_op op_sub (pe_ix (r := rIxT K) ix_tupK (pv 9) pe_int (fun _ _ => rfl)) pe_int))) pa_nil)))
        (pss_cons (ps_set (i := 8) nd rfl (Or.inl rfl) (pe_df LA hr (pa_cons (pv 6) (pa_cons (pv 1) pa_nil))))
        (pss_one (ps_if (PW.pt (pw_and (pt_cmpR op_le (pv 5) (pv 2) (nomark _)) (pw_and (pt_cmpR op_eq (pe_ix ix_tup (pv 8) pe_int (fun _ _ => rfl)) pe_str (nomark _)) (pw_and (pt_cmpR op_gt (pe_ix ix_tup (pv 8) pe_int (fun _ _ => rfl)) pe_int (nomark _)) (pw_and1 (pt_cmpR op_le (pv 2) (pe_op op_add (pv 7) (pe_ix ix_tup (pv 8) pe_int (fun _ _ => rfl))) (nomark _)))))))
          (pss_one (ps_expr (pe_bm PySem.F.plainAttrs_list PySem.F.slot_list_append PySem.F.type_list_append mt_append (pv 3) (pa_cons (pe_ix ix_tup (pv 8) pe_int (fun _ _ => rfl)) pa_nil)))) pss_nil)))))
      (pss_one (ps_ret (pe_sortLamD (T := TL) (c := c) (P := Pt) (y := "_law_target") rfl Y.sorted (pe_callTy (call_dictN rfl hu16) (by rfl) dict (by decide +kernel) (pa_cons (pe_lc (own := [("_law_one", 10)]) (g := gName 10) (tt := tYes) (by rfl) nd (pi_list (pv 3)) (blkOk_by (own := [("_law_one", 10)]) (N := lkN) (sc := defScope sLKept) (by decide +kernel))
          (fun _ _ _ _ _ => pg_name (i := 10) nd rfl (Or.inl rfl)) (fun _ _ _ _ _ => pts_nil) (fun _ _ _ _ _ => pe_tup (pa_cons (pv 10) (pa_cons pe_bl pa_nil)))) pa_nil))
        TB rfl hmT huT ⟨rfl, rfl, rfl, by decide +kernel, rfl, by decide +kernel, by decide +kernel⟩ hr rfl rfl rfl
        (fun A outer s0 H0 q f c' => pe_tup (pa_cons (pe_callB (r := rLenK K) call_lenK (by rfl) T.len PySem.boot_len (pa_cons (pv 0) pa_nil)) (pa_cons (pv 0) pa_nil))) (hbind := fun _ _ _ _ _ => rfl))))), ?_⟩
    obtain ⟨xs, hx, hp⟩ := hA
    have lx := Paired.length hp
    refine ⟨(show 0 ≤ sizeLine by decide), fun F hF => ?_⟩
    have s1 := Same.new (o := .lst []) hF
    have kF := upd_same (H := H) (a := F) (o := .lst [])
    generalize upd H F (.lst []) = G1 at s1 kF ⊢
    refine ⟨_, rfl, hl, xs, rfl, .of (s1 _ _ hx), for_enum (K := K) (a := hl) (xs := xs) (fun i σ G => Same H G ∧ ∃ v4 v5 v6 v7 v8 ys acc, σ = [some (.ref hl), some (.ref b), some (.int day), some (.ref F), v4, v5, v6, v7, v8, none, none] ∧ G F = some (.lst ys) ∧ Places K G ys acc ∧ acc ++ keptL (h.drop i) ws day = keptL h ws day ∧ acc.length ≤ i)
      ⟨s1, none, none, none, none, none, [], [], rfl, kF, .nil, rfl, Nat.le_refl _⟩ (fun i σ G _ z => .of (z.1 _ _ hx)) ?_ ?_⟩
    · rintro i x σ G0 Tp hx2 nT ⟨sG0, v4, v5, v6, v7, v8, ys, acc, rfl, kF0, pl0, ek, la⟩
      obtain ⟨r, er, p, l, rys, rfl, hp2, nlD, hl2, hR⟩ := pair_get hp hx2
      have sT := Same.new (o := .tup [V.int ((i : Nat) : Int), .ref p]) nT
      have kT : SqT K (upd G0 Tp (.tup [V.int ((i : Nat) : Int), .ref p])) Tp [V.int ((i : Nat) : Int), .ref p] := .of upd_same
      have sG := sG0.trans sT
      have kFG := sT _ _ kF0
      have pl : Places K (upd G0 Tp (.tup [V.int ((i : Nat) : Int), .ref p])) ys acc := Paired.mono (fun _ _ ⟨b, e, t⟩ => ⟨b, e, same_T sT t⟩) pl0
      generalize upd G0 Tp (.tup [V.int ((i : Nat) : Int), .ref p]) = G at sT kT sG kFG pl ⊢
      clear sT pl0 kF0 sG0
      refine ⟨Tp, _, rfl, kT, rfl, _, _, rfl, _, _, rfl, p, _, rfl, same_T sG hp2, rfl, _, _, rfl, _, _, rfl, rfl, rfl, ?_⟩
      refine ⟨_, rfl, (show 1 ≤ sizeLine by decide), fun l1 hl1 => ?_⟩
      have y1 := Same.new (o := .lst [V.int day]) hl1
      have k1 := upd_same (H := G) (a := l1) (o := .lst [V.int day])
      have sG1 := sG.trans y1
      generalize upd G l1 (.lst [V.int day]) = Ga at y1 k1 sG1 ⊢
      refine ⟨_, rfl, _, rfl, _, _, rfl, rfl, _, rfl, _, rfl, _, _, rfl, rfl, _, rfl, hl, xs, rfl, .of (sG1 _ _ hx), fun sl hsl => ?_⟩
      rw [cut_one]
      have y2 := Same.new (o := .lst ((xs.drop (i + 1)).take 1)) hsl
      have k2 := upd_same (H := Ga) (a := sl) (o := .lst ((xs.drop (i + 1)).take 1))
      have sG2 := sG1.trans y2
      have k12 := y2 _ _ k1
      have y12 := y1.trans y2
      generalize upd Ga sl (.lst ((xs.drop (i + 1)).take 1)) = Gb at y2 k2 sG2 k12 y12 ⊢
      refine ⟨sl, rfl, ⟨_, .of k2⟩, fun D hD => ?_⟩
      refine lc_list (K := K) (a := sl) (xs := (xs.drop (i + 1)).take 1) (fun j G' => Same Gb G' ∧ G' D = some (.lst ((((h.drop (i + 1)).take 1).take j).map fun r => V.int (r.1 - 1)))) ⟨Same.new hD, upd_same⟩ (fun j G' _ z => z.1.seq (.of k2)) ?_ ?_
      · rintro j y G' hy ⟨s', kD⟩
        have j0 : j = 0 := by
          have := (List.getElem?_eq_some_iff.mp hy).1
          rw [List.length_take] at this
          omega
        subst j0
        rw [List.getElem?_take, if_pos (by decide), List.getElem?_drop] at hy
        obtain ⟨r2, er2, p2, l2, rys2, rfl, hp22, _⟩ := pair_get hp hy
        have ed : (h.drop (i + 1)).take 1 = [r2] := by
          have e : h.drop (i + 1) = r2 :: h.drop (i + 1 + 1) := by
            rw [← List.getElem_cons_drop (i := i + 1) (h := (List.getElem?_eq_some_iff.mp er2).1)]
            congr 1
            exact (List.getElem?_eq_some_iff.mp er2).2
          rw [e]
          rfl
        refine ⟨rfl, ?_⟩
        dsimp only [tYes]
        refine iteT ⟨_, rfl, p2, _, _, _, rfl, rfl, same_T ((sG2.trans s')) hp22, at0, _, _, rfl, rfl, [], kD, (show 0 < sizeLine by decide), fun c o ec => ?_, ?_⟩
        · rw [upd_ne (ne_of_none ec hD)]
          exact s' c o ec
        · rw [upd_same, ed]
          rfl
      · rintro G' ⟨s', kD⟩
        rw [List.take_of_length_le (by simp; omega)] at kD
        refine ⟨l1, D, _, _, rfl, rfl, s' _ _ k12, kD, Nat.le_trans (show 1 + (((h.drop (i + 1)).take 1).map fun r => V.int (r.1 - 1)).length ≤ 2 by rw [List.length_map, List.length_take]; omega) (by decide), fun sl2 hsl2 nsl2 => ?_⟩
        have y3 := Same.new (o := .lst ([V.int day] ++ ((h.drop (i + 1)).take 1).map fun r => V.int (r.1 - 1))) hsl2
        have k3 := upd_same (H := G') (a := sl2) (o := .lst ([V.int day] ++ ((h.drop (i + 1)).take 1).map fun r => V.int (r.1 - 1)))
        have sG3 := sG2.trans (s'.trans y3)
        have sGG : Same G (upd G' sl2 (.lst ([V.int day] ++ ((h.drop (i + 1)).take 1).map fun r => V.int (r.1 - 1)))) := y12.trans (s'.trans y3)
        have eL : ([V.int day] ++ ((h.drop (i + 1)).take 1).map fun r => V.int (r.1 - 1)) = (day :: ((h.drop (i + 1)).take 1).map fun r => r.1 - 1).map V.int := by
          rw [List.map_cons, List.map_map]
          rfl
        rw [eL] at k3 sG3 sGG ⊢
        generalize upd G' sl2 (.lst ((day :: ((h.drop (i + 1)).take 1).map fun r => r.1 - 1).map V.int)) = Gc at k3 sG3 sGG ⊢
        dsimp only [tNil]
        refine ⟨sl2, _, rfl, .of k3, by simp, fun m hm hle => ?_⟩
        have em : m = lastOf day (h.drop (i + 1)) := by
          have a1 := hle day List.mem_cons_self
          cases hd : h.drop (i + 1) with
          | nil =>
            rw [hd] at hm
            show m = day
            simpa using hm
          | cons t ts =>
            rw [hd] at hm hle
            have a2 := hle (t.1 - 1) (by simp)
            simp at hm
            show m = if t.1 ≤ day then t.1 - 1 else day
            split <;> omega
        refine ⟨_, rfl, _, rfl, l, b, rys, r.2, ws, rfl, .of (sG3 _ _ hl2), hR.same sG3, (ok.each r (List.mem_of_getElem? er)).g, same_T sG3 hb, hw, low, fun v Gd sd dv => ?_⟩
        obtain ⟨c0, s0, ys0, rfl, hc0, hto, hno⟩ := ans_at dv
        have sG4 := sG3.trans sd
        have kF4 := sd _ _ (sGG _ _ kFG)
        have pl4 : Places K Gd ys acc := Paired.mono (fun _ _ ⟨b, e, t⟩ => ⟨b, e, same_T (sGG.trans sd) t⟩) pl
        have edr : h.drop i = r :: h.drop (i + 1) := by
          rw [← List.getElem_cons_drop (i := i) (h := (List.getElem?_eq_some_iff.mp er).1)]
          congr 1
          exact (List.getElem?_eq_some_iff.mp er).2
        have estep : keptL (h.drop i) ws day = (if r.1 ≤ day then (keepOf ws (r.2, day - m)).toList else []) ++ keptL (h.drop (i + 1)) ws day := by
          rw [edr, em]
          unfold keptL
          show ((if r.1 ≤ day then [(r.2, day - lastOf day (h.drop (i + 1)))] else []) ++ srcA day (h.drop (i + 1))).filterMap (keepOf ws) = _
          rw [List.filterMap_append]
          congr 1
          split
          · cases e : keepOf ws (r.2, day - lastOf day (h.drop (i + 1))) <;> simp [e]
          · rfl
        rw [estep] at ek
        have done0 : (if r.1 ≤ day then (keepOf ws (r.2, day - m)).toList else []) = [] → acc ++ keptL (h.drop (i + 1)) ws day = keptL h ws day := fun e => by
          rw [e, List.nil_append] at ek
          exact ek
        have la2 : acc.length ≤ i + 1 := Nat.le_succ_of_le la
        refine ⟨_, rfl, _, rfl, _, _, rfl, rfl, _, rfl, ?_⟩
        by_cases c1 : r.1 ≤ day
        case neg =>
          rw [decide_eq_false c1]
          exact iteF (iteF ⟨sG4, _, _, _, _, _, ys, acc, rfl, kF4, pl4, done0 (if_neg c1), la2⟩)
        rw [decide_eq_true c1]
        rw [if_pos c1] at ek done0
        refine iteT ⟨_, rfl, c0, _, _, _, rfl, rfl, hc0, at0, rfl, _, rfl, ?_⟩
        cases ho : redir r.2 ws with
        | none =>
          have e1 : keepOf ws (r.2, day - m) = none := by
            unfold keepOf
            rw [ho]
          have ns : s0 ≠ "to" := hno ho
          rw [show decide (V.str s0 = V.str "to") = false from decide_eq_false fun z => ns (V.str.inj z)]
          exact iteF (iteF ⟨sG4, _, _, _, _, _, ys, acc, rfl, kF4, pl4, done0 (by rw [e1]; rfl), la2⟩)
        | some q2 =>
          obtain ⟨tg, n⟩ := q2
          obtain ⟨rfl, pt, rfl, hpt⟩ := hto tg n ho
          rw [decide_eq_true rfl]
          refine iteT ⟨_, rfl, c0, _, _, _, rfl, rfl, hc0, at_of (j := 2) rfl rfl, _, _, rfl, rfl, _, rfl, ?_⟩
          by_cases c2 : n > 0
          case neg =>
            have e1 : keepOf ws (r.2, day - m) = none := by
              unfold keepOf
              rw [ho]
              exact if_neg (by omega)
            rw [decide_eq_false c2]
            exact iteF (iteF ⟨sG4, _, _, _, _, _, ys, acc, rfl, kF4, pl4, done0 (by rw [e1]; rfl), la2⟩)
          rw [decide_eq_true c2]
          refine iteT ⟨_, rfl, _, rfl, _, rfl, c0, _, _, _, rfl, rfl, hc0, at_of (j := 2) rfl rfl, _, _, rfl, rfl, _, _, rfl, rfl, _, rfl, ?_⟩
          by_cases c3 : day ≤ m + n
          case neg =>
            have e1 : keepOf ws (r.2, day - m) = none := by
              unfold keepOf
              rw [ho]
              exact if_neg (by show ¬ (day - m ≤ n ∧ 1 ≤ n); omega)
            rw [decide_eq_false c3]
            exact iteF ⟨sG4, _, _, _, _, _, ys, acc, rfl, kF4, pl4, done0 (by rw [e1]; rfl), la2⟩
          have e1 : keepOf ws (r.2, day - m) = some tg := by
            unfold keepOf
            rw [ho]
            exact if_pos (by show day - m ≤ n ∧ 1 ≤ n; omega)
          rw [decide_eq_true c3]
          rw [e1] at ek
          have lyl := Paired.length pl4
          have i4 := ok.few
          have hi := (List.getElem?_eq_some_iff.mp er).1
          refine iteT ⟨_, rfl, Or.inl ⟨rfl, _, Or.inl (Or.inl kF4)⟩, _, rfl, c0, _, _, _, rfl, rfl, hc0, at1, F, ys, _, rfl, rfl, kF4, Nat.lt_of_le_of_lt (show ys.length ≤ 10 by omega) (by decide), ?_⟩
          refine ⟨fun z o e => ?_, _, _, _, _, _, ys ++ [.ref pt], acc ++ [tg], rfl, upd_same, ?_, ?_, by simp; omega⟩
          · rw [upd_ne (ne_of_none e hF)]
            exact sG4 z o e
          · exact (Paired.mono (fun _ _ ⟨b, e, t⟩ => ⟨b, e, sqT_list kF4 t⟩) pl4).snoc ⟨pt, rfl, sqT_list kF4 hpt⟩
          · rw [List.append_assoc]
            exact ek
    · rintro σ G ⟨sG, v4, v5, v6, v7, v8, ys, acc, rfl, gL, pl, ek, la⟩
      rw [List.drop_of_length_le (by omega)] at ek
      have ek : acc = keptL h ws day := by simpa [keptL, srcA] using ek
      subst ek
      have i4 := ok.few
      have ly := Paired.length pl
      obtain ⟨rest, r1, r2, r3⟩ := rest_of pl
      refine ⟨_, rfl, F, rfl, ⟨_, .of gL⟩, fun D1 hD1 => ?_⟩
      refine lc_list (K := K) (a := F) (xs := ys) (fun i G' => Same G G' ∧ ∃ qs, G' D1 = some (.lst qs) ∧ qs.length = i ∧ ∀ (j : Nat) (r : Rw), j < i → rest[j]? = some r → ∃ b, qs[j]? = some (.ref b) ∧ SqT K G' b [.ref r.2.1, r.2.2]) ⟨Same.new hD1, [], upd_same, rfl, fun j r h => absurd h (Nat.not_lt_zero j)⟩ (fun i G' _ z => z.1.seq (.of gL)) ?_ ?_
      · rintro i x G' hx ⟨sG', qs, kq, hl, hq⟩
        have hi : i < ys.length := (List.getElem?_eq_some_iff.mp hx).1
        obtain ⟨r, hr⟩ : ∃ r, rest[i]? = some r := ⟨_, List.getElem?_eq_getElem (by omega)⟩
        obtain ⟨e1, e2, _⟩ := r3 i r hr
        rw [hx] at e1
        obtain rfl := Option.some.inj e1
        refine ⟨rfl, ?_⟩
        dsimp only [tYes]
        refine iteT ⟨_, rfl, (show 2 ≤ sizeLine by decide), fun t ht => ?_⟩
        have st := Same.new (o := .tup [.ref r.2.1, .bl true]) ht
        have kq2 := st _ _ kq
        have tt : SqT K (upd G' t (.tup [.ref r.2.1, .bl true])) t [.ref r.2.1, r.2.2] := by
          rw [e2]
          exact .of upd_same
        have hq2 : ∀ (j : Nat) (r' : Rw), j < i → rest[j]? = some r' → ∃ b, qs[j]? = some (.ref b) ∧ SqT K (upd G' t (.tup [.ref r.2.1, .bl true])) b [.ref r'.2.1, r'.2.2] := fun j r' h1 h2 => let ⟨b, h3, h4⟩ := hq j r' h1 h2; ⟨b, h3, same_T st h4⟩
        have sG2 := sG'.trans st
        generalize upd G' t (.tup [.ref r.2.1, .bl true]) = G2 at kq2 tt hq2 sG2 ⊢
        refine ⟨qs, kq2, Nat.lt_of_le_of_lt (show qs.length ≤ 700 by omega) (by decide), fun c o ec => (upd_ne (ne_of_none ec hD1)).trans (sG2 _ _ ec), qs ++ [.ref t], upd_same, by simp [hl], fun j r' h1 h2 => ?_⟩
        by_cases hj : j < i
        · obtain ⟨b, h3, h4⟩ := hq2 j r' hj h2
          exact ⟨b, by rw [List.getElem?_append_left (by omega)]; exact h3, sqT_list kq2 h4⟩
        · have : j = i := by omega
          subst this
          rw [hr] at h2
          obtain rfl := Option.some.inj h2
          exact ⟨t, by rw [List.getElem?_append_right (by omega), hl, Nat.sub_self]; rfl, sqT_list kq2 tt⟩
      · rintro G3 ⟨s3, qs, kq, hl, hq⟩
        refine ⟨D1, qs, rest, rfl, .of kq, by omega, by omega, fun j r hr => ?_, fun DD G4 nD s4 kd => ?_⟩
        · have hj : j < ys.length := by have := (List.getElem?_eq_some_iff.mp hr).1; omega
          obtain ⟨b, g1, g2⟩ := hq j r hj hr
          obtain ⟨_, _, ws2, g3, g4⟩ := r3 j r hr
          exact ⟨b, g1, g2, by rw [g3]; exact nis_ws (same_T s3 g4), by rw [g3]; exact kA_deep _⟩
        · have jd : JD P w K G4 DD _ ((keptL h ws day).foldl addJ []) := ⟨kd, fold_keys r2 .nil⟩
          have s04 := sG.trans (s3.trans s4)
          have T4 := hT.ext s04
          have plD := jd_places jd
          generalize rest.foldl (fun a r => kPut a r.1 r.2.1 r.2.2) [] = rows at kd jd plD
          generalize hv : (rows.map fun x => V.ref x.2.1) = vs at plD
          generalize hss : (keptL h ws day).foldl addJ [] = ss at plD
          have zz := zip_fst plD.length
          refine ⟨T4, DD, rows, (vs.zip ss).map fun q => (q.1, keyD q.2), rfl, ?_, ?_, ?_, fun z hz => ?_, fun H2 e2 T2 => ⟨?_, fun z hz H3 s3' => ?_, fun H3 q3 s3' n3 _ => ?_⟩⟩
          · rw [hv, List.map_map]
            exact zz.1.symm
          · intro d hd d' hd'
            simp only [List.map_map, List.mem_map] at hd hd'
            obtain ⟨p1, _, rfl⟩ := hd
            obtain ⟨p2, _, rfl⟩ := hd'
            exact alike_key _ _
          · refine .inl fun d hd => ?_
            simp only [List.map_map, List.mem_map] at hd
            obtain ⟨p1, _, rfl⟩ := hd
            exact ⟨_, _, rfl⟩
          · obtain ⟨p1, h1, rfl⟩ := List.mem_map.mp hz
            exact ⟨keyD_bare _, keyD_deep _⟩
          · exact ⟨e2 _ _ kd.at_ (fun _ z => nomatch z), kd.low, kd.few, fun x hx => ⟨nis_mono (fun a xs z => ext_T e2 z) (kd.key x hx).1, (kd.key x hx).2⟩⟩
          · obtain ⟨p1, h1, rfl⟩ := List.mem_map.mp hz
            obtain ⟨pa, ea, ta⟩ := pl_zip plD p1 h1
            obtain ⟨v1, ws1⟩ := p1
            obtain rfl : v1 = .ref pa := ea
            have ta3 := same_T s3' (ext_T e2 ta)
            refine ⟨_, rfl, pa, _, rfl, .inr ta3, _, rfl, (show 2 ≤ sizeLine by decide), fun t ht => ?_⟩
            have y3 := Same.new (o := .tup [.int ((ws1.map V.str).length : Int), .ref pa]) ht
            refine ⟨y3, .tup (.of upd_same) (.cons ?_ (.cons (dp_wt (same_T y3 ta3)) .nil))⟩
            rw [List.length_map]
            exact .int _
          · have pl := sorted_pl plD
            generalize (((vs.zip ss).map fun q => (q.1, keyD q.2)).mergeSort (PySem.W.dataLe false Prod.snd)).map Prod.fst = ys2 at pl ⊢
            have y3 := Same.new (o := .lst ys2) n3
            have eN : LamX.ExtN H (upd H3 q3 (.lst ys2)) := (LamX.ExtN.of s04).trans (e2.trans (LamX.ExtN.of (s3'.trans y3)))
            refine q _ q3 ys2 eN (T2.ext (s3'.trans y3)) upd_same ?_
            unfold keptS
            rw [hss]
            exact Paired.mono (fun _ _ ⟨p, e, z⟩ => ⟨p, e, same_T (s3'.trans y3) (ext_T e2 z)⟩) pl
end
end K49
namespace K49
open PySem L2 Ld PyProof.Rows
abbrev sLat : Stmt := top 30
/-! ### the latest source that redirects so -/
def mx1 (n : Int) : Int := if (1 : Int) > n then 1 else n
def okS (i : Nat) (r : List Rl × Int) (ws tg : List Str) : Bool := match redir r.1 ws with
  | some (t, n) => decide (t = tg) && (decide (i = 0) || decide (mx1 r.2 ≤ n))
  | none => false
def latL (ws tg : List Str) : Nat → List (List Rl × Int) → Option Nat
  | _, [] => none
  | i, r :: ss => if okS i r ws tg = true then some i else latL ws tg (i + 1) ss
def optI : Option Nat → V
  | none => .non
  | some i => .int ((i : Nat) : Int)
section
variable {P : Program} {w : World} {K : PySem.W.Frag} {mg : Str → Option Value} {base : Heap} {f : Addr} {fd : FuncData} {CT : Addr}
def spLat (P : Program) (w : World) (K : PySem.W.Frag) (CT : Addr) : Sp := fun vs H Q _ => ∃ (l b c : Addr) (xs : List V) (ss : List (List Rl × Int)) (ws tg : List Str), vs = [.ref l, .ref b, .ref c] ∧ H l = some (.lst xs) ∧ SrcAt P w K CT H xs ss ∧ SqT K H b (ws.map V.str) ∧ SqT K H c (tg.map V.str) ∧ ws.length ≤ 900 ∧ AllWd ws ∧ AllWd tg ∧ ∀ H', Same H H' → Q (optI (latL ws tg 0 ss)) H'
def latN : List Str := ["sources", "address", "target", "at", "table", "age", "answer"]
theorem scLat : FnScope latN ["sources", "address", "target"] (defScope sLat) := ⟨rfl, rfl, rfl, by decide +kernel, rfl, by decide +kernel, by decide +kernel⟩
theorem ok_lat {fA : Addr} {fdA : FuncData} (Fd : Fun K "_latest" "_latest" sLat f fd) (T : Tx mg) (enum : mg "enumerate" = none) (C : Tcl K CT) (mA : Meth K CT "answer" fA) (bA : Binds K fdA ["self", "address"] []) (FA : FnOk P w K mg base CX0 4 fA fdA ["self", "address"] (spAns P w K CT)) (IE : Df P w K mg base 1 "is_end" ["answer"] (spIsEnd K)) :
    FnOk P w K mg base CX0 5 f fd ["sources", "address", "target"] (spLat P w K CT) := by
  refine Fd.ok scLat (fun vs H Q E h => ?_) (fun cdv A outer s H vs Q E hr h => ?_)
  · obtain ⟨l, b, c, xs, ss, ws, tg, rfl, _⟩ := h
    rfl
  · obtain ⟨l, b, c, xs, ss, ws, tg, rfl, hl, hs, hb, hc, len, hw, ht, q⟩ := h
    have nd := scLat.nd
    refine ⟨_, pss_cons (ps_for PassesOwn.never rfl (pi_enum rfl enum (pa_cons (pv 0) pa_nil)) (pg_tup rfl (pgs_cons (pg_name (i := 3) nd rfl (Or.inl rfl)) (pgs_cons (pg_tup rfl (pgs_cons (pg_name (i := 4) nd rfl (Or.inl rfl)) (pgs_cons (pg_name (i := 5) nd rfl (Or.inl rfl)) pgs_nil))) pgs_nil)))
        (pss_cons (ps_set (i := 6) nd rfl (Or.inl rfl) (pe_meth (E := E0) (dvs := []) (pv 4) C.cls mA FA (hr.mono (by decide)) bA .nil (fun _ _ _ _ _ _ _ z => z) (pa_cons (pv 1) pa_nil)))
        (pss_one (ps_if (PW.pt (pw_and (pt_not (pt_val (pe_df IE hr (pa_cons (pv 6) pa_nil)))) (pw_and (pt_cmpR (op_eqD hr.units) (pe_ix ix_tup (pv 6) pe_int (fun _ _ => rfl)) (pv 2) (nomark _))
            (pw_and1 (PW.pt (pw_or (pt_cmpR op_eq (pv 3) pe_int (nomark _)) (pw_or1 (pt_cmpR op_ge (pe_ix ix_tup (pv 6) pe_int (fun _ _ => rfl)) (pe_callB (call_max2 rfl) (by rfl) T.max (by decide +kernel) (pa_cons (pv 5) (pa_cons pe_int pa_nil))) (nomark _)))))))))
          (pss_one (ps_ret (pv 3))) pss_nil))))
      (pss_one (ps_ret pe_non)), ?_⟩
    have ls := Paired.length hs
    refine ⟨_, rfl, l, xs, rfl, .of hl, for_enum (K := K) (a := l) (xs := xs) (fun i σ G => Same H G ∧ latL ws tg i (ss.drop i) = latL ws tg 0 ss ∧ ∃ v3 v4 v5 v6, σ = [some (.ref l), some (.ref b), some (.ref c), v3, v4, v5, v6])
      ⟨Same.refl H, rfl, none, none, none, none, rfl⟩ (fun i σ G _ z => .of (z.1 _ _ hl)) ?_ ?_⟩
    · rintro i x σ G0 Tp hx2 nT ⟨sG0, el, v3, v4, v5, v6, rfl⟩
      obtain ⟨r, er, p, t, rfl, hp, tab⟩ := pair_get hs hx2
      have sT := Same.new (o := .tup [V.int ((i : Nat) : Int), .ref p]) nT
      have kT : SqT K (upd G0 Tp (.tup [V.int ((i : Nat) : Int), .ref p])) Tp [V.int ((i : Nat) : Int), .ref p] := .of upd_same
      have sG := sG0.trans sT
      generalize upd G0 Tp (.tup [V.int ((i : Nat) : Int), .ref p]) = G at sT kT sG ⊢
      clear sT sG0
      have ed : ss.drop i = r :: ss.drop (i + 1) := by
        have hi := (List.getElem?_eq_some_iff.mp er).1
        rw [List.drop_eq_getElem_cons hi]
        rw [(List.getElem?_eq_some_iff.mp er).2]
      rw [ed] at el
      have el : (if okS i r ws tg = true then some i else latL ws tg (i + 1) (ss.drop (i + 1))) = latL ws tg 0 ss := el
      obtain ⟨tdx, tt, td, txs, trows, tm, o8, _⟩ := id (tab.same sG)
      have gt := (tab.same sG)
      refine ⟨Tp, _, rfl, kT, rfl, _, _, rfl, _, _, rfl, p, _, rfl, same_T sG hp, rfl, _, _, rfl, _, _, rfl, rfl, rfl, ?_⟩
      refine ⟨_, rfl, t, tdx, _, rfl, o8, rfl, _, rfl, t, b, r.1, ws, rfl, gt, same_T sG hb, by omega, fun y G1 s1 dy => ?_⟩
      have sG1 := sG.trans s1
      have good : ∀ z ∈ r.1, z.Ok := by
        obtain ⟨_, _, _, _, _, _, _, _, _, g, _⟩ := id tab
        exact g.ok
      obtain ⟨c0, s0, ys, rfl, hc0, hto, hno⟩ := ans_at dy
      refine ⟨_, rfl, c0, s0, ys, rfl, hc0, _, rfl, ?_⟩
      have next : okS i r ws tg = false → latL ws tg (i + 1) (ss.drop (i + 1)) = latL ws tg 0 ss := fun e => by
        rw [e] at el
        exact el
      cases ho : redir r.1 ws with
      | none =>
        rw [decide_eq_false (hno ho)]
        exact iteF ⟨sG1, next (by unfold okS; rw [ho]), _, _, _, _, rfl⟩
      | some q2 =>
        obtain ⟨tg2, n⟩ := q2
        obtain ⟨rfl, pt, rfl, hpt⟩ := hto tg2 n ho
        have hw2 : AllWd tg2 := (redir_far good hw ho).1
        rw [decide_eq_true rfl]
        refine iteT ⟨_, rfl, c0, _, _, _, rfl, rfl, hc0, at1, _, rfl, _, _, dp_wt hpt, dp_wt (same_T sG1 hc), shaped_wt hw2.low, shaped_wt ht.low, _, rfl, ?_⟩
        rw [eqv_wt]
        have eo : okS i r ws tg = (decide (tg2 = tg) && (decide (i = 0) || decide (mx1 r.2 ≤ n))) := by
          unfold okS
          rw [ho]
        by_cases c1 : tg2 = tg
        · rw [decide_eq_true c1]
          rw [decide_eq_true c1, Bool.true_and] at eo
          refine iteT ⟨_, rfl, rfl, _, rfl, ?_⟩
          by_cases c2 : i = 0
          · subst c2
            rw [show decide (V.int ((0 : Nat) : Int) = V.int 0) = true from decide_eq_true rfl]
            have e : okS 0 r ws tg = true := by rw [eo]; rfl
            rw [e] at el
            exact iteT ⟨_, rfl, by have := q _ sG1; rw [← el] at this; exact this⟩
          · rw [show decide (V.int ((i : Nat) : Int) = V.int 0) = false from decide_eq_false fun h => c2 (by have := V.int.inj h; omega)]
            rw [decide_eq_false c2, Bool.false_or] at eo
            refine iteF ⟨_, rfl, c0, _, _, _, rfl, rfl, hc0, at_of (j := 2) rfl rfl, _, rfl, _, _, rfl, _, _, rfl, rfl, _, rfl, ?_⟩
            by_cases c3 : mx1 r.2 ≤ n
            · rw [decide_eq_true c3] at eo
              rw [eo] at el
              rw [decide_eq_true (show (if (1 : Int) > r.2 then 1 else r.2) ≤ n from c3)]
              exact iteT ⟨_, rfl, by have := q _ sG1; rw [← el] at this; exact this⟩
            · rw [decide_eq_false c3] at eo
              rw [decide_eq_false (show ¬ (if (1 : Int) > r.2 then 1 else r.2) ≤ n from c3)]
              exact iteF ⟨sG1, next eo, _, _, _, _, rfl⟩
        · rw [decide_eq_false c1]
          rw [decide_eq_false c1, Bool.false_and] at eo
          exact iteF ⟨sG1, next eo, _, _, _, _, rfl⟩
    · rintro σ G ⟨sG, el, v3, v4, v5, v6, rfl⟩
      rw [show ss.drop xs.length = [] from List.drop_eq_nil_of_le (by omega)] at el
      have el : none = latL ws tg 0 ss := el
      have := q _ sG
      rw [← el] at this
      exact this
end
end K49
namespace K49
open PySem PySem.Spec L2 Ld PyProof.Rows
/-! ### visits, and their order -/
abbrev Vis : Type := Int × List Str
def visD (v : Vis) : PyData := .tuple [.int v.1, wt v.2]
/-- what the program sorts by, and what the law sorts by -/
def kP (v : Vis) : PyData := .tuple [.int v.1, keyD v.2]
def kL (v : Vis) : PyData := .tuple [.int v.1, .int v.2.length, wt v.2]
theorem al_int (a b : Int) : PySem.W.alike (.int a) (.int b) = true := by simp [PySem.W.alike]
theorem al_wt (a b : List Str) : PySem.W.alike (wt a) (wt b) = true := by simp [wt, PySem.W.alike, alike_words]
theorem al_kP (a b : Vis) : PySem.W.alike (kP a) (kP b) = true := by
  simp [kP, PySem.W.alike, PySem.W.alikeAll, alike_key]
theorem al_kL (a b : Vis) : PySem.W.alike (kL a) (kL b) = true := by
  simp [kL, PySem.W.alike, PySem.W.alikeAll, al_wt]
theorem lt_kL (a b : Vis) : PySem.W.dataLt (kL a) (kL b) = PySem.W.dataLt (kP a) (kP b) := by
  unfold kL kP
  rw [PySem.W.dataLt_tuple, PySem.W.dataLt_tuple]
  by_cases c : a.1 = b.1
  · have e : PyData.eqv (.int a.1) (.int b.1) = true := by simp [PyData.eqv, c]
    rw [PySem.W.dataLt_all_yes (al_int _ _) e, PySem.W.dataLt_all_yes (al_int _ _) e]
    by_cases d : a.2 = b.2
    · rw [d]
      rw [PySem.W.dataLt_all_yes (al_int _ _) (by simp [PyData.eqv]), PySem.W.dataLt_all_yes (al_wt _ _) (by rw [eqv_wt]; simp)]
      rw [PySem.W.dataLt_all_yes (alike_key _ _) (by simp [keyD, PyData.eqv, PyData.eqvAll, eqv_wt])]
    · have n : PyData.eqv (keyD a.2) (keyD b.2) = false := by simp [keyD, PyData.eqv, PyData.eqvAll, eqv_wt, d]
      rw [PySem.W.dataLt_all_no (alike_key _ _) n]
      unfold keyD
      rw [PySem.W.dataLt_tuple]
  · have e : PyData.eqv (.int a.1) (.int b.1) = false := by simp [PyData.eqv, c]
    rw [PySem.W.dataLt_all_no (al_int _ _) e, PySem.W.dataLt_all_no (al_int _ _) e]
def leV (a b : Vis) : Bool := PySem.W.dataLe false kP a b
theorem le_kL (a b : Vis) : PySem.W.dataLe false kL a b = leV a b := by
  show (!PySem.W.dataLt (kL b) (kL a)) = !PySem.W.dataLt (kP b) (kP a)
  rw [lt_kL]
theorem leV_tot : PySem.W.TotalLe leV := PySem.W.sortLe_total (listOrd itemOrd) false fun v => PySem.W.keyToks (kP v)
theorem leV_day {a b : Vis} (h : leV a b = true) : a.1 ≤ b.1 := by
  by_cases c : b.1 < a.1
  · have : PySem.W.dataLt (kP b) (kP a) = true := by
      unfold kP
      rw [PySem.W.dataLt_tuple, PySem.W.dataLt_all_no (al_int _ _) (by simp [PyData.eqv]; omega), PySem.W.dataLt_int]
      exact decide_eq_true c
    have h : (!PySem.W.dataLt (kP b) (kP a)) = true := h
    rw [this] at h
    cases h
  · omega
def sortV (l : List Vis) : List Vis := l.mergeSort leV
theorem sortV_perm (l : List Vis) : (sortV l).Perm l := List.mergeSort_perm _ _
theorem sortV_pair (l : List Vis) : (sortV l).Pairwise fun a b => a.1 ≤ b.1 := by
  have := List.pairwise_mergeSort leV_tot.trans (fun a b => by rcases leV_tot.total a b with h | h <;> rw [h] <;> simp) l
  exact this.imp fun h => leV_day h
/-! ### the latest day -/
def okW (rs : List Rl) (ws tg : List Str) (day wn : Int) : Bool := match redir rs ws with
  | some (t, n) => decide (t = tg) && (decide (0 < n) && decide (day ≤ wn + n))
  | none => false
/-- the last of k days -/
def lateW (fo : Int → List Rl) (ws tg : List Str) (day : Int) : Nat → Option Int
  | 0 => none
  | k + 1 => if okW (fo (k : Nat)) ws tg day (k : Nat) = true then some ((k : Nat) : Int) else lateW fo ws tg day k
theorem late_congr {fo fo' : Int → List Rl} {ws tg : List Str} {day : Int} : ∀ {k : Nat}, (∀ j : Nat, j < k → fo (j : Nat) = fo' (j : Nat)) → lateW fo ws tg day k = lateW fo' ws tg day k
  | 0, _ => rfl
  | k + 1, h => by
    unfold lateW
    rw [h k (Nat.lt_succ_self k), late_congr fun j hj => h j (Nat.lt_succ_of_lt hj)]
theorem late_skip {fo : Int → List Rl} {ws tg : List Str} {day : Int} (a : Nat) : ∀ k : Nat, (∀ j : Nat, a ≤ j → j < a + k → okW (fo (j : Nat)) ws tg day (j : Nat) = false) → lateW fo ws tg day (a + k) = lateW fo ws tg day a
  | 0, _ => rfl
  | k + 1, h => by
    show (if okW (fo ((a + k : Nat) : Int)) ws tg day ((a + k : Nat) : Int) = true then some (((a + k : Nat) : Int)) else lateW fo ws tg day (a + k)) = _
    rw [h (a + k) (by omega) (by omega), if_neg (by decide)]
    exact late_skip a k fun j h1 h2 => h j h1 (by omega)
def forceR : Hist → Int → List Rl
  | [], _ => []
  | r :: h, d => if r.1 ≤ d then r.2 else forceR h d
theorem force_rev (h : Hist) (d : Int) : forceL h d = forceR h.reverse d := by
  have go : ∀ (h : Hist), forceR h d = forceL h.reverse d := fun h => by
    induction h with
    | nil => rfl
    | cons r h ih =>
      rw [List.reverse_cons, force_snoc, ← ih]
      rfl
  rw [go, List.reverse_reverse]
def Desc : Hist → Prop
  | [] => True
  | r :: h => (∀ t ∈ h, t.1 < r.1) ∧ Desc h
theorem desc_snoc : ∀ {h : Hist} {r : Int × List Rl}, Desc h → (∀ t ∈ h, r.1 < t.1) → Desc (h ++ [r])
  | [], _, _, _ => ⟨(fun _ h => nomatch h), trivial⟩
  | t :: h, r, a, l => ⟨fun x hx => by
      rcases List.mem_append.mp hx with hx | hx
      · exact a.1 x hx
      · rw [List.mem_singleton.mp hx]
        exact l t List.mem_cons_self, desc_snoc a.2 fun x hx => l x (List.mem_cons_of_mem _ hx)⟩
theorem desc_rev : ∀ {h : Hist}, Asc h → Desc h.reverse
  | [], _ => trivial
  | r :: h, a => by
    rw [List.reverse_cons]
    exact desc_snoc (desc_rev a.2) fun t ht => a.1 t (List.mem_reverse.mp ht)
theorem ok_day {rs : List Rl} {ws tg : List Str} {day wn wn' : Int} (h : wn ≤ wn') (e : okW rs ws tg day wn' = false) : okW rs ws tg day wn = false := by
  unfold okW at e ⊢
  cases ho : redir rs ws with
  | none => rfl
  | some q =>
    obtain ⟨t, n⟩ := q
    rw [ho] at e
    show (decide (t = tg) && (decide (0 < n) && decide (day ≤ wn + n))) = false
    have e : (decide (t = tg) && (decide (0 < n) && decide (day ≤ wn' + n))) = false := e
    by_cases c : day ≤ wn + n
    · rw [decide_eq_true c]
      rw [decide_eq_true (show day ≤ wn' + n by omega)] at e
      exact e
    · rw [decide_eq_false c, Bool.and_false, Bool.and_false]
theorem okS_W {rs : List Rl} {ws tg : List Str} {day u : Int} {j : Nat} (hj : j ≠ 0) (hu : u ≤ day) : okS j (rs, day - u) ws tg = okW rs ws tg day u := by
  unfold okS okW
  cases redir rs ws with
  | none => rfl
  | some q =>
    obtain ⟨t, n⟩ := q
    show (decide (t = tg) && (decide (j = 0) || decide (mx1 (day - u) ≤ n))) = (decide (t = tg) && (decide (0 < n) && decide (day ≤ u + n)))
    rw [decide_eq_false hj, Bool.false_or]
    congr 1
    unfold mx1
    by_cases c : 0 < n ∧ day ≤ u + n
    · rw [decide_eq_true c.1, decide_eq_true c.2]
      refine decide_eq_true ?_
      split <;> omega
    · have : (decide (0 < n) && decide (day ≤ u + n)) = false := by
        by_cases c1 : 0 < n
        · rw [decide_eq_false (show ¬ day ≤ u + n from fun z => c ⟨c1, z⟩), Bool.and_false]
        · rw [decide_eq_false c1, Bool.false_and]
      rw [this]
      refine decide_eq_false ?_
      split <;> omega
theorem okS_0 {rs : List Rl} {ws tg : List Str} {day u wn a : Int} (e : okS 0 (rs, a) ws tg = false) : okW rs ws tg day wn = false := by
  unfold okS at e
  unfold okW
  cases ho : redir rs ws with
  | none => rfl
  | some q =>
    obtain ⟨t, n⟩ := q
    rw [ho] at e
    have e : (decide (t = tg) && (decide (0 = 0) || decide (mx1 a ≤ n))) = false := e
    rw [decide_eq_true (rfl : 0 = 0), Bool.true_or, Bool.and_true] at e
    show (decide (t = tg) && _) = false
    rw [e, Bool.false_and]
theorem latL_le (ws tg : List Str) : ∀ (ss : List (List Rl × Int)) (j i : Nat), latL ws tg j ss = some i → j ≤ i
  | [], _, _, e => by cases e
  | s :: ss, j, i, e => by
    unfold latL at e
    split at e
    · cases e
      exact Nat.le_refl _
    · have := latL_le ws tg ss (j + 1) i e
      omega
/-- past the days of rules that don't do -/
theorem late_past {r : Int × List Rl} {t : Hist} {ws tg : List Str} {day u : Int} (hr : 0 ≤ r.1) (hu : r.1 ≤ u) (no : okW r.2 ws tg day u = false) (ht : ∀ x ∈ t, x.1 < r.1) :
    lateW (forceR (r :: t)) ws tg day (u + 1).toNat = lateW (forceR t) ws tg day (r.1 - 1 + 1).toNat := by
  have e1 : (u + 1).toNat = r.1.toNat + (u + 1 - r.1).toNat := by omega
  rw [e1, late_skip _ _ fun j h1 h2 => ?_]
  · rw [show (r.1 - 1 + 1).toNat = r.1.toNat by omega]
    refine late_congr fun j hj => ?_
    exact if_neg (by omega)
  · have : forceR (r :: t) (j : Nat) = r.2 := if_pos (by omega)
    rw [this]
    exact ok_day (wn' := u) (by omega) no
theorem late_go {ws tg : List Str} {day : Int} : ∀ {hr : Hist} {u : Int} {j i : Nat}, Desc hr → (∀ r ∈ hr, 0 ≤ r.1 ∧ r.1 ≤ u) → u ≤ day → j ≠ 0 → latL ws tg j (srcR day hr u) = some i →
    ∃ s, (srcR day hr u)[i - j]? = some s ∧ lateW (forceR hr) ws tg day (u + 1).toNat = some (day - s.2)
  | [], _, _, _, _, _, _, _, e => by cases e
  | r :: t, u, j, i, d, b, hu, hj, e => by
    obtain ⟨b0, b1⟩ := b r List.mem_cons_self
    have es : srcR day (r :: t) u = (r.2, day - u) :: srcR day t (r.1 - 1) := if_pos (by omega)
    rw [es] at e ⊢
    unfold latL at e
    rw [okS_W hj hu] at e
    by_cases c : okW r.2 ws tg day u = true
    · rw [if_pos c] at e
      cases e
      refine ⟨_, by rw [Nat.sub_self]; rfl, ?_⟩
      have eu : (u + 1).toNat = u.toNat + 1 := by omega
      rw [eu]
      unfold lateW
      rw [show ((u.toNat : Nat) : Int) = u by omega, show forceR (r :: t) u = r.2 from if_pos b1, if_pos c]
      congr 1
      show u = day - (day - u)
      omega
    · rw [if_neg c] at e
      have lt := latL_le _ _ _ _ _ e
      obtain ⟨s, h1, h2⟩ := late_go (u := r.1 - 1) d.2 (fun x hx => ⟨(b x (List.mem_cons_of_mem _ hx)).1, by have := d.1 x hx; omega⟩) (by omega) (Nat.succ_ne_zero j) e
      refine ⟨s, ?_, ?_⟩
      · rw [show i - j = (i - (j + 1)) + 1 by omega]
        exact h1
      · rw [late_past b0 b1 (by simpa using c) d.1]
        exact h2
/-- the day of a visit that makes a reader go from one address to another -/
def visOf (h : Hist) (day : Int) (ws tg : List Str) : Option Int := match latL ws tg 0 (srcOf h day) with
  | some (i + 1) => ((srcOf h day)[i + 1]?).map fun s => day - s.2
  | _ => none
def Ch (h : Hist) (day : Int) (ws tg : List Str) : Prop := latL ws tg 0 (srcOf h day) ≠ none
/-- a history that has begun -/
structure Beg (h : Hist) (day : Int) : Prop where
  asc : Asc h
  rng : ∀ r ∈ h, 0 ≤ r.1 ∧ r.1 ≤ day
  ne : h ≠ []
  g : ∀ r ∈ h, Good r.2
theorem Beg.src {h : Hist} {day : Int} (b : Beg h day) : ∃ r t, h.reverse = r :: t ∧ srcOf h day = (r.2, day - day) :: srcR day t (r.1 - 1) ∧ r ∈ h ∧ Desc (r :: t) ∧ ∀ x ∈ r :: t, 0 ≤ x.1 ∧ x.1 ≤ day := by
  cases e : h.reverse with
  | nil => exact absurd (List.reverse_eq_nil_iff.mp e) b.ne
  | cons r t =>
    have m : ∀ x ∈ r :: t, x ∈ h := fun x hx => List.mem_reverse.mp (e ▸ hx)
    have d := desc_rev b.asc
    rw [e] at d
    refine ⟨r, t, rfl, ?_, m r List.mem_cons_self, d, fun x hx => b.rng x (m x hx)⟩
    unfold srcOf
    rw [e]
    have es : srcR day (r :: t) day = (r.2, day - day) :: srcR day t (r.1 - 1) := if_pos (b.rng r (m r List.mem_cons_self)).2
    rw [es]
    rfl
theorem Beg.force0 {h : Hist} {day : Int} (b : Beg h day) {s : List Rl × Int} (e : (srcOf h day)[0]? = some s) : s.1 = forceL h day := by
  obtain ⟨r, t, e1, e2, m, _⟩ := b.src
  rw [e2] at e
  cases e
  rw [force_rev, e1]
  exact (if_pos (b.rng r m).2).symm
theorem vis_late {h : Hist} {day d : Int} {ws tg : List Str} (b : Beg h day) (e : visOf h day ws tg = some d) : lateW (forceL h) ws tg day (day + 1).toNat = some d := by
  obtain ⟨r, t, e1, e2, m, de, rg⟩ := b.src
  unfold visOf at e
  rw [e2] at e
  cases hl : latL ws tg 0 ((r.2, day - day) :: srcR day t (r.1 - 1)) with
  | none => rw [hl] at e; cases e
  | some i =>
    cases i with
    | zero => rw [hl] at e; cases e
    | succ i =>
      rw [hl] at e
      have e : (((r.2, day - day) :: srcR day t (r.1 - 1))[i + 1]?).map (fun s => day - s.2) = some d := e
      rw [List.getElem?_cons_succ] at e
      unfold latL at hl
      by_cases c : okS 0 (r.2, day - day) ws tg = true
      · rw [if_pos c] at hl
        cases hl
      · rw [if_neg c] at hl
        obtain ⟨b0, b1⟩ := rg r List.mem_cons_self
        obtain ⟨s, h1, h2⟩ := late_go (u := r.1 - 1) (day := day) de.2 (fun x hx => ⟨(rg x (List.mem_cons_of_mem _ hx)).1, by have := de.1 x hx; omega⟩) (by omega) Nat.one_ne_zero hl
        rw [Nat.add_sub_cancel] at h1
        rw [h1] at e
        rw [← Option.some.inj e]
        rw [show forceL h = forceR (r :: t) from funext fun x => by rw [force_rev, e1]]
        rw [late_past b0 b1 (okS_0 (u := 0) (by simpa using c)) de.1]
        exact h2
theorem late_ok {fo : Int → List Rl} {ws tg : List Str} {day d : Int} : ∀ {k : Nat}, lateW fo ws tg day k = some d → 0 ≤ d ∧ d < k ∧ okW (fo d) ws tg day d = true
  | 0, e => by cases e
  | k + 1, e => by
    unfold lateW at e
    split at e
    · rename_i c
      cases e
      exact ⟨by omega, by omega, c⟩
    · obtain ⟨a, b, c⟩ := late_ok e
      exact ⟨a, by omega, c⟩
/-- what a visit on such a day tells -/
theorem vis_tells {h : Hist} {day d : Int} {ws tg : List Str} (b : Beg h day) (hd : 0 ≤ day) (e : visOf h day ws tg = some d) : 0 ≤ d ∧ d ≤ day ∧ ∃ n, redir (forceL h d) ws = some (tg, n) ∧ 0 < n ∧ day ≤ d + n := by
  obtain ⟨h1, h2, h3⟩ := late_ok (vis_late b e)
  refine ⟨h1, by omega, ?_⟩
  unfold okW at h3
  cases ho : redir (forceL h d) ws with
  | none => rw [ho] at h3; cases h3
  | some q =>
    obtain ⟨t, n⟩ := q
    rw [ho] at h3
    have h3 : (decide (t = tg) && (decide (0 < n) && decide (day ≤ d + n))) = true := h3
    simp only [Bool.and_eq_true, decide_eq_true_eq] at h3
    exact ⟨n, by rw [h3.1], h3.2⟩
/-- no visit, where the rules in force say so -/
theorem vis_none {h : Hist} {day : Int} {ws tg : List Str} (b : Beg h day) (ch : Ch h day ws tg) : (visOf h day ws tg).isNone = decide ((redir (forceL h day) ws).map (·.1) = some tg) := by
  obtain ⟨r, t, e1, e2, m, de, rg⟩ := b.src
  have ef : forceL h day = r.2 := by
    rw [force_rev, e1]
    exact if_pos (b.rng r m).2
  unfold Ch at ch
  unfold visOf
  rw [ef]
  rw [e2] at ch ⊢
  have eo : okS 0 (r.2, day - day) ws tg = decide ((redir r.2 ws).map (·.1) = some tg) := by
    unfold okS
    cases redir r.2 ws with
    | none => rfl
    | some q =>
      obtain ⟨t, n⟩ := q
      show (decide (t = tg) && (decide (0 = 0) || _)) = decide (some t = some tg)
      rw [decide_eq_true (rfl : 0 = 0), Bool.true_or, Bool.and_true]
      simp
  rw [← eo]
  unfold latL at ch ⊢
  by_cases c : okS 0 (r.2, day - day) ws tg = true
  · rw [if_pos c, c]
    rfl
  · rw [if_neg c] at ch ⊢
    rw [Bool.not_eq_true] at c
    rw [c]
    cases hl : latL ws tg 1 (srcR day t (r.1 - 1)) with
    | none => exact absurd hl ch
    | some i =>
      have := latL_le _ _ _ _ _ hl
      obtain ⟨k, rfl⟩ : ∃ k, i = k + 1 := ⟨i - 1, by omega⟩
      obtain ⟨s, h1, _⟩ := late_go (u := r.1 - 1) (day := day) de.2 (fun x hx => ⟨(rg x (List.mem_cons_of_mem _ hx)).1, by have := de.1 x hx; omega⟩) (by have := rg r List.mem_cons_self; omega) Nat.one_ne_zero hl
      rw [Nat.add_sub_cancel] at h1
      show ((((r.2, day - day) :: srcR day t (r.1 - 1))[k + 1]?).map fun s => day - s.2).isNone = false
      rw [List.getElem?_cons_succ, h1]
      rfl
end K49
namespace K49
open PySem PySem.Spec L2 Ld PyProof.Rows
/-! ### sorted rules tell the same -/
theorem srcR_sort (day : Int) : ∀ (h : Hist) (u : Int), srcR day (sortH h) u = (srcR day h u).map fun s => (sortR s.1, s.2)
  | [], _ => rfl
  | r :: h, u => by
    show (if r.1 ≤ day then (sortR r.2, day - u) :: srcR day (sortH h) (r.1 - 1) else srcR day (sortH h) u) = (if r.1 ≤ day then (r.2, day - u) :: srcR day h (r.1 - 1) else srcR day h u).map _
    rw [srcR_sort day h, srcR_sort day h]
    split <;> rfl
theorem srcOf_sort (h : Hist) (day : Int) : srcOf (sortH h) day = (srcOf h day).map fun s => (sortR s.1, s.2) := by
  unfold srcOf
  have e : (sortH h).reverse = sortH h.reverse := by
    unfold sortH
    rw [List.map_reverse]
  rw [e, srcR_sort]
  cases srcR day h.reverse day with
  | nil =>
    show [([], 0)] = [(sortR [], 0)]
    rw [sort_nil]
  | cons a b => rfl
theorem srcR_mem (day : Int) : ∀ {h : Hist} {u : Int} {s : List Rl × Int}, s ∈ srcR day h u → ∃ r ∈ h, r.2 = s.1
  | [], _, _, e => by cases e
  | r :: h, u, s, e => by
    have e : s ∈ (if r.1 ≤ day then (r.2, day - u) :: srcR day h (r.1 - 1) else srcR day h u) := e
    split at e
    · rcases List.mem_cons.mp e with rfl | e
      · exact ⟨r, List.mem_cons_self, rfl⟩
      · obtain ⟨t, h1, h2⟩ := srcR_mem day e
        exact ⟨t, List.mem_cons_of_mem _ h1, h2⟩
    · obtain ⟨t, h1, h2⟩ := srcR_mem day e
      exact ⟨t, List.mem_cons_of_mem _ h1, h2⟩
theorem src_good {h : Hist} (g : ∀ r ∈ h, Good r.2) {day : Int} {s : List Rl × Int} (hs : s ∈ srcOf h day) : Good s.1 := by
  unfold srcOf at hs
  split at hs
  · rw [List.mem_singleton.mp hs]
    exact ⟨(fun r hr => by cases hr), by decide, List.nodup_nil⟩
  · obtain ⟨r, h1, h2⟩ := srcR_mem day hs
    exact h2 ▸ g r (List.mem_reverse.mp h1)
theorem latL_map (ws tg : List Str) : ∀ (ss : List (List Rl × Int)) (i : Nat), (∀ s ∈ ss, Good s.1) → latL ws tg i (ss.map fun s => (sortR s.1, s.2)) = latL ws tg i ss
  | [], _, _ => rfl
  | s :: ss, i, g => by
    rw [List.map_cons]
    unfold latL
    rw [latL_map ws tg ss (i + 1) fun x hx => g x (List.mem_cons_of_mem _ hx)]
    have : okS i (sortR s.1, s.2) ws tg = okS i s ws tg := by
      unfold okS
      show (match redir (sortR s.1) ws with | some (t, n) => decide (t = tg) && (decide (i = 0) || decide (mx1 s.2 ≤ n)) | none => false) = _
      rw [redir_sort (g s List.mem_cons_self)]
      all_goals (cases redir s.1 ws <;> rfl)
    rw [this]
theorem latL_sort {h : Hist} (g : ∀ r ∈ h, Good r.2) (day : Int) (ws tg : List Str) : latL ws tg 0 (srcOf (sortH h) day) = latL ws tg 0 (srcOf h day) := by
  rw [srcOf_sort, latL_map _ _ _ _ fun s hs => src_good g hs]
theorem vis_sort {h : Hist} (g : ∀ r ∈ h, Good r.2) (day : Int) (ws tg : List Str) : visOf (sortH h) day ws tg = visOf h day ws tg := by
  unfold visOf
  rw [latL_sort g]
  cases latL ws tg 0 (srcOf h day) with
  | none => rfl
  | some i =>
    cases i with
    | zero => rfl
    | succ i =>
      show ((srcOf (sortH h) day)[i + 1]?).map (fun s => day - s.2) = _
      rw [srcOf_sort, List.getElem?_map, Option.map_map]
      rfl
/-! ### the visits for a walk -/
abbrev Prs := List (List Str × List Str)
def dueL (h : Hist) (day : Int) (ps : Prs) : List Vis := ps.filterMap fun p => (visOf h day p.1 p.2).map fun d => (d, p.1)
theorem due_snoc (h : Hist) (day : Int) (ps : Prs) (p : List Str × List Str) : dueL h day (ps ++ [p]) = dueL h day ps ++ (match visOf h day p.1 p.2 with | some d => [(d, p.1)] | none => []) := by
  unfold dueL
  rw [List.filterMap_append]
  congr 1
  cases e : visOf h day p.1 p.2 with
  | none => rw [List.filterMap_cons, e]; rfl
  | some d => rw [List.filterMap_cons, e]; rfl
theorem due_sort {h : Hist} (g : ∀ r ∈ h, Good r.2) (day : Int) (ps : Prs) : dueL (sortH h) day ps = dueL h day ps := by
  unfold dueL
  exact fm_congr fun p _ => by rw [vis_sort g]
theorem due_mem {h : Hist} {day : Int} {ps : Prs} {v : Vis} : v ∈ dueL h day ps ↔ ∃ p ∈ ps, visOf h day p.1 p.2 = some v.1 ∧ p.1 = v.2 := by
  unfold dueL
  rw [List.mem_filterMap]
  constructor
  · rintro ⟨p, hp, e⟩
    obtain ⟨d, e1, rfl⟩ := Option.map_eq_some_iff.mp e
    exact ⟨p, hp, e1, rfl⟩
  · rintro ⟨p, hp, e1, e2⟩
    exact ⟨p, hp, by rw [e1, e2]; rfl⟩
theorem due_len (h : Hist) (day : Int) (ps : Prs) : (dueL h day ps).length ≤ ps.length := List.length_filterMap_le _ _
theorem due_sub (h : Hist) (day : Int) : ∀ ps : Prs, ((dueL h day ps).map (·.2)).Sublist (ps.map (·.1))
  | [] => .slnil
  | p :: ps => by
    have ih := due_sub h day ps
    unfold dueL at ih ⊢
    rw [List.filterMap_cons, List.map_cons]
    cases e : visOf h day p.1 p.2 with
    | none => exact .cons _ ih
    | some d => exact .cons₂ _ ih
def prs (l : List (List Str)) : Prs := l.zip l.tail
theorem prs_fst : ∀ l : List (List Str), (prs l).map (·.1) = l.dropLast
  | [] => rfl
  | [_] => rfl
  | a :: b :: l => by
    show a :: (prs (b :: l)).map (·.1) = a :: (b :: l).dropLast
    rw [prs_fst (b :: l)]
theorem prs_len (l : List (List Str)) : (prs l).length = l.length - 1 := by
  unfold prs
  rw [List.length_zip, List.length_tail]
  omega
theorem prs_snoc : ∀ (l : List (List Str)) (a x : List Str), prs (l ++ [a] ++ [x]) = prs (l ++ [a]) ++ [(a, x)]
  | [], _, _ => rfl
  | [_], _, _ => rfl
  | c :: d :: l, a, x => by
    show (c, d) :: prs (d :: l ++ [a] ++ [x]) = (c, d) :: (prs (d :: l ++ [a]) ++ [(a, x)])
    rw [prs_snoc (d :: l) a x]
theorem prs_mem {l : List (List Str)} {p : List Str × List Str} (h : p ∈ prs l) : p.1 ∈ l ∧ p.2 ∈ l := by
  unfold prs at h
  have := List.of_mem_zip (show (p.1, p.2) ∈ l.zip l.tail from h)
  exact ⟨this.1, List.mem_of_mem_tail this.2⟩
theorem prs_at {l : List (List Str)} {i : Nat} {a b : List Str} (h1 : l[i]? = some a) (h2 : l.tail[i]? = some b) : (prs l)[i]? = some (a, b) := by
  unfold prs
  rw [List.getElem?_zip_eq_some]
  exact ⟨h1, h2⟩
/-- a walk of which each step may be done -/
structure WalkOk (h : Hist) (day : Int) (l : List (List Str)) : Prop where
  ne : l ≠ []
  one : l.dropLast.Nodup
  ch : ∀ p ∈ prs l, Ch h day p.1 p.2
theorem fst_uniq {α β : Type} : ∀ {ps : List (α × β)} {p q : α × β}, (ps.map (·.1)).Nodup → p ∈ ps → q ∈ ps → p.1 = q.1 → p = q
  | [], _, _, _, h, _, _ => by cases h
  | x :: ps, p, q, n, hp, hq, e => by
    rw [List.map_cons, List.nodup_cons] at n
    rcases List.mem_cons.mp hp with h1 | h1
    · rcases List.mem_cons.mp hq with h2 | h2
      · rw [h1, h2]
      · exact absurd (List.mem_map.mpr ⟨q, h2, by rw [← e, h1]⟩) n.1
    · rcases List.mem_cons.mp hq with h2 | h2
      · exact absurd (List.mem_map.mpr ⟨p, h1, by rw [e, h2]⟩) n.1
      · exact fst_uniq n.2 h1 h2 e
/-! ### what a reader remembers after visits -/
theorem get_put {m : Mem} {ws us : List Str} {e : List Str × Int × Int} (n : memGet m ws = none) : memGet (memPut m ws e) us = if us = ws then some e else memGet m us := by
  have e1 : memPut m ws e = m ++ [(ws, e)] := by
    unfold memPut
    rw [n]
    rfl
  rw [e1]
  clear e1
  induction m with
  | nil =>
    show memGet [(ws, e)] us = _
    rw [get_cons]
    by_cases c : ws = us
    · rw [if_pos c, if_pos c.symm]
    · rw [if_neg c, if_neg fun z => c z.symm]
  | cons x m ih =>
    rw [get_cons] at n
    by_cases c0 : x.1 = ws
    · rw [if_pos c0] at n
      cases n
    · rw [if_neg c0] at n
      rw [List.cons_append, get_cons, get_cons, ih n]
      by_cases c : x.1 = us
      · rw [if_pos c, if_pos c, if_neg fun z => c0 (c.trans z)]
      · rw [if_neg c, if_neg c]
structure Told (h : Hist) (m : Mem) (vs : List Vis) : Prop where
  yes : ∀ v ∈ vs, ∃ tg n, memGet m v.2 = some (tg, n, v.1 + n) ∧ redir (forceL h v.1) v.2 = some (tg, n)
  no : ∀ ws, ws ∉ vs.map (·.2) → memGet m ws = none
  few : m.length ≤ vs.length
theorem told_nil (h : Hist) : Told h [] [] := ⟨(fun v hv => by cases hv), (fun _ _ => rfl), Nat.le_refl _⟩
theorem Told.ask {h : Hist} {m : Mem} {vs : List Vis} {v : Vis} {tg : List Str} {n : Int} (g : ∀ r ∈ h, Good r.2) (z : Told h m vs) (nv : v.2 ∉ vs.map (·.2)) (e : redir (forceL h v.1) v.2 = some (tg, n)) (hn : 0 < n) : Told h (askM (sortH h) m v.2 v.1) (vs ++ [v]) := by
  have n0 := z.no _ nv
  have ea : askM (sortH h) m v.2 v.1 = memPut m v.2 (tg, n, v.1 + n) := by
    unfold askM
    rw [n0]
    show (match redir (inForce (sortH h) v.1) v.2 with | some (tg, n) => if 0 < n then memPut m v.2 (tg, n, v.1 + n) else m | none => m) = _
    rw [in_sort, redir_sort (in_good g _), in_force, e]
    exact if_pos hn
  rw [ea]
  refine ⟨fun u hu => ?_, fun ws hw => ?_, ?_⟩
  · rw [get_put n0]
    rcases List.mem_append.mp hu with hu | hu
    · rw [if_neg fun q : u.2 = v.2 => nv (q ▸ List.mem_map.mpr ⟨u, hu, rfl⟩)]
      exact z.yes u hu
    · rw [List.mem_singleton.mp hu, if_pos rfl]
      exact ⟨tg, n, rfl, e⟩
  · rw [List.map_append] at hw
    rw [get_put n0, if_neg fun q => hw (List.mem_append_right _ (by rw [q]; exact List.mem_singleton.mpr rfl))]
    exact z.no ws fun q => hw (List.mem_append_left _ q)
  · have := memPut_len m v.2 (tg, n, v.1 + n)
    have := z.few
    rw [List.length_append]
    show _ ≤ vs.length + 1
    omega
/-- a reader that has made the visits does each step of the walk -/
theorem told_step {h : Hist} {day : Int} {l : List (List Str)} {m : Mem} (b : Beg h day) (hd : 0 ≤ day) (W : WalkOk h day l) (z : Told h m (sortV (dueL h day (prs l)))) {p : List Str × List Str} (hp : p ∈ prs l) : stepT (sortH h) m day p.1 = some p.2 := by
  have nd : ((prs l).map (·.1)).Nodup := by rw [prs_fst]; exact W.one
  have mem : ∀ v : Vis, v ∈ sortV (dueL h day (prs l)) ↔ v ∈ dueL h day (prs l) := fun v => (sortV_perm _).mem_iff
  rw [step_sort b.g]
  unfold stepT validM
  cases e : visOf h day p.1 p.2 with
  | some d =>
    obtain ⟨h1, h2, n, h3, h4, h5⟩ := vis_tells b hd e
    obtain ⟨tg, n', g1, g2⟩ := z.yes (d, p.1) ((mem _).mpr (due_mem.mpr ⟨p, hp, e, rfl⟩))
    have g2 : redir (forceL h d) p.1 = some (tg, n') := g2
    rw [h3] at g2
    cases g2
    have g1 : memGet m p.1 = some (p.2, n, d + n) := g1
    rw [g1]
    show (match (if d + n < day then none else some (p.2, n, d + n)) with | some e => some e.1 | none => _) = _
    rw [if_neg (by omega)]
  | none =>
    have nz : p.1 ∉ (sortV (dueL h day (prs l))).map (·.2) := fun q => by
      obtain ⟨v, hv, e2⟩ := List.mem_map.mp q
      obtain ⟨p', hp', e3, e4⟩ := due_mem.mp ((mem v).mp hv)
      have := fst_uniq nd hp' hp (e4.trans e2)
      rw [this, e] at e3
      cases e3
    rw [z.no _ nz]
    have := vis_none b (W.ch p hp)
    rw [e] at this
    show (redir (inForce h day) p.1).map (·.1) = some p.2
    rw [in_force]
    exact of_decide_eq_true this.symm
theorem walk_back {t : List Str → Option (List Str)} {rs : List Rl} : ∀ {l : List (List Str)} {a : List Str}, (∀ p ∈ prs (a :: l), t p.1 = some p.2) → (walkW t rs l.length a).1 = a :: l
  | [], _, _ => rfl
  | b :: l, a, h => by
    show (walkW t rs (l.length + 1) a).1 = _
    rw [walkW, h (a, b) List.mem_cons_self]
    show a :: (walkW t rs l.length b).1 = _
    rw [walk_back fun p hp => h p (List.mem_cons_of_mem _ hp)]
/-- the visits of a walk: distinct addresses, on days that fit -/
theorem due_one {h : Hist} {day : Int} {l : List (List Str)} (W : WalkOk h day l) : ((sortV (dueL h day (prs l))).map (·.2)).Nodup := by
  have nd : ((prs l).map (·.1)).Nodup := by rw [prs_fst]; exact W.one
  exact ((sortV_perm _).map (·.2)).nodup_iff.mpr ((due_sub h day (prs l)).nodup nd)
theorem due_fit {h : Hist} {day : Int} {l : List (List Str)} (b : Beg h day) (hd : 0 ≤ day) {v : Vis} (hv : v ∈ sortV (dueL h day (prs l))) : 0 ≤ v.1 ∧ v.1 ≤ day ∧ v.2 ∈ l ∧ ∃ tg n, redir (forceL h v.1) v.2 = some (tg, n) ∧ 0 < n := by
  obtain ⟨p, hp, e1, e2⟩ := due_mem.mp ((sortV_perm _).mem_iff.mp hv)
  obtain ⟨h1, h2, n, h3, h4, h5⟩ := vis_tells b hd e1
  exact ⟨h1, h2, e2 ▸ (prs_mem hp).1, p.2, n, e2 ▸ h3, h4⟩
/-! ### choices -/
theorem ch_now {h : Hist} {day : Int} (b : Beg h day) {ws tg : List Str} (e : (redir (forceL h day) ws).map (·.1) = some tg) : Ch h day ws tg := by
  obtain ⟨r, t, e1, e2, m, _⟩ := b.src
  have ef : forceL h day = r.2 := by
    rw [force_rev, e1]
    exact if_pos (b.rng r m).2
  rw [ef] at e
  unfold Ch
  rw [e2]
  obtain ⟨q, h1, h2⟩ := Option.map_eq_some_iff.mp e
  obtain ⟨t', n⟩ := q
  have h2 : t' = tg := h2
  have : okS 0 (r.2, day - day) ws tg = true := by
    unfold okS
    show (match redir r.2 ws with | some (t, n) => decide (t = tg) && (decide (0 = 0) || decide (mx1 (day - day) ≤ n)) | none => false) = true
    rw [h1]
    show (decide (t' = tg) && _) = true
    rw [decide_eq_true h2, decide_eq_true (rfl : 0 = 0)]
    rfl
  unfold latL
  rw [if_pos this]
  exact fun e => by cases e
theorem latL_some {ws tg : List Str} : ∀ {ss : List (List Rl × Int)} {j : Nat}, (∃ s ∈ ss, keepOf ws s = some tg) → latL ws tg j ss ≠ none
  | [], _, ⟨_, h, _⟩ => by cases h
  | s :: ss, j, ⟨x, hx, e⟩ => by
    unfold latL
    split
    · exact fun e => by cases e
    · rename_i c
      rcases List.mem_cons.mp hx with rfl | hx
      · refine absurd ?_ c
        unfold keepOf at e
        unfold okS
        cases ho : redir x.1 ws with
        | none => rw [ho] at e; cases e
        | some q =>
          obtain ⟨t, n⟩ := q
          rw [ho] at e
          have e : (if x.2 ≤ n ∧ 1 ≤ n then some t else none) = some tg := e
          split at e
          · rename_i c2
            cases e
            show (decide (tg = tg) && (decide (j = 0) || decide (mx1 x.2 ≤ n))) = true
            rw [decide_eq_true (rfl : tg = tg), decide_eq_true (show mx1 x.2 ≤ n by unfold mx1; split <;> omega), Bool.or_true]
            rfl
          · cases e
      · exact latL_some ⟨x, hx, e⟩
theorem ch_kept {h : Hist} {day : Int} (b : Beg h day) {ws tg : List Str} (e : tg ∈ keptS h ws day) : Ch h day ws tg := by
  unfold keptS at e
  have e := (sortA_perm _).mem_iff.mp e
  rw [mem_adds] at e
  rcases e with e | e
  · cases e
  · obtain ⟨s, hs, e⟩ := List.mem_filterMap.mp e
    refine latL_some ⟨s, ?_, e⟩
    unfold srcOf
    rw [src_rev day b.asc]
    have hm : s ∈ (srcA day h).reverse := List.mem_reverse.mpr hs
    split
    · rename_i c
      rw [List.isEmpty_iff.mp c] at hm
      cases hm
    · exact hm
end K49
namespace K49
open PySem L2 Ld PyProof.Rows
abbrev sVF : Stmt := top 29
abbrev sVK : Stmt := top 31
/-! ### lists of visits -/
def VisR (K : PySem.W.Frag) (H : Hp) (v : V) (u : Vis) : Prop := ∃ t p, v = .ref t ∧ SqT K H t [.int u.1, .ref p] ∧ SqT K H p (u.2.map V.str)
theorem VisR.mono {K : PySem.W.Frag} {H H' : Hp} {v : V} {u : Vis} (z : VisR K H v u) (hT : ∀ a xs, SqT K H a xs → SqT K H' a xs) : VisR K H' v u := let ⟨t, p, e, h1, h2⟩ := z; ⟨t, p, e, hT _ _ h1, hT _ _ h2⟩
theorem VisR.dp {K : PySem.W.Frag} {H : Hp} {v : V} {u : Vis} (z : VisR K H v u) : Dp K H v (visD u) := by
  obtain ⟨t, p, rfl, h1, h2⟩ := z
  exact .tup h1 (.cons (.int _) (.cons (dp_wt h2) .nil))
theorem vis_dp {K : PySem.W.Frag} {H : Hp} : ∀ {xs : List V} {us : List Vis}, Paired (VisR K H) xs us → DpAll K H xs (us.map visD)
  | _, _, .nil => .nil
  | _, _, .cons a b => .cons a.dp (vis_dp b)
theorem pair_zip {α β : Type} {F : α → β → Prop} : ∀ {xs : List α} {ss : List β}, Paired F xs ss → ∀ q ∈ xs.zip ss, F q.1 q.2
  | _, _, .nil => fun q h => by cases h
  | _, _, .cons a b => fun q h => by
    rw [List.zip_cons_cons] at h
    rcases List.mem_cons.mp h with rfl | h
    · exact a
    · exact pair_zip b q h
theorem pair_of {α β : Type} {F : α → β → Prop} : ∀ {l : List (α × β)}, (∀ q ∈ l, F q.1 q.2) → Paired F (l.map (·.1)) (l.map (·.2))
  | [], _ => .nil
  | q :: l, h => .cons (h q List.mem_cons_self) (pair_of fun p hp => h p (List.mem_cons_of_mem _ hp))
theorem sorted_vis {F : V → Vis → Prop} {xs : List V} {us : List Vis} {k : Vis → PyData} (hk : ∀ a b, PySem.W.dataLe false k a b = leV a b) (z : Paired F xs us) : Paired F ((((xs.zip us).map fun q => (q.1, k q.2)).mergeSort (PySem.W.dataLe false Prod.snd)).map Prod.fst) (sortV us) := by
  have e1 := List.map_mergeSort (r := fun a b : V × Vis => leV a.2 b.2) (s := PySem.W.dataLe false Prod.snd) (f := fun q => (q.1, k q.2)) (l := xs.zip us) (fun a _ b _ => (hk a.2 b.2).symm)
  have e2 := List.map_mergeSort (r := fun a b : V × Vis => leV a.2 b.2) (s := leV) (f := fun q => q.2) (l := xs.zip us) (fun a _ b _ => rfl)
  rw [(zip_fst z.length).2] at e2
  unfold sortV
  rw [← e1, ← e2, List.map_map]
  exact pair_of fun q hq => pair_zip z q ((List.mergeSort_perm _ _).mem_iff.mp hq)
theorem kP_bare (v : Vis) : bareB (kP v) = true := by
  have := keyD_bare v.2
  simp [kP, bareB, bareAll, this]
theorem kP_deep (v : Vis) : (kP v).depth ≤ 8 := by
  have h := depth_words v.2
  simp only [kP, keyD, wt, PyData.depth, PyData.depthAll, h]
  omega
theorem latL_lt (ws tg : List Str) : ∀ (ss : List (List Rl × Int)) (j i : Nat), latL ws tg j ss = some i → i < j + ss.length
  | [], _, _, e => by cases e
  | s :: ss, j, i, e => by
    unfold latL at e
    rw [List.length_cons]
    split at e
    · cases e
      omega
    · have := latL_lt ws tg ss (j + 1) i e
      omega
/-! ### zip of a list or of a tuple with what follows -/
def Sq2 (K : PySem.W.Frag) (H : Hp) (F a b : Addr) (xs ys : List V) : Prop := (H a = some (.lst xs) ∧ H b = some (.lst ys) ∧ a ≠ F ∧ b ≠ F) ∨ (SqT K H a xs ∧ SqT K H b ys)
structure ZipB (Z : It) (B : Hp → Prop) (F : Addr) (xs ys : List V) : Prop where
  go : ∀ i G x y, B G → xs[i]? = some x → ys[i]? = some y → Z.go i G
  stop : ∀ i G, B G → (xs.length ≤ i ∨ ys.length ≤ i) → Z.stop i G
  yld : ∀ i G v G', B G → Z.yld i G v G' → ∃ T x y, v = .ref T ∧ G T = none ∧ G' = upd G T (.tup [x, y]) ∧ xs[i]? = some x ∧ ys[i]? = some y
  same : ∀ G G', Same G G' → B G → B G'
  off : ∀ G G' ks, G F = some (.lst ks) → (∀ c o, c ≠ F → G c = some o → G' c = some o) → B G → B G'
theorem zipA_of {K : PySem.W.Frag} {a b F : Addr} {xs ys : List V} {G : Hp} {R : It → Hp → Prop} (hk : Sq2 K G F a b xs ys) (r : ∀ Z B, ZipB Z B F xs ys → B G → R Z G) :
    (SqL K G a xs ∧ SqL K G b ys ∧ R (Itz K a b) G) ∨ (SqT K G a xs ∧ SqT K G b ys ∧ R (RZ.ItzT K a b) G) := by
  rcases hk with ⟨h1, h2, n1, n2⟩ | ⟨h1, h2⟩
  · refine .inl ⟨.of h1, .of h2, r _ (fun G => G a = some (.lst xs) ∧ G b = some (.lst ys)) ⟨fun i G x y z ex ey => ⟨xs, ys, x, y, .of z.1, .of z.2, ex, ey⟩, fun i G z c => ⟨xs, ys, .of z.1, .of z.2, c⟩, fun i G v G' z y => ?_, fun G G' s z => ⟨s _ _ z.1, s _ _ z.2⟩, fun G G' ks _ fr z => ⟨fr _ _ n1 z.1, fr _ _ n2 z.2⟩⟩ ⟨h1, h2⟩⟩
    obtain ⟨T, x, y, rfl, nT, rfl, e1, e2⟩ := y
    exact ⟨T, x, y, rfl, nT, rfl, e1 _ (.of z.1), e2 _ (.of z.2)⟩
  · refine .inr ⟨h1, h2, r _ (fun G => SqT K G a xs ∧ SqT K G b ys) ⟨fun i G x y z ex ey => ⟨xs, ys, x, y, z.1, z.2, ex, ey⟩, fun i G z c => ⟨xs, ys, z.1, z.2, c⟩, fun i G v G' z y => ?_, fun G G' s z => ⟨same_T s z.1, same_T s z.2⟩, fun G G' ks h fr z => ⟨sqT_off h fr z.1, sqT_off h fr z.2⟩⟩ ⟨h1, h2⟩⟩
    obtain ⟨T, x, y, rfl, nT, rfl, e1, e2⟩ := y
    exact ⟨T, x, y, rfl, nT, rfl, e1 _ z.1, e2 _ z.2⟩
def taM (ta : TA) : TA := fun σ H k => ∃ k', ta σ H k' ∧ ∀ vs H1, k' vs H1 → k vs H1
theorem pa_m {X : Cx} {es : List Expr} {ta : TA} (h : PA X es ta) : PA X es (taM ta) := ⟨fun pos pins s σ H Q I ⟨k, h1, h2⟩ => thn (h.run pos pins s σ H k I h1) fun us s1 ⟨vs, H1, I1, r1, q1⟩ => ⟨vs, H1, I1, r1, h2 _ _ q1⟩⟩
def iZipF (K : PySem.W.Frag) (ta : TA) : TI := fun σ H R => ta σ H fun vs H1 => ∃ F a b xs ys, vs = [.ref a, .ref b] ∧ Sq2 K H1 F a b xs ys ∧ ∀ Z B, ZipB Z B F xs ys → B H1 → R Z H1
theorem pi_zipF {X : Cx} {K : PySem.W.Frag} {e e2 : Expr} {ta : TA} {p pos tpos : Pos} {elts : List Expr} {kk : Nat} (hg : Gl X "zip") (hm : X.mg "zip" = none) (ha : PA X [e, e2] ta) (hK : X.K = K := by rfl)
    (hs : starEach [e, e2] X.env = (false, eval e X.env) :: starEach [e2] X.env := by rfl) (hpl : (backTo pos (starEach [e2] X.env)).any (·.1) = false := by rfl) :
    PI X (.Tuple elts kk tpos) (.Call (.Name "zip" p) [e, e2] [] pos) (iZipF K ta) := by
  subst hK
  exact ⟨fun pins s σ H R I h => (RZ.pi_zipA hg hm (pa_m ha) hs hpl).run pins s σ H R I ⟨_, h, fun vs H1 ⟨F, a, b, xs, ys, e, sq, r⟩ => ⟨a, b, xs, ys, e, zipA_of sq r⟩⟩⟩
theorem for_zipB {Z : It} {B : Hp → Prop} {F : Addr} {xs ys : List V} {g : TG} {tb : TS} {D : Ends} {σ : L2.St} {H : Hp} (z : ZipB Z B F xs ys) (Pv : Nat → L2.St → Hp → Prop) (start : Pv 0 σ H) (le : ys.length ≤ xs.length) (stays : ∀ i σ H, Pv i σ H → B H)
    (turn : ∀ i x y σ H T, xs[i]? = some x → ys[i]? = some y → H T = none → Pv i σ H → g (.ref T) σ (upd H T (.tup [x, y])) fun σ2 H2 => tb { D with nx := Pv (i + 1), ct := Pv (i + 1), bk := D.nx } σ2 H2) (after : ∀ σ H, Pv ys.length σ H → D.nx σ H) :
    ∃ W : Nat → Nat → L2.St → Hp → Prop, (∃ m, W 0 m σ H) ∧ ∀ i m σ H, W i m σ H →
      (Z.stop i H ∧ D.nx σ H) ∨ (Z.go i H ∧ ∃ N : L2.St → Hp → Prop, (∀ σ' H', N σ' H' → ∃ m', m' < m ∧ W (i + 1) m' σ' H') ∧ ∀ x H', Z.yld i H x H' → g x σ H' fun σ2 H2 => tb { D with nx := N, ct := N, bk := D.nx } σ2 H2) := by
  refine ⟨fun i m σ H => m + i = ys.length ∧ Pv i σ H, ⟨ys.length, rfl, start⟩, fun i m σ H ⟨e, p⟩ => ?_⟩
  have b := stays i σ H p
  by_cases lt : i < ys.length
  · refine Or.inr ⟨z.go i H xs[i] ys[i] b (List.getElem?_eq_getElem (by omega)) (List.getElem?_eq_getElem lt), Pv (i + 1), fun σ' H' p' => ⟨m - 1, by omega, by omega, p'⟩, fun x H' y => ?_⟩
    obtain ⟨T, u, v, rfl, nT, rfl, hu, hv⟩ := z.yld i H x H' b y
    exact turn i u v σ H T hu hv nT p
  · have e2 : i = ys.length := by omega
    subst e2
    exact Or.inl ⟨z.stop _ H b (.inr (Nat.le_refl _)), after σ H p⟩
theorem cut_one1 (xs : List V) : cutV xs (some 1) none = xs.tail := by
  unfold cutV
  rw [show (1 : Int) = ((1 : Nat) : Int) from rfl, HT.sIx_none, HT.sIx_nat]
  cases xs with
  | nil => rfl
  | cons x xs =>
    rw [Nat.min_eq_left (show 1 ≤ (x :: xs).length by simp)]
    show (xs.take ((x :: xs).length - 1)) = xs
    rw [List.length_cons, Nat.add_sub_cancel, List.take_length]
section
variable {P : Program} {w : World} {K : PySem.W.Frag} {mg : Str → Option Value} {base : Heap} {f : Addr} {fd : FuncData} {CT CS : Addr}
/-! ### _visit_key -/
def spVK (K : PySem.W.Frag) : Sp := fun vs H Q _ => ∃ (v : V) (u : Vis), vs = [v] ∧ VisR K H v u ∧ ∀ y H', Same H H' → Dp K H' y (kP u) → Q y H'
theorem scVK : FnScope ["visit"] ["visit"] (defScope sVK) := ⟨rfl, rfl, rfl, by decide +kernel, rfl, by decide +kernel, by decide +kernel⟩
theorem ok_vk (Fd : Fun K "_visit_key" "_visit_key" sVK f fd) (DK : Df P w K mg base 1 "address_key" ["address"] (spKey K)) : FnOk P w K mg base CX0 2 f fd ["visit"] (spVK K) := by
  refine Fd.ok scVK (fun vs H Q E h => ?_) (fun cdv A outer s H vs Q E hr h => ?_)
  · obtain ⟨v, u, rfl, _⟩ := h
    rfl
  · obtain ⟨v, u, rfl, ⟨t, p, rfl, ht, hp⟩, q⟩ := h
    refine ⟨_, pss_one (ps_ret (pe_tup (pa_cons (pe_ix ix_tup (pv 0) pe_int (fun _ _ => rfl)) (pa_cons (pe_df DK hr (pa_cons (pe_ix ix_tup (pv 0) pe_int (fun _ _ => rfl)) pa_nil)) pa_nil)))), ?_⟩
    refine ⟨_, rfl, t, _, _, _, rfl, rfl, ht, at0, _, rfl, t, _, _, _, rfl, rfl, ht, at1, p, u.2, rfl, hp, fun y H1 s1 d1 => ⟨(show 2 ≤ sizeLine by decide), fun c hc => ?_⟩⟩
    have s2 := Same.new (o := .tup [.int u.1, .ref y]) hc
    exact q _ _ (s1.trans s2) (.tup (.of upd_same) (.cons (.int _) (.cons (dp_same s2 d1) .nil)))
/-! ### visits_for -/
def spVF (P : Program) (w : World) (K : PySem.W.Frag) (CT CS : Addr) : Sp := fun vs H Q _ => ∃ (a l D T : Addr) (hs : Hist) (day : Int) (xs : List V) (wk : List (List Str)), vs = [.ref a, .ref l, .int day] ∧ SrvAt P w K CT CS H a D T hs ∧ hs.length ≤ 100 ∧ (H l = some (.lst xs) ∨ SqT K H l xs) ∧ Places K H xs wk ∧ wk.length ≤ 100 ∧ (∀ x ∈ wk, AllWd x ∧ x.length ≤ 900) ∧
  ∀ H' q ys, Same H H' → H q = none → H' q = some (.lst ys) → Paired (VisR K H') ys (sortV (dueL hs day (prs wk))) → Q (.ref q) H'
def vfN : List Str := ["server", "walk", "day", "sources", "found", "address", "target", "at"]
theorem scVF : FnScope vfN ["server", "walk", "day"] (defScope sVF) := ⟨rfl, rfl, rfl, by decide +kernel, rfl, by decide +kernel, by decide +kernel⟩
theorem ok_vf {fS fV : Addr} {fdS fdV : FuncData} (Fd : Fun K "visits_for" "visits_for" sVF f fd) (T : Tx mg) (Y : Ty mg) (zip : mg "zip" = none) (S : Scl K CS) (mS : Meth K CS "sources" fS) (bS : Binds K fdS ["self", "day"] []) (FS : FnOk P w K mg base CX0 8 fS fdS ["self", "day"] (spSSrc P w K CT CS))
    (LT : Df P w K mg base 5 "_latest" ["sources", "address", "target"] (spLat P w K CT)) (gV : mg "_visit_key" = some (.ref fV)) (bV : Binds K fdV ["visit"] []) (FV : FnOk P w K mg base CX0 2 fV fdV ["visit"] (spVK K)) : FnOk P w K mg base CX0 9 f fd ["server", "walk", "day"] (spVF P w K CT CS) := by
  refine Fd.ok scVF (fun vs H Q E h => ?_) (fun cdv A outer s H vs Q E hr h => ?_)
  · obtain ⟨a, l, D, Tl, hs, day, xs, wk, rfl, _⟩ := h
    rfl
  · obtain ⟨a, l, D, Tl, hs, day, xs, wk, rfl, hS, few, hl, hp, fw, far, q⟩ := h
    have nd := scVF.nd
    refine ⟨_, pss_cons (ps_set (i := 3) nd rfl (Or.inl rfl) (pe_meth (E := E0) (dvs := []) (pv 0) S.cls mS FS (hr.mono (by decide)) bS .nil (fun _ _ _ _ _ _ _ z => z) (pa_cons (pv 2) pa_nil)))
      (pss_cons (ps_set (i := 4) nd rfl (Or.inl rfl) (pe_lst pa_nil))
      (pss_cons (ps_for PassesOwn.never rfl (pi_zipF (K := K) rfl zip (pa_cons (pv 1) (pa_cons (pe_slice (SlR.or sl_list sl_tupW) (pv 1) (po_some pe_int) po_none) pa_nil))) (pg_tup rfl (pgs_cons (pg_name (i := 5) nd rfl (Or.inl rfl)) (pgs_cons (pg_name (i := 6) nd rfl (Or.inl rfl)) pgs_nil)))
        (pss_cons (ps_set (i := 7) nd rfl (Or.inl rfl) (pe_df LT hr (pa_cons (pv 3) (pa_cons (pv 5) (pa_cons (pe_callTy call_tupleT (by rfl) T.tuple (by decide +kernel) (pa_cons (pv 6) pa_nil)) pa_nil)))))
        (pss_one (ps_if (PW.pt (pw_and (pt_cmpR op_notN (pv 7) pe_non (nomark _)) (pw_and1 (pt_cmpR op_gt (pv 7) pe_int (nomark _)))))
          (pss_one (ps_expr (pe_bm PySem.F.plainAttrs_list PySem.F.slot_list_append PySem.F.type_list_append mt_append (pv 4) (pa_cons (pe_tup (pa_cons (pe_op op_sub (pv 2) (pe_ix ix_tup (pe_ix ix_list (pv 3) (pv 7) (fun _ _ => rfl)) pe_int (fun _ _ => rfl))) (pa_cons (pe_callTy call_tupleT (by rfl) T.tuple (by decide +kernel) (pa_cons (pv 5) pa_nil)) pa_nil))) pa_nil)))) pss_nil))))
      (pss_one (ps_ret (pe_callBK (cr_sortK FV (hr.mono (by decide)) bV) (by rfl) Y.sorted boot_sorted (pa_cons (pv 4) pa_nil) (pk_cons (pe_glob (v := .ref fV) (by rfl) gV rfl) pk_nil)))))), ?_⟩
    obtain ⟨sdx, sts, o1, _⟩ := id hS
    refine ⟨_, rfl, a, sdx, _, rfl, o1, rfl, _, rfl, a, D, Tl, hs, day, H, rfl, hS, Same.refl H, few, fun G1 ls sxs s1 nls kls hsrc _ => ?_⟩
    refine ⟨(show 0 ≤ sizeLine by decide), fun F hF => ?_⟩
    have nFH : H F = none := s1.free hF
    have y1 := Same.new (o := .lst []) hF
    have kF := upd_same (H := G1) (a := F) (o := .lst [])
    have s2 := s1.trans y1
    have hsrc2 := hsrc.same y1
    have kls2 := y1 _ _ kls
    have nls2 : ls ≠ F := fun e => by rw [e, hF] at kls; cases kls
    generalize upd G1 F (.lst []) = G2 at y1 kF s2 hsrc2 kls2 ⊢
    refine ⟨_, rfl, _, rfl, 1, rfl, ?_⟩
    have lw := hp.length
    rcases hl with hl | hl
    case' inl =>
      refine .inl ⟨l, xs, rfl, .of (s2 _ _ hl), fun p nP => ?_⟩
      have s3 := Same.new (o := .lst (cutV xs (some 1) none)) nP
      have key : Same G2 (upd G2 p (.lst (cutV xs (some 1) none))) ∧ Sq2 K (upd G2 p (.lst (cutV xs (some 1) none))) F l p xs (cutV xs (some 1) none) := ⟨s3, .inl ⟨s3 _ _ (s2 _ _ hl), upd_same, ne_of_none hl nFH, fun e => by rw [e, kF] at nP; cases nP⟩⟩
      generalize upd G2 p (.lst (cutV xs (some 1) none)) = G3 at key ⊢
      clear s3 nP hl
      revert key
    case' inr =>
      refine .inr ⟨l, xs, rfl, same_T s2 hl, fun p G3 s3 h3 => ?_⟩
      have key : Same G2 G3 ∧ Sq2 K G3 F l p xs (cutV xs (some 1) none) := ⟨s3, .inr ⟨same_T (s2.trans s3) hl, h3⟩⟩
      clear s3 h3 hl
      revert key
    all_goals
      rw [cut_one1]
      rintro ⟨s3, sq⟩
      have s23 := s2.trans s3
      have kF3 := s3 _ _ kF
      refine ⟨F, l, p, xs, xs.tail, rfl, sq, fun Z B zb b0 => for_zipB zb (fun i σ G => (∀ c o, c ≠ F → G3 c = some o → G c = some o) ∧ ∃ v5 v6 v7 ys, σ = [some (.ref a), some (.ref l), some (.int day), some (.ref ls), some (.ref F), v5, v6, v7] ∧ G F = some (.lst ys) ∧ Paired (VisR K G) ys (dueL hs day ((prs wk).take i)) ∧ B G)
        ⟨(fun _ _ _ e => e), none, none, none, [], rfl, kF3, .nil, b0⟩ (by rw [List.length_tail]; omega) (fun i σ G z => by obtain ⟨_, _, _, _, _, _, _, _, b⟩ := z; exact b) ?_ ?_⟩
      · rintro i x y σ G0 Tp hx hy nT ⟨frG0, v5, v6, v7, ys, rfl, kG0, hys0, bG0⟩
        obtain ⟨ws, ew, pa, rfl, tpa⟩ := pair_getF hp hx
        have hy2 := hy
        rw [List.getElem?_tail] at hy2
        obtain ⟨tg, et, pb, rfl, tpb⟩ := pair_getF hp hy2
        have ept : (prs wk)[i]? = some (ws, tg) := prs_at ew (by rw [List.getElem?_tail]; exact et)
        have etk : (prs wk).take (i + 1) = (prs wk).take i ++ [(ws, tg)] := by rw [List.take_add_one, ept]; rfl
        have sT := Same.new (o := .tup [V.ref pa, .ref pb]) nT
        have kT : SqT K (upd G0 Tp (.tup [V.ref pa, .ref pb])) Tp [V.ref pa, .ref pb] := .of upd_same
        have frG : ∀ c o, c ≠ F → G3 c = some o → (upd G0 Tp (.tup [V.ref pa, .ref pb])) c = some o := fun c o n e => sT _ _ (frG0 c o n e)
        have kG := sT _ _ kG0
        have hys := Paired.mono (fun _ _ q => VisR.mono q fun _ _ z => same_T sT z) hys0
        have bG := zb.same _ _ sT bG0
        generalize upd G0 Tp (.tup [V.ref pa, .ref pb]) = G at kT frG kG hys bG ⊢
        clear sT nT hys0 kG0 frG0 bG0
        have tpaG := sqT_off kF3 frG (same_T s23 tpa)
        have tpbG := sqT_off kF3 frG (same_T s23 tpb)
        have srcG := (hsrc2.same s3).off kF3 frG
        have klsG := frG _ _ nls2 (s3 _ _ kls2)
        obtain ⟨ww, wl⟩ := far ws (List.mem_of_getElem? ew)
        obtain ⟨wt', _⟩ := far tg (List.mem_of_getElem? et)
        refine ⟨Tp, _, rfl, kT, rfl, _, _, rfl, _, _, rfl, rfl, ?_⟩
        refine ⟨_, rfl, _, rfl, _, rfl, pb, _, rfl, tpbG, ls, pa, pb, sxs, srcOf hs day, ws, tg, rfl, klsG, srcG, tpaG, tpbG, wl, ww, wt', fun G1 s4 => ?_⟩
        have frG1 : ∀ c o, c ≠ F → G3 c = some o → G1 c = some o := fun c o n e => s4 _ _ (frG c o n e)
        have kG1 := s4 _ _ kG
        have hys1 := Paired.mono (fun _ _ q => VisR.mono q fun _ _ z => same_T s4 z) hys
        have tpa1 := same_T s4 tpaG
        have src1 := srcG.same s4
        have kls1 := s4 _ _ klsG
        have bG1 := zb.same _ _ s4 bG
        have nov : visOf hs day ws tg = none → dueL hs day ((prs wk).take (i + 1)) = dueL hs day ((prs wk).take i) := fun e => by
          rw [etk, due_snoc]
          show dueL hs day ((prs wk).take i) ++ (match visOf hs day ws tg with | some d => [(d, ws)] | none => []) = _
          rw [e, List.append_nil]
        refine ⟨_, rfl, rfl, _, rfl, ?_⟩
        cases hl : latL ws tg 0 (srcOf hs day) with
        | none =>
          refine iteF (iteF ⟨frG1, _, _, _, _, rfl, kG1, ?_, bG1⟩)
          rw [nov (by unfold visOf; rw [hl])]
          exact hys1
        | some k =>
          refine iteT ⟨_, rfl, _, _, rfl, rfl, _, rfl, ?_⟩
          cases k with
          | zero =>
            refine iteF ⟨frG1, _, _, _, _, rfl, kG1, ?_, bG1⟩
            rw [nov (by unfold visOf; rw [hl])]
            exact hys1
          | succ k =>
            have lk := latL_lt _ _ _ _ _ hl
            have lsx := Paired.length src1
            obtain ⟨sx, hsx⟩ : ∃ sx, sxs[k + 1]? = some sx := ⟨_, List.getElem?_eq_getElem (by omega)⟩
            obtain ⟨r, er, p2, t2, rfl, hp2, tab2⟩ := pair_getF src1 hsx
            have ev : visOf hs day ws tg = some (day - r.2) := by
              unfold visOf
              rw [hl]
              show ((srcOf hs day)[k + 1]?).map (fun s => day - s.2) = _
              rw [er]
              rfl
            have ed : dueL hs day ((prs wk).take (i + 1)) = dueL hs day ((prs wk).take i) ++ [(day - r.2, ws)] := by
              rw [etk, due_snoc]
              show _ ++ (match visOf hs day ws tg with | some d => [(d, ws)] | none => []) = _
              rw [ev]
            have lys := Paired.length hys1
            have ldu := due_len hs day ((prs wk).take i)
            rw [List.length_take, prs_len] at ldu
            rw [show decide ((0 : Int) < ((k + 1 : Nat) : Int)) = true from decide_eq_true (by omega)]
            refine iteT ⟨_, rfl, Or.inl ⟨rfl, _, Or.inl (Or.inl kG1)⟩, _, rfl, _, rfl, _, rfl, ls, sxs, _, _, rfl, rfl, .of kls1, at_of (j := k + 1) rfl hsx, p2, _, _, _, rfl, rfl, hp2, at1, _, _, rfl, rfl, _, rfl, pa, _, rfl, tpa1, (show 2 ≤ sizeLine by decide), fun t ht => ?_⟩
            have y2 := Same.new (o := .tup [V.int (day - r.2), .ref pa]) ht
            have vt : VisR K (upd G1 t (.tup [V.int (day - r.2), .ref pa])) (.ref t) (day - r.2, ws) := ⟨t, pa, rfl, .of upd_same, same_T y2 tpa1⟩
            have kG2 := y2 _ _ kG1
            have frG2 : ∀ c o, c ≠ F → G3 c = some o → (upd G1 t (.tup [V.int (day - r.2), .ref pa])) c = some o := fun c o n e => y2 _ _ (frG1 c o n e)
            have hys2 := Paired.mono (fun _ _ q => VisR.mono q fun _ _ z => same_T y2 z) hys1
            have bG2 := zb.same _ _ y2 bG1
            generalize upd G1 t (.tup [V.int (day - r.2), .ref pa]) = G4 at vt kG2 frG2 hys2 bG2 ⊢
            refine ⟨F, ys, _, rfl, rfl, kG2, Nat.lt_of_le_of_lt (show ys.length ≤ 100 by omega) (by decide), ?_⟩
            have off : ∀ c o, c ≠ F → G4 c = some o → (upd G4 F (.lst (ys ++ [.ref t]))) c = some o := fun c o n e => (upd_ne n).trans e
            have hT : ∀ a zs, SqT K G4 a zs → SqT K (upd G4 F (.lst (ys ++ [.ref t]))) a zs := fun a zs z => sqT_off kG2 off z
            refine ⟨fun c o n e => off c o n (frG2 c o n e), _, _, _, _, rfl, upd_same, ?_, zb.off _ _ _ kG2 off bG2⟩
            rw [ed]
            exact (Paired.mono (fun _ _ q => VisR.mono q hT) hys2).snoc (vt.mono hT)
      · rintro σ G ⟨frG, v5, v6, v7, ys, rfl, kG, hys, bG⟩
        have ew : (prs wk).take xs.tail.length = prs wk := List.take_of_length_le (by rw [prs_len, List.length_tail]; omega)
        rw [ew] at hys
        have sG : Same H G := fun c o e => frG c o (ne_of_none e nFH) (s23 _ _ e)
        have ly := Paired.length hys
        have ldu := due_len hs day (prs wk)
        rw [prs_len] at ldu
        have zz := zip_fst ly
        refine ⟨_, rfl, F, (ys.zip (dueL hs day (prs wk))).map fun q => (q.1, kP q.2), rfl, rfl, ?_, ?_, ?_, ?_, ?_, fun H1 q1 s4 hq nq => ?_⟩
        · rw [List.map_map]
          show SqL K G F ((ys.zip (dueL hs day (prs wk))).map (·.1))
          rw [zz.1]
          exact .of kG
        · rw [List.length_map, List.length_zip]
          omega
        · intro d hd d' hd'
          simp only [List.map_map, List.mem_map] at hd hd'
          obtain ⟨p1, _, rfl⟩ := hd
          obtain ⟨p2, _, rfl⟩ := hd'
          exact al_kP _ _
        · refine .inl fun d hd => ?_
          simp only [List.map_map, List.mem_map] at hd
          obtain ⟨p1, _, rfl⟩ := hd
          exact ⟨_, _, rfl⟩
        · intro z hz
          obtain ⟨p1, h1, rfl⟩ := List.mem_map.mp hz
          have vr := pair_zip hys p1 h1
          exact ⟨kP_bare _, kP_deep _, fun H1 sH1 => ⟨p1.1, p1.2, rfl, vr.mono fun _ _ z => same_T sH1 z, fun y H' sy dy => ⟨sy, dy⟩⟩⟩
        · have pl := sorted_vis (k := kP) (fun _ _ => rfl) hys
          generalize (((ys.zip (dueL hs day (prs wk))).map fun q => (q.1, kP q.2)).mergeSort (PySem.W.dataLe false Prod.snd)).map Prod.fst = ys2 at pl ⊢
          have s5 := s4.trans (Same.new (o := .lst ys2) hq)
          exact q _ _ _ (sG.trans s5) ((sG.trans s4).free hq) upd_same (Paired.mono (fun _ _ q => VisR.mono q fun _ _ z => same_T s5 z) pl)
end
end K49
namespace K49
open PySem L2 Ld PyProof.Rows
abbrev sCho : Stmt := top 48
abbrev sFW : Stmt := top 49
/-! ### what stands, but for the stream and the tables of code objects -/
def ExB (wa : Addr) (H H' : Hp) : Prop := ∀ b o, b ≠ wa → H b = some o → (∀ ps, o ≠ .tbl ps) → H' b = some o
def offT (wa : Addr) (H : Hp) : Hp := fun b => if b = wa then none else match H b with | some (.tbl _) => none | o => o
structure Bare (G0 : Hp) (wa : Addr) : Prop where
  w0 : G0 wa = none
  t0 : ∀ b ps, G0 b ≠ some (.tbl ps)
section
variable {P : Program} {w : World} {K : PySem.W.Frag} {wa : Addr} {H H' G0 : Hp} {TL : List (Addr × Str)}
theorem ExB.of (s : Same H H') : ExB wa H H' := fun b o _ e _ => s b o e
theorem ExB.ext (s : LamX.ExtN H H') : ExB wa H H' := fun b o _ e n => s b o e n
theorem ExB.sb (s : Sb wa H H') : ExB wa H H' := fun b o n e _ => s b o n e
theorem ExB.trans {H1 H2 : Hp} (a : ExB wa H H1) (b : ExB wa H1 H2) : ExB wa H H2 := fun c o n e m => b c o n (a c o n e m) m
theorem smExt (W : Sm H wa) (s : LamX.ExtN H H') : Sm H' wa := by
  obtain ⟨a1, a2, a3, a4⟩ := W
  exact ⟨a1, a2, s _ _ a3 (fun _ e => nomatch e), a4⟩
theorem tabs_sb (W : Sm H wa) (s : Sb wa H H') (t : LamX.Tabs TL H) : LamX.Tabs TL H' := fun p hp => by
  obtain ⟨ps, h1, h2, h3⟩ := t p hp
  refine ⟨ps, s _ _ (W.ne h1 trivial) h1, h2, fun pos cv hc => ?_⟩
  obtain ⟨c, e1, e2⟩ := h3 pos cv hc
  exact ⟨c, e1, s _ _ (W.ne e2 trivial) e2⟩
theorem offT_bare : Bare (offT wa H) wa := ⟨if_pos rfl, fun b ps e => by
  unfold offT at e
  split at e
  · cases e
  · cases h : H b with
    | none => rw [h] at e; cases e
    | some o => rw [h] at e; cases o <;> cases e⟩
theorem offT_exb : ExB wa H (offT wa H) := fun b o n e m => by
  unfold offT
  rw [if_neg n, e]
  cases o with
  | tbl ps => exact absurd rfl (m ps)
  | _ => rfl
theorem offT_same : Same (offT wa H) H := fun b o e => by
  unfold offT at e
  split at e
  · cases e
  · cases h : H b with
    | none => rw [h] at e; cases e
    | some o' => rw [h] at e; cases o' <;> (cases e <;> rfl)
theorem Bare.same (A : Bare G0 wa) (s : Same G0 H) (e : ExB wa H H') : Same G0 H' := fun b o h => e b o (ne_of_none h A.w0) (s b o h) fun ps q => A.t0 b ps (q ▸ h)
/-- in two steps: all but the stream, then all but the tables -/
theorem offT_two : ∃ H1, Sb wa H H1 ∧ LamX.ExtN H1 (offT wa H) := by
  refine ⟨fun b => if b = wa then none else H b, fun b o n e => (if_neg n).trans e, fun b o e m => ?_⟩
  have e : (if b = wa then none else H b) = some o := e
  split at e
  · cases e
  · rename_i n
    exact offT_exb b o n e m
theorem offT_T {p : Addr} {xs : List V} (W : Sm H wa) (h : SqT K H p xs) : SqT K (offT wa H) p xs := by
  obtain ⟨H1, s1, s2⟩ := offT_two (wa := wa) (H := H)
  exact ext_T s2 (smT W s1 h)
theorem offT_H {D : Addr} {h : Hist} (W : Sm H wa) (z : HistAt K H D h) : HistAt K (offT wa H) D h := by
  obtain ⟨H1, s1, s2⟩ := offT_two (wa := wa) (H := H)
  exact (z.sb W s1).ext s2
end
theorem Paired.append {α β : Type} {F : α → β → Prop} : ∀ {xs : List α} {ys : List β} {xs2 : List α} {ys2 : List β}, Paired F xs ys → Paired F xs2 ys2 → Paired F (xs ++ xs2) (ys ++ ys2)
  | _, _, _, _, .nil, z => z
  | _, _, _, _, .cons a b, z => .cons a (Paired.append b z)
theorem pair_init {α β : Type} {F : α → β → Prop} : ∀ {xs : List α} {ys : List β} {x : α} {y : β}, xs.length = ys.length → Paired F (xs ++ [x]) (ys ++ [y]) → Paired F xs ys
  | [], [], _, _, _, _ => .nil
  | [], _ :: _, _, _, h, _ => by simp at h
  | _ :: _, [], _, _, h, _ => by simp at h
  | a :: xs, b :: ys, _, _, h, z => by
    cases z with
    | cons p q => exact .cons p (pair_init (by simpa using h) q)
theorem tabs_off {TL : List (Addr × Str)} {H H' : Hp} {D : Addr} {ks : List V} (hD : H D = some (.lst ks)) (fr : ∀ c o, c ≠ D → H c = some o → H' c = some o) (t : LamX.Tabs TL H) : LamX.Tabs TL H' := fun p hp => by
  obtain ⟨ps, h1, h2, h3⟩ := t p hp
  refine ⟨ps, fr _ _ (ne_of h1 hD fun e => nomatch e) h1, h2, fun pos cv hc => ?_⟩
  obtain ⟨c, e1, e2⟩ := h3 pos cv hc
  exact ⟨c, e1, fr _ _ (ne_of e2 hD fun e => nomatch e) e2⟩
theorem cut_lastV (xs : List V) (x : V) : cutV (xs ++ [x]) none (some (-1)) = xs := by
  unfold cutV
  have e : HT.sIx (xs ++ [x]).length (xs ++ [x]).length (some (-1)) = xs.length := by
    show (if (-1 : Int) < 0 then ((-1 : Int) + (((xs ++ [x]).length : Nat) : Int)).toNat else min (-1 : Int).toNat (xs ++ [x]).length) = xs.length
    rw [if_pos (by decide), List.length_append, List.length_singleton]
    omega
  rw [e, HT.sIx_none, List.drop_zero, Nat.sub_zero, List.take_left']
  rfl
theorem shaped_pls {l : List (List Str)} (h : ∀ x ∈ l, LowW x) : SeqAt.shaped (.list (l.map wt)) = true := by
  have both : ∀ {l : List (List Str)}, (∀ x ∈ l, LowW x) → PyData.canLayAll0 (l.map wt) = true ∧ PyData.depthAll (l.map wt) ≤ 2 := fun {l} h => by
    induction l with
    | nil => exact ⟨rfl, by simp [PyData.depthAll]⟩
    | cons x l ih =>
      obtain ⟨a, b⟩ := ih fun y hy => h y (List.mem_cons_of_mem _ hy)
      have d := depth_words x
      simp only [List.map_cons, PyData.canLayAll0, PyData.depthAll, lay_low (h x List.mem_cons_self), a, Bool.and_self]
      refine ⟨trivial, ?_⟩
      simp only [wt, PyData.depth, d]
      omega
  obtain ⟨a, b⟩ := both h
  unfold SeqAt.shaped
  rw [decide_eq_true (show (PyData.list (l.map wt)).depth ≤ 64 by simp only [PyData.depth]; omega)]
  simp only [PyData.canLay0, a, Bool.and_self]
theorem any_wt (cur : List Str) : ∀ l : List (List Str), ((l.map wt).any fun z => PyData.eqv z (wt cur)) = decide (cur ∈ l)
  | [] => rfl
  | x :: l => by
    rw [List.map_cons, List.any_cons, any_wt cur l, eqv_wt]
    by_cases c : x = cur
    · simp [c]
    · have c2 : cur ≠ x := fun e => c e.symm
      simp [c, c2]
theorem eqv_pls0 (l : List (List Str)) : PyData.eqv (.list (l.map wt)) (.list []) = l.isEmpty := by
  cases l <;> simp [PyData.eqv, PyData.eqvAll]
def nowL (h : Hist) (ws : List Str) (day : Int) : List (List Str) := ((redir (forceL h day) ws).map (·.1)).toList
theorem kept_far {h : Hist} (g : ∀ r ∈ h, Good r.2) {ws : List Str} (hw : AllWd ws) (day : Int) : ∀ tg ∈ keptS h ws day, AllWd tg ∧ tg.length ≤ ws.length + 4 := fun tg ht => by
  unfold keptS at ht
  have ht := (sortA_perm _).mem_iff.mp ht
  rw [mem_adds] at ht
  rcases ht with ht | ht
  · cases ht
  · obtain ⟨s, hs, e⟩ := List.mem_filterMap.mp ht
    obtain ⟨r, h1, h2⟩ := src_mem day hs
    unfold keepOf at e
    cases ho : redir s.1 ws with
    | none =>
      rw [ho] at e
      cases e
    | some q =>
      obtain ⟨t, n⟩ := q
      rw [ho] at e
      have e : (if s.2 ≤ n ∧ 1 ≤ n then some t else none) = some tg := e
      split at e
      · cases e
        exact redir_far (h2 ▸ (g r h1).ok) hw ho
      · cases e
theorem now_far {h : Hist} (g : ∀ r ∈ h, Good r.2) {ws : List Str} (hw : AllWd ws) (day : Int) : ∀ tg ∈ nowL h ws day, AllWd tg ∧ tg.length ≤ ws.length + 4 := fun tg ht => by
  unfold nowL at ht
  obtain ⟨q, e1, e2⟩ := Option.map_eq_some_iff.mp (Option.mem_toList.mp ht)
  obtain ⟨t, n⟩ := q
  exact redir_far (n := n) (force_good g day).ok hw (by rw [e1, ← e2])
theorem now_len (h : Hist) (ws : List Str) (day : Int) : (nowL h ws day).length ≤ 1 := by
  unfold nowL
  cases (redir (forceL h day) ws).map (·.1) <;> simp
/-- what a walk may go on to -/
def someL (h : Hist) (ws : List Str) (day : Int) : List (List Str) := (keptS h ws day ++ keptS h ws day) ++ (keptS h ws day ++ nowL h ws day)
theorem some_ok {h : Hist} {day : Int} (b : Beg h day) {ws : List Str} (hw : AllWd ws) : ∀ tg ∈ someL h ws day, AllWd tg ∧ tg.length ≤ ws.length + 4 ∧ Ch h day ws tg := fun tg ht => by
  have k : ∀ {tg}, tg ∈ keptS h ws day → AllWd tg ∧ tg.length ≤ ws.length + 4 ∧ Ch h day ws tg := fun {tg} z => let ⟨a, c⟩ := kept_far b.g hw day tg z; ⟨a, c, ch_kept b z⟩
  unfold someL at ht
  rcases List.mem_append.mp ht with ht | ht
  · rcases List.mem_append.mp ht with ht | ht <;> exact k ht
  · rcases List.mem_append.mp ht with ht | ht
    · exact k ht
    · obtain ⟨a, c⟩ := now_far b.g hw day tg ht
      exact ⟨a, c, ch_now b (Option.mem_toList.mp ht)⟩
section
variable {P : Program} {w : World} {K : PySem.W.Frag} {mg : Str → Option Value} {base : Heap} {f : Addr} {fd : FuncData} {TL : List (Addr × Str)}
/-! ### _law_choices -/
def spCho (K : PySem.W.Frag) (TL : List (Addr × Str)) : Sp := fun vs H Q _ => ∃ (hl b : Addr) (h : Hist) (ws : List Str) (day : Int), vs = [.ref hl, .ref b, .int day] ∧ LamX.Tabs TL H ∧ HistAt K H hl h ∧ HistOk h ∧ SqT K H b (ws.map V.str) ∧ ws.length ≤ 900 ∧ LowW ws ∧
  ∀ H' l xs, LamX.ExtN H H' → LamX.Tabs TL H' → H' l = some (.lst xs) → Places K H' xs (keptS h ws day ++ nowL h ws day) → Q (.ref l) H'
def choN : List Str := ["_law_history_here", "_law_address", "_law_day", "_law_answer_here"]
theorem scCho : FnScope choN ["_law_history_here", "_law_address", "_law_day"] (defScope sCho) := ⟨rfl, rfl, rfl, by decide +kernel, rfl, by decide +kernel, by decide +kernel⟩
theorem ok_cho (Fd : Fun K "_law_choices" "_law_choices" sCho f fd) (LA : Df P w K mg base 1 "_law_answer" ["_law_rules_here", "_law_address"] (spLA K)) (FC : Df P w K mg base 1 "_law_force" ["_law_history_here", "_law_day"] (spForce K)) (LK : Df P w K mg base 4 "_law_kept" ["_law_history_here", "_law_address", "_law_day"] (spLKept K TL)) :
    FnOk P w K mg base CX0 5 f fd ["_law_history_here", "_law_address", "_law_day"] (spCho K TL) := by
  refine Fd.ok scCho (fun vs H Q E h => ?_) (fun cdv A outer s H vs Q E hr h => ?_)
  · obtain ⟨hl, b, h, ws, day, rfl, _⟩ := h
    rfl
  · obtain ⟨hl, b, h, ws, day, rfl, hT, hA, ok, hb, hw, low, q⟩ := h
    have nd := scCho.nd
    refine ⟨_, pss_cons (ps_set (i := 3) nd rfl (Or.inl rfl) (pe_df LA hr (pa_cons (pe_df FC hr (pa_cons (pv 0) (pa_cons (pv 2) pa_nil))) (pa_cons (pv 1) pa_nil))))
      (pss_one (ps_ret (pe_op op_catN (pe_df LK hr (pa_cons (pv 0) (pa_cons (pv 1) (pa_cons (pv 2) pa_nil)))) (pe_ifExp (pt_cmpR op_eq (pe_ix ix_tup (pv 3) pe_int (fun _ _ => rfl)) pe_str (nomark _)) (pe_lst (pa_cons (pe_ix ix_tup (pv 3) pe_int (fun _ _ => rfl)) pa_nil)) (pe_lst pa_nil))))), ?_⟩
    refine ⟨_, rfl, _, rfl, hl, h, day, rfl, hA, fun G1 fl ys s1 kfl hR => ⟨_, rfl, fl, b, ys, forceL h day, ws, rfl, .of kfl, hR, force_good (fun r hr => (ok.each r hr).g) day, same_T s1 hb, hw, low, fun v G2 s2 dv => ?_⟩⟩
    obtain ⟨c0, s0, ys0, rfl, hc0, hto, hno⟩ := ans_at dv
    have s12 := s1.trans s2
    refine ⟨_, rfl, _, rfl, _, rfl, hl, b, h, ws, day, rfl, hT.ext s12, hA.same s12, ok, same_T s12 hb, hw, low, fun G3 l xs e3 T3 k3 p3 => ?_⟩
    have hc3 := ext_T e3 hc0
    have e03 := (LamX.ExtN.of s12).trans e3
    have lx := Paired.length p3
    have lk := kept_len h ws day
    have few := ok.few
    refine ⟨_, rfl, c0, _, _, _, rfl, rfl, hc3, at0, rfl, _, rfl, ?_⟩
    have fin : ∀ (l2 : Addr) (ys2 : List V) (G4 : Hp), Same G3 G4 → G4 l2 = some (.lst ys2) → ys2.length ≤ 1 → Places K G4 ys2 (nowL h ws day) → rCatN (.ref l) (.ref l2) G4 Q := fun l2 ys2 G4 s4 k4 l4 p4 => by
      refine ⟨l, l2, xs, ys2, rfl, rfl, s4 _ _ k3, k4, Nat.le_trans (show xs.length + ys2.length ≤ 100 by omega) (by decide), fun p hp np => ?_⟩
      have s5 := Same.new (o := .lst (xs ++ ys2)) hp
      refine q _ _ (xs ++ ys2) (e03.trans (LamX.ExtN.of (s4.trans s5))) (T3.ext (s4.trans s5)) upd_same ?_
      exact Paired.append (Paired.mono (fun _ _ ⟨p, e, z⟩ => ⟨p, e, same_T (s4.trans s5) z⟩) p3) (Paired.mono (fun _ _ ⟨p, e, z⟩ => ⟨p, e, same_T s5 z⟩) p4)
    unfold nowL at fin
    cases ho : redir (forceL h day) ws with
    | none =>
      rw [ho] at fin
      rw [show decide (V.str s0 = V.str "to") = false from decide_eq_false fun z => hno ho (V.str.inj z)]
      exact iteF ⟨(show 0 ≤ sizeLine by decide), fun l2 hl2 => fin l2 [] _ (Same.new hl2) upd_same (by decide) .nil⟩
    | some q2 =>
      obtain ⟨tg, n⟩ := q2
      obtain ⟨rfl, pt, rfl, hpt⟩ := hto tg n ho
      rw [ho] at fin
      rw [decide_eq_true rfl]
      exact iteT ⟨_, rfl, c0, _, _, _, rfl, rfl, hc3, at1, (show 1 ≤ sizeLine by decide), fun l2 hl2 => fin l2 [.ref pt] _ (Same.new hl2) upd_same (by simp) (.cons ⟨pt, rfl, same_T (Same.new hl2) (ext_T e3 hpt)⟩ .nil)⟩
/-! ### _law_free_walk -/
def spFW (K : PySem.W.Frag) (TL : List (Addr × Str)) : Sp := fun vs H Q _ => ∃ (wa hl b : Addr) (h : Hist) (ws : List Str) (day : Int), vs = [.ref wa, .ref hl, .ref b, .int day] ∧ Sm H wa ∧ LamX.Tabs TL H ∧ HistAt K H hl h ∧ HistOk h ∧ Beg h day ∧ SqT K H b (ws.map V.str) ∧ AllWd ws ∧ ws.length ≤ 5 ∧
  ∀ H' l xs wk, ExB wa H H' → Sm H' wa → LamX.Tabs TL H' → H l = none → H' l = some (.lst xs) → Places K H' xs (ws :: wk) → WalkOk h day (ws :: wk) → wk.length ≤ 8 → (∀ x ∈ ws :: wk, AllWd x ∧ x.length ≤ 80) → Q (.ref l) H'
def fwN : List Str := ["_law_stream_here", "_law_history_here", "_law_address", "_law_day", "_law_walk", "_law_turn", "_law_some"]
theorem scFW : FnScope fwN ["_law_stream_here", "_law_history_here", "_law_address", "_law_day"] (defScope sFW) := ⟨rfl, rfl, rfl, by decide +kernel, rfl, by decide +kernel, by decide +kernel⟩
theorem ok_fw (Fd : Fun K "_law_free_walk" "_law_free_walk" sFW f fd) (T : Tx mg) (C : Df P w K mg base 2 "_law_choose" ["_law_stream_here", "_law_items"] (spChoose K)) (LK : Df P w K mg base 4 "_law_kept" ["_law_history_here", "_law_address", "_law_day"] (spLKept K TL)) (CH : Df P w K mg base 5 "_law_choices" ["_law_history_here", "_law_address", "_law_day"] (spCho K TL)) :
    FnOk P w K mg base CX0 6 f fd ["_law_stream_here", "_law_history_here", "_law_address", "_law_day"] (spFW K TL) := by
  refine Fd.ok scFW (fun vs H Q E h => ?_) (fun cdv A outer s H vs Q E hr h => ?_)
  · obtain ⟨wa, hl, b, h, ws, day, rfl, _⟩ := h
    rfl
  · obtain ⟨wa, hl, b, h, ws, day, rfl, W, hT, hA, ok, bg, hb, hw, hl5, q⟩ := h
    have nd := scFW.nd
    refine ⟨_, pss_cons (ps_set (i := 4) nd rfl (Or.inl rfl) (pe_lstN (pa_cons (pv 2) pa_nil)))
      (pss_cons (ps_for PassesOwn.never rfl (pi_range1 rfl T.range (pa_cons pe_int pa_nil)) (pg_name (i := 5) nd rfl (Or.inl rfl))
        (pss_cons (ps_set (i := 6) nd rfl (Or.inl rfl) (pe_op op_catN (pe_op op_rep (pe_df LK hr (pa_cons (pv 1) (pa_cons (pe_ix ix_list (pv 4) (pe_un un_neg pe_int) (fun _ _ => rfl)) (pa_cons (pv 3) pa_nil)))) pe_int) (pe_df CH hr (pa_cons (pv 1) (pa_cons (pe_ix ix_list (pv 4) (pe_un un_neg pe_int) (fun _ _ => rfl)) (pa_cons (pv 3) pa_nil))))))
        (pss_cons (ps_if (PW.pt (pw_or (pt_cmpR (op_eqD hr.units) (pv 6) (pe_lst pa_nil) (nomark _)) (pw_or1 (pt_cmpR (op_inD hr.in1.units) (pe_ix ix_list (pv 4) (pe_un un_neg pe_int) (fun _ _ => rfl)) (pe_slice sl_list (pv 4) po_none (po_some (pe_un un_neg pe_int))) (by rfl))))) (pss_one (ps_ret (pv 4))) pss_nil)
        (pss_one (ps_expr (pe_bm PySem.F.plainAttrs_list PySem.F.slot_list_append PySem.F.type_list_append mt_append (pv 4) (pa_cons (pe_df C hr (pa_cons (pv 0) (pa_cons (pv 6) pa_nil))) pa_nil)))))))
      (pss_one (ps_ret (pv 4)))), ?_⟩
    have goodH : ∀ r ∈ h, Good r.2 := bg.g
    have few := ok.few
    refine ⟨_, rfl, (show 1 ≤ sizeLine by decide), fun wl hwl low => ?_⟩
    have y1 := Same.new (o := .lst [V.ref b]) hwl
    have nlH := hwl
    have kl := upd_same (H := H) (a := wl) (o := .lst [V.ref b])
    -- what stands all along
    obtain ⟨G0, e0⟩ : ∃ G0, G0 = offT wa H := ⟨_, rfl⟩
    have A0 : Bare G0 wa := e0 ▸ offT_bare
    have hA0 : HistAt K G0 hl h := e0 ▸ offT_H W hA
    have hb0 : SqT K G0 b (ws.map V.str) := e0 ▸ offT_T W hb
    have sH : Same G0 H := e0 ▸ offT_same
    have nl0 : G0 wl = none := sH.free hwl
    have nwl : wl ≠ wa := fun e => by
      obtain ⟨_, _, z, _⟩ := W
      rw [e, z] at hwl
      cases hwl
    have W2 := W.same y1
    have T2 := hT.ext y1
    have s02 := sH.trans y1
    clear hwl
    generalize upd H wl (.lst [V.ref b]) = G2 at y1 kl W2 T2 s02 ⊢
    refine ⟨8, rfl, by decide, by decide, for_range (lo := 0) (n := 8) (fun i σ G => Same G0 G ∧ ExB wa H G ∧ Sm G wa ∧ LamX.Tabs TL G ∧ ∃ v5 v6 pre cur xs, σ = [some (.ref wa), some (.ref hl), some (.ref b), some (.int day), some (.ref wl), v5, v6] ∧ G wl = some (.lst xs) ∧ Places K G xs (pre ++ [cur]) ∧ (pre ++ [cur]).head? = some ws ∧ WalkOk h day (pre ++ [cur]) ∧ pre.length ≤ i ∧ ∀ x ∈ pre ++ [cur], AllWd x ∧ x.length ≤ 5 + 4 * i)
      ⟨s02, .of y1, W2, T2, none, none, [], ws, [.ref b], rfl, kl, .cons ⟨b, rfl, same_T s02 hb0⟩ .nil, rfl, ⟨(fun e => by cases e), List.nodup_nil, fun p hp => by cases hp⟩, Nat.le_refl _, fun x hx => by rw [List.mem_singleton.mp hx]; exact ⟨hw, by omega⟩⟩ ?_ ?_⟩
    · rintro i σ G hi ⟨sG, eG, WG, TG, v5, v6, pre, cur, xs, rfl, kl, hx, hhd, wok, hpre, far⟩
      have lx := Paired.length hx
      rw [List.length_append] at lx
      have lx : xs.length = pre.length + 1 := lx
      obtain ⟨ys, z, rfl⟩ : ∃ ys z, xs = ys ++ [z] := ⟨xs.dropLast, xs.getLast (fun e => by rw [e] at lx; simp at lx), (List.dropLast_concat_getLast _).symm⟩
      have lys : ys.length = pre.length := by simpa using lx
      obtain ⟨y', ey, pc, rfl, hpc⟩ := pair_getF hx (i := ys.length) (x := z) (by rw [List.getElem?_append_right (Nat.le_refl _), Nat.sub_self]; rfl)
      rw [lys, List.getElem?_append_right (Nat.le_refl _), Nat.sub_self] at ey
      obtain rfl : cur = y' := Option.some.inj ey
      have al : atI (ys ++ [V.ref pc]) (-1) = some (V.ref pc) := at_last (by simp) (by rw [List.length_append, List.length_singleton, Nat.add_sub_cancel, List.getElem?_append_right (Nat.le_refl _), Nat.sub_self]; rfl)
      obtain ⟨cw, cl⟩ := far cur (by simp)
      have done : ∀ G' : Hp, Same G0 G' → ExB wa H G' → Sm G' wa → LamX.Tabs TL G' → G' wl = some (.lst (ys ++ [V.ref pc])) → Places K G' (ys ++ [V.ref pc]) (pre ++ [cur]) → Q (.ref wl) G' := fun G' s' e' W' T' k' p' => by
        obtain ⟨wk, ew⟩ : ∃ wk, pre ++ [cur] = ws :: wk := by
          cases pre with
          | nil => exact ⟨[], by rw [show cur = ws from Option.some.inj hhd]; rfl⟩
          | cons a l => exact ⟨l ++ [cur], by rw [show a = ws from Option.some.inj hhd]; rfl⟩
        have lw := congrArg List.length ew
        simp only [List.length_append, List.length_cons, List.length_nil] at lw
        rw [ew] at p' wok far
        exact q _ _ _ wk e' W' T' nlH k' p' wok (by omega) fun x hx => ⟨(far x hx).1, by have := (far x hx).2; omega⟩
      refine ⟨_, rfl, _, rfl, 1, rfl, wl, _, _, _, rfl, rfl, .of kl, al, _, rfl, hl, pc, h, cur, day, rfl, TG, hA0.same sG, ok, hpc, by omega, cw.low, fun Ga la kxs ea Ta ka pka => ?_⟩
      have lka := Paired.length pka
      have lk := kept_len h cur day
      refine ⟨la, 2, kxs, rfl, rfl, ka, by decide, by decide, Nat.le_trans (show kxs.length * 2 ≤ 100 by omega) (by decide), fun p hp => ?_⟩
      rw [show (List.replicate (2 : Int).toNat kxs).flatten = kxs ++ kxs from by show kxs ++ (kxs ++ []) = _; rw [List.append_nil]]
      have yb := Same.new (o := .lst (kxs ++ kxs)) hp
      have kb := upd_same (H := Ga) (a := p) (o := .lst (kxs ++ kxs))
      have eb := ea.trans (LamX.ExtN.of yb)
      have Tb := Ta.ext yb
      have pkb : Places K (upd Ga p (.lst (kxs ++ kxs))) kxs (keptS h cur day) := Paired.mono (fun _ _ ⟨p, e, z⟩ => ⟨p, e, same_T yb z⟩) pka
      generalize upd Ga p (.lst (kxs ++ kxs)) = Gb at yb kb eb Tb pkb ⊢
      have sb := A0.same sG (.ext eb)
      refine ⟨_, rfl, _, rfl, 1, rfl, wl, _, _, _, rfl, rfl, .of (eb _ _ kl (fun _ e => nomatch e)), al, _, rfl, hl, pc, h, cur, day, rfl, Tb, hA0.same sb, ok, ext_T eb hpc, by omega, cw.low, fun Gc lc cxs ec Tc kc pkc => ?_⟩
      have lkc := Paired.length pkc
      rw [List.length_append] at lkc
      have ln := now_len h cur day
      refine ⟨p, lc, kxs ++ kxs, cxs, rfl, rfl, ec _ _ kb (fun _ e => nomatch e), kc, Nat.le_trans (show (kxs ++ kxs).length + cxs.length ≤ 100 by rw [List.length_append]; omega) (by decide), fun r hr nr => ?_⟩
      have yd := Same.new (o := .lst ((kxs ++ kxs) ++ cxs)) hr
      have kr := upd_same (H := Gc) (a := r) (o := .lst ((kxs ++ kxs) ++ cxs))
      have ed := (eb.trans ec).trans (LamX.ExtN.of yd)
      have Td := Tc.ext yd
      have pz : Places K (upd Gc r (.lst ((kxs ++ kxs) ++ cxs))) ((kxs ++ kxs) ++ cxs) (someL h cur day) := Paired.append (Paired.append (Paired.mono (fun _ _ ⟨p, e, z⟩ => ⟨p, e, same_T yd (ext_T ec z)⟩) pkb) (Paired.mono (fun _ _ ⟨p, e, z⟩ => ⟨p, e, same_T yd (ext_T ec z)⟩) pkb)) (Paired.mono (fun _ _ ⟨p, e, z⟩ => ⟨p, e, same_T yd z⟩) pkc)
      have lz : ((kxs ++ kxs) ++ cxs).length ≤ 100 := by rw [List.length_append, List.length_append]; omega
      generalize upd Gc r (.lst ((kxs ++ kxs) ++ cxs)) = Gd at yd kr ed Td pz ⊢
      generalize (kxs ++ kxs) ++ cxs = zs at kr pz lz
      have sd := A0.same sG (.ext ed)
      have good := some_ok bg cw
      generalize hsl : someL h cur day = sl at pz good
      have slow : ∀ x ∈ sl, LowW x := fun x hx => (good x hx).1.low
      refine ⟨_, rfl, (show 0 ≤ sizeLine by decide), fun d hd => ?_⟩
      have ye := Same.new (o := .lst []) hd
      have kd := upd_same (H := Gd) (a := d) (o := .lst [])
      have ee := ed.trans (LamX.ExtN.of ye)
      have Te := Td.ext ye
      have kre := ye _ _ kr
      have pze : Places K (upd Gd d (.lst [])) zs sl := Paired.mono (fun _ _ ⟨p, e, z⟩ => ⟨p, e, same_T ye z⟩) pz
      generalize upd Gd d (.lst []) = Ge at ye kd ee Te kre pze ⊢
      have se := A0.same sG (.ext ee)
      have kle := ee _ _ kl (fun _ e => nomatch e)
      have We := smExt WG ee
      have hxe : Places K Ge (ys ++ [V.ref pc]) (pre ++ [cur]) := Paired.mono (fun _ _ ⟨p, e, z⟩ => ⟨p, e, ext_T ee z⟩) hx
      have exe : ExB wa H Ge := eG.trans (.ext ee)
      refine ⟨.list (sl.map wt), .list [], places_list kre pze, .lst (.of kd) .nil, shaped_pls slow, (by decide +kernel), _, rfl, ?_⟩
      rw [eqv_pls0]
      cases hem : sl with
      | nil => exact iteT ⟨_, rfl, done Ge se exe We Te kle hxe⟩
      | cons s1 sl' =>
        rw [← hem]
        have ne : zs ≠ [] := fun e => by
          rw [e, hem] at pze
          cases pze
        have lowx : ∀ x ∈ pre, LowW x := fun x hx => (far x (List.mem_append_left _ hx)).1.low
        rw [show sl.isEmpty = false by rw [hem]; rfl]
        refine iteF ⟨_, rfl, 1, rfl, wl, _, _, _, rfl, rfl, .of kle, al, _, rfl, 1, rfl, _, rfl, wl, _, rfl, .of kle, fun p2 hp2 => ?_⟩
        rw [cut_lastV]
        have yf := Same.new (o := .lst ys) hp2
        have kf := upd_same (H := Ge) (a := p2) (o := .lst ys)
        have ef := ee.trans (LamX.ExtN.of yf)
        have Tf := Te.ext yf
        have krf := yf _ _ kre
        have pzf : Places K (upd Ge p2 (.lst ys)) zs sl := Paired.mono (fun _ _ ⟨p, e, z⟩ => ⟨p, e, same_T yf z⟩) pze
        generalize upd Ge p2 (.lst ys) = Gf at yf kf ef Tf krf pzf ⊢
        have sf := A0.same sG (.ext ef)
        have klf := ef _ _ kl (fun _ e => nomatch e)
        have Wf := smExt WG ef
        have hxf : Places K Gf (ys ++ [V.ref pc]) (pre ++ [cur]) := Paired.mono (fun _ _ ⟨p, e, z⟩ => ⟨p, e, ext_T ef z⟩) hx
        have exf : ExB wa H Gf := eG.trans (.ext ef)
        refine ⟨wt cur, pre.map wt, dp_wt (ext_T ef hpc), places_list kf (pair_init lys hxf), shaped_wt cw.low, shaped_pls lowx, _, rfl, ?_⟩
        rw [any_wt]
        by_cases c : cur ∈ pre
        · rw [decide_eq_true c]
          exact iteT ⟨_, rfl, done Gf sf exf Wf Tf klf hxf⟩
        · rw [decide_eq_false c]
          refine iteF ⟨_, rfl, Or.inl ⟨rfl, _, Or.inl (Or.inl klf)⟩, _, rfl, _, rfl, wa, r, zs, rfl, Wf, .of krf, notSm_refs (places_refs pzf), ne, by omega, fun v Gg hv Wg sg => ?_⟩
          obtain ⟨pn, wn, rfl, hwn, hpn⟩ := places_mem pzf hv
          obtain ⟨nw, nl, nch⟩ := good wn hwn
          have klg := sg _ _ nwl klf
          refine ⟨wl, ys ++ [V.ref pc], .ref pn, rfl, rfl, klg, Nat.lt_of_le_of_lt (show (ys ++ [V.ref pc]).length ≤ 10 by omega) (by decide), ?_⟩
          have off : ∀ c o, c ≠ wl → Gg c = some o → (upd Gg wl (.lst ((ys ++ [V.ref pc]) ++ [.ref pn]))) c = some o := fun c o n e => (upd_ne n).trans e
          have hT2 : ∀ a xs, SqT K Gf a xs → SqT K (upd Gg wl (.lst ((ys ++ [V.ref pc]) ++ [.ref pn]))) a xs := fun a xs z => sqT_off klg off (smT Wf sg z)
          have sg0 := A0.same sf (.sb sg)
          have exg : ExB wa H Gg := exf.trans (.sb sg)
          refine ⟨fun c o e => off c o (ne_of_none e nl0) (sg0 c o e), fun c o n e m => off c o (ne_of_none e nlH) (exg c o n e m), Wg.off nwl.symm off, tabs_off klg off (tabs_sb Wf sg Tf), _, _, pre ++ [cur], wn, _, rfl, upd_same, ?_, ?_, ?_, ?_, ?_⟩
          · exact Paired.snoc (Paired.mono (fun _ _ ⟨p, e, z⟩ => ⟨p, e, hT2 _ _ z⟩) hxf) ⟨pn, rfl, hT2 _ _ hpn⟩
          · rw [← hhd]
            cases pre <;> rfl
          · refine ⟨fun e => by simp at e, ?_, fun p hp => ?_⟩
            · rw [List.dropLast_concat]
              have := wok.one
              rw [List.dropLast_concat] at this
              rw [List.nodup_append]
              exact ⟨this, by simp, fun a ha b hb e => c (by rw [List.mem_singleton.mp hb] at e; exact e ▸ ha)⟩
            · rw [prs_snoc] at hp
              rcases List.mem_append.mp hp with hp | hp
              · exact wok.ch p hp
              · rw [List.mem_singleton.mp hp]
                exact nch
          · rw [List.length_append, List.length_singleton]
            omega
          · intro x hx
            rcases List.mem_append.mp hx with hx | hx
            · exact ⟨(far x hx).1, by have := (far x hx).2; omega⟩
            · rw [List.mem_singleton.mp hx]
              exact ⟨nw, by omega⟩
    · rintro σ G ⟨sG, eG, WG, TG, v5, v6, pre, cur, xs, rfl, kl, hx, hhd, wok, hpre, far⟩
      obtain ⟨wk, ew⟩ : ∃ wk, pre ++ [cur] = ws :: wk := by
        cases pre with
        | nil => exact ⟨[], by rw [show cur = ws from Option.some.inj hhd]; rfl⟩
        | cons a l => exact ⟨l ++ [cur], by rw [show a = ws from Option.some.inj hhd]; rfl⟩
      have lw := congrArg List.length ew
      simp only [List.length_append, List.length_cons, List.length_nil] at lw
      rw [ew] at hx wok far
      exact ⟨_, rfl, q _ _ _ wk eG WG TG nlH kl hx wok (by omega) fun x hx => ⟨(far x hx).1, by have := (far x hx).2; omega⟩⟩
end
end K49
namespace K49
open PySem L2 Ld PyProof.Rows
abbrev sLate : Stmt := top 50
abbrev sDue : Stmt := top 51
theorem list_bare (ws : List Str) : bareB (wt ws) = true := by
  simp [wt, bareB, bare_ws]
/-- the last part of an answer, and whether the answer is a redirect to a target -/
theorem ans_last {rs : List Rl} (g : ∀ r ∈ rs, r.Ok) {ws tg : List Str} (hw : LowW ws) (ht : LowW tg) : ∃ ds dl, answerOf rs ws = .tuple ds ∧ ds.getLast? = some dl ∧ SeqAt.shaped (.tuple [.str "to", wt tg, dl]) = true ∧
    PyData.eqv (.tuple ds) (.tuple [.str "to", wt tg, dl]) = decide ((redir rs ws).map (·.1) = some tg) ∧ ∀ t n, redir rs ws = some (t, n) → dl = .int n := by
  have sto : PyData.strOk "to" = true := ok_str asc_to
  have dtg := depth_words tg
  have sh : ∀ dl : PyData, dl.canLay0 = true → dl.depth ≤ 3 → SeqAt.shaped (.tuple [.str "to", wt tg, dl]) = true := fun dl h1 h2 => by
    unfold SeqAt.shaped
    have hd : (PyData.tuple [.str "to", wt tg, dl]).depth ≤ 64 := by
      simp only [wt, PyData.depth, PyData.depthAll, dtg]
      omega
    rw [decide_eq_true hd]
    simp [PyData.canLay0, PyData.canLayAll0, lay_low ht, h1, sto]
  have str : ∀ z : Str, PyData.strOk z = true → SeqAt.shaped (.tuple [.str "to", wt tg, .str z]) = true := fun z hz => sh _ (by simp [PyData.canLay0, hz]) (by simp [PyData.depth])
  unfold answerOf redir
  cases e : ruleFor rs ws with
  | none => exact ⟨_, _, rfl, rfl, str _ (ok_str (by decide +kernel)), (by simp [PyData.eqv, PyData.eqvAll]), (fun _ _ e => by cases e)⟩
  | some r =>
    have ok := (g r (for_mem e)).an
    obtain ⟨b, pl, an⟩ := r
    have stn : (Str.ofString "to") ≠ (Str.ofString "gone") := by decide +kernel
    have sts : (Str.ofString "section") ≠ (Str.ofString "to") := by decide +kernel
    cases b with
    | true =>
      cases an with
      | gone => exact ⟨_, _, rfl, rfl, str _ (ok_str asc_gone), (by simp [PyData.eqv, PyData.eqvAll, redirR]), (fun _ _ e => by cases e)⟩
      | own z => exact ⟨_, _, rfl, rfl, str _ (ok_str (Wd.asc ok)), (by simp [PyData.eqv, PyData.eqvAll, redirR]), (fun _ _ e => by cases e)⟩
      | to t n =>
        refine ⟨_, .int n, rfl, rfl, sh _ (by simp [PyData.canLay0]) (by simp [PyData.depth]), ?_, fun t' n' e => ?_⟩
        · simp [PyData.eqv, PyData.eqvAll, redirR, eqv_wt]
        · have := (Prod.mk.inj (Option.some.inj e)).2
          rw [show n = n' from this]
    | false =>
      cases an with
      | gone => exact ⟨_, _, rfl, rfl, str _ (ok_str asc_gone), (by simp [PyData.eqv, PyData.eqvAll, redirR]), (fun _ _ e => by cases e)⟩
      | own z =>
        refine ⟨_, wt (ws.drop pl.length), rfl, rfl, sh _ (lay_low fun y hy => hw y (List.mem_of_mem_drop hy)) (by simp only [wt, PyData.depth, depth_words]; omega), ?_, (fun _ _ e => by cases e)⟩
        simp [PyData.eqv, PyData.eqvAll, redirR, sts]
      | to t n =>
        refine ⟨_, .int n, rfl, rfl, sh _ (by simp [PyData.canLay0]) (by simp [PyData.depth]), ?_, fun t' n' e => ?_⟩
        · simp [PyData.eqv, PyData.eqvAll, redirR, eqv_wt, -List.map_append, -List.map_drop]
        · have := (Prod.mk.inj (Option.some.inj e)).2
          rw [show n = n' from this]
theorem dp_lastN {K : PySem.W.Frag} {H : Hp} {dl : PyData} : ∀ {vs : List V} {ds : List PyData}, DpAll K H vs ds → ds.getLast? = some dl → 0 < vs.length ∧ ∃ v, vs[vs.length - 1]? = some v ∧ Dp K H v dl
  | _, _, .nil, e => by cases e
  | [v], [d], .cons a .nil, e => by
    cases e
    exact ⟨by simp, v, rfl, a⟩
  | v :: v2 :: vs, d :: d2 :: ds, .cons a (.cons p q), e => by
    rw [List.getLast?_cons_cons] at e
    obtain ⟨l, x, h1, h2⟩ := dp_lastN (.cons p q) e
    refine ⟨by simp, x, ?_, h2⟩
    rw [List.length_cons, Nat.add_sub_cancel]
    rw [List.getElem?_cons, if_neg (by simp)]
    exact h1
theorem dp_last {K : PySem.W.Frag} {H : Hp} {vs : List V} {ds : List PyData} {dl : PyData} (z : DpAll K H vs ds) (e : ds.getLast? = some dl) : ∃ v, atI vs (-1) = some v ∧ Dp K H v dl := by
  obtain ⟨l, v, h1, h2⟩ := dp_lastN z e
  exact ⟨v, at_last l h1, h2⟩
def optV : Option Int → V
  | none => .non
  | some d => .int d
theorem kL_bare (v : Vis) : bareB (kL v) = true := by
  simp [kL, bareB, bareAll, list_bare]
theorem kL_deep (v : Vis) : (kL v).depth ≤ 8 := by
  have h := depth_words v.2
  simp only [kL, wt, PyData.depth, PyData.depthAll, h]
  omega
section
variable {P : Program} {w : World} {K : PySem.W.Frag} {mg : Str → Option Value} {base : Heap} {f : Addr} {fd : FuncData} {c Pt : Addr} {TL : List (Addr × Str)}
/-! ### _law_latest -/
def spLate (K : PySem.W.Frag) : Sp := fun vs H Q _ => ∃ (hl a b : Addr) (h : Hist) (ws tg : List Str) (day : Int), vs = [.ref hl, .ref a, .ref b, .int day] ∧ HistAt K H hl h ∧ (∀ r ∈ h, Good r.2) ∧ SqT K H a (ws.map V.str) ∧ ws.length ≤ 900 ∧ LowW ws ∧ SqT K H b (tg.map V.str) ∧ LowW tg ∧ 0 ≤ day ∧ day ≤ 100000 ∧
  ∀ H', Same H H' → Q (optV (lateW (forceL h) ws tg day (day + 1).toNat)) H'
def lateN : List Str := ["_law_history_here", "_law_address", "_law_target", "_law_day", "_law_found", "_law_when", "_law_answer_here"]
theorem scLate : FnScope lateN ["_law_history_here", "_law_address", "_law_target", "_law_day"] (defScope sLate) := ⟨rfl, rfl, rfl, by decide +kernel, rfl, by decide +kernel, by decide +kernel⟩
theorem ok_late (Fd : Fun K "_law_latest" "_law_latest" sLate f fd) (T : Tx mg) (LA : Df P w K mg base 1 "_law_answer" ["_law_rules_here", "_law_address"] (spLA K)) (FC : Df P w K mg base 1 "_law_force" ["_law_history_here", "_law_day"] (spForce K)) :
    FnOk P w K mg base CX0 2 f fd ["_law_history_here", "_law_address", "_law_target", "_law_day"] (spLate K) := by
  refine Fd.ok scLate (fun vs H Q E h => ?_) (fun cdv A outer s H vs Q E hr h => ?_)
  · obtain ⟨hl, a, b, h, ws, tg, day, rfl, _⟩ := h
    rfl
  · obtain ⟨hl, a, b, h, ws, tg, day, rfl, hH, good, ha, hw, low, hb, lowt, d0, d1, q⟩ := h
    have nd := scLate.nd
    refine ⟨_, pss_cons (ps_set (i := 4) nd rfl (Or.inl rfl) pe_non)
      (pss_cons (ps_for PassesOwn.never rfl (pi_range1 rfl T.range (pa_cons (pe_op op_add (pv 3) pe_int) pa_nil)) (pg_name (i := 5) nd rfl (Or.inl rfl))
        (pss_cons (ps_set (i := 6) nd rfl (Or.inl rfl) (pe_df LA hr (pa_cons (pe_df FC hr (pa_cons (pv 0) (pa_cons (pv 5) pa_nil))) (pa_cons (pv 1) pa_nil))))
        (pss_one (ps_if (PW.pt (pw_and (pt_cmpR (op_eqD hr.units) (pv 6) (pe_tup (pa_cons pe_str (pa_cons (pv 2) (pa_cons (pe_ix ix_tup (pv 6) (pe_un un_neg pe_int) (fun _ _ => rfl)) pa_nil)))) (nomark _))
          (pw_and (pt_cmpR op_gt (pe_ix ix_tup (pv 6) (pe_un un_neg pe_int) (fun _ _ => rfl)) pe_int (nomark _)) (pw_and1 (pt_cmpR op_ge (pe_op op_add (pv 5) (pe_ix ix_tup (pv 6) (pe_un un_neg pe_int) (fun _ _ => rfl))) (pv 3) (nomark _))))))
          (pss_one (ps_set (i := 4) nd rfl (Or.inl rfl) (pv 5))) pss_nil))))
      (pss_one (ps_ret (pv 4)))), ?_⟩
    refine ⟨_, rfl, _, _, rfl, rfl, day + 1, rfl, by omega, by omega, for_range (lo := 0) (n := (day + 1).toNat) (fun i σ G => Same H G ∧ ∃ v5 v6, σ = [some (.ref hl), some (.ref a), some (.ref b), some (.int day), some (optV (lateW (forceL h) ws tg day i)), v5, v6])
      ⟨Same.refl H, none, none, rfl⟩ ?_ ?_⟩
    · rintro i σ G hi ⟨sG, v5, v6, rfl⟩
      refine ⟨_, rfl, _, rfl, hl, h, (0 : Int) + (i : Nat), rfl, hH.same sG, fun Ga fl ys sa kfl hR => ⟨_, rfl, fl, a, ys, forceL h (0 + (i : Nat)), ws, rfl, .of kfl, hR, force_good good _, same_T (sG.trans sa) ha, hw, low, fun v Gb sb dv => ?_⟩⟩
      rw [Int.zero_add] at dv ⊢
      have sB := sG.trans (sa.trans sb)
      obtain ⟨ds, dl, e1, e2, e3, e4, e5⟩ := ans_last (rs := forceL h (i : Nat)) (force_good good _).ok low lowt
      have dv2 := dv
      rw [e1] at dv2
      obtain ⟨cc, vs, rfl, hc, hds⟩ : ∃ cc vs, v = .ref cc ∧ SqT K Gb cc vs ∧ DpAll K Gb vs ds := by
        cases dv2 with
        | tup h1 h2 => exact ⟨_, _, rfl, h1, h2⟩
      obtain ⟨vl, hvl, dvl⟩ := dp_last hds e2
      have hb2 := same_T sB hb
      refine ⟨_, rfl, _, rfl, _, rfl, 1, rfl, cc, vs, _, _, rfl, rfl, hc, hvl, (show 3 ≤ sizeLine by decide), fun t ht => ?_⟩
      have y1 := Same.new (o := .tup [V.str "to", .ref b, vl]) ht
      have kt : SqT K (upd Gb t (.tup [V.str "to", .ref b, vl])) t [V.str "to", .ref b, vl] := .of upd_same
      have shl : SeqAt.shaped (.tuple ds) = true := by
        rw [← e1]
        exact shaped_ansL (force_good good _).ok low
      refine ⟨.tuple ds, .tuple [.str "to", wt tg, dl], dp_same y1 dv2, .tup kt (.cons (.str _) (.cons (dp_wt (same_T y1 hb2)) (.cons (dp_same y1 dvl) .nil))), shl, e3, _, rfl, ?_⟩
      have hc2 := same_T y1 hc
      have s3 := sB.trans y1
      clear kt
      generalize upd Gb t (.tup [V.str "to", .ref b, vl]) = G3 at y1 hc2 s3 ⊢
      rw [e4]
      have skip : okW (forceL h (i : Nat)) ws tg day (i : Nat) = false → lateW (forceL h) ws tg day (i + 1) = lateW (forceL h) ws tg day i := fun e => if_neg (by rw [e]; decide)
      cases ho : redir (forceL h (i : Nat)) ws with
      | none =>
        refine iteF (iteF ⟨s3, some (.int (i : Nat)), some (.ref cc), ?_⟩)
        rw [skip (by unfold okW; rw [ho])]
        rfl
      | some q2 =>
        obtain ⟨t2, n⟩ := q2
        obtain rfl : dl = .int n := e5 _ _ ho
        obtain rfl : vl = .int n := by cases dvl; rfl
        have eo : okW (forceL h (i : Nat)) ws tg day (i : Nat) = (decide (t2 = tg) && (decide (0 < n) && decide (day ≤ (i : Nat) + n))) := by
          unfold okW
          rw [ho]
        by_cases c1 : t2 = tg
        case neg =>
          rw [show decide ((some (t2, n) : Option (List Str × Int)).map (·.1) = some tg) = false from decide_eq_false fun z => c1 (Option.some.inj z)]
          rw [decide_eq_false c1, Bool.false_and] at eo
          refine iteF (iteF ⟨s3, some (.int (i : Nat)), some (.ref cc), ?_⟩)
          rw [skip eo]
          rfl
        rw [show decide ((some (t2, n) : Option (List Str × Int)).map (·.1) = some tg) = true from decide_eq_true (congrArg some c1)]
        rw [decide_eq_true c1, Bool.true_and] at eo
        refine iteT ⟨_, rfl, 1, rfl, cc, vs, _, _, rfl, rfl, hc2, hvl, _, _, rfl, rfl, _, rfl, ?_⟩
        by_cases c2 : 0 < n
        case neg =>
          rw [decide_eq_false (show ¬ n > 0 from c2)]
          rw [decide_eq_false c2, Bool.false_and] at eo
          refine iteF (iteF ⟨s3, some (.int (i : Nat)), some (.ref cc), ?_⟩)
          rw [skip eo]
          rfl
        rw [decide_eq_true (show n > 0 from c2)]
        rw [decide_eq_true c2, Bool.true_and] at eo
        refine iteT ⟨_, rfl, _, rfl, 1, rfl, cc, vs, _, _, rfl, rfl, hc2, hvl, _, _, rfl, rfl, _, rfl, _, _, rfl, rfl, _, rfl, ?_⟩
        by_cases c3 : day ≤ (i : Nat) + n
        case neg =>
          rw [decide_eq_false c3]
          rw [decide_eq_false c3] at eo
          refine iteF ⟨s3, some (.int (i : Nat)), some (.ref cc), ?_⟩
          rw [skip eo]
          rfl
        rw [decide_eq_true c3]
        rw [decide_eq_true c3] at eo
        refine iteT ⟨_, rfl, s3, some (.int (i : Nat)), some (.ref cc), ?_⟩
        have : lateW (forceL h) ws tg day (i + 1) = some ((i : Nat) : Int) := if_pos eo
        rw [this]
        rfl
    · rintro σ G ⟨sG, v5, v6, rfl⟩
      exact ⟨_, rfl, q _ sG⟩
/-! ### _law_due -/
/-- the rules in force: rows of the history, or a new list -/
def spForceF (K : PySem.W.Frag) : Sp := fun vs H Q _ => ∃ (hl : Addr) (h : Hist) (day : Int) (H0 : Hp), vs = [.ref hl, .int day] ∧ HistAt K H0 hl h ∧ Same H0 H ∧ ∀ H' l ys, Same H H' → (H0 l = some (.lst ys) ∨ H l = none) → H' l = some (.lst ys) → Rules K H' ys (forceL h day) → Q (.ref l) H'
theorem ok_forceF (Fd : Fun K "_law_force" "_law_force" sForce f fd) : FnOk P w K mg base CX0 1 f fd ["_law_history_here", "_law_day"] (spForceF K) := by
  refine Fd.ok scForce (fun vs H Q E h => ?_) (fun cdv A outer s H vs Q E hr h => ?_)
  · obtain ⟨hl, h, day, H0, rfl, _⟩ := h
    rfl
  · obtain ⟨hl, h, day, H0, rfl, hA, s0, q⟩ := h
    have nd := scForce.nd
    refine ⟨_, pss_cons (ps_set (i := 2) nd rfl (Or.inl rfl) (pe_lst pa_nil))
      (pss_cons (ps_for PassesOwn.never rfl (pi_list (pv 0)) (pg_tup rfl (pgs_cons (pg_name (i := 3) nd rfl (Or.inl rfl)) (pgs_cons (pg_name (i := 4) nd rfl (Or.inl rfl)) pgs_nil)))
        (pss_one (ps_set (i := 2) nd rfl (Or.inl rfl) (pe_ifExp (pt_cmpR op_le (pv 3) (pv 1) (nomark _)) (pv 4) (pv 2)))))
      (pss_one (ps_ret (pv 2)))), ?_⟩
    obtain ⟨xs, hx, hp⟩ := hA
    have lx := Paired.length hp
    refine ⟨(show 0 ≤ sizeLine by decide), fun F hF => ?_⟩
    have s1 := Same.new (o := .lst []) hF
    have s01 := s0.trans s1
    have kF := upd_same (H := H) (a := F) (o := .lst [])
    generalize upd H F (.lst []) = G1 at s1 kF s01 ⊢
    refine ⟨_, rfl, hl, rfl, ⟨_, .of (s01 _ _ hx)⟩, for_list (K := K) (a := hl) (xs := xs) (fun i σ G => G = G1 ∧ ∃ l ys v3 v4, σ = [some (.ref hl), some (.int day), some (.ref l), v3, v4] ∧ G l = some (.lst ys) ∧ Rules K G ys (forceL (h.take i) day) ∧ (H0 l = some (.lst ys) ∨ H l = none))
      ⟨rfl, F, [], none, none, rfl, kF, .nil, .inr hF⟩ (fun i σ G _ z => by rw [z.1]; exact .of (s01 _ _ hx)) ?_ ?_⟩
    · rintro i y σ G hy ⟨rfl, l0, ys0, v3, v4, rfl, kl, hR0, fr0⟩
      obtain ⟨r, er, p, l, ys, rfl, hp2, nlD, hl2, hR⟩ := pair_get hp hy
      have tk : h.take (i + 1) = h.take i ++ [r] := by rw [List.take_add_one, er]; rfl
      refine ⟨p, _, rfl, same_T s01 hp2, rfl, _, _, rfl, _, _, rfl, rfl, _, rfl, _, rfl, _, _, rfl, rfl, _, rfl, ?_⟩
      by_cases c : r.1 ≤ day
      · rw [decide_eq_true c]
        refine iteT ⟨_, rfl, rfl, l, ys, _, _, rfl, s01 _ _ hl2, ?_, .inl hl2⟩
        rw [tk, force_snoc, if_pos c]
        exact hR.same s01
      · rw [decide_eq_false c]
        refine iteF ⟨_, rfl, rfl, l0, ys0, _, _, rfl, kl, ?_, fr0⟩
        rw [tk, force_snoc, if_neg c]
        exact hR0
    · rintro σ G ⟨rfl, l0, ys0, v3, v4, rfl, kl, hR0, fr0⟩
      rw [List.take_of_length_le (by omega)] at hR0
      exact ⟨_, rfl, q _ l0 ys0 s1 fr0 kl hR0⟩
def lamD : Str := (envOfC "_law_due" (defScope sDue) 0 0 .none).qual ++ "<lambda>"
def spDue (K : PySem.W.Frag) (TL : List (Addr × Str)) : Sp := fun vs H Q _ => ∃ (hl l : Addr) (h : Hist) (day : Int) (xs : List V) (wk : List (List Str)), vs = [.ref hl, .ref l, .int day] ∧ LamX.Tabs TL H ∧ HistAt K H hl h ∧ Beg h day ∧ 0 ≤ day ∧ day ≤ 100000 ∧ H l = some (.lst xs) ∧ Places K H xs wk ∧ WalkOk h day wk ∧ wk.length ≤ 100 ∧ (∀ x ∈ wk, AllWd x ∧ x.length ≤ 900) ∧
  ∀ H' q ys, LamX.ExtN H H' → LamX.Tabs TL H' → H' q = some (.lst ys) → Paired (VisR K H') ys (sortV (dueL h day (prs wk))) → Q (.ref q) H'
/-- whether an answer does not lead to the next address -/
def tDueT (K : PySem.W.Frag) : TT := fun σ H Q => ∃ (v : V) (b : Addr) (o : Option (List Str × Int)) (tg : List Str), σ[7]? = some (some v) ∧ σ[6]? = some (some (.ref b)) ∧ AnsIs K H v o ∧ (∀ t n, o = some (t, n) → LowW t) ∧ SqT K H b (tg.map V.str) ∧ LowW tg ∧ Q (!decide (o.map (·.1) = some tg)) H
def dueN : List Str := ["_law_history_here", "_law_walk", "_law_day", "_law_found", "_law_rules_here", "_law_one", "_law_two", "_law_answer_here"]
theorem scDue : FnScope dueN ["_law_history_here", "_law_walk", "_law_day"] (defScope sDue) := ⟨rfl, rfl, rfl, by decide +kernel, rfl, by decide +kernel, by decide +kernel⟩
theorem ok_due (Fd : Fun K "_law_due" "_law_due" sDue f fd) (hc : fd.code = .ref c) (T : Tx mg) (Y : Ty mg) (zip : mg "zip" = none) (TB : LamX.TabB base mg c Pt) (hmT : (Pt, lamD) ∈ TL) (huT : ∀ p ∈ TL, p.1 = Pt → p.2 = lamD)
    (LA : Df P w K mg base 1 "_law_answer" ["_law_rules_here", "_law_address"] (spLA K)) (FC : Df P w K mg base 1 "_law_force" ["_law_history_here", "_law_day"] (spForceF K)) (LL : Df P w K mg base 2 "_law_latest" ["_law_history_here", "_law_address", "_law_target", "_law_day"] (spLate K)) :
    FnOk P w K mg base CX0 4 f fd ["_law_history_here", "_law_walk", "_law_day"] (spDue K TL) := by
  refine fun_okC Fd hc scDue (fun vs H Q E h => ?_) (fun A outer s H vs Q E hr h => ?_)
  · obtain ⟨hl, l, h, day, xs, wk, rfl, _⟩ := h
    rfl
  · obtain ⟨hl, l, h, day, xs, wk, rfl, hT, hH, bg, d0, d1, hL, hp, wok, fw, far, q⟩ := h
    have nd := scDue.nd
    refine ⟨_, pss_cons (ps_par (i := 3) (j := 4) (by rfl) nd rfl rfl (by decide) rfl rfl (pa_cons (pe_lst pa_nil) (pa_cons (pe_df FC hr (pa_cons (pv 0) (pa_cons (pv 2) pa_nil))) pa_nil)) (by rfl))
      (pss_cons (ps_for PassesOwn.never rfl (pi_zipF (K := K) rfl zip (pa_cons (pv 1) (pa_cons (pe_slice sl_list (pv 1) (po_some pe_int) po_none) pa_nil))) (pg_tup rfl (pgs_cons (pg_name (i := 5) nd rfl (Or.inl rfl)) (pgs_cons (pg_name (i := 6) nd rfl (Or.inl rfl)) pgs_nil)))
        (pss_cons (ps_set (i := 7) nd rfl (Or.inl rfl) (pe_df LA hr (pa_cons (pv 4) (pa_cons (pv 5) pa_nil))))
        (pss_one (ps_if (PT.conv (t := tDueT K) (PW.pt (pw_or (pt_cmpR op_ne (pe_ix ix_tup (pv 7) pe_int (fun _ _ => rfl)) pe_str (nomark _)) (pw_or1 (pt_cmpR (op_neD hr.units) (pe_ix ix_tup (pv 7) pe_int (fun _ _ => rfl)) (pv 6) (nomark _))))) (fun σ G Q' z => by
            obtain ⟨v, b, o, tg, h7, h6, ⟨c0, s0, ys, rfl, hc0, hto, hno⟩, low, hb, lt, q'⟩ := z
            refine ⟨_, h7, c0, _, _, _, rfl, rfl, hc0, at0, rfl, _, rfl, ?_⟩
            cases o with
            | none =>
              rw [show decide (V.str s0 = V.str "to") = false from decide_eq_false fun z => hno rfl (V.str.inj z)]
              exact iteT q'
            | some q2 =>
              obtain ⟨t, n⟩ := q2
              obtain ⟨rfl, pt, rfl, hpt⟩ := hto t n rfl
              rw [decide_eq_true rfl]
              refine iteF ⟨_, h7, c0, _, _, _, rfl, rfl, hc0, at1, _, h6, wt t, wt tg, dp_wt hpt, dp_wt hb, shaped_wt (low t n rfl), shaped_wt lt, _, rfl, ?_⟩
              rw [eqv_wt]
              rw [show decide ((some (t, n) : Option (List Str × Int)).map (·.1) = some tg) = decide (t = tg) from decide_eq_decide.mpr ⟨fun z => Option.some.inj z, fun z => congrArg some z⟩] at q'
              exact q'))
          (pss_one (ps_expr (pe_bm PySem.F.plainAttrs_list PySem.F.slot_list_append PySem.F.type_list_append mt_append (pv 3) (pa_cons (pe_tup (pa_cons (pe_df LL hr (pa_cons (pv 0) (pa_cons (pv 5) (pa_cons (pv 6) (pa_cons (pv 2) pa_nil))))) (pa_cons (pv 5) pa_nil))) pa_nil)))) pss_nil))))
      (pss_one (ps_ret (pe_sortLam (T := TL) (c := c) (P := Pt) (y := "_law_row") rfl Y.sorted (pv 3) TB rfl hmT huT ⟨rfl, rfl, rfl, by decide +kernel, rfl, by decide +kernel, by decide +kernel⟩ hr
        (fun A outer s0 H0 q f c' => pe_tup (pa_cons (pe_ix (r := rIxT K) ix_tupK (pv 0) pe_int (fun _ _ => rfl)) (pa_cons (pe_callB (r := rLenK K) call_lenK (by rfl) T.len PySem.boot_len (pa_cons (pe_ix (r := rIxT K) ix_tupK (pv 0) pe_int (fun _ _ => rfl)) pa_nil)) (pa_cons (pe_ix (r := rIxT K) ix_tupK (pv 0) pe_int (fun _ _ => rfl)) pa_nil)))) (hbind := fun _ _ _ _ _ => rfl))))), ?_⟩
    refine ⟨(show 0 ≤ sizeLine by decide), fun F hF => ?_⟩
    have y1 := Same.new (o := .lst []) hF
    have kF := upd_same (H := H) (a := F) (o := .lst [])
    have nFl : l ≠ F := ne_of_none hL hF
    generalize upd H F (.lst []) = G1 at y1 kF ⊢
    refine ⟨_, rfl, _, rfl, hl, h, day, H, rfl, hH, y1, fun G2 fl fys y2 ffl kfl hR => ⟨_, _, rfl, ?_⟩⟩
    have s2 := y1.trans y2
    have kF2 := y2 _ _ kF
    have hH2 := hH.same s2
    have nFf : fl ≠ F := by
      rcases ffl with z | z
      · exact ne_of_none z hF
      · exact fun e => by rw [e, kF] at z; cases z
    refine ⟨_, rfl, _, rfl, 1, rfl, l, xs, rfl, .of (s2 _ _ hL), fun p nP => ?_⟩
    rw [cut_one1]
    have y3 := Same.new (o := .lst xs.tail) nP
    have nPF : p ≠ F := fun e => by rw [e, kF2] at nP; cases nP
    have kp := upd_same (H := G2) (a := p) (o := .lst xs.tail)
    have s3 := s2.trans y3
    have kF3 := y3 _ _ kF2
    have kfl3 := y3 _ _ kfl
    have hR3 := hR.same y3
    clear nP
    generalize upd G2 p (.lst xs.tail) = G3 at y3 kp s3 kF3 kfl3 hR3 ⊢
    have nFH : H F = none := hF
    have lw := hp.length
    have T3 := hT.ext s3
    refine ⟨F, l, p, xs, xs.tail, rfl, .inl ⟨s3 _ _ hL, kp, nFl, nPF⟩, fun Z B zb b0 => for_zipB zb (fun i σ G => (∀ c o, c ≠ F → G3 c = some o → G c = some o) ∧ ∃ v5 v6 v7 ys, σ = [some (.ref hl), some (.ref l), some (.int day), some (.ref F), some (.ref fl), v5, v6, v7] ∧ G F = some (.lst ys) ∧ Paired (VisR K G) ys (dueL h day ((prs wk).take i)) ∧ B G)
      ⟨(fun _ _ _ e => e), none, none, none, [], rfl, kF3, .nil, b0⟩ (by rw [List.length_tail]; omega) (fun i σ G z => by obtain ⟨_, _, _, _, _, _, _, _, b⟩ := z; exact b) ?_ ?_⟩
    · rintro i x y σ G0 Tp hx hy nT ⟨frG0, v5, v6, v7, ys, rfl, kG0, hys0, bG0⟩
      obtain ⟨ws, ew, pa, rfl, tpa⟩ := pair_getF hp hx
      have hy2 := hy
      rw [List.getElem?_tail] at hy2
      obtain ⟨tg, et, pb, rfl, tpb⟩ := pair_getF hp hy2
      have ept : (prs wk)[i]? = some (ws, tg) := prs_at ew (by rw [List.getElem?_tail]; exact et)
      have etk : (prs wk).take (i + 1) = (prs wk).take i ++ [(ws, tg)] := by rw [List.take_add_one, ept]; rfl
      have ch := wok.ch _ (List.mem_of_getElem? ept)
      have sT := Same.new (o := .tup [V.ref pa, .ref pb]) nT
      have kT : SqT K (upd G0 Tp (.tup [V.ref pa, .ref pb])) Tp [V.ref pa, .ref pb] := .of upd_same
      have frG : ∀ c o, c ≠ F → G3 c = some o → (upd G0 Tp (.tup [V.ref pa, .ref pb])) c = some o := fun c o n e => sT _ _ (frG0 c o n e)
      have kG := sT _ _ kG0
      have hys := Paired.mono (fun _ _ q => VisR.mono q fun _ _ z => same_T sT z) hys0
      have bG := zb.same _ _ sT bG0
      generalize upd G0 Tp (.tup [V.ref pa, .ref pb]) = G at kT frG kG hys bG ⊢
      clear sT nT hys0 kG0 frG0 bG0
      have hT3 : ∀ a xs, SqT K G3 a xs → SqT K G a xs := fun a xs z => sqT_off kF3 frG z
      have tpaG := hT3 _ _ (same_T s3 tpa)
      have tpbG := hT3 _ _ (same_T s3 tpb)
      have kflG := frG _ _ nFf kfl3
      have hRG := hR3.mono hT3
      have hHG : HistAt K G hl h := hH.same fun c o e => frG c o (ne_of_none e nFH) (s3 _ _ e)
      obtain ⟨ww, wl⟩ := far ws (List.mem_of_getElem? ew)
      obtain ⟨wt', wl'⟩ := far tg (List.mem_of_getElem? et)
      have gF := force_good bg.g day
      refine ⟨Tp, _, rfl, kT, rfl, _, _, rfl, _, _, rfl, rfl, ?_⟩
      refine ⟨_, rfl, _, rfl, fl, pa, fys, forceL h day, ws, rfl, .of kflG, hRG, gF, tpaG, wl, ww.low, fun v G1 s4 dv => ?_⟩
      have frG1 : ∀ c o, c ≠ F → G3 c = some o → G1 c = some o := fun c o n e => s4 _ _ (frG c o n e)
      have kG1 := s4 _ _ kG
      have hys1 := Paired.mono (fun _ _ q => VisR.mono q fun _ _ z => same_T s4 z) hys
      have tpa1 := same_T s4 tpaG
      have tpb1 := same_T s4 tpbG
      have bG1 := zb.same _ _ s4 bG
      have hH1 := hHG.same s4
      have vn := vis_none bg ch
      refine ⟨v, pb, redir (forceL h day) ws, tg, rfl, rfl, ans_at dv, fun t n e => (redir_far (n := n) gF.ok ww e).1.low, tpb1, wt'.low, ?_⟩
      rw [← vn]
      cases hv : visOf h day ws tg with
      | none =>
        refine iteF ⟨frG1, _, _, _, _, rfl, kG1, ?_, bG1⟩
        rw [etk, due_snoc]
        show Paired _ _ (dueL h day ((prs wk).take i) ++ (match visOf h day ws tg with | some d => [(d, ws)] | none => []))
        rw [hv, List.append_nil]
        exact hys1
      | some d =>
        have ed : dueL h day ((prs wk).take (i + 1)) = dueL h day ((prs wk).take i) ++ [(d, ws)] := by
          rw [etk, due_snoc]
          show _ ++ (match visOf h day ws tg with | some d => [(d, ws)] | none => []) = _
          rw [hv]
        have lys := Paired.length hys1
        have ldu := due_len h day ((prs wk).take i)
        rw [List.length_take, prs_len] at ldu
        refine iteT ⟨_, rfl, Or.inl ⟨rfl, _, Or.inl (Or.inl kG1)⟩, _, rfl, _, rfl, _, rfl, _, rfl, hl, pa, pb, h, ws, tg, day, rfl, hH1, bg.g, tpa1, wl, ww.low, tpb1, wt'.low, d0, d1, fun G5 s5 => ?_⟩
        rw [vis_late bg hv, show optV (some d) = V.int d from rfl]
        refine ⟨_, rfl, (show 2 ≤ sizeLine by decide), fun t ht => ?_⟩
        have y6 := Same.new (o := .tup [V.int d, .ref pa]) ht
        have s56 := s5.trans y6
        have vt : VisR K (upd G5 t (.tup [V.int d, .ref pa])) (.ref t) (d, ws) := ⟨t, pa, rfl, .of upd_same, same_T s56 tpa1⟩
        have kG2 := s56 _ _ kG1
        have frG2 : ∀ c o, c ≠ F → G3 c = some o → (upd G5 t (.tup [V.int d, .ref pa])) c = some o := fun c o n e => s56 _ _ (frG1 c o n e)
        have hys2 := Paired.mono (fun _ _ q => VisR.mono q fun _ _ z => same_T s56 z) hys1
        have bG2 := zb.same _ _ s56 bG1
        generalize upd G5 t (.tup [V.int d, .ref pa]) = G6 at vt kG2 frG2 hys2 bG2 ⊢
        refine ⟨F, ys, _, rfl, rfl, kG2, Nat.lt_of_le_of_lt (show ys.length ≤ 100 by omega) (by decide), ?_⟩
        have off : ∀ c o, c ≠ F → G6 c = some o → (upd G6 F (.lst (ys ++ [.ref t]))) c = some o := fun c o n e => (upd_ne n).trans e
        have hT : ∀ a zs, SqT K G6 a zs → SqT K (upd G6 F (.lst (ys ++ [.ref t]))) a zs := fun a zs z => sqT_off kG2 off z
        refine ⟨fun c o n e => off c o n (frG2 c o n e), _, _, _, _, rfl, upd_same, ?_, zb.off _ _ _ kG2 off bG2⟩
        rw [ed]
        exact (Paired.mono (fun _ _ q => VisR.mono q hT) hys2).snoc (vt.mono hT)
    · rintro σ G ⟨frG, v5, v6, v7, ys, rfl, kG, hys, bG⟩
      have ew : (prs wk).take xs.tail.length = prs wk := List.take_of_length_le (by rw [prs_len, List.length_tail]; omega)
      rw [ew] at hys
      have sG : Same H G := fun c o e => frG c o (ne_of_none e nFH) (s3 _ _ e)
      have ly := Paired.length hys
      have ldu := due_len h day (prs wk)
      rw [prs_len] at ldu
      have zz := zip_fst ly
      refine ⟨_, rfl, tabs_off kF3 frG T3, F, (ys.zip (dueL h day (prs wk))).map fun q => (q.1, kL q.2), rfl, ?_, ?_, ?_, fun z hz => ?_, fun H2 e2 T2 => ⟨?_, fun z hz H3 s3' => ?_, fun H3 q3 s3' n3 _ => ?_⟩⟩
      · rw [List.length_map, List.length_zip]
        omega
      · intro d hd d' hd'
        simp only [List.map_map, List.mem_map] at hd hd'
        obtain ⟨p1, _, rfl⟩ := hd
        obtain ⟨p2, _, rfl⟩ := hd'
        exact al_kL _ _
      · refine .inl fun d hd => ?_
        simp only [List.map_map, List.mem_map] at hd
        obtain ⟨p1, _, rfl⟩ := hd
        exact ⟨_, _, rfl⟩
      · obtain ⟨p1, h1, rfl⟩ := List.mem_map.mp hz
        exact ⟨kL_bare _, kL_deep _⟩
      · rw [List.map_map]
        show SqL K H2 F ((ys.zip (dueL h day (prs wk))).map (·.1))
        rw [zz.1]
        exact .of (e2 _ _ kG (fun _ z => nomatch z))
      · obtain ⟨p1, h1, rfl⟩ := List.mem_map.mp hz
        obtain ⟨t, pa, e1, h2, h3⟩ := pair_zip hys p1 h1
        obtain ⟨v1, u⟩ := p1
        obtain rfl : v1 = .ref t := e1
        have h23 := same_T s3' (ext_T e2 h2)
        have h33 := same_T s3' (ext_T e2 h3)
        refine ⟨_, rfl, t, _, _, _, rfl, rfl, h23, at0, _, rfl, t, _, _, _, rfl, rfl, h23, at1, pa, _, rfl, .inr h33, _, rfl, t, _, _, _, rfl, rfl, h23, at1, (show 3 ≤ sizeLine by decide), fun tt ht => ?_⟩
        have y3 := Same.new (o := .tup [V.int u.1, .int ((u.2.map V.str).length : Int), .ref pa]) ht
        refine ⟨y3, .tup (.of upd_same) (.cons (.int _) (.cons ?_ (.cons (dp_wt (same_T y3 h33)) .nil)))⟩
        rw [List.length_map]
        exact .int _
      · have pl := sorted_vis (k := kL) le_kL hys
        generalize (((ys.zip (dueL h day (prs wk))).map fun q => (q.1, kL q.2)).mergeSort (PySem.W.dataLe false Prod.snd)).map Prod.fst = ys2 at pl ⊢
        have y3 := s3'.trans (Same.new (o := .lst ys2) n3)
        refine q _ q3 ys2 ((LamX.ExtN.of sG).trans (e2.trans (LamX.ExtN.of y3))) (T2.ext y3) upd_same (Paired.mono (fun _ _ q => VisR.mono q fun _ _ z => same_T y3 (ext_T e2 z)) pl)
end
end K49
/-! The end of a law's row where lambdas are made: tables of code objects grow. -/
namespace Ld
open PySem L2 PyProof.Rows
section
variable {P : Program} {w : World} {K : PySem.W.Frag} {mg mb : Str → Option Value} {k : Nat} {fa a : Addr} {fd : FuncData} {x : Str} {sp : Sp} {s : Shared} {vs : List Value} {ns : List Int} {cs : List (Addr × Addr)}
/-- nothing is tracked but the tables, still empty, and (perhaps) the script, locked -/
structure QuietT (P : Program) (w : World) (K : PySem.W.Frag) (a : Addr) (cs : List (Addr × Addr)) (H : Hp) (s : Shared) : Prop where
  ok : HOk P w H s.heap
  tab : ∀ p ∈ cs, H p.2 = some (.tbl #[])
  off : ∀ p ∈ cs, K.lookup p.2 = none
  hd : ∀ p ∈ cs, PySem.W.CodeHd s.heap p.1 p.2
  one : ∀ b o, H b = some o → (b = a ∧ K.lookup a = none ∧ ∃ ob xs, o = .frz ob (.lst xs) ∧ ∃ its n, ob.data = .seq its n) ∨ ∃ p ∈ cs, p.2 = b ∧ o = .tbl #[]
theorem QuietT.here {H : Hp} (q : QuietT P w K a cs H s) {p : Addr × Addr} (hp : p ∈ cs) : s.heap.get? p.2 = some { cls := .none, data := .fields #[] } := q.ok _ _ (q.tab p hp)
theorem QuietT.free {H : Hp} (q : QuietT P w K a cs H s) {b : Addr} {o : Obj} (e : s.heap.get? b = some o) (d : ∀ its n, o.data ≠ .seq its n) (d2 : o.data ≠ .fields #[]) : H b = none := by
  cases z : H b with
  | none => rfl
  | some u =>
    rcases q.one b u z with ⟨rfl, _, ob, xs, rfl, its, n, hd⟩ | ⟨p, hp, rfl, rfl⟩
    · obtain ⟨e2, _⟩ := q.ok b _ z
      rw [e] at e2
      cases e2
      exact absurd hd (d its n)
    · have e2 := q.here hp
      rw [e] at e2
      cases e2
      exact absurd rfl d2
/-- what a table's maker asks, of the heap without what is tracked -/
theorem QuietT.tabB {H : Hp} (q : QuietT P w K a cs H s) (hns : s.heap.Ns mainGlobals mg) (hbm : ∃ (bm : Addr) (ob : Obj), mg "__builtins__" = some (.ref bm) ∧ bm ≠ builtinsNs ∧ s.heap.get? bm = some ob ∧ ob.cls = .type "module" ∧ ob.dict = some builtinsNs ∧ ob.data = .plain) {p : Addr × Addr} (hp : p ∈ cs) :
    LamX.TabB (hidT s.heap H) mg p.1 p.2 := by
  have here := q.here hp
  refine ⟨?_, ?_, ?_⟩
  · obtain ⟨o, us, f1, f2, f3, f4, f5, f6, f7, e, r1, r2, r3, rest⟩ := q.hd p hp
    refine ⟨o, us, f1, f2, f3, f4, f5, f6, f7, hidT_get e (q.free e (fun its n z => ?_) fun z => ?_), r1, r2, r3, rest⟩
    · rw [r2] at z
      cases z
    · rw [r2] at z
      cases z
      simp at r3
  · obtain ⟨bm, ob, m1, m2, m3, m4, m5, m6⟩ := hbm
    have plain : ∀ {b : Addr} {o : Obj}, s.heap.get? b = some o → o.data ≠ .plain → bm ≠ b := fun e d z => by
      rw [← z, m3] at e
      cases e
      exact d m6
    refine ⟨bm, ob, m1, m2, ?_, plain here (fun z => nomatch z), hidT_get m3 (q.free m3 (fun its n z => ?_) fun z => ?_), m4, m5, m6⟩
    · obtain ⟨o, es, ep, e, d, _⟩ := hns
      exact plain e fun z => by
        rw [d] at z
        cases z
    · rw [m6] at z
      cases z
    · rw [m6] at z
      cases z
  · intro z
    obtain ⟨o, es, ep, e, d, _⟩ := hns
    rw [z, here] at e
    cases e
    cases d
theorem law_goesT {H : Hp} (KX : K.In s.heap) (hns : s.heap.Ns mainGlobals mg) (hb : s.heap.Ns builtinsNs mb) (hbb : ∀ x : Str, x ≠ "__name__" → mb x = bootBuiltins x) (hlim : s.heap.NoLimit) (hg : s.gens = #[])
    (hbm : ∃ (bm : Addr) (ob : Obj), mg "__builtins__" = some (.ref bm) ∧ bm ≠ builtinsNs ∧ s.heap.get? bm = some ob ∧ ob.cls = .type "module" ∧ ob.dict = some builtinsNs ∧ ob.data = .plain)
    (q : QuietT P w K a cs H s) (hr : Room k callerA) (F : ∀ base : Heap, K.In base → base.Ns mainGlobals mg → (∀ p ∈ cs, LamX.TabB base mg p.1 p.2) → FnG P w K mg base k fa fd [x] sp) (hbind : ∀ (s : Shared) (u : Value), BindsTo s fd ⟨[u], []⟩ [(x, u)])
    (hsp : sp [.ref a] H (fun v _ => v = .bl true) E0) : codeAny (model P w) callerA (.call (.ref fa) ⟨[.ref a], []⟩) (Behind s) s := by
  have nsb : ∀ {b : Addr} {m : Str → Option Value}, s.heap.Ns b m → (hidT s.heap H).Ns b m := fun {b m} ⟨o, es, ep, e, d, r⟩ =>
    ⟨o, es, ep, hidT_get e (q.free e (fun its n z => by rw [d] at z; cases z) fun z => by rw [d] at z; cases z), d, r⟩
  have Kb : K.In (hidT s.heap H) := fun b o e => hidT_get (KX b o e) (by
    cases z : H b with
    | none => rfl
    | some u =>
      rcases q.one b u z with ⟨rfl, hk, _⟩ | ⟨p, hp, rfl, _⟩
      · rw [hk] at e
        cases e
      · rw [q.off p hp] at e
        cases e)
  have md : Mod K mg (hidT s.heap H) := ⟨Kb, nsb hns, ⟨mb, nsb hb, hbb⟩, let ⟨mc, h1, h2⟩ := hlim; ⟨mc, nsb h1, h2⟩⟩
  have none_in : ∀ b : Addr, ¬ b ∈ ([] : List Addr) := fun b z => nomatch z
  have e0 : Env0 P w K mg (hidT s.heap H) callerA [] s H := ⟨rfl, md, fun b o e => of_hidT e, Nat.le_of_eq (hidT_size _ _), trivial, fun b hb => absurd hb (none_in b), q.ok, .of_eq hg⟩
  refine codeAny_mono ((F _ Kb (nsb hns) fun p hp => q.tabB hns hbm hp).goes callerA [] s H ⟨[.ref a], []⟩ [.ref a] [.ref a] _ E0 rfl hr e0 (hbind s (.ref a)) (.cons rfl .nil) hsp) fun r s' h => ?_
  match r, h with
  | .error e, h => exact False.elim h
  | .ok .next, h => exact False.elim h
  | .ok .brk, h => exact False.elim h
  | .ok .cont, h => exact False.elim h
  | .ok (.ret u), h =>
    obtain ⟨v, H', os, bare, un, ok', rv, (rfl : v = .bl true)⟩ := h
    cases (show u = Value.bool true from rv)
    have each : ∀ b o, s.heap.get? b = some o → s'.heap.get? b = some o ∨ ∃ p ∈ cs, p.2 = b ∧ ∃ more : Array Value, s'.heap.get? b = some { cls := .none, data := .fields more } := fun b o e => by
      cases z : H b with
      | none => exact .inl (un.keep b o e z (none_in b) (none_in b))
      | some u =>
        rcases q.one b u z with ⟨_, _, ob, xs, rfl, _⟩ | ⟨p, hp, rfl, rfl⟩
        · obtain ⟨e1, _⟩ := q.ok b _ z
          obtain ⟨e2, _⟩ := ok' b _ (un.frzs b ob _ z)
          rw [e] at e1
          cases e1
          exact .inl e2
        · obtain ⟨more, y⟩ := un.tbls p.2 #[] z
          exact .inr ⟨p, hp, rfl, _, ok' p.2 _ y⟩
    refine ⟨rfl, ⟨fun b o e => ?_, fun b o e => ?_⟩, os, bare⟩
    · rcases each b o e with y | ⟨p, hp, rfl, more, y⟩
      · exact .inl y
      · have e1 := q.here hp
        have e2 := e1
        rw [e] at e2
        cases e2
        exact .inr (.inl ⟨((q.hd p hp).tab e1).isCodeTable, rfl, #[], more, rfl, by rw [Array.empty_append]; exact y⟩)
    · rcases each b o e with y | ⟨_, _, _, _, y⟩
      · exact ⟨_, y⟩
      · exact ⟨_, y⟩
theorem law_goes_anyT (KX : K.In s.heap) (hns : s.heap.Ns mainGlobals mg) (hb : s.heap.Ns builtinsNs mb) (hbb : ∀ x : Str, x ≠ "__name__" → mb x = bootBuiltins x) (hlim : s.heap.NoLimit) (hg : s.gens = #[])
    (hbm : ∃ (bm : Addr) (ob : Obj), mg "__builtins__" = some (.ref bm) ∧ bm ≠ builtinsNs ∧ s.heap.get? bm = some ob ∧ ob.cls = .type "module" ∧ ob.dict = some builtinsNs ∧ ob.data = .plain)
    (tab : ∀ p ∈ cs, s.heap.get? p.2 = some { cls := .none, data := .fields #[] }) (off : ∀ p ∈ cs, K.lookup p.2 = none) (hd : ∀ p ∈ cs, PySem.W.CodeHd s.heap p.1 p.2)
    (ha : s.heap.get? a = some { cls := .type "list", data := .seq vs.toArray }) (hi : IntsAre vs ns) (hl : ns.length ≤ sizeLine) (hr : Room k callerA)
    (F : ∀ base : Heap, K.In base → base.Ns mainGlobals mg → (∀ p ∈ cs, LamX.TabB base mg p.1 p.2) → FnG P w K mg base k fa fd [x] sp) (hbind : ∀ (s : Shared) (u : Value), BindsTo s fd ⟨[u], []⟩ [(x, u)])
    (hsp : ∀ H : Hp, (∀ p ∈ cs, H p.2 = some (.tbl #[])) → SqL K H a (ns.map V.int) → sp [.ref a] H (fun v _ => v = .bl true) E0) : codeAny (model P w) callerA (.call (.ref fa) ⟨[.ref a], []⟩) (Behind s) s := by
  have rv := ints_vals hi
  let script : HO := .frz { cls := .type "list", data := .seq vs.toArray } (.lst (ns.map V.int))
  let tabs : Hp := fun b => if b ∈ cs.map (·.2) then some (.tbl #[]) else none
  have isTab : ∀ b, b ∈ cs.map (·.2) → ∃ p ∈ cs, p.2 = b := fun b h => by
    obtain ⟨p, hp, e⟩ := List.mem_map.mp h
    exact ⟨p, hp, e⟩
  have inTab : ∀ p ∈ cs, p.2 ∈ cs.map (·.2) := fun p hp => List.mem_map.mpr ⟨p, hp, rfl⟩
  have aTab : a ∉ cs.map (·.2) := fun z => by
    obtain ⟨p, hp, e⟩ := isTab a z
    have t := tab p hp
    rw [e, ha] at t
    cases t
  cases hk : K.lookup a with
  | some o =>
    have e := KX a o hk
    rw [ha] at e
    cases e
    have sq : SqL K tabs a (ns.map V.int) := .inr ⟨_, vs.toArray, _, hk, rfl, rfl, rfl, by rw [List.size_toArray, hi.length]; exact hl, by simpa using rv⟩
    have get : ∀ b u, tabs b = some u → (∃ p ∈ cs, p.2 = b) ∧ u = .tbl #[] := fun b u z => by
      by_cases h : b ∈ cs.map (·.2)
      · rw [show tabs b = some (.tbl #[]) from if_pos h] at z
        exact ⟨isTab b h, (Option.some.inj z).symm⟩
      · rw [show tabs b = none from if_neg h] at z
        cases z
    have tt : ∀ p ∈ cs, tabs p.2 = some (.tbl #[]) := fun p hp => if_pos (inTab p hp)
    refine law_goesT (H := tabs) KX hns hb hbb hlim hg hbm ⟨fun b u z => ?_, tt, off, hd, fun b u z => ?_⟩ hr F hbind (hsp _ tt sq)
    · obtain ⟨⟨p, hp, rfl⟩, rfl⟩ := get b u z
      exact tab p hp
    · obtain ⟨⟨p, hp, rfl⟩, rfl⟩ := get b u z
      exact .inr ⟨p, hp, rfl, rfl⟩
  | none =>
    let both : Hp := fun b => if b = a then some script else tabs b
    have get : ∀ b u, both b = some u → (b = a ∧ u = script) ∨ ((∃ p ∈ cs, p.2 = b) ∧ u = .tbl #[]) := fun b u z => by
      by_cases h : b = a
      · rw [show both b = some script from if_pos h] at z
        exact .inl ⟨h, (Option.some.inj z).symm⟩
      · rw [show both b = tabs b from if_neg h] at z
        by_cases h2 : b ∈ cs.map (·.2)
        · rw [show tabs b = some (.tbl #[]) from if_pos h2] at z
          exact .inr ⟨isTab b h2, (Option.some.inj z).symm⟩
        · rw [show tabs b = none from if_neg h2] at z
          cases z
    have tt : ∀ p ∈ cs, both p.2 = some (.tbl #[]) := fun p hp => by
      have n : p.2 ≠ a := fun e => aTab (e ▸ inTab p hp)
      rw [show both p.2 = tabs p.2 from if_neg n]
      exact if_pos (inTab p hp)
    refine law_goesT (H := both) KX hns hb hbb hlim hg hbm ⟨fun b u z => ?_, tt, off, hd, fun b u z => ?_⟩ hr F hbind (hsp _ tt (.inl (.inr ⟨_, if_pos rfl⟩)))
    · rcases get b u z with ⟨rfl, rfl⟩ | ⟨⟨p, hp, rfl⟩, rfl⟩
      · exact ⟨ha, by rw [List.length_map]; exact hl, vs, _, rv, ha⟩
      · exact tab p hp
    · rcases get b u z with ⟨rfl, rfl⟩ | ⟨⟨p, hp, rfl⟩, rfl⟩
      · exact .inl ⟨rfl, hk, _, _, rfl, _, _, rfl⟩
      · exact .inr ⟨p, hp, rfl, rfl⟩
end
/-- what k_head leaves open, with tables -/
theorem walk_GT {l : PySem.W.OpenLaw} {n k : Nat} {q : Program} {loose : List Str} {XP : (Str → Option Value) → Heap → Prop} {YP : World → Heap → Prop} {d : DefRec} {K : Params → PySem.W.Frag} {sp : World → (Addr × Addr → Prop) → Sp} {x : Str}
    (hn : l.most = some n) (hn2 : n ≤ sizeLine) (hdf : d.params.defaults = []) (hr : Room k callerA) (hY : ∀ (w : World) (h : Heap), YP w h → (K w.params).In h)
    (F : ∀ (w : World) (mean : ExcName → Option Value) (mg mb : Str → Option Value) (fa : Addr) (h : Heap), Top q (PySem.W.looseW q loose) mean mg mb h → YP w h → (K w.params).In h → h.Ns mainGlobals mg → mg d.name = some (.ref fa) → ∃ (fd : FuncData) (cs : List (Addr × Addr)), (∀ p ∈ cs, h.get? p.2 = some { cls := .none, data := .fields #[] }) ∧ (∀ p ∈ cs, (K w.params).lookup p.2 = none) ∧ (∀ p ∈ cs, PySem.W.CodeHd h p.1 p.2) ∧
      (∀ (s : Shared) (u : Value), BindsTo s fd ⟨[u], []⟩ [(x, u)]) ∧ ∀ base : Heap, (K w.params).In base → base.Ns mainGlobals mg → (∀ p ∈ cs, LamX.TabB base mg p.1 p.2) → FnG l.prog w (K w.params) mg base k fa fd [x] (sp w (· ∈ cs)))
    (hsp : ∀ (w : World) (C : Addr × Addr → Prop) (H : Hp) (a : Addr) (ns : List Int), ns.length ≤ n → (∀ z ∈ ns, Builtin.Int.intBits z ≤ 1048576) → (∀ p, C p → H p.2 = some (.tbl #[])) → SqL (K w.params) H a (ns.map V.int) → sp w C [.ref a] H (fun v _ => v = .bl true) E0) :
    PySem.W.WalkO q loose XP YP l.row.toRowW d [] (fun f vs => PySem.call f vs) := by
  refine Att.attach_callB hn hdf fun w s₀ s₁ mg mb fa o pm cd doc a vs ns G Y ho hd hcd hmg hobj hints hlen hbits hg => ?_
  have KX := hY w _ Y
  obtain ⟨fd, cs, tab, off, code, hb, hF⟩ := F w _ mg mb fa _ G.T Y KX G.T.g hmg
  exact law_goes_anyT KX G.T.g G.T.b G.T.builtins G.T.nolimit hg G.T.bmain tab off code hobj hints (Nat.le_trans hlen hn2) hr hF hb fun H hH hS => hsp w _ H a ns hlen hbits hH hS
end Ld
namespace K49
open PySem PySem.Spec L2 Ld PyProof.Rows
/-! ### visits, shown and compared -/
theorem vis_slim {v : Vis} (h0 : 0 ≤ v.1) (h1 : v.1 ≤ 10000) (hw : AllWd v.2) (hl : v.2.length ≤ 80) : Slim (visD v) 2 2000 := by
  refine (slim_tup (k := 1) (n := 963) fun d hd => ?_).wide (Nat.le_refl _) (show 963 * 2 + 2 * 2 + 3 ≤ 2000 by decide)
  simp only [List.mem_cons, List.not_mem_nil, or_false] at hd
  rcases hd with rfl | rfl
  · exact (slim_int h0 h1).wide (by decide) (by decide)
  · exact slim_wt hw hl
theorem due_small {vs : List Vis} (h : ∀ v ∈ vs, 0 ≤ v.1 ∧ v.1 ≤ 10000 ∧ AllWd v.2 ∧ v.2.length ≤ 80) (l : vs.length ≤ 10) : Small (.list (vs.map visD)) ∧ (PyData.list (vs.map visD)).hasDict = false := by
  have := slim_list (k := 2) (n := 2000) (ds := vs.map visD) fun d hd => by
    obtain ⟨v, hv, rfl⟩ := List.mem_map.mp hd
    obtain ⟨a, b, c, d⟩ := h v hv
    exact vis_slim a b c d
  rw [List.length_map] at this
  exact ⟨⟨this.sh, Nat.le_trans this.dp (by decide), Nat.le_trans this.ln (Nat.le_trans (show 2000 * vs.length + 2 * vs.length + 3 ≤ 30000 by omega) (by decide))⟩, this.nd⟩
theorem due_shaped {vs : List Vis} (h : ∀ v ∈ vs, AllWd v.2) : SeqAt.shaped (.list (vs.map visD)) = true := by
  have both : ∀ {l : List Vis}, (∀ x ∈ l, AllWd x.2) → PyData.canLayAll0 (l.map visD) = true ∧ PyData.depthAll (l.map visD) ≤ 3 := fun {l} h => by
    induction l with
    | nil => exact ⟨rfl, by simp [PyData.depthAll]⟩
    | cons x l ih =>
      obtain ⟨a, b⟩ := ih fun y hy => h y (List.mem_cons_of_mem _ hy)
      have d := depth_words x.2
      simp only [List.map_cons, visD, PyData.canLayAll0, PyData.canLay0, PyData.depthAll, lay_low (h x List.mem_cons_self).low, a, Bool.and_self]
      refine ⟨trivial, ?_⟩
      simp only [wt, PyData.depth, PyData.depthAll, d]
      omega
  obtain ⟨a, b⟩ := both h
  unfold SeqAt.shaped
  rw [decide_eq_true (show (PyData.list (vs.map visD)).depth ≤ 64 by simp only [PyData.depth]; omega)]
  simp only [PyData.canLay0, a, Bool.and_self]
theorem eqv_pls (l : List (List Str)) : PyData.eqv (.list (l.map wt)) (.list (l.map wt)) = true := by
  simp only [PyData.eqv]
  induction l with
  | nil => rfl
  | cons x l ih =>
    rw [List.map_cons, PyData.eqvAll, eqv_wt, ih, decide_eq_true rfl]
    rfl
theorem eqv_due (l : List Vis) : PyData.eqv (.list (l.map visD)) (.list (l.map visD)) = true := by
  simp only [PyData.eqv]
  induction l with
  | nil => rfl
  | cons x l ih =>
    rw [List.map_cons, PyData.eqvAll, ih]
    simp [visD, PyData.eqv, PyData.eqvAll, eqv_wt]
/-! ### without tables of code objects -/
def noT (H : Hp) : Hp := fun b => match H b with | some (.tbl _) => none | o => o
theorem noT_ext {H : Hp} : LamX.ExtN H (noT H) := fun b o e m => by
  unfold noT
  rw [e]
  cases o with
  | tbl ps => exact absurd rfl (m ps)
  | _ => rfl
theorem noT_same {H : Hp} : Same (noT H) H := fun b o e => by
  unfold noT at e
  cases h : H b with
  | none => rw [h] at e; cases e
  | some o' => rw [h] at e; cases o' <;> (cases e <;> rfl)
theorem noT_t0 {H : Hp} (b : Addr) (ps : Array Value) : noT H b ≠ some (.tbl ps) := fun e => by
  unfold noT at e
  cases h : H b with
  | none => rw [h] at e; cases e
  | some o => rw [h] at e; cases o <;> cases e
/-- the tables of code objects of two lambdas -/
def TT (P1 P2 : Addr) : List (Addr × Str) := [(P1, lamK), (P2, lamD)]
theorem beg_of {h : Hist} (ok : HistOk h) (ne : h ≠ []) {day : Int} (le : ∀ r, h[h.length - 1]? = some r → r.1 ≤ day) : Beg h day := by
  refine ⟨ok.asc, fun r hr => ⟨(ok.each r hr).lo, ?_⟩, ne, fun r hr => (ok.each r hr).g⟩
  have lp : 0 < h.length := List.length_pos_iff.mpr ne
  obtain ⟨t, et⟩ : ∃ t, h[h.length - 1]? = some t := ⟨_, List.getElem?_eq_getElem (by omega)⟩
  have := le t et
  obtain ⟨i, hi⟩ := List.getElem?_of_mem hr
  have li := (List.getElem?_eq_some_iff.mp hi).1
  by_cases c : i = h.length - 1
  · rw [c, et] at hi
    cases hi
    exact this
  · have := asc_at ok.asc et r (List.mem_of_getElem? (i := i) (by rw [List.getElem?_take, if_pos (by omega)]; exact hi))
    omega
theorem walk_room {t : List Str → Option (List Str)} {rs : List Rl} {k : Nat} {a : List Str} {l : List (List Str)} (e : (walkW t rs k a).1 = l) (far : ∀ x ∈ l, x.length ≤ 80) : ∀ x ∈ (walkW t rs k a).1, x.length ≤ 10000 := fun x hx => by
  rw [e] at hx
  have := far x hx
  omega
end K49
namespace K49
open PySem L2 Ld PyProof.Rows
abbrev sLaw : Stmt := top 52
def lawN : List Str := ["_law_script", "_law_start", "_law_stream_here", "_law_turn", "_law_words_here", "_law_history_here", "_law_server_here", "_law_day", "_law_some", "_law_begin", "_law_rules_here", "_law_address", "_law_walk", "_law_seen", "_law_due_here", "_law_again", "_law_told_here", "_law_reader", "_law_when", "_law_visited", "_law_rule"]
theorem scLaw : FnScope lawN ["_law_script"] (defScope sLaw) := ⟨rfl, rfl, rfl, by decide +kernel, rfl, by decide +kernel, by decide +kernel⟩
section
variable {P : Program} {w : World} {K : PySem.W.Frag} {mg : Str → Option Value} {base : Heap} {f : Addr} {fd : FuncData} {CT CS CR P1 P2 : Addr}
structure LwD (P : Program) (w : World) (K : PySem.W.Frag) (mg : Str → Option Value) (base : Heap) (CT CS CR P1 P2 : Addr) : Prop where
  sm : Smk P w K mg base CT CS
  r : Rcl K CR
  gR : mg "Reader" = some (.ref CR)
  new : ∃ f fd, Mk K CR f ∧ Binds K fd ["self", "server"] [] ∧ FnOk P w K mg base CX0 6 f fd ["self", "server"] (spRInit P w K CT CS CR)
  ask : ∃ f fd, Meth K CR "ask" f ∧ Binds K fd ["self", "address", "day"] [] ∧ FnOk P w K mg base CX0 11 f fd ["self", "address", "day"] (spRAsk P w K CT CS CR)
  fol : ∃ f fd ds, Meth K CR "follow" f ∧ Vals [V.int 1000] ds ∧ Binds K fd ["self", "address", "day", "steps"] ds ∧ KBn K fd ["self", "address", "day", "steps"] 3 ["steps"] (fun us ws => us ++ ws) gEnd ∧ FnOk P w K mg base CX0 10 f fd ["self", "address", "day", "steps"] (spRFol P w K CT CS CR)
  vf : Df P w K mg base 9 "visits_for" ["server", "walk", "day"] (spVF P w K CT CS)
  stream : Df P w K mg base 1 "_law_stream" ["_law_script", "_law_start"] (spStream K)
  words : Df P w K mg base 3 "_law_words" ["_law_stream_here"] spPool
  hist : Df P w K mg base 6 "_law_history" ["_law_stream_here", "_law_words_here", "_law_most"] (spHist K)
  serv : Df P w K mg base 8 "_law_server" ["_law_history_here"] (spServer P w K CT CS)
  one : Df P w K mg base 2 "_law_choose" ["_law_stream_here", "_law_items"] (spChoose K)
  shuf : Df P w K mg base 2 "_law_shuffled" ["_law_stream_here", "_law_items"] (spShufV K)
  fw : Df P w K mg base 6 "_law_free_walk" ["_law_stream_here", "_law_history_here", "_law_address", "_law_day"] (spFW K (TT P1 P2))
  due : Df P w K mg base 4 "_law_due" ["_law_history_here", "_law_walk", "_law_day"] (spDue K (TT P1 P2))
def spLaw (K : PySem.W.Frag) (P1 P2 : Addr) : Sp := fun vs H Q _ => ∃ (a : Addr) (ns : List Int), vs = [.ref a] ∧ LamX.Tabs (TT P1 P2) H ∧ SqL K H a (ns.map V.int) ∧ ns.length ≤ 63 ∧ (∀ z ∈ ns, Builtin.Int.intBits z ≤ 1048576) ∧ ∀ H', Q (.bl true) H'
theorem ok_law (Fd : Fun K "law" "law" sLaw f fd) (T : Tx mg) (D : LwD P w K mg base CT CS CR P1 P2) : FnG P w K mg base 13 f fd ["_law_script"] (spLaw K P1 P2) := by
  refine Fun.okG Fd scLaw (fun vs H Q E h => ?_) (fun cdv A0 outer s H vs Q Ex hG hr h => ?_)
  · obtain ⟨a, ns, rfl, _⟩ := h
    rfl
  · obtain ⟨a, ns, rfl, hTb, hS0, hlen, hb, q⟩ := h
    have nd := scLaw.nd
    have S := D.sm.s
    obtain ⟨fI, fdI, mI, bI, FI⟩ := D.sm.new
    obtain ⟨fR, fdR, mR, bR, FR⟩ := D.new
    obtain ⟨fA, fdA, mA, bA, FA⟩ := D.ask
    obtain ⟨fF, fdF, dsF, mF, vF, bF, kF, FF⟩ := D.fol
    refine ⟨_, (pss_cons (ps_for PassesOwn.never rfl (pi_range1 rfl T.range (pa_cons (pe_callB (call_max2 rfl) (by rfl) T.max (by decide +kernel) (pa_cons pe_int (pa_cons (pe_callB (call_min2 rfl) (by rfl) T.min (by decide +kernel) (pa_cons pe_int (pa_cons (pe_callB call_len_seq (by rfl) T.len PySem.boot_len (pa_cons (pv 0) pa_nil)) pa_nil))) pa_nil))) pa_nil)) (pg_name (i := 1) nd rfl (Or.inl rfl))
 (pss_cons (ps_set (i := 2) nd rfl (Or.inl rfl) (pe_df D.stream hr (pa_cons (pv 0) (pa_cons (pv 1) pa_nil))))
 (pss_one (ps_for PassesOwn.never rfl (pi_range1 rfl T.range (pa_cons pe_int pa_nil)) (pg_name (i := 3) nd rfl (Or.inl rfl))
 (pss_cons (ps_set (i := 4) nd rfl (Or.inr rfl) (pe_df D.words hr (pa_cons (pv 2) pa_nil)))
 (pss_cons (ps_set (i := 5) nd rfl (Or.inl rfl) (pe_df D.hist hr (pa_cons (pv 2) (pa_cons (pv 4) (pa_cons pe_int pa_nil)))))
 (pss_cons (ps_set (i := 6) nd rfl (Or.inl rfl) (pe_df D.serv hr (pa_cons (pv 5) pa_nil)))
 (pss_cons (ps_set (i := 7) nd rfl (Or.inl rfl) (pe_op op_add (pe_ix ix_tup (pe_ix ix_list (pv 5) (pe_un un_neg pe_int) (fun _ _ => rfl)) pe_int (fun _ _ => rfl)) (pe_df D.one hr (pa_cons (pv 2) (pa_cons (pe_lst (pa_cons pe_int (pa_cons pe_int (pa_cons pe_int (pa_cons pe_int pa_nil))))) pa_nil)))))
 (pss_cons (ps_set (i := 8) nd rfl (Or.inl rfl) (pe_lst (pa_cons (pe_tup pa_nil) pa_nil)))
 (pss_cons (ps_for PassesOwn.never rfl (pi_list (pv 5)) (pg_tup rfl (pgs_cons (pg_name (i := 9) nd rfl (Or.inl rfl)) (pgs_cons (pg_name (i := 10) nd rfl (Or.inl rfl)) pgs_nil)))
 (pss_one (ps_set (i := 8) nd rfl (Or.inl rfl) (pe_op op_catN (pe_op op_catN (pv 8) (pe_lc (own := [("_law_rule", 20)]) (g := gName 20) (tt := tYes) (by rfl) nd (pi_list (pv 10)) (blkOk_by (own := [("_law_rule", 20)]) (N := lawN) (sc := defScope sLaw) (by decide +kernel)) (fun _ _ _ _ _ => pg_name (i := 20) nd rfl (Or.inl rfl)) (fun _ _ _ _ _ => pts_nil) (fun _ _ _ _ _ => pe_ix (r := rIxT K) ix_tupK (pv 20) pe_int (fun _ _ => rfl)))) (pe_lc (own := [("_law_rule", 20)]) (g := gName 20) (tt := tYes) (by rfl) nd (pi_list (pv 10)) (blkOk_by (own := [("_law_rule", 20)]) (N := lawN) (sc := defScope sLaw) (by decide +kernel)) (fun _ _ _ _ _ => pg_name (i := 20) nd rfl (Or.inl rfl)) (fun _ _ _ _ _ => pts_nil) (fun _ _ _ _ _ => pe_op (r := rCatW K) op_catWK (pe_ix (r := rIxT K) ix_tupK (pv 20) pe_int (fun _ _ => rfl)) (pe_tup (pa_cons (pe_ix (r := rIxL K) ix_listK (pv 4) pe_int (fun _ _ => rfl)) pa_nil))))))))
 (pss_one (ps_for PassesOwn.never rfl (pi_list (pe_slice sl_list (pe_df D.shuf hr (pa_cons (pv 2) (pa_cons (pv 8) pa_nil))) po_none (po_some pe_int))) (pg_name (i := 11) nd rfl (Or.inl rfl))
 (pss_cons (ps_set (i := 12) nd rfl (Or.inl rfl) (pe_df D.fw hr (pa_cons (pv 2) (pa_cons (pv 5) (pa_cons (pv 11) (pa_cons (pv 7) pa_nil))))))
 (pss_cons (ps_par (i := 13) (j := 14) (by rfl) nd rfl rfl (by decide) rfl rfl (pa_cons (pe_callTy call_list_of (by rfl) T.list (by decide +kernel) (pa_cons (pv 12) pa_nil)) (pa_cons (pe_df D.due hr (pa_cons (pv 5) (pa_cons (pv 12) (pa_cons (pv 7) pa_nil)))) pa_nil)) (by rfl))
 (pss_cons (ps_for PassesOwn.never rfl (pi_range1 rfl T.range (pa_cons pe_int pa_nil)) (pg_name (i := 15) nd rfl (Or.inl rfl))
 (pss_cons (ps_set (i := 16) nd rfl (Or.inl rfl) (pe_df D.vf hr (pa_cons (pv 6) (pa_cons (pv 12) (pa_cons (pv 7) pa_nil)))))
 (pss_cons (ps_if (PW.pt (pw_or (pt_cmpR op_ne (pe_callB (call_reprDK (K := K) hG hr.units) (by rfl) T.repr (by decide +kernel) (pa_cons (pv 16) pa_nil)) (pe_callB (call_reprDK (K := K) hG hr.units) (by rfl) T.repr (by decide +kernel) (pa_cons (pv 14) pa_nil)) (nomark _)) (pw_or1 (pt_cmpR (op_neD hr.units) (pv 12) (pv 13) (nomark _))))) pss_dead pss_nil)
 (pss_one (ps_expr (pe_bm PySem.F.plainAttrs_list PySem.F.slot_list_append PySem.F.type_list_append mt_append (pv 16) (pa_cons pe_non pa_nil)))))))
 (pss_cons (ps_if (pt_cmpR (op_neD hr.units) (pe_df D.vf hr (pa_cons (pv 6) (pa_cons (pe_callTy call_tuple_of (by rfl) T.tuple (by decide +kernel) (pa_cons (pv 12) pa_nil)) (pa_cons (pv 7) pa_nil)))) (pv 14) (nomark _)) pss_dead pss_nil)
 (pss_cons (ps_set (i := 17) nd rfl (Or.inl rfl) (pe_make (E := E0) (dvs := []) mR FR (hr.mono (by decide)) (by rfl) D.gR bR .nil (fun _ _ _ _ _ _ _ z => False.elim z) (pa_cons (pv 6) pa_nil) (by decide) rfl rfl))
 (pss_cons (ps_for PassesOwn.never rfl (pi_list (pv 14)) (pg_tup rfl (pgs_cons (pg_name (i := 18) nd rfl (Or.inl rfl)) (pgs_cons (pg_name (i := 19) nd rfl (Or.inl rfl)) pgs_nil)))
 (pss_one (ps_expr (pe_meth (E := E0) (dvs := []) (pv 17) D.r.cls mA FA (hr.mono (by decide)) bA .nil (fun _ _ _ _ _ _ _ z => z) (pa_cons (pv 19) (pa_cons (pv 18) pa_nil))))))
 (pss_cons (ps_set (i := 16) nd rfl (Or.inl rfl) (pe_methN (E := E0) (pv 17) D.r.cls mF FF (hr.mono (by decide)) kF (fun _ _ _ _ _ _ _ z => z) (pa_cons (pv 11) (pa_cons (pv 7) pa_nil)) (pk_cons (pe_op op_sub (pe_callB call_len_seq (by rfl) T.len PySem.boot_len (pa_cons (pv 12) pa_nil)) pe_int) pk_nil)))
 (pss_one (ps_if (pt_cmpR (op_neD hr.units) (pe_ix ix_tup (pv 16) pe_int (fun _ _ => rfl)) (pv 12) (nomark _)) pss_dead pss_nil)))))))))))))))))))))
 (pss_one (ps_ret (pe_cmpR (op_eqD hr.units) (pe_df D.vf hr (pa_cons (pe_make0 (E := E0) (dvs := []) mI FI (hr.mono (by decide)) (by rfl) D.sm.gS bI .nil (fun _ _ _ _ _ _ _ z => False.elim z)) (pa_cons (pe_lst (pa_cons (pe_tup pa_nil) pa_nil)) (pa_cons pe_int pa_nil)))) (pe_lst pa_nil) (nomark _))))), ?_⟩
    -- what stands but for tables
    obtain ⟨HT, eHT⟩ : ∃ HT, HT = noT H := ⟨_, rfl⟩
    have hS : SqL K HT a (ns.map V.int) := eHT ▸ ext_L noT_ext hS0
    have sHT : Same HT H := eHT ▸ noT_same
    have tHT : ∀ b ps, HT b ≠ some (.tbl ps) := eHT ▸ noT_t0
    clear eHT
    have rangeN : ∃ N : Nat, (if (if (((ns.map V.int).length : Nat) : Int) < 4 then (((ns.map V.int).length : Nat) : Int) else 4) > 1 then (if (((ns.map V.int).length : Nat) : Int) < 4 then (((ns.map V.int).length : Nat) : Int) else 4) else 1) = (N : Int) ∧ N ≤ 4 := by
      generalize (ns.map V.int).length = l
      by_cases h1 : (l : Int) < 4
      · rw [if_pos h1]
        by_cases h2 : (l : Int) > 1
        · exact ⟨l, if_pos h2, by omega⟩
        · exact ⟨1, if_neg h2, by decide⟩
      · rw [if_neg h1]
        exact ⟨4, rfl, by decide⟩
    obtain ⟨N, eN, hN⟩ := rangeN
    refine ⟨_, rfl, a, _, rfl, .inl hS0, _, _, rfl, _, _, rfl, (N : Int), by rw [eN], by omega, by omega, for_range (lo := 0) (n := (N : Int).toNat) (fun i σ G => Same HT G ∧ LamX.Tabs (TT P1 P2) G ∧ ∃ v1 v2 v3 v4 v5 v6 v7 v8 v9 v10 v11 v12 v13 v14 v15 v16 v17 v18 v19, σ = [some (.ref a), v1, v2, v3, v4, v5, v6, v7, v8, v9, v10, v11, v12, v13, v14, v15, v16, v17, v18, v19, none])
      ⟨sHT, hTb, none, none, none, none, none, none, none, none, none, none, none, none, none, none, none, none, none, none, none, rfl⟩ ?_ ?_⟩
    · rintro j σ G hj ⟨sG, TG, v1, v2, v3, v4, v5, v6, v7, v8, v9, v10, v11, v12, v13, v14, v15, v16, v17, v18, v19, rfl⟩
      refine ⟨_, rfl, _, rfl, a, ns, _, 1048576, rfl, sG.seq hS, hlen, by decide, by decide, hb, by omega, by omega, fun wa G1 nwa W1 s1 => ?_⟩
      have A0 : Bare HT wa := ⟨sG.free nwa, tHT⟩
      have sG1 := sG.trans s1
      have TG1 := TG.ext s1
      clear sG TG nwa s1
      refine ⟨2, rfl, by decide, by decide, for_range (lo := 0) (n := 2) (fun i σ G => Same HT G ∧ Sm G wa ∧ LamX.Tabs (TT P1 P2) G ∧ ∃ v3 v4 v5 v6 v7 v8 v9 v10 v11 v12 v13 v14 v15 v16 v17 v18 v19, σ = [some (.ref a), some (.int (0 + (j : Int))), some (.ref wa), v3, v4, v5, v6, v7, v8, v9, v10, v11, v12, v13, v14, v15, v16, v17, v18, v19, none])
        ⟨sG1, W1, TG1, v3, v4, v5, v6, v7, v8, v9, v10, v11, v12, v13, v14, v15, v16, v17, v18, v19, rfl⟩ ?_ ?_⟩
      · clear sG1 W1 TG1
        rintro j1 σ G hj1 ⟨sG, W1, T1, v3, v4, v5, v6, v7, v8, v9, v10, v11, v12, v13, v14, v15, v16, v17, v18, v19, rfl⟩
        refine ⟨_, rfl, wa, rfl, W1, fun pa zs G2 hpa hzm h2z hlz W2 s2 => ?_⟩
        have hne : zs ≠ [] := fun e => by rw [e] at h2z; exact absurd h2z (by decide)
        have hwz : ∀ z ∈ zs, Wd z := fun z hz => wdt (hzm z hz)
        refine ⟨_, rfl, _, rfl, wa, pa, zs, 4, rfl, by decide, by decide, W2, hpa, hne, by omega, hzm, fun hl h G4 hA hok hpos h4 low W4 s4 nhl => ?_⟩
        have hpa4 := s4 _ _ (W2.ne hpa (notSm_strs _)) hpa
        have sG4 := A0.same sG ((ExB.sb s2).trans (.sb s4))
        have T4 := tabs_sb W2 s4 (tabs_sb W1 s2 T1)
        clear s2 s4 W2 W1 T1 sG hpa
        have asc := asc_sortH hok.asc
        have few : (sortH h).length ≤ 10 := by unfold sortH; rw [List.length_map]; exact hok.few
        have rng : ∀ r ∈ sortH h, 0 ≤ r.1 ∧ r.1 ≤ 1000000 := fun r hr => by
          obtain ⟨t, ht, rfl⟩ := List.mem_map.mp hr
          have := (hok.each t ht).lo
          have := (hok.each t ht).hi
          exact ⟨by omega, show t.1 ≤ 1000000 by omega⟩
        have goodH : ∀ r ∈ h, Good r.2 := fun r hr => (hok.each r hr).g
        refine ⟨_, rfl, hl, h, rfl, hA, hok, fun G5 sv Dd Td s5 nD nT srv => ?_⟩
        have nDw : Dd ≠ wa := fun e => by
          obtain ⟨_, _, z, _⟩ := W4
          rw [e, z] at nD
          cases nD
        have W5 := W4.same s5
        have T5 := T4.ext s5
        have sG5 := sG4.trans s5
        have hA5 := hA.same s5
        have hpa5 := s5 _ _ hpa4
        clear W4 T4 sG4 hA hpa4 s5 nD nT
        -- the day
        have lp : 0 < h.length := List.length_pos_iff.mpr hpos
        obtain ⟨hxs, hx5, hp5⟩ := id hA5
        have lhx := Paired.length hp5
        obtain ⟨xl, hxl⟩ : ∃ x, hxs[hxs.length - 1]? = some x := ⟨_, List.getElem?_eq_getElem (by omega)⟩
        obtain ⟨rl, erl, pl0, ll0, _, rfl, hpl, _⟩ := pair_get hp5 hxl
        rw [lhx] at erl
        have rl0 := (hok.each rl (List.mem_of_getElem? erl)).lo
        have rl1 := low rl (List.mem_of_getElem? erl)
        refine ⟨_, rfl, 1, rfl, hl, hxs, _, _, rfl, rfl, .of hx5, at_last (by omega) hxl, pl0, _, _, _, rfl, rfl, hpl, at0, _, rfl, (show 4 ≤ sizeLine by decide), fun il nil => ?_⟩
        have y1 := Same.new (o := .lst (([0, 0, 1, 3] : List Int).map V.int)) nil
        refine ⟨wa, il, ([0, 0, 1, 3] : List Int).map V.int, rfl, W5.same y1, .of upd_same, trivial, by decide, by decide, fun v G6 hv W6 b6 => ?_⟩
        have Wy := W5.same y1
        have sG6 := A0.same sG5 ((ExB.of y1).trans (.sb b6))
        have T6 := tabs_sb Wy b6 (T5.ext y1)
        have hA6 := (hA5.same y1).sb Wy b6
        have srv6 := (srv.same y1).sb Wy nDw b6
        have hpa6 := b6 _ _ (Wy.ne (y1 _ _ hpa5) (notSm_strs _)) (y1 _ _ hpa5)
        obtain ⟨c, hc, rfl⟩ := List.mem_map.mp hv
        have hc : 0 ≤ c ∧ c ≤ 3 := by
          simp only [List.mem_cons, List.not_mem_nil, or_false] at hc
          omega
        clear W5 T5 sG5 hA5 hpa5 Wy y1 b6 nil hv hx5 hp5 hpl srv lhx hxl
        refine ⟨_, _, rfl, rfl, ?_⟩
        obtain ⟨day, eday⟩ : ∃ day, day = rl.1 + c := ⟨_, rfl⟩
        change gName 7 (V.int (rl.1 + c)) _ _ _
        rw [← eday]
        have d0 : 0 ≤ day := by omega
        have d1 : day ≤ 100 := by omega
        have bg : Beg h day := beg_of hok hpos fun r hr => by rw [erl] at hr; cases hr; omega
        clear eday hc erl rl0 rl1
        refine ⟨(show 0 ≤ sizeLine by decide), fun t0 ht0 => ⟨(show 1 ≤ sizeLine by decide), fun sl hsl => ?_⟩⟩
        have x1 := Same.new (o := .tup []) ht0
        have x2 := Same.new (o := .lst [V.ref t0]) hsl
        have x12 := x1.trans x2
        have ksl := upd_same (H := upd G6 t0 (.tup [])) (a := sl) (o := .lst [V.ref t0])
        have kt0 : SqT K (upd (upd G6 t0 (.tup [])) sl (.lst [V.ref t0])) t0 (([] : List Str).map V.str) := same_T x2 (.of upd_same)
        dsimp only [tNil, tCons, tC]
        generalize upd (upd G6 t0 (.tup [])) sl (.lst [V.ref t0]) = G8 at ksl kt0 x12 ⊢
        clear x1 x2 ht0 hsl
        have s4 := x12
        have W8 := W6.same s4
        have T8 := T6.ext s4
        have sG8 := sG6.trans s4
        have srv8 := srv6.same s4
        have hA8 := hA6.same s4
        obtain ⟨xs, hx8, hp8⟩ := id hA8
        have hpa8 := s4 _ _ hpa6
        have lx := Paired.length hp8
        clear W6 T6 sG6 srv6 hA6 hpa6 x12 s4
        -- the addresses
        refine ⟨_, rfl, hl, rfl, ⟨_, .of hx8⟩, for_list (K := K) (a := hl) (xs := xs) (fun i2 σ G => Same G8 G ∧ ∃ sl v9 v10 ys pls, σ = [some (.ref a), some (.int (0 + (j : Int))), some (.ref wa), some (.int (0 + (j1 : Int))), some (.ref pa), some (.ref hl), some (.ref sv), some (.int day), some (.ref sl), v9, v10, v11, v12, v13, v14, v15, v16, v17, v18, v19, none] ∧ G sl = some (.lst ys) ∧ Places K G ys pls ∧ (∀ x ∈ pls, AllWd x ∧ x.length ≤ 4) ∧ pls.length ≤ 1 + 10 * i2 ∧ 1 ≤ pls.length)
          ⟨Same.refl _, sl, _, _, [.ref t0], [[]], rfl, ksl, .cons ⟨t0, rfl, kt0⟩ .nil, (fun x hx => by rw [List.mem_singleton.mp hx]; exact ⟨(fun z hz => nomatch hz), Nat.zero_le 4⟩), Nat.le_refl _, Nat.le_refl _⟩ (fun i2 σ G _ z => .of (z.1 _ _ hx8)) ?_ ?_⟩
        · rintro i2 xx σ G hxi ⟨sG6, sl, v9, v10, ys, pls, rfl, ksl, pl, okp, lp, lp1⟩
          obtain ⟨r, er, p, l, rys, rfl, hp2, nlD, hl2, hR⟩ := pair_get hp8 hxi
          have okr := hok.each r (List.mem_of_getElem? er)
          have hi2 := (List.getElem?_eq_some_iff.mp er).1
          have lr := hR.length
          have f5 := okr.few
          refine ⟨p, _, rfl, same_T sG6 hp2, rfl, _, _, rfl, _, _, rfl, rfl, ?_⟩
          refine ⟨_, rfl, _, rfl, l, rfl, ⟨_, .of (sG6 _ _ hl2)⟩, fun D1 hD1 => ?_⟩
          have stay : ∀ {G A : Hp} {o : HO} {c : Addr}, Same G A → G c = none → Same G (upd A c o) := fun {G A o c} z n b u e => by
            rw [upd_ne (ne_of_none e n)]
            exact z b u e
          refine lc_list (K := K) (a := l) (xs := rys) (fun j2 G' => Same G G' ∧ ∃ qs, G' D1 = some (.lst qs) ∧ Places K G' qs ((r.2.take j2).map Rl.pl)) ⟨Same.new hD1, [], upd_same, .nil⟩ (fun j2 G' _ z => .of (z.1 _ _ (sG6 _ _ hl2))) ?_ ?_
          · rintro j2 y G' hy ⟨s', qs, kD, pq⟩
            obtain ⟨t, et, ra, rp, rx, rfl, t1, t2, t3⟩ := hR.get hy
            have hj2 := (List.getElem?_eq_some_iff.mp et).1
            have sA := sG6.trans s'
            refine ⟨rfl, ?_⟩
            dsimp only [tYes]
            have lq := Paired.length pq
            rw [List.length_map, List.length_take] at lq
            refine iteT ⟨_, rfl, ra, _, _, _, rfl, rfl, same_T sA t1, at1, qs, kD, Nat.lt_of_le_of_lt (show qs.length ≤ 5 by omega) (by decide), stay s' hD1, qs ++ [.ref rp], upd_same, ?_⟩
            rw [List.take_add_one, et]
            show Places K _ _ (((r.2.take j2) ++ [t]).map Rl.pl)
            rw [List.map_append]
            exact (Paired.mono (fun _ _ ⟨b, e, z⟩ => ⟨b, e, sqT_list kD z⟩) pq).snoc ⟨rp, rfl, sqT_list kD (same_T sA t2)⟩
          · rintro Ga ⟨sa, qs, kD, pq⟩
            rw [List.take_of_length_le (by omega)] at pq
            have lq := Paired.length pq
            rw [List.length_map] at lq
            have lys := Paired.length pl
            have sA := sG6.trans sa
            refine ⟨sl, D1, ys, qs, rfl, rfl, sa _ _ ksl, kD, Nat.le_trans (show ys.length + qs.length ≤ 100 by omega) (by decide), fun sl2 hsl2 nsl2 => ?_⟩
            have y1 := Same.new (o := .lst (ys ++ qs)) hsl2
            have k1 := upd_same (H := Ga) (a := sl2) (o := .lst (ys ++ qs))
            have sB := sA.trans y1
            have plB : Places K (upd Ga sl2 (.lst (ys ++ qs))) (ys ++ qs) (pls ++ r.2.map Rl.pl) := Paired.append (Paired.mono (fun _ _ ⟨b, e, z⟩ => ⟨b, e, same_T (sa.trans y1) z⟩) pl) (Paired.mono (fun _ _ ⟨b, e, z⟩ => ⟨b, e, same_T y1 z⟩) pq)
            generalize upd Ga sl2 (.lst (ys ++ qs)) = Gb at y1 k1 sB plB ⊢
            clear sA sa kD pq
            refine ⟨_, rfl, l, rfl, ⟨_, .of (sB _ _ hl2)⟩, fun D2 hD2 => ?_⟩
            have hz0 : ∃ z0, zs[0]? = some z0 := by
              cases zs with
              | nil => exact absurd rfl hne
              | cons z0 zr => exact ⟨z0, rfl⟩
            obtain ⟨z0, ez0⟩ := hz0
            have wz0 := hwz z0 (List.mem_of_getElem? ez0)
            have atz : atI (zs.map V.str) 0 = some (V.str z0) := by
              cases zs with
              | nil => exact absurd rfl hne
              | cons z1 zr =>
                cases ez0
                exact at0
            refine lc_list (K := K) (a := l) (xs := rys) (fun j2 G' => Same Gb G' ∧ ∃ qs, G' D2 = some (.lst qs) ∧ Places K G' qs ((r.2.take j2).map fun t => t.pl ++ [z0])) ⟨Same.new hD2, [], upd_same, .nil⟩ (fun j2 G' _ z => .of (z.1 _ _ (sB _ _ hl2))) ?_ ?_
            · rintro j2 y G' hy ⟨s', qs, kD, pq⟩
              obtain ⟨t, et, ra, rp, rx, rfl, t1, t2, t3⟩ := hR.get hy
              have hj2 := (List.getElem?_eq_some_iff.mp et).1
              have okt := okr.t3 t (List.mem_of_getElem? et)
              have sA := sB.trans s'
              refine ⟨rfl, ?_⟩
              dsimp only [tYes]
              have lq := Paired.length pq
              rw [List.length_map, List.length_take] at lq
              refine iteT ⟨_, rfl, ra, _, _, _, rfl, rfl, same_T sA t1, at1, _, rfl, pa, _, _, _, rfl, rfl, .of (sA _ _ hpa8), atz, (show 1 ≤ sizeLine by decide), fun u1 hu1 => ?_⟩
              have x1 := Same.new (o := .tup [V.str z0]) hu1
              have ku1 : SqT K (upd G' u1 (.tup [V.str z0])) u1 (([z0] : List Str).map V.str) := .of upd_same
              have kD1 := x1 _ _ kD
              have t2' := same_T x1 (same_T sA t2)
              have pq1 : Places K (upd G' u1 (.tup [V.str z0])) qs ((r.2.take j2).map fun t => t.pl ++ [z0]) := Paired.mono (fun _ _ ⟨b, e, z⟩ => ⟨b, e, same_T x1 z⟩) pq
              have s1' := s'.trans x1
              generalize upd G' u1 (.tup [V.str z0]) = G1' at x1 ku1 kD1 t2' pq1 s1' ⊢
              refine ⟨rp, u1, _, _, rfl, rfl, t2', ku1, by rw [List.length_map, List.length_map]; exact Nat.le_trans (show t.pl.length + ([z0] : List Str).length ≤ 4 by have := okt.2.1; rw [List.length_singleton]; omega) (by decide), fun np G2' s2' hnp => ?_⟩
              rw [← List.map_append] at hnp
              have kD2 := s2' _ _ kD1
              refine ⟨qs, kD2, Nat.lt_of_le_of_lt (show qs.length ≤ 5 by omega) (by decide), stay (s1'.trans s2') hD2, qs ++ [.ref np], upd_same, ?_⟩
              rw [List.take_add_one, et]
              show Places K _ _ (((r.2.take j2) ++ [t]).map fun t => t.pl ++ [z0])
              rw [List.map_append]
              exact (Paired.mono (fun _ _ ⟨b, e, z⟩ => ⟨b, e, sqT_list kD2 (same_T s2' z)⟩) pq1).snoc ⟨np, rfl, sqT_list kD2 hnp⟩
            · rintro Gc ⟨sc, qs2, kD2, pq2⟩
              rw [List.take_of_length_le (by omega)] at pq2
              have lq2 := Paired.length pq2
              rw [List.length_map] at lq2
              refine ⟨sl2, D2, ys ++ qs, qs2, rfl, rfl, sc _ _ k1, kD2, Nat.le_trans (show (ys ++ qs).length + qs2.length ≤ 100 by rw [List.length_append]; omega) (by decide), fun sl3 hsl3 nsl3 => ?_⟩
              have y2 := Same.new (o := .lst (ys ++ qs ++ qs2)) hsl3
              refine ⟨sB.trans (sc.trans y2), sl3, _, _, _, _, rfl, upd_same, Paired.append (Paired.mono (fun _ _ ⟨b, e, z⟩ => ⟨b, e, same_T (sc.trans y2) z⟩) plB) (Paired.mono (fun _ _ ⟨b, e, z⟩ => ⟨b, e, same_T y2 z⟩) pq2), fun x hx => ?_, by simp only [List.length_append, List.length_map]; omega, by simp only [List.length_append, List.length_map]; omega⟩
              rcases List.mem_append.mp hx with hx | hx
              · rcases List.mem_append.mp hx with hx | hx
                · exact okp x hx
                · obtain ⟨t, ht, rfl⟩ := List.mem_map.mp hx
                  have t3 := okr.t3 t ht
                  exact ⟨fun z hz => wdt (t3.1 z hz), Nat.le_succ_of_le t3.2.1⟩
              · obtain ⟨t, ht, rfl⟩ := List.mem_map.mp hx
                have t3 := okr.t3 t ht
                refine ⟨fun z hz => ?_, by rw [List.length_append, List.length_singleton]; have := t3.2.1; omega⟩
                rcases List.mem_append.mp hz with hz | hz
                · exact wdt (t3.1 z hz)
                · rw [List.mem_singleton.mp hz]
                  exact wz0
        · rintro σ G9 ⟨s9, sl, v9, v10, ys, pls, rfl, ksl, pl, okp, lp, lp1⟩
          have lp : pls.length ≤ 41 := by
            rw [lx] at lp
            omega
          have W9 := W8.same s9
          have T9 := T8.ext s9
          have sG9 := sG8.trans s9
          have srv9 := srv8.same s9
          have hA9 := hA8.same s9
          have lys := Paired.length pl
          have ne0 : ys ≠ [] := fun e => by
            rw [e, List.length_nil] at lys
            omega
          clear W8 T8 sG8 srv8 hA8 hx8 hp8 hpa8 s9
          refine ⟨_, rfl, _, rfl, wa, sl, ys, rfl, W9, .of ksl, by omega, fun sh qs G10 ksh hmem hlq W10 s10 nsh => ?_⟩
          refine ⟨6, rfl, sh, qs, rfl, .of ksh, fun cl ncl => ?_⟩
          rw [show cutV qs none (some 6) = qs.take 6 from cut_upto _ 6]
          have y1 := Same.new (o := .lst (qs.take 6)) ncl
          have kcl := upd_same (H := G10) (a := cl) (o := .lst (qs.take 6))
          have sx := (ExB.sb s10).trans (.of (wa := wa) y1)
          have W11 := W10.same y1
          have T11 := (tabs_sb W9 s10 T9).ext y1
          have sG11 := A0.same sG9 sx
          have srv11 := (srv9.sb W9 nDw s10).same y1
          have hA11 := (hA9.sb W9 s10).same y1
          have pl11 : Places K (upd G10 cl (.lst (qs.take 6))) ys pls := Paired.mono (fun _ _ ⟨b, e, z⟩ => ⟨b, e, same_T y1 (smT W9 s10 z)⟩) pl
          clear W9 T9 sG9 srv9 hA9 ksl pl W10 s10 nsh ksh
          generalize upd G10 cl (.lst (qs.take 6)) = G11 at y1 kcl sx W11 T11 sG11 srv11 hA11 pl11 ⊢
          have clw : cl ≠ wa := fun e => by
            have refs := places_refs pl11
            have r6 : ∀ x ∈ qs.take 6, ∃ p, x = V.ref p := fun x hx => refs x (hmem x (List.mem_of_mem_take hx))
            exact W11.ne kcl (notSm_refs r6) e
          -- what stands while walks are looked at
          obtain ⟨Gb, eGb⟩ : ∃ Gb, Gb = offT wa G11 := ⟨_, rfl⟩
          have AB : Bare Gb wa := eGb ▸ offT_bare
          have sB : Same Gb G11 := eGb ▸ offT_same
          have sHb : Same HT Gb := fun b o e => eGb ▸ offT_exb b o (ne_of_none e A0.w0) (sG11 b o e) fun ps q => A0.t0 b ps (q ▸ e)
          have hAb : HistAt K Gb hl h := eGb ▸ offT_H W11 hA11
          have kclb : Gb cl = some (.lst (qs.take 6)) := eGb ▸ offT_exb cl _ clw kcl (fun _ e => nomatch e)
          have plb : Places K Gb ys pls := eGb ▸ Paired.mono (fun _ _ ⟨b, e, z⟩ => ⟨b, e, offT_T W11 z⟩) pl11
          have srvb : SrvAt P w K CT CS Gb sv Dd Td (sortH h) := by
            obtain ⟨H1, e1, e2⟩ := offT_two (wa := wa) (H := G11)
            rw [eGb]
            exact (srv11.sb W11 nDw e1).ext e2
          clear eGb y1 sx sG11 srv11 hA11 pl11 kcl clw
          have pick : ∀ v ∈ ys, ∃ p ws, v = V.ref p ∧ SqT K Gb p (ws.map V.str) ∧ AllWd ws ∧ ws.length ≤ 4 := fun v hv => by
            obtain ⟨p, ws, e, hm, hs⟩ := places_mem plb hv
            exact ⟨p, ws, e, hs, okp ws hm⟩
          refine ⟨cl, rfl, ⟨_, .of (sB _ _ kclb)⟩, for_list (K := K) (a := cl) (xs := qs.take 6) (fun i2 σ G => Same Gb G ∧ Sm G wa ∧ LamX.Tabs (TT P1 P2) G ∧ ∃ v11 v12 v13 v14 v15 v16 v17 v18 v19, σ = [some (.ref a), some (.int (0 + (j : Int))), some (.ref wa), some (.int (0 + (j1 : Int))), some (.ref pa), some (.ref hl), some (.ref sv), some (.int day), some (.ref sl), v9, v10, v11, v12, v13, v14, v15, v16, v17, v18, v19, none])
            ⟨sB, W11, T11, v11, v12, v13, v14, v15, v16, v17, v18, v19, rfl⟩ (fun i2 σ G _ z => .of (z.1 _ _ kclb)) ?_ ?_⟩
          · clear sB W11 T11
            rintro i2 x0 σ G hx0 ⟨sG, WG, TG, v11, v12, v13, v14, v15, v16, v17, v18, v19, rfl⟩
            obtain ⟨p, ws, rfl, hp0, hw, lw⟩ := pick x0 (hmem _ (List.mem_of_mem_take (List.mem_of_getElem? hx0)))
            refine ⟨_, rfl, _, rfl, _, rfl, _, rfl, wa, hl, p, h, ws, day, rfl, WG, TG, hAb.same sG, hok, bg, same_T sG hp0, hw, by omega, fun G1 wl wxs wk e1 W1 T1 nwl kwl pwl wok lwk far => ?_⟩
            have s1 := AB.same sG e1
            clear sG WG TG e1 nwl
            refine ⟨_, rfl, wl, _, rfl, .inl (.of kwl), fun se hse => ?_⟩
            have y1 := Same.new (o := .lst wxs) hse
            have kse := upd_same (H := G1) (a := se) (o := .lst wxs)
            have W2 := W1.same y1
            have T2 := T1.ext y1
            have s2 := s1.trans y1
            have kwl2 := y1 _ _ kwl
            have pwl2 : Places K (upd G1 se (.lst wxs)) wxs (ws :: wk) := Paired.mono (fun _ _ ⟨b, e, z⟩ => ⟨b, e, same_T y1 z⟩) pwl
            clear W1 T1 s1 kwl pwl hse
            generalize upd G1 se (.lst wxs) = G2 at y1 kse W2 T2 s2 kwl2 pwl2 ⊢
            clear y1
            refine ⟨_, rfl, _, rfl, _, rfl, hl, wl, h, day, wxs, ws :: wk, rfl, T2, hAb.same s2, bg, d0, by omega, kwl2, pwl2, wok, by rw [List.length_cons]; omega, (fun x hx => ⟨(far x hx).1, by have := (far x hx).2; omega⟩), fun Gd dl dys e3 T3 kdl pdl => ⟨_, _, rfl, ?_⟩⟩
            have s3 := AB.same s2 (.ext e3)
            have W3 := smExt W2 e3
            have kwl3 := e3 _ _ kwl2 (fun _ e => nomatch e)
            have kse3 := e3 _ _ kse (fun _ e => nomatch e)
            have pwl3 : Places K Gd wxs (ws :: wk) := Paired.mono (fun _ _ ⟨b, e, z⟩ => ⟨b, e, ext_T e3 z⟩) pwl2
            have srv3 := srvb.same s3
            clear W2 T2 s2 kwl2 kse pwl2 e3
            obtain ⟨vs, evs⟩ : ∃ vs, vs = sortV (dueL h day (prs (ws :: wk))) := ⟨_, rfl⟩
            rw [← evs] at pdl
            have one : (vs.map (·.2)).Nodup := evs ▸ due_one wok
            have fit : ∀ v ∈ vs, 0 ≤ v.1 ∧ v.1 ≤ day ∧ v.2 ∈ ws :: wk ∧ ∃ tg n, redir (forceL h v.1) v.2 = some (tg, n) ∧ 0 < n := fun v hv => due_fit bg d0 (evs ▸ hv)
            have pw : vs.Pairwise fun a b => a.1 ≤ b.1 := evs ▸ sortV_pair _
            have lvs : vs.length ≤ 8 := by
              rw [evs, (sortV_perm _).length_eq]
              have := due_len h day (prs (ws :: wk))
              rw [prs_len, List.length_cons] at this
              omega
            have smal := due_small (vs := vs) (fun v hv => let ⟨a, b, c, _⟩ := fit v hv; ⟨a, by omega, far v.2 c⟩) (by omega)
            have shd := due_shaped (vs := vs) fun v hv => (far v.2 (fit v hv).2.2.1).1
            have shp := shaped_pls (l := ws :: wk) fun x hx => (far x hx).1.low
            have far9 : ∀ x ∈ ws :: wk, AllWd x ∧ x.length ≤ 900 := fun x hx => ⟨(far x hx).1, by have := (far x hx).2; omega⟩
            have lw9 : (ws :: wk).length ≤ 100 := by rw [List.length_cons]; omega
            have dpd : ∀ {G : Hp}, Same Gd G → Dp K G (.ref dl) (.list (vs.map visD)) := fun {G} sg => .lst (.of (sg _ _ kdl)) (vis_dp (Paired.mono (fun _ _ q => VisR.mono q fun _ _ z => same_T sg z) pdl))
            have dpw : ∀ {G : Hp} {b : Addr}, Same Gd G → G b = some (.lst wxs) → Dp K G (.ref b) (.list ((ws :: wk).map wt)) := fun {G b} sg k => places_list k (Paired.mono (fun _ _ ⟨b, e, z⟩ => ⟨b, e, same_T sg z⟩) pwl3)
            have lwx := Paired.length pwl3
            -- told twice
            refine ⟨2, rfl, by decide, by decide, for_range (lo := 0) (n := 2) (fun i σ G => Same Gd G ∧ ∃ v15 v16, σ = [some (.ref a), some (.int (0 + (j : Int))), some (.ref wa), some (.int (0 + (j1 : Int))), some (.ref pa), some (.ref hl), some (.ref sv), some (.int day), some (.ref sl), v9, v10, some (.ref p), some (.ref wl), some (.ref se), some (.ref dl), v15, v16, v17, v18, v19, none])
              ⟨Same.refl Gd, v15, v16, rfl⟩ ?_ ?_⟩
            · rintro i8 σ Ga hi8 ⟨sa, v15, v16, rfl⟩
              refine ⟨_, rfl, _, rfl, _, rfl, sv, wl, Dd, Td, sortH h, day, wxs, ws :: wk, rfl, srv3.same sa, by omega, .inl (sa _ _ kwl3), (Paired.mono (fun _ _ ⟨b, e, z⟩ => ⟨b, e, same_T sa z⟩) pwl3), lw9, far9, fun Gc q2 zs2 sc nq kq pq => ?_⟩
              rw [due_sort goodH, ← evs] at pq
              have lz := Paired.length pq
              have sac := sa.trans sc
              refine ⟨_, rfl, .ref q2, _, rfl, .lst (.of kq) (vis_dp pq), smal.2, smal.1, _, rfl, .ref dl, _, rfl, dpd sac, smal.2, smal.1, rfl, _, rfl, ?_⟩
              rw [show (!decide (V.str (PyData.list (vs.map visD)).shown = V.str (PyData.list (vs.map visD)).shown)) = false by simp]
              refine iteF ⟨_, rfl, _, rfl, _, _, dpw sac (sac _ _ kwl3), dpw sac (sac _ _ kse3), shp, shp, _, rfl, ?_⟩
              rw [eqv_pls]
              refine iteF ⟨_, rfl, Or.inl ⟨rfl, _, Or.inl (Or.inl kq)⟩, q2, zs2, _, rfl, rfl, kq, Nat.lt_of_le_of_lt (show zs2.length ≤ 8 by omega) (by decide), ?_⟩
              exact ⟨fun b o e => (upd_ne (ne_of_none (sa _ _ e) nq)).trans (sac _ _ e), _, _, rfl⟩
            · rintro σ Ga ⟨sa, v15, v16, rfl⟩
              -- by a tuple
              refine ⟨_, rfl, _, rfl, wl, _, rfl, .inl ⟨.of (sa _ _ kwl3), fun tp htp => ?_⟩⟩
              have y1 := Same.new (o := .tup wxs) htp
              have ktp : SqT K (upd Ga tp (.tup wxs)) tp wxs := .of upd_same
              have s1 := sa.trans y1
              clear sa htp
              generalize upd Ga tp (.tup wxs) = G1 at y1 ktp s1 ⊢
              clear y1
              refine ⟨_, rfl, sv, tp, Dd, Td, sortH h, day, wxs, ws :: wk, rfl, srv3.same s1, by omega, .inr ktp, (Paired.mono (fun _ _ ⟨b, e, z⟩ => ⟨b, e, same_T s1 z⟩) pwl3), lw9, far9, fun Gc q2 zs2 sc nq kq pq => ?_⟩
              rw [due_sort goodH, ← evs] at pq
              have s2 := s1.trans sc
              refine ⟨_, rfl, _, _, .lst (.of kq) (vis_dp pq), dpd s2, shd, shd, _, rfl, ?_⟩
              rw [eqv_due]
              clear pq kq nq sc s1 ktp
              refine iteF ⟨_, rfl, ?_⟩
              intro x dx hx hdx ne
              have y0 : Same Gc (upd (upd Gc dx (.own x)) x (.ins CR dx [])) := fun b o e => by
                rw [upd_ne (ne_of_none e hx), upd_ne (ne_of_none e hdx)]
                exact e
              refine ⟨x, dx, sv, Dd, Td, sortH h, rfl, upd_same, (srv3.same s2).same y0, asc, rng, by omega, fun G6 D2 T2 M2 fr nD2 nT2 nM2 RR => ⟨rfl, ?_⟩⟩
              have s6 : Same Gd G6 := fun b o e => fr b o (ne_of_none (s2 _ _ e) hx) (y0 _ _ (s2 _ _ e))
              have nx : Gd x = none := s2.free hx
              have nM : Gd M2 = none := s2.free (y0.free nM2)
              clear s2 y0 fr nD2 nT2 nM2 hx hdx ne
              -- the visits
              refine ⟨_, rfl, dl, rfl, ⟨_, .of (s6 _ _ kdl)⟩, for_list (K := K) (a := dl) (xs := dys) (fun i σ G => Same Gd G ∧ ∃ dy m v18 v19, σ = [some (.ref a), some (.int (0 + (j : Int))), some (.ref wa), some (.int (0 + (j1 : Int))), some (.ref pa), some (.ref hl), some (.ref sv), some (.int day), some (.ref sl), v9, v10, some (.ref p), some (.ref wl), some (.ref se), some (.ref dl), v15, v16, some (.ref x), v18, v19, none] ∧ RdrAt P w K CT CS CR G x D2 T2 M2 dy (sortH h) m ∧ Told h m (vs.take i) ∧ dy ≤ day ∧ ∀ u ∈ vs.drop i, dy ≤ u.1)
                ⟨s6, 0, [], v18, v19, rfl, RR, told_nil h, d0, fun u hu => (fit u (List.mem_of_mem_drop hu)).1⟩ (fun i σ G _ z => .of (z.1 _ _ kdl)) ?_ ?_⟩
              · clear s6 RR
                rintro i y σ G hy ⟨sg, dy, m, v18, v19, rfl, R, tl, ld, lo⟩
                obtain ⟨u, eu, t, pu, rfl, ht, hpu⟩ := pair_getF pdl hy
                have mu := List.mem_of_getElem? eu
                obtain ⟨u0, u1, um, tg, n, er, hn⟩ := fit u mu
                have ed : vs.drop i = u :: vs.drop (i + 1) := by
                  rw [List.drop_eq_getElem_cons (List.getElem?_eq_some_iff.mp eu).1]
                  rw [(List.getElem?_eq_some_iff.mp eu).2]
                have et : vs.take (i + 1) = vs.take i ++ [u] := by rw [List.take_add_one, eu]; rfl
                have lu := lo u (by rw [ed]; exact List.mem_cons_self)
                have nu : u.2 ∉ (vs.take i).map (·.2) := fun hm => by
                  have e2 : vs = vs.take i ++ vs.drop i := (List.take_append_drop i vs).symm
                  rw [e2, List.map_append, List.nodup_append] at one
                  exact one.2.2 _ hm _ (by rw [ed]; exact List.mem_cons_self) rfl
                have few8 := tl.few
                rw [List.length_take] at few8
                obtain ⟨dxr, svr, Hbr, hxr, _⟩ := id R
                have lu9 := (far u.2 um).2
                refine ⟨t, _, rfl, same_T sg ht, rfl, _, _, rfl, _, _, rfl, rfl, ?_⟩
                refine ⟨_, rfl, x, dxr, _, rfl, hxr, rfl, _, rfl, _, rfl, x, pu, D2, T2, M2, dy, u.1, sortH h, m, u.2, rfl, R, by omega, u0, by omega, lu, same_T sg hpu, by omega, by omega, fun y2 G2 fr2 R2 _ => ?_⟩
                refine ⟨fun b o e => fr2 b o (ne_of_none e nx) (ne_of_none e nM) (sg b o e), u.1, _, _, _, rfl, R2, ?_, u1, fun v hv => ?_⟩
                · rw [et]
                  exact tl.ask goodH nu er hn
                · have := pw
                  rw [← List.take_append_drop i vs, List.pairwise_append, ed, List.pairwise_cons] at this
                  exact this.2.1.1 v hv
              · rintro σ G ⟨sg, dy, m, v18, v19, rfl, R, tl, ld, lo⟩
                have ldy := Paired.length pdl
                rw [List.take_of_length_le (by omega)] at tl
                have st : ∀ p ∈ prs (ws :: wk), stepT (sortH h) m day p.1 = some p.2 := fun p hp => told_step bg d0 wok (evs ▸ tl) hp
                have wb := walk_back (rs := inForce (sortH h) day) st
                obtain ⟨dxr, svr, Hbr, hxr, _⟩ := id R
                have few8 := tl.few
                have elw : ((wxs.length : Nat) : Int) - 1 = ((wk.length : Nat) : Int) := by
                  rw [lwx, List.length_cons]
                  omega
                have er := walk_room wb fun x hx => (far x hx).2
                refine ⟨_, rfl, x, dxr, _, rfl, hxr, rfl, _, rfl, _, rfl, _, rfl, wl, _, rfl, .inl (.of (sg _ _ kwl3)), _, _, rfl, rfl, rfl, rfl, ?_⟩
                change spRFol P w K CT CS CR [V.ref x, V.ref p, V.int day, V.int (((wxs.length : Nat) : Int) - 1)] G _ _
                rw [elw]
                refine ⟨x, p, D2, T2, M2, dy, day, ((wk.length : Nat) : Int), sortH h, m, ws, rfl, R, by omega, d0, by omega, ld, by omega, by omega, same_T (s3.trans sg) hp0, er, fun t2 wl2 xs2 y2 Gc sc nt2 nwl2 ntw2 kt2 kwl2 px2 dy2 => ?_⟩
                have sgc := sg.trans sc
                have px3 : Places K Gc xs2 (ws :: wk) := by
                  have := px2
                  rw [show ((wk.length : Nat) : Int).toNat = wk.length from Int.toNat_natCast _, wb] at this
                  exact this
                refine ⟨_, rfl, t2, _, _, _, rfl, rfl, kt2, at0, _, rfl, _, _, places_list kwl2 px3, dpw sgc (sgc _ _ kwl3), shp, shp, _, rfl, ?_⟩
                rw [eqv_pls]
                exact iteF ⟨s3.trans sgc, W3.same sgc, T3.ext sgc, _, _, _, _, _, _, _, _, _, rfl⟩
          · rintro σ G ⟨sG, WG, TG, v11, v12, v13, v14, v15, v16, v17, v18, v19, rfl⟩
            exact ⟨fun b o e => sG b o (sHb b o e), WG, TG, _, _, _, _, _, _, _, _, _, _, _, _, _, _, _, _, _, rfl⟩
      · rintro σ G ⟨sG, W1, T1, v3, v4, v5, v6, v7, v8, v9, v10, v11, v12, v13, v14, v15, v16, v17, v18, v19, rfl⟩
        exact ⟨sG, T1, _, _, _, _, _, _, _, _, _, _, _, _, _, _, _, _, _, _, _, rfl⟩
    · rintro σ G ⟨sG, TG, v1, v2, v3, v4, v5, v6, v7, v8, v9, v10, v11, v12, v13, v14, v15, v16, v17, v18, v19, rfl⟩
      clear sG TG
      intro x dx hx hdx ne
      refine ⟨x, dx, rfl, upd_same, fun G1 Dd Td fr nD nT srv => ⟨rfl, (show 0 ≤ sizeLine by decide), fun t0 ht0 => ⟨(show 1 ≤ sizeLine by decide), fun sl hsl => ?_⟩⟩⟩
      have x1 := Same.new (o := .tup []) ht0
      have x2 := Same.new (o := .lst [V.ref t0]) hsl
      have x12 := x1.trans x2
      have ksl := upd_same (H := upd G1 t0 (.tup [])) (a := sl) (o := .lst [V.ref t0])
      have kt0 : SqT K (upd (upd G1 t0 (.tup [])) sl (.lst [V.ref t0])) t0 (([] : List Str).map V.str) := same_T x2 (.of upd_same)
      dsimp only [tNil, tCons, tC]
      generalize upd (upd G1 t0 (.tup [])) sl (.lst [V.ref t0]) = G8 at ksl kt0 x12 ⊢
      refine ⟨x, sl, Dd, Td, [], 0, [.ref t0], [[]], rfl, srv.same x12, by decide, .inl ksl, .cons ⟨t0, rfl, kt0⟩ .nil, by decide, (fun u hu => by rw [List.mem_singleton.mp hu]; exact ⟨(fun z hz => nomatch hz), Nat.zero_le _⟩), fun Gc q2 zs2 sc nq kq pq => ?_⟩
      have e0 : sortV (dueL [] 0 (prs [[]])) = [] := List.length_eq_zero_iff.mp (by rw [(sortV_perm _).length_eq]; rfl)
      rw [e0] at pq
      cases pq
      refine ⟨(show 0 ≤ sizeLine by decide), fun d hd => ?_⟩
      refine ⟨.list [], .list [], .lst (.of ((Same.new (o := .lst []) hd) _ _ kq)) .nil, .lst (.of upd_same) .nil, (by decide +kernel), (by decide +kernel), ?_⟩
      rw [show PyData.eqv (.list []) (.list []) = true by simp [PyData.eqv, PyData.eqvAll]]
      exact q _
end
end K49
namespace K49
open PySem PySem.Spec PyProof.Rows L2 Ld
theorem kit_yes {K : PySem.W.Frag} {C C' : Addr} (s : PySem.W.subIn K (.ref C) (.ref C') = some true) (hc : PySem.W.isClsIn K C' = true) (ht : PySem.W.typeIn K (.ref C') = some (.type "type")) : PySem.W.kitOne K (.ref C) (.ref C') = some true := by
  unfold PySem.W.kitOne
  by_cases e2 : (Value.ref C == Value.ref C') = true
  · rw [if_pos e2]
  · rw [if_neg e2]
    show (if ((PySem.W.clsIn K C').isSome && PySem.W.typeIn K (.ref C') == some (.type "type")) = true then PySem.W.subIn K (.ref C) (.ref C') else none) = some true
    rw [show (PySem.W.clsIn K C').isSome = true from hc, ht, if_pos (by decide)]
    exact s
theorem kit_no {K : PySem.W.Frag} {C C' : Addr} (ne : (C == C') = false) (s : PySem.W.subIn K (.ref C) (.ref C') = some false) (hc : PySem.W.isClsIn K C' = true) (ht : PySem.W.typeIn K (.ref C') = some (.type "type")) : PySem.W.kitOne K (.ref C) (.ref C') = some false := by
  unfold PySem.W.kitOne
  have e2 : ¬ (Value.ref C == Value.ref C') = true := fun e => by
    have := eq_of_beq e
    injection this with e
    rw [e] at ne
    simp at ne
  rw [if_neg e2]
  show (if ((PySem.W.clsIn K C').isSome && PySem.W.typeIn K (.ref C') == some (.type "type")) = true then PySem.W.subIn K (.ref C) (.ref C') else none) = some false
  rw [show (PySem.W.clsIn K C').isSome = true from hc, ht, if_pos (by decide)]
  exact s
theorem kit_noT {K : PySem.W.Frag} {n : String} {C' : Addr} (s : PySem.W.subIn K (.type n) (.ref C') = some false) (hc : PySem.W.isClsIn K C' = true) (ht : PySem.W.typeIn K (.ref C') = some (.type "type")) : PySem.W.kitOne K (.type n) (.ref C') = some false := by
  unfold PySem.W.kitOne
  have e2 : ¬ (Value.type n == Value.ref C') = true := fun e => by cases eq_of_beq e
  rw [if_neg e2]
  show (if ((PySem.W.clsIn K C').isSome && PySem.W.typeIn K (.ref C') == some (.type "type")) = true then PySem.W.subIn K (.type n) (.ref C') else none) = some false
  rw [show (PySem.W.clsIn K C').isSome = true from hc, ht, if_pos (by decide)]
  exact s
theorem kit_noL {K : PySem.W.Frag} {C : Addr} (s : PySem.W.subIn K (.ref C) (.type "list") = some false) : PySem.W.kitOne K (.ref C) (.type "list") = some false := by
  unfold PySem.W.kitOne
  have e2 : ¬ (Value.ref C == Value.type "list") = true := fun e => by cases eq_of_beq e
  rw [if_neg e2]
  show (if PySem.W.kitMeta "list" = true then PySem.W.subIn K (.ref C) (.type "list") else none) = some false
  rw [if_pos (by decide +kernel)]
  exact s
theorem notF {K : PySem.W.Frag} {n : String} {C : Addr} (s : PySem.W.subIn K (.type n) (.ref C) = some false) : PySem.W.notFirst K C (.type n) = true := by
  unfold PySem.W.notFirst
  rw [s]
  simp
theorem tabIn_of {K : PySem.W.Frag} {x : Str} {f c Pt : Addr} {oc oc2 : Value} {od od2 : Option Addr} {fd : FuncData} {vs : Array Value} {sl sl2 : Array (Option Value)} (a : PySem.W.nsIn K mainGlobals x = some (some (.ref f))) (l : K.lookup f = some ⟨oc, od, .func fd, sl⟩) (e : fd.code = .ref c) (lc : K.lookup c = some ⟨oc2, od2, .fields vs, sl2⟩) (hv : (vs[11]? : Option Value) = some (.ref Pt)) : PySem.W.tabIn K x = some (c, Pt) := by
  unfold PySem.W.tabIn
  simp only [a, l, e, lc, hv]
def spAll (K : PySem.W.Frag) (C : Addr × Addr → Prop) : Sp := fun vs H Q E => ∀ p q, C p → C q → spLaw K p.2 q.2 vs H Q E
theorem fng_mono {P : Program} {w : World} {K : PySem.W.Frag} {mg : Str → Option Value} {base : Heap} {k : Nat} {f : Addr} {fd : FuncData} {ps : List Str} {sp sp2 : Sp} (F : FnG P w K mg base k f fd ps sp) (h : ∀ vs H Q E, sp2 vs H Q E → sp vs H Q E) : FnG P w K mg base k f fd ps sp2 :=
  ⟨fun vs H Q E x => F.long vs H Q E (h _ _ _ _ x), fun A outer s H args us vs Q E g r e b v x => F.goes A outer s H args us vs Q E g r e b v (h _ _ _ _ x)⟩
theorem all_mk {l : PySem.W.OpenLaw} {q : Program} {loose : List Str} {mean : ExcName → Option Value} {mb : Str → Option Value} {drf : DefRec} {cc Pt : Addr} {drf2 : DefRec} {cc2 Pt2 : Addr} {w : World} {K : PySem.W.Frag} {h : Heap} {mg : Str → Option Value} {fa : Addr} (X : K.In h) (G : h.Ns mainGlobals mg) (hfa : mg "law" = some (.ref fa))
    {f1 f2 f3 f4 f5 f6 f7 f8 f9 f10 f11 f12 f13 f14 f15 f16 f17 f18 f19 f20 f21 f22 f23 f24 f25 f26 f27 f28 f29 f30 f31 f32 f33 : Addr}
    {qTA qTF qSI qSS qST qSA qSG qSC qRI qRA qRH qRV : Addr}
    {od1 an1 od2 an2 od3 an3 od4 an4 od5 an5 od6 an6 od7 an7 od8 an8 od9 an9 od10 an10 od11 an11 od12 an12 od13 an13 od14 an14 od15 an15 od16 an16 od17 an17 od18 an18 od19 an19 od20 an20 od21 an21 od22 an22 od23 an23 od24 an24 od25 an25 od26 an26 od27 an27 od28 an28 od29 an29 od30 an30 od31 an31 od32 an32 od33 an33 odTAm anTAm odTFm anTFm odSIm anSIm odSSm anSSm odSTm anSTm odSAm anSAm odSGm anSGm odSCm anSCm odRIm anRIm odRAm anRAm odRHm anRHm odRVm anRVm odT anT : Option Addr}
    {sl1 sl2 sl3 sl4 sl5 sl6 sl7 sl8 sl9 sl10 sl11 sl12 sl13 sl14 sl15 sl16 sl17 sl18 sl19 sl20 sl21 sl22 sl23 sl24 sl25 sl26 sl27 sl28 sl29 sl30 sl31 sl32 sl33 slTAm slTFm slSIm slSSm slSTm slSAm slSGm slSCm slRIm slRAm slRHm slRVm slT : Array (Option Value)}
    {oc1 kV1 dc1 pm1 ct1 cd1 oc2 kV2 dc2 pm2 ct2 cd2 oc3 kV3 dc3 pm3 ct3 cd3 oc4 kV4 dc4 pm4 ct4 cd4 oc5 kV5 dc5 pm5 ct5 cd5 oc6 kV6 dc6 pm6 ct6 cd6 oc7 kV7 dc7 pm7 ct7 cd7 oc8 kV8 dc8 pm8 ct8 cd8 oc9 kV9 dc9 pm9 ct9 cd9 oc10 kV10 dc10 pm10 ct10 cd10 oc11 kV11 dc11 pm11 ct11 cd11 oc12 kV12 dc12 pm12 ct12 cd12 oc13 kV13 dc13 pm13 ct13 cd13 oc14 kV14 dc14 pm14 ct14 cd14 oc15 kV15 dc15 pm15 ct15 cd15 oc16 kV16 dc16 pm16 ct16 cd16 oc17 kV17 dc17 pm17 ct17 cd17 oc18 kV18 dc18 pm18 ct18 cd18 oc19 kV19 dc19 pm19 ct19 cd19 oc20 kV20 dc20 pm20 ct20 cd20 oc21 kV21 dc21 pm21 ct21 cd21 oc22 kV22 dc22 pm22 ct22 cd22 oc23 kV23 dc23 pm23 ct23 cd23 oc24 kV24 dc24 pm24 ct24 cd24 oc25 kV25 dc25 pm25 ct25 cd25 oc26 kV26 dc26 pm26 ct26 cd26 oc27 kV27 dc27 pm27 ct27 cd27 oc28 kV28 dc28 pm28 ct28 oc29 kV29 dc29 pm29 ct29 cd29 oc30 kV30 dc30 pm30 ct30 cd30 oc31 kV31 dc31 pm31 ct31 cd31 oc32 kV32 dc32 pm32 ct32 oc33 kV33 dc33 pm33 ct33 cd33 ocTAm kVTAm dcTAm pmTAm ctTAm cdTAm ocTFm kVTFm dcTFm pmTFm ctTFm cdTFm ocSIm kVSIm dcSIm pmSIm ctSIm cdSIm ocSSm kVSSm dcSSm pmSSm ctSSm cdSSm ocSTm kVSTm dcSTm pmSTm ctSTm cdSTm ocSAm kVSAm dcSAm pmSAm ctSAm cdSAm ocSGm kVSGm dcSGm pmSGm ctSGm cdSGm ocSCm kVSCm dcSCm pmSCm ctSCm cdSCm ocRIm kVRIm dcRIm pmRIm ctRIm cdRIm ocRAm kVRAm dcRAm pmRAm ctRAm cdRAm ocRHm kVRHm dcRHm pmRHm ctRHm cdRHm ocRVm kVRVm dcRVm pmRVm ctRVm cdRVm ocT kVT dcT pmT ctT cdT : Value}
    {CT CS CR fT dT eT kd fO dK : Addr} {edd odO anO : Option Addr} {eds dts slO : Array (Option Value)} {dtc ocO dcO pmO cdO ctO : Value} {dtd : Option Addr} {dn kn edn : Nat} {h1 h2 : Int} {t1' t2' u1 u2 tk : Tok}
    (a1 : PySem.W.nsIn K mainGlobals "is_number_to" = some (some (.ref f1)))
    (l1 : K.lookup f1 = some ⟨oc1, od1, .func (PySem.W.fnOf "is_number_to" "is_number_to" (defArgs sNum) (defBody sNum) (defScope sNum) .none kV1 dc1 pm1 an1 cd1 ct1), sl1⟩)
    (c1 : PySem.W.codeIn K cd1 "is_number_to" = true)
    (k1 : PySem.W.keepIn K (.ref f1) = true)
    (a2 : PySem.W.nsIn K mainGlobals "is_day" = some (some (.ref f2)))
    (l2 : K.lookup f2 = some ⟨oc2, od2, .func (PySem.W.fnOf "is_day" "is_day" (defArgs sIsDay) (defBody sIsDay) (defScope sIsDay) .none kV2 dc2 pm2 an2 cd2 ct2), sl2⟩)
    (c2 : PySem.W.codeIn K cd2 "is_day" = true)
    (k2 : PySem.W.keepIn K (.ref f2) = true)
    (a3 : PySem.W.nsIn K mainGlobals "is_word" = some (some (.ref f3)))
    (l3 : K.lookup f3 = some ⟨oc3, od3, .func (PySem.W.fnOf "is_word" "is_word" (defArgs sWord) (defBody sWord) (defScope sWord) .none kV3 dc3 pm3 an3 cd3 ct3), sl3⟩)
    (c3 : PySem.W.codeIn K cd3 "is_word" = true)
    (k3 : PySem.W.keepIn K (.ref f3) = true)
    (a4 : PySem.W.nsIn K mainGlobals "is_address" = some (some (.ref f4)))
    (l4 : K.lookup f4 = some ⟨oc4, od4, .func (PySem.W.fnOf "is_address" "is_address" (defArgs sAddr) (defBody sAddr) (defScope sAddr) .none kV4 dc4 pm4 an4 cd4 ct4), sl4⟩)
    (c4 : PySem.W.codeIn K cd4 "is_address" = true)
    (k4 : PySem.W.keepIn K (.ref f4) = true)
    (a5 : PySem.W.nsIn K mainGlobals "is_place" = some (some (.ref f5)))
    (l5 : K.lookup f5 = some ⟨oc5, od5, .func (PySem.W.fnOf "is_place" "is_place" (defArgs sPlace) (defBody sPlace) (defScope sPlace) .none kV5 dc5 pm5 an5 cd5 ct5), sl5⟩)
    (c5 : PySem.W.codeIn K cd5 "is_place" = true)
    (k5 : PySem.W.keepIn K (.ref f5) = true)
    (a6 : PySem.W.nsIn K mainGlobals "is_rule" = some (some (.ref f6)))
    (l6 : K.lookup f6 = some ⟨oc6, od6, .func (PySem.W.fnOf "is_rule" "is_rule" (defArgs sRule) (defBody sRule) (defScope sRule) .none kV6 dc6 pm6 an6 cd6 ct6), sl6⟩)
    (c6 : PySem.W.codeIn K cd6 "is_rule" = true)
    (k6 : PySem.W.keepIn K (.ref f6) = true)
    (a7 : PySem.W.nsIn K mainGlobals "_is_answer" = some (some (.ref f7)))
    (l7 : K.lookup f7 = some ⟨oc7, od7, .func (PySem.W.fnOf "_is_answer" "_is_answer" (defArgs sAnswer) (defBody sAnswer) (defScope sAnswer) .none kV7 dc7 pm7 an7 cd7 ct7), sl7⟩)
    (c7 : PySem.W.codeIn K cd7 "_is_answer" = true)
    (k7 : PySem.W.keepIn K (.ref f7) = true)
    (a8 : PySem.W.nsIn K mainGlobals "rest_of" = some (some (.ref f8)))
    (l8 : K.lookup f8 = some ⟨oc8, od8, .func (PySem.W.fnOf "rest_of" "rest_of" (defArgs sRest) (defBody sRest) (defScope sRest) .none kV8 dc8 pm8 an8 cd8 ct8), sl8⟩)
    (c8 : PySem.W.codeIn K cd8 "rest_of" = true)
    (k8 : PySem.W.keepIn K (.ref f8) = true)
    (a9 : PySem.W.nsIn K mainGlobals "rule_key" = some (some (.ref f9)))
    (l9 : K.lookup f9 = some ⟨oc9, od9, .func (PySem.W.fnOf "rule_key" "rule_key" (defArgs sRK) (defBody sRK) (defScope sRK) .none kV9 dc9 pm9 an9 cd9 ct9), sl9⟩)
    (c9 : PySem.W.codeIn K cd9 "rule_key" = true)
    (k9 : PySem.W.keepIn K (.ref f9) = true)
    (a10 : PySem.W.nsIn K mainGlobals "_answer_by" = some (some (.ref f10)))
    (l10 : K.lookup f10 = some ⟨oc10, od10, .func (PySem.W.fnOf "_answer_by" "_answer_by" (defArgs sBy) (defBody sBy) (defScope sBy) .none kV10 dc10 pm10 an10 cd10 ct10), sl10⟩)
    (c10 : PySem.W.codeIn K cd10 "_answer_by" = true)
    (k10 : PySem.W.keepIn K (.ref f10) = true)
    (a11 : PySem.W.nsIn K mainGlobals "is_end" = some (some (.ref f11)))
    (l11 : K.lookup f11 = some ⟨oc11, od11, .func (PySem.W.fnOf "is_end" "is_end" (defArgs sIsEnd) (defBody sIsEnd) (defScope sIsEnd) .none kV11 dc11 pm11 an11 cd11 ct11), sl11⟩)
    (c11 : PySem.W.codeIn K cd11 "is_end" = true)
    (k11 : PySem.W.keepIn K (.ref f11) = true)
    (a12 : PySem.W.nsIn K mainGlobals "_law_stream" = some (some (.ref f12)))
    (l12 : K.lookup f12 = some ⟨oc12, od12, .func (PySem.W.fnOf "_law_stream" "_law_stream" (defArgs sStream) (defBody sStream) (defScope sStream) .none kV12 dc12 pm12 an12 cd12 ct12), sl12⟩)
    (c12 : PySem.W.codeIn K cd12 "_law_stream" = true)
    (k12 : PySem.W.keepIn K (.ref f12) = true)
    (a13 : PySem.W.nsIn K mainGlobals "_law_draw" = some (some (.ref f13)))
    (l13 : K.lookup f13 = some ⟨oc13, od13, .func (PySem.W.fnOf "_law_draw" "_law_draw" (defArgs sDraw) (defBody sDraw) (defScope sDraw) .none kV13 dc13 pm13 an13 cd13 ct13), sl13⟩)
    (c13 : PySem.W.codeIn K cd13 "_law_draw" = true)
    (k13 : PySem.W.keepIn K (.ref f13) = true)
    (a14 : PySem.W.nsIn K mainGlobals "_law_choose" = some (some (.ref f14)))
    (l14 : K.lookup f14 = some ⟨oc14, od14, .func (PySem.W.fnOf "_law_choose" "_law_choose" (defArgs sChoose) (defBody sChoose) (defScope sChoose) .none kV14 dc14 pm14 an14 cd14 ct14), sl14⟩)
    (c14 : PySem.W.codeIn K cd14 "_law_choose" = true)
    (k14 : PySem.W.keepIn K (.ref f14) = true)
    (a15 : PySem.W.nsIn K mainGlobals "_law_shuffled" = some (some (.ref f15)))
    (l15 : K.lookup f15 = some ⟨oc15, od15, .func (PySem.W.fnOf "_law_shuffled" "_law_shuffled" (defArgs sShuf) (defBody sShuf) (defScope sShuf) .none kV15 dc15 pm15 an15 cd15 ct15), sl15⟩)
    (c15 : PySem.W.codeIn K cd15 "_law_shuffled" = true)
    (k15 : PySem.W.keepIn K (.ref f15) = true)
    (a16 : PySem.W.nsIn K mainGlobals "_law_words" = some (some (.ref f16)))
    (l16 : K.lookup f16 = some ⟨oc16, od16, .func (PySem.W.fnOf "_law_words" "_law_words" (defArgs sPool) (defBody sPool) (defScope sPool) .none kV16 dc16 pm16 an16 cd16 ct16), sl16⟩)
    (c16 : PySem.W.codeIn K cd16 "_law_words" = true)
    (k16 : PySem.W.keepIn K (.ref f16) = true)
    (a17 : PySem.W.nsIn K mainGlobals "_law_place" = some (some (.ref f17)))
    (l17 : K.lookup f17 = some ⟨oc17, od17, .func (PySem.W.fnOf "_law_place" "_law_place" (defArgs sPlaceOf) (defBody sPlaceOf) (defScope sPlaceOf) .none kV17 dc17 pm17 an17 cd17 ct17), sl17⟩)
    (c17 : PySem.W.codeIn K cd17 "_law_place" = true)
    (k17 : PySem.W.keepIn K (.ref f17) = true)
    (a18 : PySem.W.nsIn K mainGlobals "_law_told" = some (some (.ref f18)))
    (l18 : K.lookup f18 = some ⟨oc18, od18, .func (PySem.W.fnOf "_law_told" "_law_told" (defArgs sTold) (defBody sTold) (defScope sTold) .none kV18 dc18 pm18 an18 cd18 ct18), sl18⟩)
    (c18 : PySem.W.codeIn K cd18 "_law_told" = true)
    (k18 : PySem.W.keepIn K (.ref f18) = true)
    (a19 : PySem.W.nsIn K mainGlobals "_law_rules" = some (some (.ref f19)))
    (l19 : K.lookup f19 = some ⟨oc19, od19, .func (PySem.W.fnOf "_law_rules" "_law_rules" (defArgs sRulesOf) (defBody sRulesOf) (defScope sRulesOf) .none kV19 dc19 pm19 an19 cd19 ct19), sl19⟩)
    (c19 : PySem.W.codeIn K cd19 "_law_rules" = true)
    (k19 : PySem.W.keepIn K (.ref f19) = true)
    (a20 : PySem.W.nsIn K mainGlobals "_law_history" = some (some (.ref f20)))
    (l20 : K.lookup f20 = some ⟨oc20, od20, .func (PySem.W.fnOf "_law_history" "_law_history" (defArgs sHist) (defBody sHist) (defScope sHist) .none kV20 dc20 pm20 an20 cd20 ct20), sl20⟩)
    (c20 : PySem.W.codeIn K cd20 "_law_history" = true)
    (k20 : PySem.W.keepIn K (.ref f20) = true)
    (a21 : PySem.W.nsIn K mainGlobals "_law_server" = some (some (.ref f21)))
    (l21 : K.lookup f21 = some ⟨oc21, od21, .func (PySem.W.fnOf "_law_server" "_law_server" (defArgs sServer) (defBody sServer) (defScope sServer) .none kV21 dc21 pm21 an21 cd21 ct21), sl21⟩)
    (c21 : PySem.W.codeIn K cd21 "_law_server" = true)
    (k21 : PySem.W.keepIn K (.ref f21) = true)
    (a22 : PySem.W.nsIn K mainGlobals "address_key" = some (some (.ref f22)))
    (l22 : K.lookup f22 = some ⟨oc22, od22, .func (PySem.W.fnOf "address_key" "address_key" (defArgs sKey) (defBody sKey) (defScope sKey) .none kV22 dc22 pm22 an22 cd22 ct22), sl22⟩)
    (c22 : PySem.W.codeIn K cd22 "address_key" = true)
    (k22 : PySem.W.keepIn K (.ref f22) = true)
    (a23 : PySem.W.nsIn K mainGlobals "_law_answer" = some (some (.ref f23)))
    (l23 : K.lookup f23 = some ⟨oc23, od23, .func (PySem.W.fnOf "_law_answer" "_law_answer" (defArgs sLA) (defBody sLA) (defScope sLA) .none kV23 dc23 pm23 an23 cd23 ct23), sl23⟩)
    (c23 : PySem.W.codeIn K cd23 "_law_answer" = true)
    (k23 : PySem.W.keepIn K (.ref f23) = true)
    (a24 : PySem.W.nsIn K mainGlobals "_law_force" = some (some (.ref f24)))
    (l24 : K.lookup f24 = some ⟨oc24, od24, .func (PySem.W.fnOf "_law_force" "_law_force" (defArgs sForce) (defBody sForce) (defScope sForce) .none kV24 dc24 pm24 an24 cd24 ct24), sl24⟩)
    (c24 : PySem.W.codeIn K cd24 "_law_force" = true)
    (k24 : PySem.W.keepIn K (.ref f24) = true)
    (a25 : PySem.W.nsIn K mainGlobals "visits_for" = some (some (.ref f25)))
    (l25 : K.lookup f25 = some ⟨oc25, od25, .func (PySem.W.fnOf "visits_for" "visits_for" (defArgs sVF) (defBody sVF) (defScope sVF) .none kV25 dc25 pm25 an25 cd25 ct25), sl25⟩)
    (c25 : PySem.W.codeIn K cd25 "visits_for" = true)
    (k25 : PySem.W.keepIn K (.ref f25) = true)
    (a26 : PySem.W.nsIn K mainGlobals "_latest" = some (some (.ref f26)))
    (l26 : K.lookup f26 = some ⟨oc26, od26, .func (PySem.W.fnOf "_latest" "_latest" (defArgs sLat) (defBody sLat) (defScope sLat) .none kV26 dc26 pm26 an26 cd26 ct26), sl26⟩)
    (c26 : PySem.W.codeIn K cd26 "_latest" = true)
    (k26 : PySem.W.keepIn K (.ref f26) = true)
    (a27 : PySem.W.nsIn K mainGlobals "_visit_key" = some (some (.ref f27)))
    (l27 : K.lookup f27 = some ⟨oc27, od27, .func (PySem.W.fnOf "_visit_key" "_visit_key" (defArgs sVK) (defBody sVK) (defScope sVK) .none kV27 dc27 pm27 an27 cd27 ct27), sl27⟩)
    (c27 : PySem.W.codeIn K cd27 "_visit_key" = true)
    (k27 : PySem.W.keepIn K (.ref f27) = true)
    (a28 : PySem.W.nsIn K mainGlobals "_law_kept" = some (some (.ref f28)))
    (l28 : K.lookup f28 = some ⟨oc28, od28, .func (PySem.W.fnOf "_law_kept" "_law_kept" (defArgs sLKept) (defBody sLKept) (defScope sLKept) .none kV28 dc28 pm28 an28 (.ref cc) ct28), sl28⟩)
    (c28 : PySem.W.codeIn K (.ref cc) "_law_kept" = true)
    (k28 : PySem.W.keepIn K (.ref f28) = true)
    (a29 : PySem.W.nsIn K mainGlobals "_law_choices" = some (some (.ref f29)))
    (l29 : K.lookup f29 = some ⟨oc29, od29, .func (PySem.W.fnOf "_law_choices" "_law_choices" (defArgs sCho) (defBody sCho) (defScope sCho) .none kV29 dc29 pm29 an29 cd29 ct29), sl29⟩)
    (c29 : PySem.W.codeIn K cd29 "_law_choices" = true)
    (k29 : PySem.W.keepIn K (.ref f29) = true)
    (a30 : PySem.W.nsIn K mainGlobals "_law_free_walk" = some (some (.ref f30)))
    (l30 : K.lookup f30 = some ⟨oc30, od30, .func (PySem.W.fnOf "_law_free_walk" "_law_free_walk" (defArgs sFW) (defBody sFW) (defScope sFW) .none kV30 dc30 pm30 an30 cd30 ct30), sl30⟩)
    (c30 : PySem.W.codeIn K cd30 "_law_free_walk" = true)
    (k30 : PySem.W.keepIn K (.ref f30) = true)
    (a31 : PySem.W.nsIn K mainGlobals "_law_latest" = some (some (.ref f31)))
    (l31 : K.lookup f31 = some ⟨oc31, od31, .func (PySem.W.fnOf "_law_latest" "_law_latest" (defArgs sLate) (defBody sLate) (defScope sLate) .none kV31 dc31 pm31 an31 cd31 ct31), sl31⟩)
    (c31 : PySem.W.codeIn K cd31 "_law_latest" = true)
    (k31 : PySem.W.keepIn K (.ref f31) = true)
    (a32 : PySem.W.nsIn K mainGlobals "_law_due" = some (some (.ref f32)))
    (l32 : K.lookup f32 = some ⟨oc32, od32, .func (PySem.W.fnOf "_law_due" "_law_due" (defArgs sDue) (defBody sDue) (defScope sDue) .none kV32 dc32 pm32 an32 (.ref cc2) ct32), sl32⟩)
    (c32 : PySem.W.codeIn K (.ref cc2) "_law_due" = true)
    (k32 : PySem.W.keepIn K (.ref f32) = true)
    (a33 : PySem.W.nsIn K mainGlobals "law" = some (some (.ref f33)))
    (l33 : K.lookup f33 = some ⟨oc33, od33, .func (PySem.W.fnOf "law" "law" (defArgs sLaw) (defBody sLaw) (defScope sLaw) .none kV33 dc33 pm33 an33 cd33 ct33), sl33⟩)
    (c33 : PySem.W.codeIn K cd33 "law" = true)
    (k33 : PySem.W.keepIn K (.ref f33) = true)
    (z_isinstance : PySem.W.nsIn K mainGlobals "isinstance" = some none)
    (z_int : PySem.W.nsIn K mainGlobals "int" = some none)
    (z_bool : PySem.W.nsIn K mainGlobals "bool" = some none)
    (z_str : PySem.W.nsIn K mainGlobals "str" = some none)
    (z_tuple : PySem.W.nsIn K mainGlobals "tuple" = some none)
    (z_list : PySem.W.nsIn K mainGlobals "list" = some none)
    (z_len : PySem.W.nsIn K mainGlobals "len" = some none)
    (z_range : PySem.W.nsIn K mainGlobals "range" = some none)
    (z_repr : PySem.W.nsIn K mainGlobals "repr" = some none)
    (z_max : PySem.W.nsIn K mainGlobals "max" = some none)
    (z_min : PySem.W.nsIn K mainGlobals "min" = some none)
    (z_sorted : PySem.W.nsIn K mainGlobals "sorted" = some none)
    (z_reversed : PySem.W.nsIn K mainGlobals "reversed" = some none)
    (z_zip : PySem.W.nsIn K mainGlobals "zip" = some none)
    (z_enumerate : PySem.W.nsIn K mainGlobals "enumerate" = some none)
    (z_dict : PySem.W.nsIn K mainGlobals "dict" = some none)
    {t_WORD_LETTERS : Tok}
    (g_WORD_LETTERS : PySem.W.nsIn K mainGlobals "WORD_LETTERS" = some (some (.int 12 t_WORD_LETTERS)))
    {t_PLACE_WORDS : Tok}
    (g_PLACE_WORDS : PySem.W.nsIn K mainGlobals "PLACE_WORDS" = some (some (.int 4 t_PLACE_WORDS)))
    {t_MOST_DAYS : Tok}
    (g_MOST_DAYS : PySem.W.nsIn K mainGlobals "MOST_DAYS" = some (some (.int 10000 t_MOST_DAYS)))
    {t_MOST_RULES : Tok}
    (g_MOST_RULES : PySem.W.nsIn K mainGlobals "MOST_RULES" = some (some (.int 40 t_MOST_RULES)))
    {t_LAST_DAY : Tok}
    (g_LAST_DAY : PySem.W.nsIn K mainGlobals "LAST_DAY" = some (some (.int 1000000 t_LAST_DAY)))
    (d1 : PySem.W.nsIn K mainGlobals "OWN_KINDS" = some (some (.ref kd)))
    (d2 : K.lookup kd = some ⟨.type "dict", none, .dict #[⟨h1, .str "exact" t1', .str "page" u1⟩, ⟨h2, .str "open" t2', .str "section" u2⟩] kn, #[]⟩)
    (d3 : h1 = PyData.keyHash w.params "exact")
    (d4 : h2 = PyData.keyHash w.params "open")
    (d5 : (kd == sysModules) = false)
    (tb1 : PySem.W.nsIn K mainGlobals "Table" = some (some (.ref CT)))
    (tb2 : PySem.W.makesIn K CT = true)
    (tb3 : PySem.W.findIn K (.ref CT) "__init__" = some (some (.ref fT)))
    (tb4 : PySem.W.isFn K (.ref fT) = true)
    (tb5 : PySem.W.keepIn K (.ref CT) = true)
    (tb6 : K.lookup fT = some ⟨ocT, odT, .func (PySem.W.fnOf "__init__" "Table.__init__" (defArgs sInit) (defBody sInit) (defScope sInit) (.ref dT) kVT dcT pmT anT cdT ctT), slT⟩)
    (tb7 : PySem.W.codeIn K cdT "Table.__init__" = true)
    (tb8 : PySem.W.keepIn K (.ref fT) = true)
    (tb9 : K.lookup dT = some ⟨dtc, dtd, .seq #[.ref eT] dn, dts⟩)
    (te : K.lookup eT = some ⟨.type "tuple", edd, .seq #[] edn, eds⟩)
    (y1 : PySem.W.plainGet K CT Str.empty = true)
    (y2 : PySem.W.hasDictIn K CT = true)
    (y3 : PySem.W.plainOver K CT = true)
    (y4 : PySem.W.findIn K (.ref CT) "__setattr__" = some (some (.builtin "object.__setattr__")))
    (y5 : PySem.W.findIn K (.ref CT) "_rules" = some none)
    (y6 : PySem.W.findIn K (.ref CT) "_found" = some none)
    (y6b : PySem.W.findIn K (.ref CT) "_longest" = some none)
    (kn1 : PySem.W.specialIn K (.builtin "object.__class__") "__get__" = some (some (.builtin "getset_descriptor.__get__")))
    (kt1 : PySem.W.takesIn K (.builtin "object.__class__") = some true)
    (y7 : PySem.W.findIn K (.ref CT) "__class__" = some (some (.builtin "object.__class__")))
    (y8 : PySem.W.mroIn K CT (.type "object") = some true)
    (y9 : PySem.W.subIn K (.ref CT) (.ref CT) = some true)
    (y10 : PySem.W.isClsIn K CT = true)
    (y11 : PySem.W.typeIn K (.ref CT) = some (.type "type"))
    (sb1 : PySem.W.nsIn K mainGlobals "Server" = some (some (.ref CS)))
    (sb2 : PySem.W.makesIn K CS = true)
    (sb5 : PySem.W.keepIn K (.ref CS) = true)
    (sy1 : PySem.W.plainGet K CS Str.empty = true)
    (sy2 : PySem.W.hasDictIn K CS = true)
    (sy3 : PySem.W.plainOver K CS = true)
    (sy4 : PySem.W.findIn K (.ref CS) "__setattr__" = some (some (.builtin "object.__setattr__")))
    (sy5 : PySem.W.findIn K (.ref CS) "_days" = some none)
    (sy6 : PySem.W.findIn K (.ref CS) "_tables" = some none)
    (rd1 : PySem.W.nsIn K mainGlobals "Reader" = some (some (.ref CR)))
    (rd2 : PySem.W.makesIn K CR = true)
    (rd5 : PySem.W.keepIn K (.ref CR) = true)
    (ry1 : PySem.W.plainGet K CR Str.empty = true)
    (ry2 : PySem.W.hasDictIn K CR = true)
    (ry3 : PySem.W.plainOver K CR = true)
    (ry4 : PySem.W.findIn K (.ref CR) "__setattr__" = some (some (.builtin "object.__setattr__")))
    (ry5 : PySem.W.findIn K (.ref CR) "_server" = some none)
    (ry6 : PySem.W.findIn K (.ref CR) "_day" = some none)
    (ry7 : PySem.W.findIn K (.ref CR) "_held" = some none)
    (fo1 : PySem.W.findIn K (.ref CR) "follow" = some (some (.ref fO)))
    (fo2 : PySem.W.isFn K (.ref fO) = true)
    (fo3 : PySem.W.keepIn K (.ref fO) = true)
    (fo4 : K.lookup fO = some ⟨ocO, odO, .func (PySem.W.fnOf "follow" "Reader.follow" (defArgs sRFol) (defBody sRFol) (defScope sRFol) .none (.ref dK) dcO pmO anO cdO ctO), slO⟩)
    (fo5 : PySem.W.codeIn K cdO "Reader.follow" = true)
    (fo6 : PySem.W.nsIn K dK "steps" = some (some (.int 1000 tk)))
    (rc : (recsOf q).find? (fun e => e.name == ("_law_kept" : Str)) = some drf)
    {occ : Value} {odc : Option Addr} {vsc : Array Value} {slc : Array (Option Value)}
    (lc : K.lookup cc = some ⟨occ, odc, .fields vsc, slc⟩)
    (hv : (vsc[11]? : Option Value) = some (.ref Pt))
    (lp : K.lookup Pt = none)
    (rc2 : (recsOf q).find? (fun e => e.name == ("_law_due" : Str)) = some drf2)
    {occ2 : Value} {odc2 : Option Addr} {vsc2 : Array Value} {slc2 : Array (Option Value)}
    (lc2 : K.lookup cc2 = some ⟨occ2, odc2, .fields vsc2, slc2⟩)
    (hv2 : (vsc2[11]? : Option Value) = some (.ref Pt2))
    (lp2 : K.lookup Pt2 = none)
    (neP : Pt ≠ Pt2)
    (nTA : PySem.W.findIn K (.ref CT) "answer" = some (some (.ref qTA)))
    (sTA : PySem.W.isFn K (.ref qTA) = true)
    (xTA : K.lookup qTA = some ⟨ocTAm, odTAm, .func (PySem.W.fnOf "answer" "Table.answer" (defArgs sAns) (defBody sAns) (defScope sAns) .none kVTAm dcTAm pmTAm anTAm cdTAm ctTAm), slTAm⟩)
    (vTA : PySem.W.codeIn K cdTAm "Table.answer" = true)
    (wTA : PySem.W.keepIn K (.ref qTA) = true)
    (nTF : PySem.W.findIn K (.ref CT) "rule_for" = some (some (.ref qTF)))
    (sTF : PySem.W.isFn K (.ref qTF) = true)
    (xTF : K.lookup qTF = some ⟨ocTFm, odTFm, .func (PySem.W.fnOf "rule_for" "Table.rule_for" (defArgs sFor) (defBody sFor) (defScope sFor) .none kVTFm dcTFm pmTFm anTFm cdTFm ctTFm), slTFm⟩)
    (vTF : PySem.W.codeIn K cdTFm "Table.rule_for" = true)
    (wTF : PySem.W.keepIn K (.ref qTF) = true)
    (nSI : PySem.W.findIn K (.ref CS) "__init__" = some (some (.ref qSI)))
    (sSI : PySem.W.isFn K (.ref qSI) = true)
    (xSI : K.lookup qSI = some ⟨ocSIm, odSIm, .func (PySem.W.fnOf "__init__" "Server.__init__" (defArgs sSInit) (defBody sSInit) (defScope sSInit) .none kVSIm dcSIm pmSIm anSIm cdSIm ctSIm), slSIm⟩)
    (vSI : PySem.W.codeIn K cdSIm "Server.__init__" = true)
    (wSI : PySem.W.keepIn K (.ref qSI) = true)
    (nSS : PySem.W.findIn K (.ref CS) "set_table" = some (some (.ref qSS)))
    (sSS : PySem.W.isFn K (.ref qSS) = true)
    (xSS : K.lookup qSS = some ⟨ocSSm, odSSm, .func (PySem.W.fnOf "set_table" "Server.set_table" (defArgs sSSet) (defBody sSSet) (defScope sSSet) .none kVSSm dcSSm pmSSm anSSm cdSSm ctSSm), slSSm⟩)
    (vSS : PySem.W.codeIn K cdSSm "Server.set_table" = true)
    (wSS : PySem.W.keepIn K (.ref qSS) = true)
    (nST : PySem.W.findIn K (.ref CS) "table" = some (some (.ref qST)))
    (sST : PySem.W.isFn K (.ref qST) = true)
    (xST : K.lookup qST = some ⟨ocSTm, odSTm, .func (PySem.W.fnOf "table" "Server.table" (defArgs sSTable) (defBody sSTable) (defScope sSTable) .none kVSTm dcSTm pmSTm anSTm cdSTm ctSTm), slSTm⟩)
    (vST : PySem.W.codeIn K cdSTm "Server.table" = true)
    (wST : PySem.W.keepIn K (.ref qST) = true)
    (nSA : PySem.W.findIn K (.ref CS) "answer" = some (some (.ref qSA)))
    (sSA : PySem.W.isFn K (.ref qSA) = true)
    (xSA : K.lookup qSA = some ⟨ocSAm, odSAm, .func (PySem.W.fnOf "answer" "Server.answer" (defArgs sSAns) (defBody sSAns) (defScope sSAns) .none kVSAm dcSAm pmSAm anSAm cdSAm ctSAm), slSAm⟩)
    (vSA : PySem.W.codeIn K cdSAm "Server.answer" = true)
    (wSA : PySem.W.keepIn K (.ref qSA) = true)
    (nSG : PySem.W.findIn K (.ref CS) "sources" = some (some (.ref qSG)))
    (sSG : PySem.W.isFn K (.ref qSG) = true)
    (xSG : K.lookup qSG = some ⟨ocSGm, odSGm, .func (PySem.W.fnOf "sources" "Server.sources" (defArgs sSSrc) (defBody sSSrc) (defScope sSSrc) .none kVSGm dcSGm pmSGm anSGm cdSGm ctSGm), slSGm⟩)
    (vSG : PySem.W.codeIn K cdSGm "Server.sources" = true)
    (wSG : PySem.W.keepIn K (.ref qSG) = true)
    (nSC : PySem.W.findIn K (.ref CS) "copied" = some (some (.ref qSC)))
    (sSC : PySem.W.isFn K (.ref qSC) = true)
    (xSC : K.lookup qSC = some ⟨ocSCm, odSCm, .func (PySem.W.fnOf "copied" "Server.copied" (defArgs sSCopy) (defBody sSCopy) (defScope sSCopy) .none kVSCm dcSCm pmSCm anSCm cdSCm ctSCm), slSCm⟩)
    (vSC : PySem.W.codeIn K cdSCm "Server.copied" = true)
    (wSC : PySem.W.keepIn K (.ref qSC) = true)
    (nRI : PySem.W.findIn K (.ref CR) "__init__" = some (some (.ref qRI)))
    (sRI : PySem.W.isFn K (.ref qRI) = true)
    (xRI : K.lookup qRI = some ⟨ocRIm, odRIm, .func (PySem.W.fnOf "__init__" "Reader.__init__" (defArgs sRInit) (defBody sRInit) (defScope sRInit) .none kVRIm dcRIm pmRIm anRIm cdRIm ctRIm), slRIm⟩)
    (vRI : PySem.W.codeIn K cdRIm "Reader.__init__" = true)
    (wRI : PySem.W.keepIn K (.ref qRI) = true)
    (nRA : PySem.W.findIn K (.ref CR) "ask" = some (some (.ref qRA)))
    (sRA : PySem.W.isFn K (.ref qRA) = true)
    (xRA : K.lookup qRA = some ⟨ocRAm, odRAm, .func (PySem.W.fnOf "ask" "Reader.ask" (defArgs sRAsk) (defBody sRAsk) (defScope sRAsk) .none kVRAm dcRAm pmRAm anRAm cdRAm ctRAm), slRAm⟩)
    (vRA : PySem.W.codeIn K cdRAm "Reader.ask" = true)
    (wRA : PySem.W.keepIn K (.ref qRA) = true)
    (nRH : PySem.W.findIn K (.ref CR) "_check_day" = some (some (.ref qRH)))
    (sRH : PySem.W.isFn K (.ref qRH) = true)
    (xRH : K.lookup qRH = some ⟨ocRHm, odRHm, .func (PySem.W.fnOf "_check_day" "Reader._check_day" (defArgs sRChk) (defBody sRChk) (defScope sRChk) .none kVRHm dcRHm pmRHm anRHm cdRHm ctRHm), slRHm⟩)
    (vRH : PySem.W.codeIn K cdRHm "Reader._check_day" = true)
    (wRH : PySem.W.keepIn K (.ref qRH) = true)
    (nRV : PySem.W.findIn K (.ref CR) "_valid" = some (some (.ref qRV)))
    (sRV : PySem.W.isFn K (.ref qRV) = true)
    (xRV : K.lookup qRV = some ⟨ocRVm, odRVm, .func (PySem.W.fnOf "_valid" "Reader._valid" (defArgs sRVal) (defBody sRVal) (defScope sRVal) .none kVRVm dcRVm pmRVm anRVm cdRVm ctRVm), slRVm⟩)
    (vRV : PySem.W.codeIn K cdRVm "Reader._valid" = true)
    (wRV : PySem.W.keepIn K (.ref qRV) = true)
    (TT : Top q loose mean mg mb h) : ∃ (fd : FuncData) (cs : List (Addr × Addr)), (∀ p ∈ cs, h.get? p.2 = some { cls := .none, data := .fields #[] }) ∧ (∀ p ∈ cs, K.lookup p.2 = none) ∧ (∀ p ∈ cs, PySem.W.CodeHd h p.1 p.2) ∧ (∀ (s : Shared) (v : Value), BindsTo s fd ⟨[v], []⟩ [("_law_script", v)]) ∧ ∀ base : Heap, K.In base → base.Ns mainGlobals mg → (∀ p ∈ cs, LamX.TabB base mg p.1 p.2) → FnG l.prog w K mg base 13 fa fd ["_law_script"] (spAll K (· ∈ cs)) := by
  have e := hfa.symm.trans (PySem.W.mg_of X G a33)
  cases e
  have F1 := fun_mk (st := sNum) l1 c1 k1
  have b1 := F1.binds (ps := ["value", "highest"]) fun _ _ _ _ _ _ us hl => match us, hl with | [_, _], _ => rfl
  have m1 := PySem.W.mg_of X G a1
  have F2 := fun_mk (st := sIsDay) l2 c2 k2
  have b2 := F2.binds (ps := ["value"]) fun _ _ _ _ _ _ us hl => match us, hl with | [_], _ => rfl
  have m2 := PySem.W.mg_of X G a2
  have F3 := fun_mk (st := sWord) l3 c3 k3
  have b3 := F3.binds (ps := ["value"]) fun _ _ _ _ _ _ us hl => match us, hl with | [_], _ => rfl
  have m3 := PySem.W.mg_of X G a3
  have F4 := fun_mk (st := sAddr) l4 c4 k4
  have b4 := F4.binds (ps := ["value"]) fun _ _ _ _ _ _ us hl => match us, hl with | [_], _ => rfl
  have m4 := PySem.W.mg_of X G a4
  have F5 := fun_mk (st := sPlace) l5 c5 k5
  have b5 := F5.binds (ps := ["value"]) fun _ _ _ _ _ _ us hl => match us, hl with | [_], _ => rfl
  have m5 := PySem.W.mg_of X G a5
  have F6 := fun_mk (st := sRule) l6 c6 k6
  have b6 := F6.binds (ps := ["value"]) fun _ _ _ _ _ _ us hl => match us, hl with | [_], _ => rfl
  have m6 := PySem.W.mg_of X G a6
  have F7 := fun_mk (st := sAnswer) l7 c7 k7
  have b7 := F7.binds (ps := ["value", "own_kind"]) fun _ _ _ _ _ _ us hl => match us, hl with | [_, _], _ => rfl
  have m7 := PySem.W.mg_of X G a7
  have F8 := fun_mk (st := sRest) l8 c8 k8
  have b8 := F8.binds (ps := ["address", "beginning"]) fun _ _ _ _ _ _ us hl => match us, hl with | [_, _], _ => rfl
  have m8 := PySem.W.mg_of X G a8
  have F9 := fun_mk (st := sRK) l9 c9 k9
  have b9 := F9.binds (ps := ["rule"]) fun _ _ _ _ _ _ us hl => match us, hl with | [_], _ => rfl
  have m9 := PySem.W.mg_of X G a9
  have F10 := fun_mk (st := sBy) l10 c10 k10
  have b10 := F10.binds (ps := ["rule", "address"]) fun _ _ _ _ _ _ us hl => match us, hl with | [_, _], _ => rfl
  have m10 := PySem.W.mg_of X G a10
  have F11 := fun_mk (st := sIsEnd) l11 c11 k11
  have b11 := F11.binds (ps := ["answer"]) fun _ _ _ _ _ _ us hl => match us, hl with | [_], _ => rfl
  have m11 := PySem.W.mg_of X G a11
  have F12 := fun_mk (st := sStream) l12 c12 k12
  have b12 := F12.binds (ps := ["_law_script", "_law_start"]) fun _ _ _ _ _ _ us hl => match us, hl with | [_, _], _ => rfl
  have m12 := PySem.W.mg_of X G a12
  have F13 := fun_mk (st := sDraw) l13 c13 k13
  have b13 := F13.binds (ps := ["_law_stream_here", "_law_size"]) fun _ _ _ _ _ _ us hl => match us, hl with | [_, _], _ => rfl
  have m13 := PySem.W.mg_of X G a13
  have F14 := fun_mk (st := sChoose) l14 c14 k14
  have b14 := F14.binds (ps := ["_law_stream_here", "_law_items"]) fun _ _ _ _ _ _ us hl => match us, hl with | [_, _], _ => rfl
  have m14 := PySem.W.mg_of X G a14
  have F15 := fun_mk (st := sShuf) l15 c15 k15
  have b15 := F15.binds (ps := ["_law_stream_here", "_law_items"]) fun _ _ _ _ _ _ us hl => match us, hl with | [_, _], _ => rfl
  have m15 := PySem.W.mg_of X G a15
  have F16 := fun_mk (st := sPool) l16 c16 k16
  have b16 := F16.binds (ps := ["_law_stream_here"]) fun _ _ _ _ _ _ us hl => match us, hl with | [_], _ => rfl
  have m16 := PySem.W.mg_of X G a16
  have F17 := fun_mk (st := sPlaceOf) l17 c17 k17
  have b17 := F17.binds (ps := ["_law_stream_here", "_law_words_here"]) fun _ _ _ _ _ _ us hl => match us, hl with | [_, _], _ => rfl
  have m17 := PySem.W.mg_of X G a17
  have F18 := fun_mk (st := sTold) l18 c18 k18
  have b18 := F18.binds (ps := ["_law_stream_here", "_law_words_here", "_law_sort"]) fun _ _ _ _ _ _ us hl => match us, hl with | [_, _, _], _ => rfl
  have m18 := PySem.W.mg_of X G a18
  have F19 := fun_mk (st := sRulesOf) l19 c19 k19
  have b19 := F19.binds (ps := ["_law_stream_here", "_law_words_here", "_law_most"]) fun _ _ _ _ _ _ us hl => match us, hl with | [_, _, _], _ => rfl
  have m19 := PySem.W.mg_of X G a19
  have F20 := fun_mk (st := sHist) l20 c20 k20
  have b20 := F20.binds (ps := ["_law_stream_here", "_law_words_here", "_law_most"]) fun _ _ _ _ _ _ us hl => match us, hl with | [_, _, _], _ => rfl
  have m20 := PySem.W.mg_of X G a20
  have F21 := fun_mk (st := sServer) l21 c21 k21
  have b21 := F21.binds (ps := ["_law_history_here"]) fun _ _ _ _ _ _ us hl => match us, hl with | [_], _ => rfl
  have m21 := PySem.W.mg_of X G a21
  have F22 := fun_mk (st := sKey) l22 c22 k22
  have b22 := F22.binds (ps := ["address"]) fun _ _ _ _ _ _ us hl => match us, hl with | [_], _ => rfl
  have m22 := PySem.W.mg_of X G a22
  have F23 := fun_mk (st := sLA) l23 c23 k23
  have b23 := F23.binds (ps := ["_law_rules_here", "_law_address"]) fun _ _ _ _ _ _ us hl => match us, hl with | [_, _], _ => rfl
  have m23 := PySem.W.mg_of X G a23
  have F24 := fun_mk (st := sForce) l24 c24 k24
  have b24 := F24.binds (ps := ["_law_history_here", "_law_day"]) fun _ _ _ _ _ _ us hl => match us, hl with | [_, _], _ => rfl
  have m24 := PySem.W.mg_of X G a24
  have F25 := fun_mk (st := sVF) l25 c25 k25
  have b25 := F25.binds (ps := ["server", "walk", "day"]) fun _ _ _ _ _ _ us hl => match us, hl with | [_, _, _], _ => rfl
  have m25 := PySem.W.mg_of X G a25
  have F26 := fun_mk (st := sLat) l26 c26 k26
  have b26 := F26.binds (ps := ["sources", "address", "target"]) fun _ _ _ _ _ _ us hl => match us, hl with | [_, _, _], _ => rfl
  have m26 := PySem.W.mg_of X G a26
  have F27 := fun_mk (st := sVK) l27 c27 k27
  have b27 := F27.binds (ps := ["visit"]) fun _ _ _ _ _ _ us hl => match us, hl with | [_], _ => rfl
  have m27 := PySem.W.mg_of X G a27
  have F28 := fun_mk (st := sLKept) l28 c28 k28
  have b28 := F28.binds (ps := ["_law_history_here", "_law_address", "_law_day"]) fun _ _ _ _ _ _ us hl => match us, hl with | [_, _, _], _ => rfl
  have m28 := PySem.W.mg_of X G a28
  have F29 := fun_mk (st := sCho) l29 c29 k29
  have b29 := F29.binds (ps := ["_law_history_here", "_law_address", "_law_day"]) fun _ _ _ _ _ _ us hl => match us, hl with | [_, _, _], _ => rfl
  have m29 := PySem.W.mg_of X G a29
  have F30 := fun_mk (st := sFW) l30 c30 k30
  have b30 := F30.binds (ps := ["_law_stream_here", "_law_history_here", "_law_address", "_law_day"]) fun _ _ _ _ _ _ us hl => match us, hl with | [_, _, _, _], _ => rfl
  have m30 := PySem.W.mg_of X G a30
  have F31 := fun_mk (st := sLate) l31 c31 k31
  have b31 := F31.binds (ps := ["_law_history_here", "_law_address", "_law_target", "_law_day"]) fun _ _ _ _ _ _ us hl => match us, hl with | [_, _, _, _], _ => rfl
  have m31 := PySem.W.mg_of X G a31
  have F32 := fun_mk (st := sDue) l32 c32 k32
  have b32 := F32.binds (ps := ["_law_history_here", "_law_walk", "_law_day"]) fun _ _ _ _ _ _ us hl => match us, hl with | [_, _, _], _ => rfl
  have m32 := PySem.W.mg_of X G a32
  have F33 := fun_mk (st := sLaw) l33 c33 k33
  have MTA := fun_mk (st := sAns) xTA vTA wTA
  have BTA := MTA.binds (ps := ["self", "address"]) fun _ _ _ _ _ _ us hl => match us, hl with | [_, _], _ => rfl
  have MTF := fun_mk (st := sFor) xTF vTF wTF
  have BTF := MTF.binds (ps := ["self", "address"]) fun _ _ _ _ _ _ us hl => match us, hl with | [_, _], _ => rfl
  have MSI := fun_mk (st := sSInit) xSI vSI wSI
  have BSI := MSI.binds (ps := ["self"]) fun _ _ _ _ _ _ us hl => match us, hl with | [_], _ => rfl
  have MSS := fun_mk (st := sSSet) xSS vSS wSS
  have BSS := MSS.binds (ps := ["self", "day", "table"]) fun _ _ _ _ _ _ us hl => match us, hl with | [_, _, _], _ => rfl
  have MST := fun_mk (st := sSTable) xST vST wST
  have BST := MST.binds (ps := ["self", "day"]) fun _ _ _ _ _ _ us hl => match us, hl with | [_, _], _ => rfl
  have MSA := fun_mk (st := sSAns) xSA vSA wSA
  have BSA := MSA.binds (ps := ["self", "address", "day"]) fun _ _ _ _ _ _ us hl => match us, hl with | [_, _, _], _ => rfl
  have MSG := fun_mk (st := sSSrc) xSG vSG wSG
  have BSG := MSG.binds (ps := ["self", "day"]) fun _ _ _ _ _ _ us hl => match us, hl with | [_, _], _ => rfl
  have MSC := fun_mk (st := sSCopy) xSC vSC wSC
  have BSC := MSC.binds (ps := ["self"]) fun _ _ _ _ _ _ us hl => match us, hl with | [_], _ => rfl
  have MRI := fun_mk (st := sRInit) xRI vRI wRI
  have BRI := MRI.binds (ps := ["self", "server"]) fun _ _ _ _ _ _ us hl => match us, hl with | [_, _], _ => rfl
  have MRA := fun_mk (st := sRAsk) xRA vRA wRA
  have BRA := MRA.binds (ps := ["self", "address", "day"]) fun _ _ _ _ _ _ us hl => match us, hl with | [_, _, _], _ => rfl
  have MRH := fun_mk (st := sRChk) xRH vRH wRH
  have BRH := MRH.binds (ps := ["self", "day"]) fun _ _ _ _ _ _ us hl => match us, hl with | [_, _], _ => rfl
  have MRV := fun_mk (st := sRVal) xRV vRV wRV
  have BRV := MRV.binds (ps := ["self", "address", "day"]) fun _ _ _ _ _ _ us hl => match us, hl with | [_, _, _], _ => rfl
  have T : Tx mg := ⟨PySem.W.mg_none_of X G z_isinstance, PySem.W.mg_none_of X G z_int, PySem.W.mg_none_of X G z_bool, PySem.W.mg_none_of X G z_str, PySem.W.mg_none_of X G z_tuple, PySem.W.mg_none_of X G z_list, PySem.W.mg_none_of X G z_len, PySem.W.mg_none_of X G z_range, PySem.W.mg_none_of X G z_repr, PySem.W.mg_none_of X G z_max, PySem.W.mg_none_of X G z_min, ⟨_, PySem.W.mg_of X G g_WORD_LETTERS⟩, ⟨_, PySem.W.mg_of X G g_PLACE_WORDS⟩, ⟨_, PySem.W.mg_of X G g_MOST_DAYS⟩⟩
  have Y : Ty mg := ⟨PySem.W.mg_none_of X G z_sorted, PySem.W.mg_none_of X G z_reversed, ⟨_, PySem.W.mg_of X G g_MOST_RULES⟩⟩
  have zzip := PySem.W.mg_none_of X G z_zip
  have C : Tcl K CT := ⟨⟨y1, y2, y3, y4⟩, y5, y6, y6b⟩
  have gT := PySem.W.mg_of X G tb1
  have gS := PySem.W.mg_of X G sb1
  have zenum := PySem.W.mg_none_of X G z_enumerate
  have zdict := PySem.W.mg_none_of X G z_dict
  refine ⟨PySem.W.fnOf "law" "law" (defArgs sLaw) (defBody sLaw) (defScope sLaw) .none kV33 dc33 pm33 an33 cd33 ct33, [(cc, Pt), (cc2, Pt2)], fun p hp => ?_, fun p hp => ?_, fun p hp => ?_, fun s v => .of_eq rfl, fun base _ _ tabs => fng_mono (?_ : FnG l.prog w K mg base 13 fa _ ["_law_script"] (spLaw K Pt Pt2)) fun vs H Q E z => z (cc, Pt) (cc2, Pt2) (List.mem_cons_self) ((List.mem_cons_of_mem _ List.mem_cons_self))⟩
  · simp only [List.mem_cons, List.not_mem_nil, or_false] at hp
    rcases hp with rfl | rfl
    · exact (PySem.W.tab_of TT X rc (tabIn_of a28 l28 rfl lc hv)).2
    · exact (PySem.W.tab_of TT X rc2 (tabIn_of a32 l32 rfl lc2 hv2)).2
  · simp only [List.mem_cons, List.not_mem_nil, or_false] at hp
    rcases hp with rfl | rfl
    · exact lp
    · exact lp2
  · simp only [List.mem_cons, List.not_mem_nil, or_false] at hp
    rcases hp with rfl | rfl
    · exact (PySem.W.tab_of TT X rc (tabIn_of a28 l28 rfl lc hv)).1
    · exact (PySem.W.tab_of TT X rc2 (tabIn_of a32 l32 rfl lc2 hv2)).1
  have TB : LamX.TabB base mg cc Pt := tabs (cc, Pt) (List.mem_cons_self)
  have TB2 : LamX.TabB base mg cc2 Pt2 := tabs (cc2, Pt2) ((List.mem_cons_of_mem _ List.mem_cons_self))
  have Kk : Kinds K w mg kd _ kn := ⟨PySem.W.mg_of X G d1, ⟨d2, ⟨⟨_, _, rfl, d3⟩, ⟨_, _, rfl, d4⟩, trivial⟩, d5⟩, ⟨_, _, _, _, _, _, rfl, rfl, rfl, rfl, rfl⟩⟩
  have dNum : Df l.prog w K mg base 1 "is_number_to" ["value", "highest"] (spNum K) := ⟨_, _, m1, k1, b1, ok_num F1 T⟩
  have dWord : Df l.prog w K mg base 1 "is_word" ["value"] (spWord K) := ⟨_, _, m3, k3, b3, ok_word F3 T⟩
  have dAddr : Df l.prog w K mg base 2 "is_address" ["value"] (spAddr K) := ⟨_, _, m4, k4, b4, ok_addr F4 T dWord⟩
  have dPlace : Df l.prog w K mg base 3 "is_place" ["value"] (spPlace K) := ⟨_, _, m5, k5, b5, ok_place F5 T dAddr⟩
  have dDay : Df l.prog w K mg base 2 "is_day" ["value"] (spDay K) := ⟨_, _, m2, k2, b2, ok_isDay F2 (PySem.W.mg_of X G g_LAST_DAY) dNum⟩
  have dAns : Df l.prog w K mg base 4 "_is_answer" ["value", "own_kind"] (spAnswer K) := ⟨_, _, m7, k7, b7, ok_answer F7 T dNum dWord dPlace⟩
  have dRule : Df l.prog w K mg base 5 "is_rule" ["value"] (spRule K) := ⟨_, _, m6, k6, b6, ok_rule F6 T Kk dPlace dAns⟩
  have dRest : Df l.prog w K mg base 1 "rest_of" ["address", "beginning"] (spRest K) := ⟨_, _, m8, k8, b8, ok_rest F8 T⟩
  have dKey : Df l.prog w K mg base 1 "address_key" ["address"] (spKey K) := ⟨_, _, m22, k22, b22, ok_key F22 T⟩
  have dRK : Df l.prog w K mg base 2 "rule_key" ["rule"] (spRK K) := ⟨_, _, m9, k9, b9, ok_ruleKey F9 T dKey⟩
  have dBy : Df l.prog w K mg base 2 "_answer_by" ["rule", "address"] (spBy K) := ⟨_, _, m10, k10, b10, ok_by F10 T dRest⟩
  have dEnd : Df l.prog w K mg base 1 "is_end" ["answer"] (spIsEnd K) := ⟨_, _, m11, k11, b11, ok_isEnd F11 T⟩
  have dStr : Df l.prog w K mg base 1 "_law_stream" ["_law_script", "_law_start"] (spStream K) := ⟨_, _, m12, k12, b12, ok_stream F12 T⟩
  have dDraw : Df l.prog w K mg base 1 "_law_draw" ["_law_stream_here", "_law_size"] spDraw := ⟨_, _, m13, k13, b13, ok_draw F13 T⟩
  have dOne : Df l.prog w K mg base 2 "_law_choose" ["_law_stream_here", "_law_items"] (spChoose K) := ⟨_, _, m14, k14, b14, ok_choose F14 T dDraw⟩
  have dShS : Df l.prog w K mg base 2 "_law_shuffled" ["_law_stream_here", "_law_items"] (spShuf K) := ⟨_, _, m15, k15, b15, ok_shuf F15 T dDraw⟩
  have dPool : Df l.prog w K mg base 3 "_law_words" ["_law_stream_here"] spPool := ⟨_, _, m16, k16, b16, ok_pool F16 dDraw dShS⟩
  have dPl : Df l.prog w K mg base 3 "_law_place" ["_law_stream_here", "_law_words_here"] (spPlaceOf K) := ⟨_, _, m17, k17, b17, ok_placeOf F17 T dOne⟩
  have dTo : Df l.prog w K mg base 4 "_law_told" ["_law_stream_here", "_law_words_here", "_law_sort"] (spTold K) := ⟨_, _, m18, k18, b18, ok_told F18 dDraw dOne dPl⟩
  have dRs : Df l.prog w K mg base 5 "_law_rules" ["_law_stream_here", "_law_words_here", "_law_most"] (spRulesOf l.prog w K) := ⟨_, _, m19, k19, b19, ok_rulesOf F19 T dDraw dOne dPl dTo⟩
  have FT : FunD K "__init__" "Table.__init__" (defArgs sInit) (defBody sInit) (defScope sInit) [.ref eT] [] fT _ := ⟨⟨_, _, _, _, _, _, _, _, _, _, rfl, tb6, tb7, .inr ⟨by simp, dT, _, [.ref eT], dn, rfl, tb9, rfl, .cons rfl .nil⟩, .inl rfl⟩, tb8⟩
  obtain ⟨dsT, vT, bT⟩ := FT.binds1 (ps := ["self", "rules"]) 2 1 (by simp) rfl fun _ _ _ _ _ _ _ us its h1 h2 => match us, its, h1, h2 with | [_, _], [_], _, _ => ⟨_, rfl, rfl⟩
  cases vT
  have B : TmkB l.prog w K mg base CT := ⟨gT, fT, _, ⟨tb2, tb3, tb4, tb5⟩, bT, FnOk.both (ok_init FT T Y C dRule dRK) (ok_initT FT T Y C dRule dRK)⟩
  obtain ⟨dsE, vE, bE⟩ := FT.binds1 (ps := ["self", "rules"]) 1 0 (by simp) rfl fun _ _ _ _ _ _ _ us its h1 h2 => match us, its, h1, h2 with | [_], [_], _, _ => ⟨_, rfl, rfl⟩
  have B0 : Tmk0 l.prog w K mg base CT := ⟨gT, fT, _, eT, dsE, ⟨tb2, tb3, tb4, tb5⟩, vE, bE, ok_initE FT T Y C dRule dRK, fun H => .inr ⟨_, #[], _, te, rfl, rfl, Nat.zero_le _, .nil⟩⟩
  have IC : C8.InsC K CT := ⟨⟨y1, y2, y3, y4⟩, y7, kn1, kt1, y8, kit_yes y9 y10 y11⟩
  have S : Scl K CS := ⟨⟨sy1, sy2, sy3, sy4⟩, sy5, sy6⟩
  have R : Rcl K CR := ⟨⟨ry1, ry2, ry3, ry4⟩, ry5, ry6, ry7⟩
  have FF := ok_for (P := l.prog) (w := w) (base := base) MTF T C
  have FA := ok_ans MTA T C ⟨nTF, sTF, wTF⟩ FF BTF dBy
  have SFI := ok_sinit (P := l.prog) (w := w) (mg := mg) (base := base) (CT := CT) MSI S
  have SFS := ok_sset MSS T S IC gT dDay
  have SFG := ok_ssrc MSG T Y zzip S B0
  have SFT := ok_stable MST S ⟨nSG, sSG, wSG⟩ SFG BSG
  have SFA := ok_sans MSA S C ⟨nST, sST, wST⟩ SFT BST ⟨nTA, sTA, wTA⟩ FA BTA
  have SMK : Smk l.prog w K mg base CT CS := ⟨S, gS, ⟨qSI, _, ⟨sb2, nSI, sSI, sb5⟩, BSI, SFI⟩, ⟨qSS, _, ⟨nSS, sSS, wSS⟩, BSS, SFS⟩⟩
  have SFC := ok_scopy MSC zzip SMK
  have RFI := ok_rinit (P := l.prog) (w := w) (mg := mg) (base := base) (CT := CT) MRI S R ⟨nSC, sSC, wSC⟩ BSC SFC
  have RFH := ok_rchk (P := l.prog) (w := w) (base := base) MRH R dDay
  have RFV := ok_rval (P := l.prog) (w := w) (mg := mg) (base := base) MRV R
  have RFA := ok_rask MRA T S R ⟨nRH, sRH, wRH⟩ BRH RFH ⟨nRV, sRV, wRV⟩ BRV RFV ⟨nSA, sSA, wSA⟩ BSA SFA dEnd
  have FO : FunD K "follow" "Reader.follow" (defArgs sRFol) (defBody sRFol) (defScope sRFol) [] [("steps", .int 1000)] fO _ := ⟨⟨_, _, _, _, _, _, _, _, _, _, rfl, fo4, fo5, .inl ⟨rfl, rfl⟩, .inr ⟨dK, rfl, fun q hq => by rw [List.mem_singleton.mp hq]; exact ⟨_, fo6, ⟨_, rfl⟩⟩⟩⟩, fo3⟩
  obtain ⟨dsO, vO, bO⟩ := FO.binds0 (ps := ["self", "address", "day", "steps"]) 3 (by simp) rfl fun _ _ _ _ _ _ us ks h1 h2 => match us, ks, h1, h2 with | [_, _, _], [_], _, _ => ⟨_, _, _, _, _, _, rfl, rfl, rfl⟩
  have kO : KBn K _ ["self", "address", "day", "steps"] 3 ["steps"] (fun us ws => us ++ ws) gEnd := kb_end (fd := PySem.W.fnOf "follow" "Reader.follow" (defArgs sRFol) (defBody sRFol) (defScope sRFol) .none (.ref dK) dcO pmO anO cdO ctO) fun us ws h1 h2 => match us, ws, h1, h2 with | [_, _, _], [_], _, _ => rfl
  have RFO := ok_rfol (P := l.prog) (w := w) (base := base) FO T S R C ⟨nRH, sRH, wRH⟩ BRH RFH ⟨nRV, sRV, wRV⟩ BRV RFV ⟨nST, sST, wST⟩ BST SFT ⟨nTA, sTA, wTA⟩ BTA FA dEnd
  have dHi : Df l.prog w K mg base 6 "_law_history" ["_law_stream_here", "_law_words_here", "_law_most"] (spHist K) := ⟨_, _, m20, k20, b20, ok_hist F20 T dDraw dRs⟩
  have dSv : Df l.prog w K mg base 8 "_law_server" ["_law_history_here"] (spServer l.prog w K CT CS) := ⟨_, _, m21, k21, b21, ok_server F21 T SMK B⟩
  have dLA : Df l.prog w K mg base 1 "_law_answer" ["_law_rules_here", "_law_address"] (spLA K) := ⟨_, _, m23, k23, b23, ok_la F23 T⟩
  have dFc : Df l.prog w K mg base 1 "_law_force" ["_law_history_here", "_law_day"] (spForce K) := ⟨_, _, m24, k24, b24, ok_force F24⟩
  have hmT1 : (Pt, lamK) ∈ K49.TT Pt Pt2 := List.mem_cons_self
  have hmT2 : (Pt2, lamD) ∈ K49.TT Pt Pt2 := List.mem_cons_of_mem _ List.mem_cons_self
  have huT1 : ∀ p ∈ K49.TT Pt Pt2, p.1 = Pt → p.2 = lamK := fun p hp e => by
    simp only [K49.TT, List.mem_cons, List.not_mem_nil, or_false] at hp
    rcases hp with rfl | rfl
    · rfl
    · exact absurd e.symm neP
  have huT2 : ∀ p ∈ K49.TT Pt Pt2, p.1 = Pt2 → p.2 = lamD := fun p hp e => by
    simp only [K49.TT, List.mem_cons, List.not_mem_nil, or_false] at hp
    rcases hp with rfl | rfl
    · exact absurd e neP
    · rfl
  have dLK : Df l.prog w K mg base 4 "_law_kept" ["_law_history_here", "_law_address", "_law_day"] (spLKept K (K49.TT Pt Pt2)) := ⟨_, _, m28, k28, b28, ok_lkept F28 rfl T Y zenum zdict TB hmT1 huT1 dLA⟩
  have dCh : Df l.prog w K mg base 5 "_law_choices" ["_law_history_here", "_law_address", "_law_day"] (spCho K (K49.TT Pt Pt2)) := ⟨_, _, m29, k29, b29, ok_cho F29 dLA dFc dLK⟩
  have dFw : Df l.prog w K mg base 6 "_law_free_walk" ["_law_stream_here", "_law_history_here", "_law_address", "_law_day"] (spFW K (K49.TT Pt Pt2)) := ⟨_, _, m30, k30, b30, ok_fw F30 T dOne dLK dCh⟩
  have dLt : Df l.prog w K mg base 2 "_law_latest" ["_law_history_here", "_law_address", "_law_target", "_law_day"] (spLate K) := ⟨_, _, m31, k31, b31, ok_late F31 T dLA dFc⟩
  have dFcF : Df l.prog w K mg base 1 "_law_force" ["_law_history_here", "_law_day"] (spForceF K) := ⟨_, _, m24, k24, b24, ok_forceF F24⟩
  have dDue : Df l.prog w K mg base 4 "_law_due" ["_law_history_here", "_law_walk", "_law_day"] (spDue K (K49.TT Pt Pt2)) := ⟨_, _, m32, k32, b32, ok_due F32 rfl T Y zzip TB2 hmT2 huT2 dLA dFcF dLt⟩
  have dLat : Df l.prog w K mg base 5 "_latest" ["sources", "address", "target"] (spLat l.prog w K CT) := ⟨_, _, m26, k26, b26, ok_lat F26 T zenum C ⟨nTA, sTA, wTA⟩ BTA FA dEnd⟩
  have FVK := ok_vk (P := l.prog) (w := w) (mg := mg) (base := base) F27 dKey
  have dVF : Df l.prog w K mg base 9 "visits_for" ["server", "walk", "day"] (spVF l.prog w K CT CS) := ⟨_, _, m25, k25, b25, ok_vf F25 T Y zzip S ⟨nSG, sSG, wSG⟩ BSG SFG dLat m27 b27 FVK⟩
  have dSh : Df l.prog w K mg base 2 "_law_shuffled" ["_law_stream_here", "_law_items"] (spShufV K) := ⟨_, _, m15, k15, b15, ok_shufV F15 T dDraw⟩
  have D : LwD l.prog w K mg base CT CS CR Pt Pt2 := ⟨SMK, R, PySem.W.mg_of X G rd1, ⟨qRI, _, ⟨rd2, nRI, sRI, rd5⟩, BRI, RFI⟩, ⟨qRA, _, ⟨nRA, sRA, wRA⟩, BRA, RFA⟩, ⟨fO, _, dsO, ⟨fo1, fo2, fo3⟩, vO, bO, kO, RFO⟩, dVF, dStr, dPool, dHi, dSv, dOne, dSh, dFw, dDue⟩
  exact ok_law F33 T D
theorem walk {l : PySem.W.OpenLaw} {q : Program} {loose : List Str} {XP : (Str → Option Value) → Heap → Prop} {YP : World → Heap → Prop} {d : DefRec} {K : Params → PySem.W.Frag} (hn : l.most = some 63) (hdf : d.params.defaults = []) (hY : ∀ (w : World) (h : Heap), YP w h → (K w.params).In h)
    (F : ∀ (w : World) (mean : ExcName → Option Value) (mg mb : Str → Option Value) (fa : Addr) (h : Heap), Top q (PySem.W.looseW q loose) mean mg mb h → YP w h → (K w.params).In h → h.Ns mainGlobals mg → mg d.name = some (.ref fa) → ∃ (fd : FuncData) (cs : List (Addr × Addr)), (∀ p ∈ cs, h.get? p.2 = some { cls := .none, data := .fields #[] }) ∧ (∀ p ∈ cs, (K w.params).lookup p.2 = none) ∧ (∀ p ∈ cs, PySem.W.CodeHd h p.1 p.2) ∧
      (∀ (s : Shared) (u : Value), BindsTo s fd ⟨[u], []⟩ [("_law_script", u)]) ∧ ∀ base : Heap, (K w.params).In base → base.Ns mainGlobals mg → (∀ p ∈ cs, LamX.TabB base mg p.1 p.2) → FnG l.prog w (K w.params) mg base 13 fa fd ["_law_script"] (spAll (K w.params) (· ∈ cs))) :
    PySem.W.WalkO q loose XP YP l.row.toRowW d [] (fun f vs => PySem.call f vs) :=
  Ld.walk_GT (n := 63) (k := 13) (x := "_law_script") (sp := fun w C => spAll (K w.params) C) hn (by decide) hdf ⟨rfl, by decide, by decide⟩ hY F fun w C H a ns h1 h2 h3 h4 p q hp hq => ⟨a, ns, rfl, fun u hu => by
    simp only [TT, List.mem_cons, List.not_mem_nil, or_false] at hu
    rcases hu with rfl | rfl
    · exact LamX.TabS.nil (h3 p hp)
    · exact LamX.TabS.nil (h3 q hq), h4, h1, h2, fun _ => rfl⟩
end K49
open PySem PySem.W PyProof.Rows
set_option maxRecDepth 100000 in
set_option maxHeartbeats 0 in
theorem PySem.Challenge.cw_leadsever_k49_visits_for_free_walks_holds : PySem.Challenge.rw_leadsever_k49_visits_for_free_walks.Holds := by
  w_on; o_law; k_head; (case hw => w_witness2)
  k_fill
  refine K49.walk (l := PySem.Challenge.rw_leadsever_k49_visits_for_free_walks) rfl rfl (fun w h Y => PySem.W.km_in_of Y) ?F
  case F =>
    intro w mean mg mb fa h TT _ KX G hmg
    refine' K49.all_mk KX G hmg ?a1 ?l1 ?c1 ?k1 ?a2 ?l2 ?c2 ?k2 ?a3 ?l3 ?c3 ?k3 ?a4 ?l4 ?c4 ?k4 ?a5 ?l5 ?c5 ?k5 ?a6 ?l6 ?c6 ?k6 ?a7 ?l7 ?c7 ?k7 ?a8 ?l8 ?c8 ?k8 ?a9 ?l9 ?c9 ?k9 ?a10 ?l10 ?c10 ?k10 ?a11 ?l11 ?c11 ?k11 ?a12 ?l12 ?c12 ?k12 ?a13 ?l13 ?c13 ?k13 ?a14 ?l14 ?c14 ?k14 ?a15 ?l15 ?c15 ?k15 ?a16 ?l16 ?c16 ?k16 ?a17 ?l17 ?c17 ?k17 ?a18 ?l18 ?c18 ?k18 ?a19 ?l19 ?c19 ?k19 ?a20 ?l20 ?c20 ?k20 ?a21 ?l21 ?c21 ?k21 ?a22 ?l22 ?c22 ?k22 ?a23 ?l23 ?c23 ?k23 ?a24 ?l24 ?c24 ?k24 ?a25 ?l25 ?c25 ?k25 ?a26 ?l26 ?c26 ?k26 ?a27 ?l27 ?c27 ?k27 ?a28 ?l28 ?c28 ?k28 ?a29 ?l29 ?c29 ?k29 ?a30 ?l30 ?c30 ?k30 ?a31 ?l31 ?c31 ?k31 ?a32 ?l32 ?c32 ?k32 ?a33 ?l33 ?c33 ?k33 ?z_isinstance ?z_int ?z_bool ?z_str ?z_tuple ?z_list ?z_len ?z_range ?z_repr ?z_max ?z_min ?z_sorted ?z_reversed ?z_zip ?z_enumerate ?z_dict ?g_WORD_LETTERS ?g_PLACE_WORDS ?g_MOST_DAYS ?g_MOST_RULES ?g_LAST_DAY ?d1 ?d2 ?d3 ?d4 ?d5 ?tb1 ?tb2 ?tb3 ?tb4 ?tb5 ?tb6 ?tb7 ?tb8 ?tb9 ?te ?y1 ?y2 ?y3 ?y4 ?y5 ?y6 ?y6b ?kn1 ?kt1 ?y7 ?y8 ?y9 ?y10 ?y11 ?sb1 ?sb2 ?sb5 ?sy1 ?sy2 ?sy3 ?sy4 ?sy5 ?sy6 ?rd1 ?rd2 ?rd5 ?ry1 ?ry2 ?ry3 ?ry4 ?ry5 ?ry6 ?ry7 ?fo1 ?fo2 ?fo3 ?fo4 ?fo5 ?fo6 ?rc ?lc ?hv ?lp ?rc2 ?lc2 ?hv2 ?lp2 ?neP ?nTA ?sTA ?xTA ?vTA ?wTA ?nTF ?sTF ?xTF ?vTF ?wTF ?nSI ?sSI ?xSI ?vSI ?wSI ?nSS ?sSS ?xSS ?vSS ?wSS ?nST ?sST ?xST ?vST ?wST ?nSA ?sSA ?xSA ?vSA ?wSA ?nSG ?sSG ?xSG ?vSG ?wSG ?nSC ?sSC ?xSC ?vSC ?wSC ?nRI ?sRI ?xRI ?vRI ?wRI ?nRA ?sRA ?xRA ?vRA ?wRA ?nRH ?sRH ?xRH ?vRH ?wRH ?nRV ?sRV ?xRV ?vRV ?wRV TT
    (case a1 => k_is)
    (case l1 => k_is)
    (case c1 => k_is)
    (case k1 => k_is)
    (case a2 => k_is)
    (case l2 => k_is)
    (case c2 => k_is)
    (case k2 => k_is)
    (case a3 => k_is)
    (case l3 => k_is)
    (case c3 => k_is)
    (case k3 => k_is)
    (case a4 => k_is)
    (case l4 => k_is)
    (case c4 => k_is)
    (case k4 => k_is)
    (case a5 => k_is)
    (case l5 => k_is)
    (case c5 => k_is)
    (case k5 => k_is)
    (case a6 => k_is)
    (case l6 => k_is)
    (case c6 => k_is)
    (case k6 => k_is)
    (case a7 => k_is)
    (case l7 => k_is)
    (case c7 => k_is)
    (case k7 => k_is)
    (case a8 => k_is)
    (case l8 => k_is)
    (case c8 => k_is)
    (case k8 => k_is)
    (case a9 => k_is)
    (case l9 => k_is)
    (case c9 => k_is)
    (case k9 => k_is)
    (case a10 => k_is)
    (case l10 => k_is)
    (case c10 => k_is)
    (case k10 => k_is)
    (case a11 => k_is)
    (case l11 => k_is)
    (case c11 => k_is)
    (case k11 => k_is)
    (case a12 => k_is)
    (case l12 => k_is)
    (case c12 => k_is)
    (case k12 => k_is)
    (case a13 => k_is)
    (case l13 => k_is)
    (case c13 => k_is)
    (case k13 => k_is)
    (case a14 => k_is)
    (case l14 => k_is)
    (case c14 => k_is)
    (case k14 => k_is)
    (case a15 => k_is)
    (case l15 => k_is)
    (case c15 => k_is)
    (case k15 => k_is)
    (case a16 => k_is)
    (case l16 => k_is)
    (case c16 => k_is)
    (case k16 => k_is)
    (case a17 => k_is)
    (case l17 => k_is)
    (case c17 => k_is)
    (case k17 => k_is)
    (case a18 => k_is)
    (case l18 => k_is)
    (case c18 => k_is)
    (case k18 => k_is)
    (case a19 => k_is)
    (case l19 => k_is)
    (case c19 => k_is)
    (case k19 => k_is)
    (case a20 => k_is)
    (case l20 => k_is)
    (case c20 => k_is)
    (case k20 => k_is)
    (case a21 => k_is)
    (case l21 => k_is)
    (case c21 => k_is)
    (case k21 => k_is)
    (case a22 => k_is)
    (case l22 => k_is)
    (case c22 => k_is)
    (case k22 => k_is)
    (case a23 => k_is)
    (case l23 => k_is)
    (case c23 => k_is)
    (case k23 => k_is)
    (case a24 => k_is)
    (case l24 => k_is)
    (case c24 => k_is)
    (case k24 => k_is)
    (case a25 => k_is)
    (case l25 => k_is)
    (case c25 => k_is)
    (case k25 => k_is)
    (case a26 => k_is)
    (case l26 => k_is)
    (case c26 => k_is)
    (case k26 => k_is)
    (case a27 => k_is)
    (case l27 => k_is)
    (case c27 => k_is)
    (case k27 => k_is)
    (case a28 => k_is)
    (case l28 => k_is)
    (case c28 => k_is)
    (case k28 => k_is)
    (case a29 => k_is)
    (case l29 => k_is)
    (case c29 => k_is)
    (case k29 => k_is)
    (case a30 => k_is)
    (case l30 => k_is)
    (case c30 => k_is)
    (case k30 => k_is)
    (case a31 => k_is)
    (case l31 => k_is)
    (case c31 => k_is)
    (case k31 => k_is)
    (case a32 => k_is)
    (case l32 => k_is)
    (case c32 => k_is)
    (case k32 => k_is)
    (case a33 => k_is)
    (case l33 => k_is)
    (case c33 => k_is)
    (case k33 => k_is)
    (case z_isinstance => k_is)
    (case z_int => k_is)
    (case z_bool => k_is)
    (case z_str => k_is)
    (case z_tuple => k_is)
    (case z_list => k_is)
    (case z_len => k_is)
    (case z_range => k_is)
    (case z_repr => k_is)
    (case z_max => k_is)
    (case z_min => k_is)
    (case z_sorted => k_is)
    (case z_reversed => k_is)
    (case z_zip => k_is)
    (case z_enumerate => k_is)
    (case z_dict => k_is)
    (case g_WORD_LETTERS => k_is)
    (case g_PLACE_WORDS => k_is)
    (case g_MOST_DAYS => k_is)
    (case g_MOST_RULES => k_is)
    (case g_LAST_DAY => k_is)
    (case d1 => k_is)
    (case d2 => k_is)
    (case d3 => first | rfl | decide)
    (case d4 => first | rfl | decide)
    (case d5 => first | rfl | decide)
    (case tb1 => k_is)
    (case tb2 => k_is)
    (case tb3 => k_is)
    (case tb4 => k_is)
    (case tb5 => k_is)
    (case tb6 => k_is)
    (case tb7 => k_is)
    (case tb8 => k_is)
    (case tb9 => k_is)
    (case te => k_is)
    (case y1 => k_is)
    (case y2 => k_is)
    (case y3 => k_is)
    (case y4 => k_is)
    (case y5 => k_is)
    (case y6 => k_is)
    (case y6b => k_is)
    (case kn1 => k_is)
    (case kt1 => k_is)
    (case y7 => k_is)
    (case y8 => k_is)
    (case y9 => k_is)
    (case y10 => k_is)
    (case y11 => k_is)
    (case sb1 => k_is)
    (case sb2 => k_is)
    (case sb5 => k_is)
    (case sy1 => k_is)
    (case sy2 => k_is)
    (case sy3 => k_is)
    (case sy4 => k_is)
    (case sy5 => k_is)
    (case sy6 => k_is)
    (case rd1 => k_is)
    (case rd2 => k_is)
    (case rd5 => k_is)
    (case ry1 => k_is)
    (case ry2 => k_is)
    (case ry3 => k_is)
    (case ry4 => k_is)
    (case ry5 => k_is)
    (case ry6 => k_is)
    (case ry7 => k_is)
    (case fo1 => k_is)
    (case fo2 => k_is)
    (case fo3 => k_is)
    (case fo4 => k_is)
    (case fo5 => k_is)
    (case fo6 => k_is)
    (case rc => first | rfl | decide)
    (case lc => k_is)
    (case hv => first | rfl | decide)
    (case lp => first | k_is | kernel_rfl | rfl | decide)
    (case rc2 => first | rfl | decide)
    (case lc2 => k_is)
    (case hv2 => first | rfl | decide)
    (case lp2 => first | k_is | kernel_rfl | rfl | decide)
    (case neP => first | rfl | decide)
    (case nTA => k_is)
    (case sTA => k_is)
    (case xTA => k_is)
    (case vTA => k_is)
    (case wTA => k_is)
    (case nTF => k_is)
    (case sTF => k_is)
    (case xTF => k_is)
    (case vTF => k_is)
    (case wTF => k_is)
    (case nSI => k_is)
    (case sSI => k_is)
    (case xSI => k_is)
    (case vSI => k_is)
    (case wSI => k_is)
    (case nSS => k_is)
    (case sSS => k_is)
    (case xSS => k_is)
    (case vSS => k_is)
    (case wSS => k_is)
    (case nST => k_is)
    (case sST => k_is)
    (case xST => k_is)
    (case vST => k_is)
    (case wST => k_is)
    (case nSA => k_is)
    (case sSA => k_is)
    (case xSA => k_is)
    (case vSA => k_is)
    (case wSA => k_is)
    (case nSG => k_is)
    (case sSG => k_is)
    (case xSG => k_is)
    (case vSG => k_is)
    (case wSG => k_is)
    (case nSC => k_is)
    (case sSC => k_is)
    (case xSC => k_is)
    (case vSC => k_is)
    (case wSC => k_is)
    (case nRI => k_is)
    (case sRI => k_is)
    (case xRI => k_is)
    (case vRI => k_is)
    (case wRI => k_is)
    (case nRA => k_is)
    (case sRA => k_is)
    (case xRA => k_is)
    (case vRA => k_is)
    (case wRA => k_is)
    (case nRH => k_is)
    (case sRH => k_is)
    (case xRH => k_is)
    (case vRH => k_is)
    (case wRH => k_is)
    (case nRV => k_is)
    (case sRV => k_is)
    (case xRV => k_is)
    (case vRV => k_is)
    (case wRV => k_is)
