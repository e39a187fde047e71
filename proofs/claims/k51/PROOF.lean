import PyProof.Rows.All
import Wide.All
import OpenK.AllK
import Wide.FinOn
import HandS.ForMost
import HandS.ForExc
import HandS.IsInst
import HandS.CallLocal
import HandS.Wide
import HandS.WideBits
import HandS.Flow
import HandS.EndBits
import HandS.WrittenGet
import PyProof.ReprRoads
import HandS.More
import HandS.Walk
import PyProof.Rows.RegFStrParts
import HandS.SetFor
import HandS.TupSets
import HandS.Strs
import PyProof.SumAny
import HandS.Conv
import HandS.WordsDict
import HandS.Style
import KE.RegKSuper
import PySem.Challenge.RW_cellbills_k51_rows_of_moves_judged
set_option Elab.async false
set_option linter.all false
set_option maxRecDepth 100000
set_option maxHeartbeats 4000000
/-! What the layer lacks: defs that may ask for a text of a list (they want to know that no such asking is under way), // by any number that is not 0, great powers, calls by keywords alone, repr of data. -/
namespace Cb
open PySem PySem.Spec PyProof.Rows L2

/-! ### numbers -/
def DivAny (_ j : Int) : Prop := j ≠ 0 ∧ j.natAbs.log2 < 9000
def PowAny (i j : Int) : Prop := 0 ≤ j ∧ (Builtin.Int.intBits i : Int) * j ≤ 2 ^ 27
section
variable {X : Cx}
theorem op_fdivA : OpR X (binaryOp .FloorDiv) (rI DivAny fun i j => .int (i.fdiv j)) :=
  opI fun _ _ _ _ _ _ _ hd q => floordiv_int hd.1 q (.inl (PyProof.noPylong_of_log2 hd.2))
theorem op_powA : OpR X (binaryOp .Pow) (rI PowAny fun i j => .int (i ^ j.toNat)) :=
  opI fun _ _ _ _ _ _ _ hd q => pow_int hd.1 hd.2 q
end

/-! ### a text of data -/
@[irreducible] def rRepr (K : PySem.W.Frag) (u : Nat) : List V → Hp → VK → Prop := fun vs H Q =>
  ∃ (v : V) (d : PyData), vs = [v] ∧ Dp K H v d ∧ d.showable = true ∧ d.hasDict = false ∧ u + (d.depth + 1) < cLine ∧ ((∃ i, d = .int i) ∨ d.shown.length ≤ sizeLine) ∧ Q (.str d.shown) H
section
variable {X : Cx}
theorem call_repr (hg : X.A.guards = some []) : CallR X (.builtin "repr") (rRepr X.K X.A.units) := by
  intro pins s σ H vs us Q I rel h
  unfold rRepr at h
  obtain ⟨v, d, rfl, hd, hs, hn, hu, hz, q⟩ := h
  obtain ⟨u, rfl, ru⟩ := vals1 rel
  obtain ⟨as, rd⟩ := Dp.reads I d v u hd ru
  cases hd with
  | non =>
    cases ru
    exact PySem.P.repr_of_none ⟨.str "None", H, I.tok _, ⟨_, rfl⟩, q⟩
  | bl b =>
    cases ru
    exact PySem.P.repr_of_bool ⟨.str (PyData.shown (.bool b)), H, I.tok _, ⟨_, rfl⟩, q⟩
  | int i =>
    obtain ⟨t, rfl⟩ := ru
    have hi : i.natAbs.log2 < 1920 := of_decide_eq_true hs
    exact PySem.P.repr_of_int hi ⟨.str (PyData.shown (.int i)), H, I.tok _, ⟨_, rfl⟩, q⟩
  | str x =>
    obtain ⟨t, rfl⟩ := ru
    exact PySem.P.repr_of_str ⟨.str (PyData.shown (.str x)), H, I.tok _, ⟨_, rfl⟩, q⟩ (hz.resolve_left fun ⟨_, z⟩ => nomatch z)
  | lst e1 e2 =>
    cases ru
    exact repr_of_reads' rd hs (PyData.noDict_hsm hn) hg hu (fun _ _ z => z) (fun h' w tk hk => ⟨.str (PyData.shown _), H, I.kept hk, ⟨_, rfl⟩, q⟩) (hz.resolve_left fun ⟨_, z⟩ => nomatch z)
  | tup e1 e2 =>
    cases ru
    exact repr_of_reads' rd hs (PyData.noDict_hsm hn) hg hu (fun _ _ z => z) (fun h' w tk hk => ⟨.str (PyData.shown _), H, I.kept hk, ⟨_, rfl⟩, q⟩) (hz.resolve_left fun ⟨_, z⟩ => nomatch z)
end

/-! ### defs that want to know what is under way -/
structure FnG (P : Program) (w : World) (K : PySem.W.Frag) (mg : Str → Option Value) (base : Heap) (c : CXT) (k : Nat) (f : Addr) (fd : FuncData) (ps : List Str) (sp : Sp) : Prop where
  long : ∀ vs H Q E, sp vs H Q E → vs.length = ps.length
  goes : ∀ A : Around, A.guards = some [] → Room k A → ∀ (around : List Env) (s : Shared) (H : Hp) (given : Args) (us : List Value) (vs : List V) (Q : VK) (E : XK),
    Env0 P w K mg base A around s H → BindsTo s fd given (ps.zip us) → Vals vs us → sp vs H Q E →
    codeAny (model P w) A (.call (.ref f) given) (CR c around P w H s Q E) s
theorem FnG.up {P : Program} {w : World} {K : PySem.W.Frag} {mg : Str → Option Value} {base : Heap} {c : CXT} {j k : Nat} {f : Addr} {fd : FuncData} {ps : List Str} {sp : Sp}
    (G : FnG P w K mg base c j f fd ps sp) (le : j ≤ k) : FnG P w K mg base c k f fd ps sp :=
  { long := G.long, goes := fun A ga room => G.goes A ga (room.mono le) }
section
variable {X : Cx} {c : CXT} {k : Nat} {f : Addr} {fd : FuncData} {ps : List Str} {sp : Sp} {dvs : List V} {ds : List Value} {E : XK} {x : Str} {p pos : Pos} {e : Expr} {es : List Expr} {t : TA}
theorem runs_g {pins : List (Addr × Obj)} {σ : L2.St} {H : Hp} {s : Shared} {Q : VK} {us : List Value} {vs : List V} (G : FnG X.prog X.w X.K X.mg X.base c k f fd ps sp) (ga : X.A.guards = some []) (room : Room k X.A)
    (bd : Binds X.K fd ps ds) (hd : Vals dvs ds) (out : Passes c X E) (I : Inv X pins σ H s) (rel : Vals vs us) (pr : sp (vs ++ dvs) H Q E) :
    wpAny (model X.prog X.w) X.A (call (.ref f) us) (EP X pins σ Q) X.xe s := by
  have all := rel.append hd
  have many : (us ++ ds).length = ps.length := all.length ▸ G.long _ _ _ _ pr
  refine wpAny_call (codeAny_mono (G.goes X.A ga room X.stack s H ⟨us, []⟩ _ _ Q E I.env0 (bd s us I.kIn many) all pr) ?_)
  intro res s2 got
  match res, got with
  | .error err, got => exact out pins σ H s err s2 I got
  | .ok (.ret u), got => exact I.after got
theorem pe_callG (G : FnG X.prog X.w X.K X.mg X.base c k f fd ps sp) (ga : X.A.guards = some []) (room : Room k X.A) (gl : Gl X x) (mm : X.mg x = some (.ref f)) (kk : PySem.W.keepIn X.K (.ref f) = true)
    (bd : Binds X.K fd ps ds) (hd : Vals dvs ds) (out : Passes c X E) (ha : PA X (e :: es) t) (nd : (x == ("__debug__" : Str)) = false := by decide)
    (se : starEach (e :: es) X.env = (false, eval e X.env) :: starEach es X.env := by rfl) (pl : (backTo pos (starEach es X.env)).any (·.1) = false := by rfl) :
    PE X (.Call (.Name x p) (e :: es) [] pos) (tCall sp dvs E t) := by
  constructor
  intro pins s σ H Q I pr
  refine wpAny_Call_Name_kw (ld_glob I gl mm (PySem.W.callWith_K (h₀ := X.base) I.ok.mod.kin kk ?_ se pl) nd)
  refine thn (ha.run pos pins s σ H _ I pr) ?_
  rintro us s1 ⟨vs, H1, J, rel, pr1⟩
  exact ⟨J.kIn, runs_g G ga room bd hd out J rel pr1⟩
end
/-! f(k = v, ..) -/
section
variable {X : Cx} {c : CXT} {k : Nat} {f : Addr} {fd : FuncData} {ps ks : List Str} {sp : Sp} {E : XK} {x : Str} {p pos : Pos} {kws : List Keyword} {tk : TA} {g : List Value → List Value → List Value} {gV : List V → List V → List V}
theorem pe_callK0 (F : FnOk X.prog X.w X.K X.mg X.base c k f fd ps sp) (room : Room k X.A) (gl : Gl X x) (mm : X.mg x = some (.ref f)) (kk : PySem.W.keepIn X.K (.ref f) = true) (kb : KBinds X.K fd ps ks g gV) (out : Passes c X E) (hk : PK X kws tk)
    (named : (backToKw pos (keywordEach kws X.env)).all (·.1.isSome) = true := by rfl) (names : (backToKw pos (keywordEach kws X.env)).filterMap (·.1) = ks := by rfl) (nd : (x == ("__debug__" : Str)) = false := by decide)
    (pl : ((backTo pos (starEach [] X.env)).any (·.1) || (backToKw pos (keywordEach kws X.env)).any (·.1.isNone)) = false := by rfl) :
    PE X (.Call (.Name x p) [] kws pos) (tCallK sp gV E tNil tk) := by
  constructor
  intro pins s σ H Q I pr
  refine wpAny_Call_Name_kw (ld_glob I gl mm (PySem.W.callWith_KW0 (h₀ := X.base) I.ok.mod.kin kk named ?_ pl) nd)
  refine thn (hk.run pos pins s σ H _ I pr) ?_
  rintro ws s1 ⟨zs, H1, J, rel, pr1⟩
  refine ⟨J.kIn, ?_⟩
  rw [names]
  exact run_fnk (us := []) (vs := []) F room kb out J .nil rel pr1
end
/-- a def of the text that wants to know it -/
theorem fun_g {P : Program} {w : World} {K : PySem.W.Frag} {mg : Str → Option Value} {base : Heap} {c : CXT} {x qual : Str} {st : Stmt} {f : Addr} {fd : FuncData} {N ps : List Str} {k : Nat} {sp : Sp}
    (F : Fun K x qual st f fd) (S : FnScope N ps (defScope st)) (long : ∀ vs H Q E, sp vs H Q E → vs.length = ps.length)
    (body : ∀ (cdv : Value) (A : Around) (around : List Env) (s : Shared) (H : Hp) (vs : List V) (Q : VK) (E : XK), A.guards = some [] → Room k (A.deeper (envOfC qual (defScope st) s.heap.objs.size f cdv)) → sp vs H Q E →
      ∃ t, PSs (cxOf c P w K mg base N qual (defScope st) f cdv A around s H E) (defBody st) t ∧ t { nx := fun _ H' => Q .non H', rt := Q } (start N vs) H) :
    FnG P w K mg base c (k + 1) f fd ps sp := by
  obtain ⟨oc, od, kV, doc, pm, an, cdv, ct, osl, rfl, lk, hcd⟩ := F.ex
  refine ⟨long, ?_⟩
  intro A ga room around s H given us vs Q E z0 bd rel pr
  have KX : K.In s.heap := z0.mod.kin.keeps fun b o q => (z0.bs b o q).1
  have lim : s.heap.NoLimit := z0.mod.nolimit.keeps fun b o q => (z0.bs b o q).1
  have where_ : ∀ y ∈ ps.zip us, (defScope st).names.lookup y.1 = some .local ∨ ((defScope st).names.lookup y.1 = some .cell ∧ ((cellsFrom (s.heap.objs.size + 1) (defScope st).names []).lookup y.1).isSome = true) := by
    rintro ⟨n, v⟩ hy
    exact (S.par n (List.of_mem_zip hy).1).imp_right fun q => ⟨q, PySem.W.cellsFrom_some _ _ _ (.inl q)⟩
  refine codeAny_call_function room.depth (KX _ _ lk) rfl S.co S.gen rfl (PySem.W.codeRec_of KX hcd) (bd _ _ _ _ (wpAny_newFunctionEnv_cells S.kind where_ ?_))
  rintro env rfl s1 fresh
  refine ⟨lim.keeps fresh.toInCall.keep, codeAny_func ?_⟩
  obtain ⟨t, ht, hq⟩ := body cdv A around s H vs Q E ga (room.deeper _) pr
  have J : Inv (cxOf c P w K mg base N qual (defScope st) f cdv A around s H E) [] (start N vs) H s1 := inv_start S room.hd z0 (long _ _ _ _ pr) rel fresh
  refine wpAny_mono (ht.run [] s1 (start N vs) H _ J hq) ?_ (fun _ _ z => z)
  intro fl s2 got
  match fl, got with
  | .ret u, ⟨v, σ2, H2, L, rv, q⟩ => exact ⟨v, H2, L.os, L.bare, L.base, L.hok, rv, q⟩
  | .next, ⟨σ2, H2, L, q⟩ => exact ⟨V.non, H2, L.os, L.bare, L.base, L.hok, rfl, q⟩
  | .brk, ⟨_, _, _, q⟩ => exact q.elim
  | .cont, ⟨_, _, _, q⟩ => exact q.elim
end Cb
set_option Elab.async false
set_option linter.all false
set_option maxRecDepth 100000
set_option maxHeartbeats 4000000
namespace Cb
open PySem PySem.Spec PyProof.Rows L2
section
variable {P : Program} {w : World} {K : PySem.W.Frag} {mg mb : Str → Option Value} {k : Nat} {fa a : Addr} {fd : FuncData} {x : Str} {sp : Sp} {s : Shared} {vs : List Value} {ns : List Int}
/-- the law's def, called with the script, from an abstract heap that knows at most the script -/
theorem enters (H : Hp) (ob : Obj) (eo : ob = { cls := .type "list", data := .seq vs.toArray }) (H1 : ∀ b u, H b = some u → b = a ∧ u = .frz ob (.lst (ns.map V.int)) ∧ K.lookup a = none) (hS : SqL K H a (ns.map V.int)) (hok : HOk P w H s.heap)
    (KX : K.In s.heap) (g1 : s.heap.Ns mainGlobals mg) (g2 : s.heap.Ns builtinsNs mb) (g3 : ∀ x : Str, x ≠ "__name__" → mb x = bootBuiltins x) (g4 : s.heap.NoLimit) (g5 : s.gens = #[])
    (at_ : s.heap.get? a = some ob) (room : Room k callerA)
    (G : ∀ base : Heap, K.In base → base.Ns mainGlobals mg → FnG P w K mg base CX0 k fa fd [x] sp) (bd : ∀ (s : Shared) (u : Value), BindsTo s fd ⟨[u], []⟩ [(x, u)])
    (pr : sp [.ref a] H (fun v _ => v = .bl true) fun _ _ _ => False) :
    codeAny (model P w) callerA (.call (.ref fa) ⟨[.ref a], []⟩) (fun r s' => r = .ok (.ret (.bool true)) ∧ OldK s.heap s'.heap ∧ s'.os = s.os ∧ AllBare s'.gens) s := by
  have off : ∀ {b : Addr} {o : Obj}, s.heap.get? b = some o → o ≠ ob → H b = none := by
    intro b o e ne
    cases z : H b with
    | none => rfl
    | some u =>
      obtain ⟨rfl, _, _⟩ := H1 b u z
      exact absurd (Option.some.inj (e.symm.trans at_)) ne
  have offD : ∀ {b : Addr} {o : Obj} {es : Array DictEntry} {ep : Nat}, s.heap.get? b = some o → o.data = .dict es ep → H b = none := fun {b o es ep} e d => off e (by
    rintro rfl
    rw [eo] at d
    cases d)
  have hid : ∀ {b : Addr} {m : Str → Option Value}, s.heap.Ns b m → (hidT s.heap H).Ns b m := by
    rintro b m ⟨o, es, ep, e, d, r⟩
    exact ⟨o, es, ep, hidT_get e (offD e d), d, r⟩
  have KB : K.In (hidT s.heap H) := by
    intro b o e
    refine hidT_get (KX b o e) ?_
    cases z : H b with
    | none => rfl
    | some u =>
      obtain ⟨rfl, _, no⟩ := H1 b u z
      rw [no] at e
      cases e
  obtain ⟨mc, l1, l2⟩ := g4
  have z0 : Env0 P w K mg (hidT s.heap H) callerA [] s H :=
    { frames := rfl, mod := ⟨KB, hid g1, ⟨mb, hid g2, g3⟩, ⟨mc, hid l1, l2⟩⟩, bs := fun b o e => of_hidT e, bsz := Nat.le_of_eq (hidT_size _ _), funs := trivial
      frf := fun b hb => absurd (show b ∈ ([] : List Addr) from hb) List.not_mem_nil, hok := hok, bare := .of_eq g5 }
  refine codeAny_mono ((G _ KB (hid g1)).goes callerA rfl room [] s H ⟨[.ref a], []⟩ [.ref a] [.ref a] _ _ z0 (bd s (.ref a)) (.cons rfl .nil) pr) ?_
  intro res s2 got
  match res, got with
  | .ok (.ret u), got =>
    obtain ⟨v, H', os, bare, un, hok', rv, ev⟩ := got
    obtain rfl : v = V.bl true := ev
    obtain rfl : u = Value.bool true := rv
    refine ⟨rfl, OldK.of_keep ?_, os, bare⟩
    intro b o e
    cases z : H b with
    | none => exact un.keep b o e z (fun q => absurd (show b ∈ ([] : List Addr) from q) List.not_mem_nil) (by simp)
    | some u =>
      obtain ⟨rfl, rfl, _⟩ := H1 b u z
      have z2 := un.frzs b ob _ z
      obtain ⟨q1, _⟩ := hok b _ z
      obtain ⟨q2, _⟩ := hok' b _ z2
      exact (Option.some.inj (e.symm.trans q1)) ▸ q2
theorem enter (hobj : s.heap.get? a = some { cls := .type "list", data := .seq vs.toArray }) (hi : IntsAre vs ns) (hl : ns.length ≤ sizeLine)
    (KX : K.In s.heap) (g1 : s.heap.Ns mainGlobals mg) (g2 : s.heap.Ns builtinsNs mb) (g3 : ∀ x : Str, x ≠ "__name__" → mb x = bootBuiltins x) (g4 : s.heap.NoLimit) (g5 : s.gens = #[]) (room : Room k callerA)
    (G : ∀ base : Heap, K.In base → base.Ns mainGlobals mg → FnG P w K mg base CX0 k fa fd [x] sp) (bd : ∀ (s : Shared) (u : Value), BindsTo s fd ⟨[u], []⟩ [(x, u)])
    (pr : ∀ H : Hp, SqL K H a (ns.map V.int) → sp [.ref a] H (fun v _ => v = .bl true) fun _ _ _ => False) :
    codeAny (model P w) callerA (.call (.ref fa) ⟨[.ref a], []⟩) (fun r s' => r = .ok (.ret (.bool true)) ∧ OldK s.heap s'.heap ∧ s'.os = s.os ∧ AllBare s'.gens) s := by
  have rel := vals_ints hi
  cases hk : K.lookup a with
  | some o =>
    have same := Option.some.inj ((KX a o hk).symm.trans hobj)
    have hS : SqL K (fun _ => none) a (ns.map V.int) := .inr ⟨o, vs.toArray, _, hk, by rw [same], by rw [same], by rw [same], by rw [List.size_toArray, hi.length]; exact hl, rel⟩
    exact enters (fun _ => none) _ rfl (fun b u z => nomatch (show (none : Option HO) = some u from z)) hS (fun b u z => nomatch (show (none : Option HO) = some u from z)) KX g1 g2 g3 g4 g5 hobj room G bd (pr _ hS)
  | none =>
    let ob : Obj := { cls := .type "list", data := .seq vs.toArray }
    let H : Hp := fun b => if b = a then some (.frz ob (.lst (ns.map V.int))) else none
    have H1 : ∀ b u, H b = some u → b = a ∧ u = .frz ob (.lst (ns.map V.int)) ∧ K.lookup a = none := by
      intro b u z
      by_cases q : b = a
      · exact ⟨q, (Option.some.inj ((if_pos q).symm.trans z)).symm, hk⟩
      · exact nomatch ((if_neg q).symm.trans z : (none : Option HO) = some u)
    have hS : SqL K H a (ns.map V.int) := .inl (.inr ⟨ob, if_pos rfl⟩)
    refine enters H ob rfl H1 hS ?_ KX g1 g2 g3 g4 g5 hobj room G bd (pr _ hS)
    intro b u z
    obtain ⟨rfl, rfl, _⟩ := H1 b u z
    exact ⟨hobj, by rw [List.length_map]; exact hl, vs, _, rel, hobj⟩
end
/-- the goal that k_head leaves, for a law's def that wants to know what is under way; the script's ints with their bits -/
theorem walk_g {l : PySem.W.OpenLaw} {n k : Nat} {q : Program} {loose : List Str} {XP : (Str → Option Value) → Heap → Prop} {YP : World → Heap → Prop} {d : DefRec} {K : Params → PySem.W.Frag} {sp : PySem.W.Frag → Sp} {x : Str}
    (hn : l.most = some n) (small : n ≤ sizeLine) (plain : d.params.defaults = []) (room : Room k callerA) (hK : ∀ (w : World) (h : Heap), YP w h → (K w.params).In h)
    (G : ∀ (w : World) (mg : Str → Option Value) (fa : Addr) (h : Heap), (K w.params).In h → h.Ns mainGlobals mg → mg d.name = some (.ref fa) →
      ∃ fd : FuncData, (∀ (s : Shared) (u : Value), BindsTo s fd ⟨[u], []⟩ [(x, u)]) ∧ ∀ base : Heap, (K w.params).In base → base.Ns mainGlobals mg → FnG l.prog w (K w.params) mg base CX0 k fa fd [x] (sp (K w.params)))
    (pr : ∀ (K : PySem.W.Frag) (H : Hp) (a : Addr) (ns : List Int), ns.length ≤ n → (∀ i ∈ ns, Builtin.Int.intBits i ≤ 1048576) → SqL K H a (ns.map V.int) → sp K [.ref a] H (fun v _ => v = .bl true) fun _ _ _ => False) :
    PySem.W.WalkO q loose XP YP l.row.toRowW d [] (fun f vs => PySem.call f vs) := by
  refine Att.attach_callB hn plain ?_
  intro w s0 s mg mb fa o pm cd doc a vs ns A Y _ _ _ hmg hobj hints hlen hbits hg
  have KX := hK w _ Y
  obtain ⟨fd, bd, GG⟩ := G w mg fa _ KX A.T.g hmg
  exact enter hobj hints (Nat.le_trans hlen small) KX A.T.g A.T.b A.T.builtins A.T.nolimit hg room GG bd fun H hS => pr _ H a ns hlen hbits hS
end Cb
set_option Elab.async false
set_option linter.all false
set_option maxRecDepth 100000
set_option maxHeartbeats 4000000
namespace Cb
open PySem PySem.Spec PyProof.Rows L2
/-- a def stands under its name -/
def Has (K : PySem.W.Frag) (mg : Str → Option Value) (x : Str) (st : Stmt) (ps : List Str) : Prop :=
  ∃ (f : Addr) (fd : FuncData), Fun K x x st f fd ∧ mg x = some (.ref f) ∧ Binds K fd ps []
/-- it keeps a promise -/
def Says (P : Program) (w : World) (K : PySem.W.Frag) (mg : Str → Option Value) (base : Heap) (k : Nat) (x : Str) (ps : List Str) (sp : Sp) : Prop :=
  ∃ (f : Addr) (fd : FuncData), FnOk P w K mg base CX0 k f fd ps sp ∧ mg x = some (.ref f) ∧ PySem.W.keepIn K (.ref f) = true ∧ Binds K fd ps []
def SaysG (P : Program) (w : World) (K : PySem.W.Frag) (mg : Str → Option Value) (base : Heap) (k : Nat) (x : Str) (ps : List Str) (sp : Sp) : Prop :=
  ∃ (f : Addr) (fd : FuncData), FnG P w K mg base CX0 k f fd ps sp ∧ mg x = some (.ref f) ∧ PySem.W.keepIn K (.ref f) = true ∧ Binds K fd ps []
/-- also by keywords alone, in an order of their own: g puts them in the parameters' order -/
def kOnly (g : {α : Type} → List α → List α) : {α : Type} → List α → List α → List α
  | _, [], ws => g ws
  | _, _ :: _, _ => []
def SaysK (P : Program) (w : World) (K : PySem.W.Frag) (mg : Str → Option Value) (base : Heap) (k : Nat) (x : Str) (ps ks : List Str) (g : {α : Type} → List α → List α) (sp : Sp) : Prop :=
  ∃ (f : Addr) (fd : FuncData), FnOk P w K mg base CX0 k f fd ps sp ∧ mg x = some (.ref f) ∧ PySem.W.keepIn K (.ref f) = true ∧ KBinds K fd ps ks (kOnly g) (kOnly g)
def HasK (K : PySem.W.Frag) (mg : Str → Option Value) (x : Str) (st : Stmt) (ps ks : List Str) (g : {α : Type} → List α → List α) : Prop :=
  ∃ (f : Addr) (fd : FuncData), Fun K x x st f fd ∧ mg x = some (.ref f) ∧ KBinds K fd ps ks (kOnly g) (kOnly g)
/-- a def's body keeps a promise -/
abbrev Body (P : Program) (w : World) (K : PySem.W.Frag) (mg : Str → Option Value) (base : Heap) (k : Nat) (x : Str) (st : Stmt) (N : List Str) (sp : Sp) : Prop :=
  ∀ (f : Addr) (cdv : Value) (A : Around) (outer : List Env) (s : Shared) (H : Hp) (vs : List V) (Q : VK) (E : XK), Room k (A.deeper (envOfC x (defScope st) s.heap.objs.size f cdv)) → sp vs H Q E →
      ∃ t, PSs (cxOf CX0 P w K mg base N x (defScope st) f cdv A outer s H E).nox (defBody st) t ∧ t { nx := fun _ H' => Q .non H', rt := Q } (start N vs) H
section
variable {P : Program} {w : World} {K : PySem.W.Frag} {mg : Str → Option Value} {base : Heap} {k : Nat} {x : Str} {st : Stmt} {N ps : List Str} {sp : Sp}
theorem has {f : Addr} {oc : Value} {od an : Option Addr} {osl : Array (Option Value)} {kV doc pm cdv ct : Value} {h : Heap} (X : K.In h) (G : h.Ns mainGlobals mg) (a : PySem.W.nsIn K mainGlobals x = some (some (.ref f)))
    (l : K.lookup f = some ⟨oc, od, .func (PySem.W.fnOf x x (defArgs st) (defBody st) (defScope st) .none kV doc pm an cdv ct), osl⟩) (c : PySem.W.codeIn K cdv x = true) (kp : PySem.W.keepIn K (.ref f) = true)
    (b : ∀ (kV doc pm : Value) (an : Option Addr) (cdv ct : Value) (us : List Value), us.length = ps.length → bindArgs (PySem.W.fnOf x x (defArgs st) (defBody st) (defScope st) .none kV doc pm an cdv ct) ⟨us, []⟩ = pure (ps.zip us)) :
    Has K mg x st ps := ⟨f, _, fun_mk l c kp, PySem.W.mg_of X G a, (fun_mk l c kp).binds b⟩
theorem says (h : Has K mg x st ps) (S : FnScope N ps (defScope st)) (len : ∀ vs H Q E, sp vs H Q E → vs.length = ps.length)
    (body : ∀ (f : Addr) (cdv : Value) (A : Around) (outer : List Env) (s : Shared) (H : Hp) (vs : List V) (Q : VK) (E : XK), Room k (A.deeper (envOfC x (defScope st) s.heap.objs.size f cdv)) → sp vs H Q E →
      ∃ t, PSs (cxOf CX0 P w K mg base N x (defScope st) f cdv A outer s H E).nox (defBody st) t ∧ t { nx := fun _ H' => Q .non H', rt := Q } (start N vs) H) : Says P w K mg base (k + 1) x ps sp := by
  obtain ⟨f, fd, F, hm, b⟩ := h
  exact ⟨f, fd, F.ok S len fun cdv A outer s H vs Q E => body f cdv A outer s H vs Q E, hm, F.kp, b⟩
theorem saysK {ks : List Str} {g : {α : Type} → List α → List α} (h : HasK K mg x st ps ks g) (S : FnScope N ps (defScope st)) (len : ∀ vs H Q E, sp vs H Q E → vs.length = ps.length) (body : Body P w K mg base k x st N sp) : SaysK P w K mg base (k + 1) x ps ks g sp := by
  obtain ⟨f, fd, F, hm, b⟩ := h
  exact ⟨f, fd, F.ok S len fun cdv A outer s H vs Q E => body f cdv A outer s H vs Q E, hm, F.kp, b⟩
/-- one, and two turned about -/
theorem kb1 {fd : FuncData} {p : Str} (h : ∀ v : Value, bindArgs fd ⟨[], [(p, v)]⟩ = pure [(p, v)]) : KBinds K fd [p] [p] (kOnly fun l => l) (kOnly fun l => l) where
  to := fun s us ws _ hl => match us, ws, hl with
    | [], [v], _ => .of_eq (h v)
  rel := fun {vs us zs ws} r1 r2 => by
    cases r1 with
    | nil => exact r2
    | cons _ _ => exact .nil
theorem vals_rev {vs : List V} {us : List Value} (r : Vals vs us) : Vals vs.reverse us.reverse := by
  induction r with
  | nil => exact .nil
  | cons h _ ih =>
    rw [List.reverse_cons, List.reverse_cons]
    exact ih.append (.cons h .nil)
theorem kb2 {fd : FuncData} {p q : Str} (h : ∀ u v : Value, bindArgs fd ⟨[], [(q, u), (p, v)]⟩ = pure [(p, v), (q, u)]) : KBinds K fd [p, q] [q, p] (kOnly List.reverse) (kOnly List.reverse) where
  to := fun s us ws _ hl => match us, ws, hl with
    | [], [u, v], _ => .of_eq (h u v)
    | [], [], hl => nomatch hl
    | [], [_], hl => nomatch hl
    | [], _ :: _ :: _ :: _, hl => by
      have z : (List.reverse (_ :: _ :: _ :: _) : List Value).length = 2 := hl
      rw [List.length_reverse] at z
      simp at z
  rel := fun {vs us zs ws} r1 r2 => by
    cases r1 with
    | nil => exact vals_rev r2
    | cons _ _ => exact .nil
theorem hasK {ks : List Str} {gk : {α : Type} → List α → List α} {f : Addr} {oc : Value} {od an : Option Addr} {osl : Array (Option Value)} {kV doc pm cdv ct : Value} {h : Heap} (X : K.In h) (G : h.Ns mainGlobals mg) (a : PySem.W.nsIn K mainGlobals x = some (some (.ref f)))
    (l : K.lookup f = some ⟨oc, od, .func (PySem.W.fnOf x x (defArgs st) (defBody st) (defScope st) .none kV doc pm an cdv ct), osl⟩) (c : PySem.W.codeIn K cdv x = true) (kp : PySem.W.keepIn K (.ref f) = true)
    (b : KBinds K (PySem.W.fnOf x x (defArgs st) (defBody st) (defScope st) .none kV doc pm an cdv ct) ps ks (kOnly gk) (kOnly gk)) :
    HasK K mg x st ps ks gk := ⟨f, _, fun_mk l c kp, PySem.W.mg_of X G a, b⟩
theorem saysG (h : Has K mg x st ps) (S : FnScope N ps (defScope st)) (len : ∀ vs H Q E, sp vs H Q E → vs.length = ps.length)
    (body : ∀ (f : Addr) (cdv : Value) (A : Around) (outer : List Env) (s : Shared) (H : Hp) (vs : List V) (Q : VK) (E : XK), A.guards = some [] → Room k (A.deeper (envOfC x (defScope st) s.heap.objs.size f cdv)) → sp vs H Q E →
      ∃ t, PSs (cxOf CX0 P w K mg base N x (defScope st) f cdv A outer s H E).nox (defBody st) t ∧ t { nx := fun _ H' => Q .non H', rt := Q } (start N vs) H) : SaysG P w K mg base (k + 1) x ps sp := by
  obtain ⟨f, fd, F, hm, b⟩ := h
  exact ⟨f, fd, fun_g F S len fun cdv A outer s H vs Q E ga hr h => (body f cdv A outer s H vs Q E ga hr h).imp fun _ z => ⟨z.1.nox, z.2⟩, hm, F.kp, b⟩
theorem fnG {f : Addr} {fd : FuncData} (F : Fun K x x st f fd) (S : FnScope N ps (defScope st)) (len : ∀ vs H Q E, sp vs H Q E → vs.length = ps.length)
    (body : ∀ (f : Addr) (cdv : Value) (A : Around) (outer : List Env) (s : Shared) (H : Hp) (vs : List V) (Q : VK) (E : XK), A.guards = some [] → Room k (A.deeper (envOfC x (defScope st) s.heap.objs.size f cdv)) → sp vs H Q E →
      ∃ t, PSs (cxOf CX0 P w K mg base N x (defScope st) f cdv A outer s H E).nox (defBody st) t ∧ t { nx := fun _ H' => Q .non H', rt := Q } (start N vs) H) : FnG P w K mg base CX0 (k + 1) f fd ps sp :=
  fun_g F S len fun cdv A outer s H vs Q E ga hr h => (body f cdv A outer s H vs Q E ga hr h).imp fun _ z => ⟨z.1.nox, z.2⟩
theorem Says.imp {sp' : Sp} (c : Says P w K mg base k x ps sp) (h : ∀ vs H Q E, sp' vs H Q E → sp vs H Q E) : Says P w K mg base k x ps sp' := by
  obtain ⟨f, fd, F, hm, kp, b⟩ := c
  exact ⟨f, fd, F.imp h, hm, kp, b⟩
end
section
variable {X : Cx} {k j : Nat} {x : Str} {ps ks : List Str} {sp : Sp} {p pos : Pos} {e : Expr} {es : List Expr} {t tk : TA} {kws : List Keyword} {g : {α : Type} → List α → List α}
theorem pe_s (c : Says X.prog X.w X.K X.mg X.base k x ps sp) (hr : Room j X.A) (ha : PA X (e :: es) t) (le : k ≤ j := by decide) (gl : Gl X x := by rfl) (nd : (x == ("__debug__" : Str)) = false := by decide)
    (se : starEach (e :: es) X.env = (false, eval e X.env) :: starEach es X.env := by rfl) (pl : (backTo pos (starEach es X.env)).any (·.1) = false := by rfl) : PE X (.Call (.Name x p) (e :: es) [] pos) (tCall sp [] E0 t) := by
  obtain ⟨f, fd, F, hm, kp, b⟩ := c
  exact pe_call F (hr.mono le) gl hm kp b .nil pass0 ha nd se pl
theorem pe_g (c : SaysG X.prog X.w X.K X.mg X.base k x ps sp) (ga : X.A.guards = some []) (hr : Room j X.A) (ha : PA X (e :: es) t) (le : k ≤ j := by decide) (gl : Gl X x := by rfl) (nd : (x == ("__debug__" : Str)) = false := by decide)
    (se : starEach (e :: es) X.env = (false, eval e X.env) :: starEach es X.env := by rfl) (pl : (backTo pos (starEach es X.env)).any (·.1) = false := by rfl) : PE X (.Call (.Name x p) (e :: es) [] pos) (tCall sp [] E0 t) := by
  obtain ⟨f, fd, F, hm, kp, b⟩ := c
  exact pe_callG F ga (hr.mono le) gl hm kp b .nil pass0 ha nd se pl
theorem pe_k0 (c : SaysK X.prog X.w X.K X.mg X.base k x ps ks g sp) (hr : Room j X.A) (hk : PK X kws tk) (le : k ≤ j := by decide) (gl : Gl X x := by rfl)
    (named : (backToKw pos (keywordEach kws X.env)).all (·.1.isSome) = true := by rfl) (names : (backToKw pos (keywordEach kws X.env)).filterMap (·.1) = ks := by rfl) (nd : (x == ("__debug__" : Str)) = false := by decide)
    (pl : ((backTo pos (starEach [] X.env)).any (·.1) || (backToKw pos (keywordEach kws X.env)).any (·.1.isNone)) = false := by rfl) : PE X (.Call (.Name x p) [] kws pos) (tCallK sp (kOnly g) E0 tNil tk) := by
  obtain ⟨f, fd, F, hm, kp, b⟩ := c
  exact pe_callK0 F (hr.mono le) gl hm kp b pass0 hk named names nd pl
end
/-! ### heaps -/
theorem upd_self {H : Hp} {a : Addr} {o : HO} (h : H a = some o) : upd H a o = H := by
  funext b
  by_cases q : b = a
  · rw [q, upd_same, h]
  · rw [upd_ne q]
theorem same_new {H : Hp} {p : Addr} {o : HO} (h : H p = none) : Same H (upd H p o) := fun b u e => by
  rw [upd_ne (ne_of_none e h)]
  exact e
end Cb
set_option Elab.async false
set_option linter.all false
set_option maxRecDepth 100000
set_option maxHeartbeats 4000000
/-! Data that the calls themselves have made: what stands at an address is a list, a tuple or an empty dict of such. -/
namespace Cb
open PySem PySem.Spec PyProof.Rows L2
mutual
inductive DT (H : Hp) : V → PyData → Prop
  | non : DT H .non .none
  | bl (b : Bool) : DT H (.bl b) (.bool b)
  | int (i : Int) : DT H (.int i) (.int i)
  | str (z : Str) : DT H (.str z) (.str z)
  | lst {a : Addr} {xs : List V} {ds : List PyData} : H a = some (.lst xs) → DTs H xs ds → DT H (.ref a) (.list ds)
  | tup {a : Addr} {xs : List V} {ds : List PyData} : H a = some (.tup xs) → DTs H xs ds → DT H (.ref a) (.tuple ds)
  | dct {a : Addr} : H a = some (.dK []) → DT H (.ref a) (.dict [])
inductive DTs (H : Hp) : List V → List PyData → Prop
  | nil : DTs H [] []
  | cons {v : V} {vs : List V} {d : PyData} {ds : List PyData} : DT H v d → DTs H vs ds → DTs H (v :: vs) (d :: ds)
end
mutual
theorem DT.same {H H' : Hp} (s : Same H H') : ∀ (d : PyData) {v : V}, DT H v d → DT H' v d
  | .none, _, h => by cases h; exact .non
  | .bool _, _, h => by cases h; exact .bl _
  | .int _, _, h => by cases h; exact .int _
  | .str _, _, h => by cases h; exact .str _
  | .list ds, _, h => by
    cases h with
    | lst e r => exact .lst (s _ _ e) (DTs.same s ds r)
  | .tuple ds, _, h => by
    cases h with
    | tup e r => exact .tup (s _ _ e) (DTs.same s ds r)
  | .dict _, _, h => by
    cases h with
    | dct e => exact .dct (s _ _ e)
theorem DTs.same {H H' : Hp} (s : Same H H') : ∀ (ds : List PyData) {vs : List V}, DTs H vs ds → DTs H' vs ds
  | [], _, h => by cases h; exact .nil
  | d :: ds, _, h => by
    cases h with
    | cons a r => exact .cons (DT.same s d a) (DTs.same s ds r)
end
theorem DTs.length {H : Hp} : ∀ {ds : List PyData} {vs : List V}, DTs H vs ds → vs.length = ds.length
  | [], _, h => by cases h; rfl
  | d :: ds, _, h => by
    cases h with
    | cons a r =>
      rw [List.length_cons, List.length_cons, DTs.length r]
theorem DTs.get {H : Hp} : ∀ {ds : List PyData} {vs : List V} {j : Nat} {v : V} {d : PyData}, DTs H vs ds → vs[j]? = some v → ds[j]? = some d → DT H v d
  | [], _, j, v, d, h, e, f => by simp at f
  | d0 :: ds, _, 0, v, d, h, e, f => by
    cases h with
    | cons a r =>
      simp at e f
      rw [← e, ← f]
      exact a
  | d0 :: ds, _, j + 1, v, d, h, e, f => by
    cases h with
    | cons a r =>
      simp at e f
      exact r.get e f
/-! ### types -/
def tyN : PyData → String
  | .none => "NoneType"
  | .bool _ => "bool"
  | .int _ => "int"
  | .str _ => "str"
  | .list _ => "list"
  | .tuple _ => "tuple"
  | .dict _ => "dict"
def isS : PyData → Bool
  | .str _ => true
  | _ => false
def isL : PyData → Bool
  | .list _ => true
  | _ => false
def isTu : PyData → Bool
  | .tuple _ => true
  | _ => false
theorem DT.ty {K : PySem.W.Frag} {H : Hp} {v : V} : ∀ {d : PyData}, DT H v d → TyX K H v (.type (tyN d))
  | .none, h => by cases h; exact .base .non
  | .bool _, h => by cases h; exact .base (.bl _)
  | .int _, h => by cases h; exact .base (.int _)
  | .str _, h => by cases h; exact .base (.str _)
  | .list _, h => by
    cases h with
    | lst e _ => exact .base (.lst e)
  | .tuple _, h => by
    cases h with
    | tup e _ => exact .base (.tup e)
  | .dict _, h => by
    cases h with
    | dct e => exact .base (.dK e)
theorem kit_s : ∀ d : PyData, kitB (tyN d) "str" = some (isS d)
  | .none => by show kitB "NoneType" "str" = some false; decide +kernel
  | .bool _ => by show kitB "bool" "str" = some false; decide +kernel
  | .int _ => by show kitB "int" "str" = some false; decide +kernel
  | .str _ => by show kitB "str" "str" = some true; decide +kernel
  | .list _ => by show kitB "list" "str" = some false; decide +kernel
  | .tuple _ => by show kitB "tuple" "str" = some false; decide +kernel
  | .dict _ => by show kitB "dict" "str" = some false; decide +kernel
theorem kit_l : ∀ d : PyData, kitB (tyN d) "list" = some (isL d)
  | .none => by show kitB "NoneType" "list" = some false; decide +kernel
  | .bool _ => by show kitB "bool" "list" = some false; decide +kernel
  | .int _ => by show kitB "int" "list" = some false; decide +kernel
  | .str _ => by show kitB "str" "list" = some false; decide +kernel
  | .list _ => by show kitB "list" "list" = some true; decide +kernel
  | .tuple _ => by show kitB "tuple" "list" = some false; decide +kernel
  | .dict _ => by show kitB "dict" "list" = some false; decide +kernel
theorem kit_t : ∀ d : PyData, kitB (tyN d) "tuple" = some (isTu d)
  | .none => by show kitB "NoneType" "tuple" = some false; decide +kernel
  | .bool _ => by show kitB "bool" "tuple" = some false; decide +kernel
  | .int _ => by show kitB "int" "tuple" = some false; decide +kernel
  | .str _ => by show kitB "str" "tuple" = some false; decide +kernel
  | .list _ => by show kitB "list" "tuple" = some false; decide +kernel
  | .tuple _ => by show kitB "tuple" "tuple" = some true; decide +kernel
  | .dict _ => by show kitB "dict" "tuple" = some false; decide +kernel
/-- what a call of isinstance asks of data -/
theorem isi_s {K : PySem.W.Frag} {H : Hp} {v : V} {d : PyData} {Q : VK} (h : DT H v d) (q : Q (.bl (isS d)) H) : rIsi K [v, .ty "str"] H Q := ⟨_, _, _, _, _, rfl, .ty _, h.ty, kit_ty (kit_s d), q⟩
theorem isi_l {K : PySem.W.Frag} {H : Hp} {v : V} {d : PyData} {Q : VK} (h : DT H v d) (q : Q (.bl (isL d)) H) : rIsi K [v, .ty "list"] H Q := ⟨_, _, _, _, _, rfl, .ty _, h.ty, kit_ty (kit_l d), q⟩
theorem isi_t {K : PySem.W.Frag} {H : Hp} {v : V} {d : PyData} {Q : VK} (h : DT H v d) (q : Q (.bl (isTu d)) H) : rIsi K [v, .ty "tuple"] H Q := ⟨_, _, _, _, _, rfl, .ty _, h.ty, kit_ty (kit_t d), q⟩
/-! ### for the reckoning by ==: without dicts -/
mutual
def plain : PyData → Bool
  | .dict _ => false
  | .list ds => plains ds
  | .tuple ds => plains ds
  | _ => true
def plains : List PyData → Bool
  | [] => true
  | d :: ds => plain d && plains ds
end
mutual
theorem DT.dp {K : PySem.W.Frag} {H : Hp} : ∀ {d : PyData} {v : V}, plain d = true → DT H v d → Dp K H v d
  | .none, _, _, h => by cases h; exact .non
  | .bool _, _, _, h => by cases h; exact .bl _
  | .int _, _, _, h => by cases h; exact .int _
  | .str _, _, _, h => by cases h; exact .str _
  | .list ds, _, p, h => by
    cases h with
    | lst e r => exact .lst (SqL.of e) (DTs.dp (ds := ds) (by simpa [plain] using p) r)
  | .tuple ds, _, p, h => by
    cases h with
    | tup e r => exact .tup (SqT.of e) (DTs.dp (ds := ds) (by simpa [plain] using p) r)
  | .dict _, _, p, _ => by simp [plain] at p
theorem DTs.dp {K : PySem.W.Frag} {H : Hp} : ∀ {ds : List PyData} {vs : List V}, plains ds = true → DTs H vs ds → DpAll K H vs ds
  | [], _, _, h => by cases h; exact .nil
  | d :: ds, _, p, h => by
    cases h with
    | cons a r =>
      have p2 : plain d = true ∧ plains ds = true := by simpa [plains] using p
      exact .cons (DT.dp (d := d) p2.1 a) (DTs.dp (ds := ds) p2.2 r)
end
/-! ### lists made one by one, over any walk -/
theorem lc_mapW {J : It} {n : Nat} {G : Hp → Prop} {Y : Nat → Hp → V → Hp → Prop} {i : Nat} {te : TE} {σ : L2.St} {H1 : Hp} {D : Addr} {Qd : Hp → Prop} {ys : List V} (w : Walk J n G Y) (g0 : ∀ H, Same H1 H → G H) (y0 : ∀ j H x H', Y j H x H' → H' = H) (hD : H1 D = none) (len : ys.length = n) (small : n < 1000)
    (hs : ∀ (j : Nat) (x y : V) (H' : Hp) (Q : VK), Same H1 H' → Y j H' x H' → ys[j]? = some y → (∀ H'', Same H' H'' → Q y H'') → te ((wipe σ [i]).set i (some x)) H' Q)
    (hd : ∀ H', Same H1 H' → H' D = some (.lst ys) → Qd H') :
    ∃ W : Nat → Nat → Hp → Prop, (∃ m, W 0 m (upd H1 D (.lst []))) ∧ ∀ k m H, W k m H →
      (J.stop k H ∧ Qd H) ∨ (J.go k H ∧ ∃ Nx : Hp → Prop, (∀ H', Nx H' → ∃ m', m' < m ∧ W (k + 1) m' H') ∧ ∀ x H', J.yld k H x H' → gName i x (wipe σ [i]) H' fun σ2 H2 => wipe σ2 [i] = wipe σ [i] ∧ tYes σ2 H2 fun b H3 =>
        if b = true then te σ2 H3 fun y H4 => ∃ acc, H4 D = some (.lst acc) ∧ acc.length < sizeLine ∧ Nx (upd H4 D (.lst (acc ++ [y]))) else Nx H3) := by
  refine lc_it w (fun j H' => Same H1 H' ∧ H' D = some (.lst (ys.take j))) ⟨same_new hD, upd_same⟩ (fun j H' _ z => g0 H' z.1) ?_ ?_
  · rintro j x H H' hj ⟨s1, hd1⟩ y
    obtain rfl := y0 _ _ _ _ y
    have hy : ys[j]? = some ys[j] := List.getElem?_eq_getElem (by omega)
    refine ⟨?_, ?_⟩
    · show ((wipe σ [i]).set i (some x)).set i none = wipe σ [i]
      show ((σ.set i none).set i (some x)).set i none = σ.set i none
      rw [List.set_set, List.set_set]
    · show te ((wipe σ [i]).set i (some x)) H' _
      refine hs j x _ H' _ s1 y hy ?_
      intro H'' s2
      have e2 := s2 _ _ hd1
      refine ⟨_, e2, ?_, ?_, ?_⟩
      · rw [List.length_take]
        exact Nat.lt_of_le_of_lt (Nat.min_le_right _ _) (by rw [len]; exact small1000 (by omega))
      · intro b o e
        rw [upd_ne (ne_of_none e hD)]
        exact s2 _ _ (s1 _ _ e)
      · rw [upd_same, List.take_add_one, hy]
        rfl
  · rintro H' ⟨s1, hd1⟩
    rw [List.take_of_length_le (by omega)] at hd1
    exact hd H' s1 hd1
end Cb
set_option Elab.async false
set_option linter.all false
set_option maxRecDepth 100000
set_option maxHeartbeats 4000000
namespace Cb
open PySem PySem.Spec PyProof.Rows L2
/-! ### data that can be laid out and compared -/
mutual
def good : PyData → Bool
  | .none => true
  | .bool _ => true
  | .int _ => true
  | .str z => PyData.strOk z && decide (z.length ≤ 1000)
  | .list ds => decide (ds.length < 1000) && goods ds
  | .tuple ds => decide (ds.length < 1000) && goods ds
  | .dict _ => false
def goods : List PyData → Bool
  | [] => true
  | d :: ds => good d && goods ds
end
theorem goods_mem : ∀ {ds : List PyData} {d : PyData}, goods ds = true → d ∈ ds → good d = true
  | [], _, _, h => by cases h
  | e :: ds, d, g, h => by
    have g2 : good e = true ∧ goods ds = true := by simpa [goods] using g
    rcases List.mem_cons.mp h with rfl | h
    · exact g2.1
    · exact goods_mem g2.2 h
mutual
theorem good_can : ∀ d : PyData, good d = true → d.canLay0 = true
  | .none, _ => by simp [PyData.canLay0]
  | .bool _, _ => by simp [PyData.canLay0]
  | .int _, _ => by simp [PyData.canLay0]
  | .str z, h => by
    have h2 : PyData.strOk z = true ∧ z.length ≤ 1000 := by simpa [good] using h
    simpa [PyData.canLay0] using h2.1
  | .list ds, h => by
    have h2 : ds.length < 1000 ∧ goods ds = true := by simpa [good] using h
    simpa [PyData.canLay0] using goods_can ds h2.2
  | .tuple ds, h => by
    have h2 : ds.length < 1000 ∧ goods ds = true := by simpa [good] using h
    simpa [PyData.canLay0] using goods_can ds h2.2
  | .dict _, h => by simp [good] at h
theorem goods_can : ∀ ds : List PyData, goods ds = true → PyData.canLayAll0 ds = true
  | [], _ => by simp [PyData.canLayAll0]
  | d :: ds, h => by
    have g2 : good d = true ∧ goods ds = true := by simpa [goods] using h
    simp [PyData.canLayAll0, good_can d g2.1, goods_can ds g2.2]
end
mutual
theorem good_plain : ∀ d : PyData, good d = true → plain d = true
  | .none, _ => by simp [plain]
  | .bool _, _ => by simp [plain]
  | .int _, _ => by simp [plain]
  | .str z, h => by simp [plain]
  | .list ds, h => by
    have h2 : ds.length < 1000 ∧ goods ds = true := by simpa [good] using h
    simpa [plain] using goods_plain ds h2.2
  | .tuple ds, h => by
    have h2 : ds.length < 1000 ∧ goods ds = true := by simpa [good] using h
    simpa [plain] using goods_plain ds h2.2
  | .dict _, h => by simp [good] at h
theorem goods_plain : ∀ ds : List PyData, goods ds = true → plains ds = true
  | [], _ => by simp [plains]
  | d :: ds, h => by
    have g2 : good d = true ∧ goods ds = true := by simpa [goods] using h
    simp [plains, good_plain d g2.1, goods_plain ds g2.2]
end
/-- good, and not too deep -/
structure OKd (d : PyData) : Prop where
  good : good d = true
  dep : d.depth ≤ 60
theorem OKd.shaped {d : PyData} (h : OKd d) : SeqAt.shaped d = true := by
  unfold SeqAt.shaped
  rw [good_can d h.good, Bool.true_and]
  exact decide_eq_true (Nat.le_trans h.dep (by decide))
theorem OKd.mem_l {d : PyData} {ds : List PyData} (h : OKd (.list ds)) (m : d ∈ ds) : OKd d := by
  have g := h.good
  have g2 : ds.length < 1000 ∧ goods ds = true := by simpa [Cb.good] using g
  refine ⟨goods_mem g2.2 m, ?_⟩
  have := PyData.depth_le_depthAll ds d m
  have h2 := h.dep
  simp only [PyData.depth] at h2
  omega
theorem OKd.mem_t {d : PyData} {ds : List PyData} (h : OKd (.tuple ds)) (m : d ∈ ds) : OKd d := by
  have g := h.good
  have g2 : ds.length < 1000 ∧ goods ds = true := by simpa [Cb.good] using g
  refine ⟨goods_mem g2.2 m, ?_⟩
  have := PyData.depth_le_depthAll ds d m
  have h2 := h.dep
  simp only [PyData.depth] at h2
  omega
theorem OKd.len_l {ds : List PyData} (h : OKd (.list ds)) : ds.length < 1000 := by
  have g := h.good
  have g2 : ds.length < 1000 ∧ goods ds = true := by simpa [Cb.good] using g
  exact g2.1
theorem OKd.len_t {ds : List PyData} (h : OKd (.tuple ds)) : ds.length < 1000 := by
  have g := h.good
  have g2 : ds.length < 1000 ∧ goods ds = true := by simpa [Cb.good] using g
  exact g2.1
theorem OKd.len_s {z : Str} (h : OKd (.str z)) : z.length ≤ 1000 := by
  have g := h.good
  have g2 : PyData.strOk z = true ∧ z.length ≤ 1000 := by simpa [Cb.good] using g
  exact g2.2
theorem okd_str {z : Str} (h : PyData.strOk z = true) (l : z.length ≤ 1000) : OKd (.str z) := by
  refine ⟨?_, ?_⟩
  · simp [Cb.good, h, l]
  · simp [PyData.depth]
/-! ### == of an item and a text -/
theorem eqv_str (z y : Str) : PyData.eqv (.str z) (.str y) = decide (z = y) := by
  simp only [PyData.eqv]
  by_cases h : z = y <;> simp [h]
def isStr (y : Str) : PyData → Bool
  | .str z => decide (z = y)
  | _ => false
theorem eqv_isStr (y : Str) : ∀ d : PyData, PyData.eqv d (.str y) = isStr y d
  | .none => by simp [PyData.eqv, isStr]
  | .bool _ => by simp [PyData.eqv, isStr]
  | .int _ => by simp [PyData.eqv, isStr]
  | .str z => eqv_str z y
  | .list _ => by simp [PyData.eqv, isStr]
  | .tuple _ => by simp [PyData.eqv, isStr]
  | .dict _ => by simp [PyData.eqv, isStr]
/-! ### tests of what is known -/
theorem ifNot {p : Prop} [Decidable p] {A B : Prop} (hA : ¬ p → A) (hB : p → B) : if (!decide p) = true then A else B := by
  by_cases h : p
  · rw [decide_eq_true h]
    exact iteF (hB h)
  · rw [decide_eq_false h]
    exact iteT (hA h)
theorem ifB {b : Bool} {A B : Prop} (hA : b = true → A) (hB : b = false → B) : if b = true then A else B := by
  cases b with
  | true => exact iteT (hA rfl)
  | false => exact iteF (hB rfl)
theorem ifN {z y : Str} {A B : Prop} (h : ¬ z = y) (b : B) : if decide (V.str z = V.str y) = true then A else B := by
  rw [decide_eq_false (fun e => h (V.str.inj e))]
  exact iteF b
theorem ifY {z y : Str} {A B : Prop} (h : z = y) (a : A) : if decide (V.str z = V.str y) = true then A else B := by
  rw [decide_eq_true (congrArg V.str h)]
  exact iteT a
/-! ### signs of texts -/
def lowC (c : Nat) : Bool := decide (97 ≤ c) && decide (c ≤ 122)
def digC (c : Nat) : Bool := decide (48 ≤ c) && decide (c ≤ 57)
theorem lt1 (a c : Nat) : ([c] < [a]) ↔ c < a := by
  rw [List.cons_lt_cons_iff]
  simp
end Cb
set_option Elab.async false
set_option linter.all false
set_option maxRecDepth 100000
set_option maxHeartbeats 4000000
namespace Cb
open PySem PySem.Spec PyProof.Rows L2
/-! ### what is not looked at -/
def hid (S : List Addr) (H : Hp) : Hp := fun b => if b ∈ S then none else H b
def Keep (S : List Addr) (H H' : Hp) : Prop := ∀ b o, b ∉ S → H b = some o → H' b = some o
theorem hid_at {S : List Addr} {H : Hp} {b : Addr} {o : HO} (n : b ∉ S) (e : H b = some o) : hid S H b = some o := by
  unfold hid
  rw [if_neg n]
  exact e
theorem hid_out {S : List Addr} {H : Hp} {b : Addr} {o : HO} (e : hid S H b = some o) : b ∉ S ∧ H b = some o := by
  unfold hid at e
  split at e
  · cases e
  · exact ⟨by assumption, e⟩
theorem Keep.hid {S : List Addr} {H H' : Hp} (k : Keep S H H') : Same (hid S H) (hid S H') := fun b o e => by
  obtain ⟨n, e2⟩ := hid_out e
  exact hid_at n (k b o n e2)
theorem hid_same {S : List Addr} {H : Hp} : Same (hid S H) H := fun b o e => (hid_out e).2
theorem hid_mono {S S' : List Addr} {H : Hp} (h : ∀ b, b ∈ S → b ∈ S') : Same (hid S' H) (hid S H) := fun b o e => by
  obtain ⟨n, e2⟩ := hid_out e
  exact hid_at (fun z => n (h b z)) e2
theorem Same.keep {S : List Addr} {H H' : Hp} (s : Same H H') : Keep S H H' := fun b o _ e => s b o e
theorem Keep.trans {S : List Addr} {H H' H'' : Hp} (a : Keep S H H') (b : Keep S H' H'') : Keep S H H'' := fun c o n e => b c o n (a c o n e)
theorem Keep.refl {S : List Addr} {H : Hp} : Keep S H H := fun _ _ _ e => e
theorem Keep.mono {S S' : List Addr} {H H' : Hp} (k : Keep S H H') (h : ∀ b, b ∈ S → b ∈ S') : Keep S' H H' := fun b o n e => k b o (fun z => n (h b z)) e
/-- writing what is hidden -/
theorem keep_upd {S : List Addr} {H : Hp} {p : Addr} {o : HO} (h : p ∈ S) : Keep S H (upd H p o) := fun b u n e => by
  rw [upd_ne (show b ≠ p from fun z => n (by rw [z]; exact h))]
  exact e
theorem keep_new {S : List Addr} {H : Hp} {p : Addr} {o : HO} (h : H p = none) : Keep S H (upd H p o) := fun b u _ e => same_new h b u e
/-- what was new when S' was told may be hidden no more -/
theorem Keep.less {S S' : List Addr} {H H' : Hp} (k : Keep S' H H') (h : ∀ b, b ∈ S' → b ∉ S → H b = none) : Keep S H H' := fun b o n e => by
  by_cases z : b ∈ S'
  · rw [h b z n] at e
    cases e
  · exact k b o z e
/-! ### data of bounded size -/
def fit : List Nat → PyData → Bool
  | _, .none => true
  | _, .bool _ => true
  | _, .int i => decide (i = 0) || decide (i = 7)
  | _, .str z => PyData.strOk z && decide (z.length ≤ 40)
  | w :: ws, .list ds => decide (ds.length ≤ w) && ds.all (fit ws)
  | w :: ws, .tuple ds => decide (ds.length ≤ w) && ds.all (fit ws)
  | _, _ => false
def bulk : List Nat → Nat
  | [] => 40
  | w :: ws => 40 + w * (bulk ws + 1)
theorem bulk_40 : ∀ ws, 40 ≤ bulk ws
  | [] => Nat.le_refl _
  | w :: ws => by
    unfold bulk
    omega
theorem weightAll_le {n : Nat} : ∀ {ds : List PyData}, (∀ d ∈ ds, d.weight ≤ n) → PyData.weightAll ds ≤ ds.length * (n + 1)
  | [], _ => by simp [PyData.weightAll]
  | d :: ds, h => by
    have h1 := h d (List.mem_cons_self ..)
    have h2 := weightAll_le (ds := ds) fun e he => h e (List.mem_cons_of_mem _ he)
    simp only [PyData.weightAll, List.length_cons]
    rw [Nat.add_mul]
    omega
theorem canAll {ds : List PyData} (h : ∀ d ∈ ds, d.canLay0 = true) : PyData.canLayAll0 ds = true := by
  induction ds with
  | nil => simp [PyData.canLayAll0]
  | cons d ds ih => simp [PyData.canLayAll0, h d (List.mem_cons_self ..), ih fun e he => h e (List.mem_cons_of_mem _ he)]
theorem depthAll_le {n : Nat} {ds : List PyData} (h : ∀ d ∈ ds, d.depth ≤ n) : PyData.depthAll ds ≤ n := by
  induction ds with
  | nil => simp [PyData.depthAll]
  | cons d ds ih =>
    have h1 := h d (List.mem_cons_self ..)
    have h2 := ih fun e he => h e (List.mem_cons_of_mem _ he)
    simp only [PyData.depthAll]
    omega
/-- what fits is good, can be laid out, compared and shown -/
structure Fits (ws : List Nat) (d : PyData) : Prop where
  good : good d = true
  dep : d.depth ≤ ws.length
  wgt : d.weight ≤ bulk ws
  short : d.intsShort 13 = true
  shw : d.showable = true
  nod : d.hasDict = false
theorem goods_of : ∀ {ds : List PyData}, (∀ d ∈ ds, good d = true) → goods ds = true
  | [], _ => rfl
  | d :: ds, h => by
    simp only [goods, h d (List.mem_cons_self ..), goods_of (ds := ds) fun e he => h e (List.mem_cons_of_mem _ he), Bool.and_self]
theorem showAll_of : ∀ {ds : List PyData}, (∀ d ∈ ds, d.showable = true) → PyData.showableAll ds = true
  | [], _ => by simp [PyData.showableAll]
  | d :: ds, h => by
    simp only [PyData.showableAll, h d (List.mem_cons_self ..), showAll_of (ds := ds) fun e he => h e (List.mem_cons_of_mem _ he), Bool.and_self]
theorem shortAll_of : ∀ {ds : List PyData}, (∀ d ∈ ds, d.intsShort 13 = true) → PyData.intsShortAll 13 ds = true
  | [], _ => by simp [PyData.intsShortAll]
  | d :: ds, h => by
    simp only [PyData.intsShortAll, h d (List.mem_cons_self ..), shortAll_of (ds := ds) fun e he => h e (List.mem_cons_of_mem _ he), Bool.and_self]
theorem nodAll_of : ∀ {ds : List PyData}, (∀ d ∈ ds, d.hasDict = false) → PyData.hasDictAll ds = false
  | [], _ => by simp [PyData.hasDictAll]
  | d :: ds, h => by
    simp only [PyData.hasDictAll, h d (List.mem_cons_self ..), nodAll_of (ds := ds) fun e he => h e (List.mem_cons_of_mem _ he), Bool.or_self]
theorem log_100 {i : Int} (h : i.natAbs < 100) : i.natAbs.log2 < 1920 := Nat.lt_of_lt_of_le (PySem.Flt.log2_lt_of (by decide) (show i.natAbs < 2 ^ 7 by omega)) (by decide)
theorem fits_of : ∀ (ws : List Nat), (∀ w ∈ ws, w < 1000) → ∀ d : PyData, fit ws d = true → Fits ws d
  | ws, _, .none, _ => ⟨rfl, by simp [PyData.depth], by simp [PyData.weight], by simp [PyData.intsShort], by simp [PyData.showable], by simp [PyData.hasDict]⟩
  | ws, _, .bool _, _ => ⟨rfl, by simp [PyData.depth], by simp [PyData.weight], by simp [PyData.intsShort], by simp [PyData.showable], by simp [PyData.hasDict]⟩
  | ws, _, .int i, h => by
    have h2 : i = 0 ∨ i = 7 := by cases ws <;> simpa [fit] using h
    have h40 := bulk_40 ws
    rcases h2 with rfl | rfl
    · exact ⟨rfl, by simp [PyData.depth], by simp [PyData.weight], by decide +kernel, by decide +kernel, by simp [PyData.hasDict]⟩
    · exact ⟨rfl, by simp [PyData.depth], Nat.le_trans (by decide +kernel) h40, by decide +kernel, by decide +kernel, by simp [PyData.hasDict]⟩
  | ws, _, .str z, h => by
    have h2 : PyData.strOk z = true ∧ z.length ≤ 40 := by cases ws <;> simpa [fit] using h
    have h40 := bulk_40 ws
    refine ⟨?_, by simp [PyData.depth], ?_, by simp [PyData.intsShort], by simp [PyData.showable], by simp [PyData.hasDict]⟩
    · simp only [Cb.good, h2.1, Bool.true_and]
      exact decide_eq_true (Nat.le_trans h2.2 (by decide))
    · simp only [PyData.weight]
      exact Nat.le_trans h2.2 h40
  | [], _, .list _, h => by simp [fit] at h
  | [], _, .tuple _, h => by simp [fit] at h
  | [], _, .dict _, h => by simp [fit] at h
  | _ :: _, _, .dict _, h => by simp [fit] at h
  | w :: ws, hw, .list ds, h => by
    have h2 : ds.length ≤ w ∧ ds.all (fit ws) = true := by simpa only [fit, Bool.and_eq_true, decide_eq_true_eq] using h
    have all : ∀ d ∈ ds, Fits ws d := fun d hd => fits_of ws (fun x hx => hw x (List.mem_cons_of_mem _ hx)) d (List.all_eq_true.mp h2.2 d hd)
    have w1 := hw w (List.mem_cons_self ..)
    refine ⟨?_, ?_, ?_, ?_, ?_, ?_⟩
    · simp only [Cb.good, goods_of fun d hd => (all d hd).good, Bool.and_true]
      exact decide_eq_true (by omega)
    · have := depthAll_le fun d hd => (all d hd).dep
      simp only [PyData.depth, List.length_cons]
      omega
    · have h3 := weightAll_le fun d hd => (all d hd).wgt
      have h4 : ds.length * (bulk ws + 1) ≤ w * (bulk ws + 1) := Nat.mul_le_mul_right _ h2.1
      simp only [PyData.weight, bulk]
      omega
    · simp only [PyData.intsShort]
      exact shortAll_of fun d hd => (all d hd).short
    · simp only [PyData.showable]
      exact showAll_of fun d hd => (all d hd).shw
    · simp only [PyData.hasDict]
      exact nodAll_of fun d hd => (all d hd).nod
  | w :: ws, hw, .tuple ds, h => by
    have h2 : ds.length ≤ w ∧ ds.all (fit ws) = true := by simpa only [fit, Bool.and_eq_true, decide_eq_true_eq] using h
    have all : ∀ d ∈ ds, Fits ws d := fun d hd => fits_of ws (fun x hx => hw x (List.mem_cons_of_mem _ hx)) d (List.all_eq_true.mp h2.2 d hd)
    have w1 := hw w (List.mem_cons_self ..)
    refine ⟨?_, ?_, ?_, ?_, ?_, ?_⟩
    · simp only [Cb.good, goods_of fun d hd => (all d hd).good, Bool.and_true]
      exact decide_eq_true (by omega)
    · have := depthAll_le fun d hd => (all d hd).dep
      simp only [PyData.depth, List.length_cons]
      omega
    · have h3 := weightAll_le fun d hd => (all d hd).wgt
      have h4 : ds.length * (bulk ws + 1) ≤ w * (bulk ws + 1) := Nat.mul_le_mul_right _ h2.1
      simp only [PyData.weight, bulk]
      omega
    · simp only [PyData.intsShort]
      exact shortAll_of fun d hd => (all d hd).short
    · simp only [PyData.showable]
      exact showAll_of fun d hd => (all d hd).shw
    · simp only [PyData.hasDict]
      exact nodAll_of fun d hd => (all d hd).nod
theorem Fits.ok {ws : List Nat} {d : PyData} (f : Fits ws d) (l : ws.length ≤ 60) : OKd d := ⟨f.good, Nat.le_trans f.dep l⟩
theorem Fits.len {ws : List Nat} {d : PyData} (f : Fits ws d) (l : ws.length ≤ 60) (b : bulk ws ≤ 2 ^ 20) : d.shown.length ≤ sizeLine := by
  refine Nat.le_trans (PyProof.Rows.shown_le13 ?_ f.short) (by decide)
  simp only [PyData.layable0, good_can d f.good, Bool.true_and, Bool.and_eq_true, decide_eq_true_eq]
  exact ⟨Nat.le_trans f.dep (by omega), Nat.le_trans f.wgt b⟩
/-- its text, asked by call_repr -/
theorem r_fits {K : PySem.W.Frag} {u : Nat} {H : Hp} {Q : VK} {v : V} {d : PyData} {ws : List Nat} (h : DT H v d) (f : Fits ws d) (l : ws.length ≤ 60) (b : bulk ws ≤ 2 ^ 20) (hu : u + 200 < cLine) (q : Q (.str (PyData.shown d)) H) : rRepr K u [v] H Q := by
  unfold rRepr
  exact ⟨v, d, rfl, h.dp (good_plain d f.good), f.shw, f.nod, by have := f.dep; omega, .inr (f.len l b), q⟩
end Cb
set_option Elab.async false
set_option linter.all false
set_option maxRecDepth 100000
set_option maxHeartbeats 4000000
namespace Cb
open PySem PySem.Spec PyProof.Rows L2
/-! ### set(xs) of a list of whole numbers -/
def freshSet (w : World) : Obj := { cls := .type "set", dict := none, data := .set #[] 0 (.fresh 0 0 (!w.params.followText "set-order")) }
def rSetL (K : PySem.W.Frag) (w : World) : List V → Hp → VK → Prop := fun xs H Q => ∃ (a : Addr) (ns : List Int), xs = [.ref a] ∧ SqL K H a (ns.map V.int) ∧ ns.length < 1000 ∧
  ∀ (p : Addr) (n : Nat), H p = none → n ≤ ns.length → Q (.ref p) (upd H p (SetO w p (fun j => decide (j ∈ ns)) n))
section
variable {P : Program} {w : World} {A : Around} {E : Value → Shared → Prop} {s : Shared}
theorem set_ofL {a : Addr} {vs : Array Value} (ns : List Int) {Q : Value → Shared → Prop} (calm : A.handled = none) (la : s.heap.IsList a vs) (ints_ : IntsAre vs.toList ns) (few : ns.length + 1 < scanBound)
    (q : ∀ (h2 : Heap) (t2 c2 : Nat), SetR w h2 s.heap.objs.size (fun j => decide (j ∈ ns)) c2 → c2 ≤ ns.length → (∀ b o, s.heap.get? b = some o → h2.get? b = some o) → Q (.ref s.heap.objs.size) { s with heap := h2, toks := t2 }) :
    wpAny (model P w) A (call (.type "set") [.ref a]) Q E s := by
  have many : vs.size = ns.length := by
    have := IntsAre.length ints_
    rwa [Array.length_toList] at this
  obtain ⟨c0, tl0, m0⟩ := F.called_set.mro
  have m1 := F.called_set.made
  have m2 := F.called_set.sub
  refine wpAny_call (codeAny_of_tree ?_)
  show wpAny _ _ (callAny (.type "set") _) _ _ _
  refine wpAny_pure ⟨Code.quiet_builtin _ (by decide +kernel), codeAny_builtin F.entry_type_call ?_⟩
  rw [Around.under_plain (weight_type_call_type "set" [.ref a] []) rfl]
  have m3 := F.called_set.notType
  have m4 := F.called_set.canCreate
  have m5 := F.typeCall_set_1 (.ref a)
  repeat (any_goals (first | assumption | wp_step))
  refine codeAny_mono (code_set_led1 (.ref a) (E := E) (Q₁ := fun obj s1 => obj = .ref s.heap.objs.size ∧ s1 = { s with heap := s.heap.push (freshSet w) }) ⟨rfl, rfl⟩) fun r s1 hr => ?_
  cases r with
  | error e => exact hr
  | ok fl =>
    cases fl with
    | ret obj =>
      obtain ⟨rfl, rfl⟩ := hr
      have at1 : (s.heap.push (freshSet w)).get? s.heap.objs.size = some (freshSet w) := Heap.get?_push_size _ rfl
      have ty1 : Shared.TypeIs { s with heap := s.heap.push (freshSet w) } (.ref s.heap.objs.size) "set" := ⟨_, at1, rfl⟩
      have n1 := F.called_set.init.lookup
      have n2 := F.called_set.init.bind (.ref s.heap.objs.size)
      repeat (any_goals (first | assumption | wp_step))
      refine codeAny_mono (codeAny_call_builtin (R := wants (fun r s2 => r = .none ∧ ∃ h2 t2 c2, s2 = { s with heap := h2, toks := t2 } ∧ SetR w h2 s.heap.objs.size (fun j => decide (j ∈ ns)) c2 ∧ c2 ≤ ns.length ∧
          (∀ b o, s.heap.get? b = some o → h2.get? b = some o)) E) F.called_set.init.plain F.entry_set_init (check_set_init_1 ty1 ?_)) fun r2 s2 hr2 => ?_
      · obtain ⟨ol, hol, hcl, nl, hdl⟩ := la
        obtain ⟨ocls, odict, odata, oslots⟩ := ol
        simp only at hcl hdl
        subst hcl hdl
        have hol' : (s.heap.push (freshSet w)).get? a = some { cls := .type "list", dict := odict, data := .seq vs nl, slots := oslots } := Heap.get?_push_of_some _ hol
        have f1 := F.sub_list_set
        have f2 := F.sub_list_frozenset
        have f3 : (Value.type "list" == Value.type "dict") = false := by decide
        have la1 : (s.heap.push (freshSet w)).IsList a vs := ⟨_, hol', rfl, nl, rfl⟩
        unfold Builtin.«set.__init__» noKeywords Builtin.Frozenset.updateFrom
        generalize hPI : pyIter = PI
        wp_walk
        subst hPI
        refine wpAny_pyIter_list la1 (wpAny_bind (wpAny_runValue ?_))
        have low : a < s.heap.objs.size := Heap.lt_size hol
        have calm3 : A.in1.in1.in1.handled = none := by simp [calm]
        have sz : (s.heap.push (freshSet w)).objs.size = s.heap.objs.size + 1 := Heap.size_push ..
        have ne1 : a ≠ (s.heap.push (freshSet w)).objs.size := by rw [sz]; exact Nat.ne_of_lt (Nat.lt_succ_of_lt low)
        have nin : s.heap.objs.size ∉ [(s.heap.push (freshSet w)).objs.size, a] := by
          rw [sz]
          simp only [List.mem_cons, List.not_mem_nil, or_false, not_or]
          exact ⟨Nat.ne_of_lt (Nat.lt_succ_self _), Nat.ne_of_gt low⟩
        have vals : ∀ (i : Nat) (v : Value), vs[i]? = some v → ∃ k t, ns[i]? = some k ∧ v = .int k t := fun i v hv => by
          have hi : i < ns.length := by rw [← many]; exact (Array.getElem?_eq_some_iff.mp hv).1
          obtain ⟨t, e⟩ := PyProof.Rows.IntsAre.int_at ints_ i v (by rw [Array.getElem?_toList]; exact hv)
          exact ⟨ns[i], t, List.getElem?_eq_getElem hi, by rw [e, List.getD_eq_getElem?_getD, List.getElem?_eq_getElem hi] <;> rfl⟩
        have got1 : ((s.heap.push (freshSet w)).push { cls := .type "list_iterator", data := .fields #[.ref a, .int 0 0] }).get? s.heap.objs.size = some (freshSet w) := Heap.get?_push_of_some _ at1
        refine set_update_ints ((Walks.list calm3 _ a ne1 vs).toS) s.heap.objs.size nin ns many few vals (vs.size - 0) 0 _ (by omega) (Nat.zero_le _) ⟨⟨_, Heap.get?_push_size _ rfl, rfl, rfl⟩, (la1.push _)⟩
          ⟨0, Nat.le_refl 0, setR_new_at got1⟩ fun s3 c3 hm hc3 hS3 => ?_
        obtain ⟨h3, g3, d3, t3, os3⟩ := s3
        obtain rfl : g3 = s.gens := hm.gens
        obtain rfl : d3 = s.drawn := hm.drawn
        obtain rfl : os3 = s.os := hm.os
        show wpAny _ _ _ _ _ _
        refine wpAny_pure ?_
        show wpAny _ _ (ret Value.none) _ _ _
        rw [many] at hc3
        refine wpAny_pure ⟨rfl, h3, t3, c3, rfl, hS3, hc3, fun b o e => ?_⟩
        have b0 : b < s.heap.objs.size := Heap.lt_size e
        have b1 : b ≠ (s.heap.push (freshSet w)).objs.size := by rw [sz]; exact Nat.ne_of_lt (Nat.lt_succ_of_lt b0)
        refine hm.heap b o ?_ (Heap.get?_push_of_some _ (Heap.get?_push_of_some _ e))
        simp only [List.mem_cons, List.not_mem_nil, or_false, not_or]
        exact ⟨Nat.ne_of_lt b0, b1⟩
      · cases r2 with
        | error e => exact hr2
        | ok fl2 =>
          cases fl2 with
          | ret r =>
            obtain ⟨rfl, h2, t2, c2, rfl, hS2, hc2, hk2⟩ := hr2
            repeat (any_goals (first | assumption | wp_step))
            exact q _ _ _ hS2 hc2 hk2
          | _ => exact hr2.elim
    | _ => exact hr.elim
end
section
variable {X : Cx}
theorem call_setL (hc : X.calm = true) : CallR X (.type "set") (rSetL X.K X.w) := by
  intro pins s σ H xs us Q I r h
  obtain ⟨a, ns, rfl, hs, few, q⟩ := h
  rw [Vals.ref1 r]
  obtain ⟨its, rv, pl, hz⟩ := I.list hs
  have hi := ints_of_vals rv
  refine set_ofL ns (I.ok.hd hc) pl.isList (by simpa using hi) (by unfold scanBound; omega) fun h2 t2 c2 R le k => ?_
  exact ⟨.ref _, upd H s.heap.objs.size (SetO X.w s.heap.objs.size (fun j => decide (j ∈ ns)) c2), I.laid (t' := t2) k (Nat.le_refl _) (setO_new R), rfl, q _ _ (I.hok.fresh (Nat.le_refl _)) le⟩
end
end Cb
set_option Elab.async false
set_option linter.all false
set_option maxRecDepth 100000
set_option maxHeartbeats 4000000
namespace Cb
open PySem PySem.Spec PyProof.Rows L2
/-! ### sum(xss, zs) of lists -/
theorem args_sum2 (a b : Value) : argsOk "sum" ⟨[a, b], []⟩ := by
  unfold argsOk
  kernel_rfl
section
variable {prog : Program} {w : World} {A : Around} {R : Result → Shared → Prop}
theorem sum_loopL {I S l st : Addr} {vs : Array Value} {h0 : Heap} {zs : List (List Value)} {total : List Value} {s0 : Shared} (calm : A.in1.handled = none) (nl : l ≠ I) (nS : S ≠ I) (nSl : S ≠ l) (bI : h0.objs.size ≤ I) (bS : h0.objs.size ≤ S)
    (hz : ∀ (i : Nat) (v : Value), vs[i]? = some v → ∃ (b : Addr) (z : List Value) (n : Nat), v = .ref b ∧ zs[i]? = some z ∧ IsL h0 b z.toArray n) (many : zs.length = vs.size) (room : total.length ≤ sizeLine)
    (hR : ∀ s' acc m, s'.gens = s0.gens → s'.drawn = s0.drawn → s'.os = s0.os → (∀ b o, h0.get? b = some o → s'.heap.get? b = some o) → IsL s'.heap acc total.toArray m → (vs.size = 0 ∧ acc = st) ∨ h0.objs.size ≤ acc → R (.ok (.ret (.ref acc))) s') :
    ∀ (k i : Nat) (s : Shared) (acc : Addr) (c m : Nat) (Z : List Value), vs.size - i = k → i ≤ vs.size → s.gens = s0.gens → s.drawn = s0.drawn → s.os = s0.os → s.heap.IsListIter I l i → s.heap.IsList l vs →
      (∀ b o, h0.get? b = some o → s.heap.get? b = some o) → s.heap.get? S = some { cls := .type "list", dict := none, data := .seq #[.ref acc] c, slots := #[] } → IsL s.heap acc Z.toArray m → acc ≠ S → acc ≠ I →
      (i = 0 ∧ acc = st) ∨ h0.objs.size ≤ acc → Z ++ (zs.drop i).flatten = total →
      codeAny (model prog w) A (.builtin "sum.loop" ⟨[.ref I, .ref S, rawInt 2, rawInt 0], []⟩) R s := by
  have W := (Walks.list (prog := prog) (w := w) (A := A.in1) calm I l nl vs).toS
  have old : ∀ {b : Addr} {o : Obj}, h0.get? b = some o → b ≠ I ∧ b ≠ S := fun {b o} e => by
    have := Heap.lt_size e
    exact ⟨Nat.ne_of_lt (Nat.lt_of_lt_of_le this bI), Nat.ne_of_lt (Nat.lt_of_lt_of_le this bS)⟩
  intro k
  induction k with
  | zero =>
    intro i s acc c m Z hk hi e1 e2 e3 hit hl kp hS hacc a1 a2 a3 ez
    obtain rfl : i = vs.size := by omega
    refine codeAny_builtin F.entry_sum_loop ?_
    rw [Around.under_plainId F.plain_sum_loop _]
    show wpAny _ A.in1 (seqItems? (.ref S) >>= _) _ _ s
    refine wpAny_bind (wpAny_seqItems hS rfl ?_)
    show wpAny _ A.in1 (tryCatch (pyNext (.ref I)) _ >>= _) _ _ s
    refine wpAny_bind (wpAny_tryCatch (W.done s _ _ ⟨hit, hl⟩ fun s2 hm => ?_))
    have e0 : Z = total := by rw [← ez, List.drop_of_length_le (by omega)]; simp
    subst e0
    refine wpAny_pure (hR s2 acc m (hm.gens.trans e1) (hm.drawn.trans e2) (hm.os.trans e3) (fun b o e => hm.heap b o (by simpa using (old e).1) (kp b o e)) (hm.heap acc _ (by simpa using a2) hacc) ?_)
    rcases a3 with ⟨z1, z2⟩ | z
    · exact .inl ⟨z1, z2⟩
    · exact .inr z
  | succ k ih =>
    intro i s acc c m Z hk hi e1 e2 e3 hit hl kp hS hacc a1 a2 a3 ez
    have lt : i < vs.size := by omega
    refine codeAny_builtin F.entry_sum_loop ?_
    rw [Around.under_plainId F.plain_sum_loop _]
    show wpAny _ A.in1 (seqItems? (.ref S) >>= _) _ _ s
    refine wpAny_bind (wpAny_seqItems hS rfl ?_)
    show wpAny _ A.in1 (tryCatch (pyNext (.ref I)) _ >>= _) _ _ s
    refine wpAny_bind (wpAny_tryCatch (W.item i s _ _ lt ⟨hit, hl⟩ fun v s2 hP hst hm => ?_))
    obtain ⟨b, z, n, rfl, ezi, hb⟩ := hz i v hP
    have hS2 := hm.heap S _ (by simpa using nS) hS
    have ha2 := hm.heap acc _ (by simpa using a2) hacc
    have hb2 := hm.heap b _ (by simpa using (old hb).1) (kp _ _ hb)
    have hzi : zs.drop i = z :: zs.drop (i + 1) := by
      have li : i < zs.length := by omega
      rw [List.drop_eq_getElem_cons li]
      have : zs[i] = z := Option.some.inj ((List.getElem?_eq_getElem li).symm.trans ezi)
      rw [this]
    have fl : Z ++ z ++ (zs.drop (i + 1)).flatten = total := by
      rw [← ez, hzi, List.flatten_cons, List.append_assoc]
    have fit : Z.toArray.size + z.toArray.size ≤ sizeLine := by
      have := congrArg List.length fl
      rw [List.length_append, List.length_append] at this
      rw [List.size_toArray, List.size_toArray]
      omega
    show wpAny _ A.in1 ((holding [Value.ref b] (binaryOp .Add (.ref acc) (.ref b))).attempt >>= _) _ _ _
    refine wpAny_bind (wpAny_attempt (wpAny_holding (PySem.P.add_list ha2 hb2 ?_ fit)))
    have sI : I < s2.heap.objs.size := by
      obtain ⟨_, e, _⟩ := hst.1
      exact Heap.lt_size e
    have sl : l < s2.heap.objs.size := by
      obtain ⟨_, e, _⟩ := hst.2
      exact Heap.lt_size e
    have sS : S < s2.heap.objs.size := Heap.lt_size hS2
    have h0s : h0.objs.size ≤ s2.heap.objs.size := Nat.le_trans bS (Nat.le_of_lt sS)
    have hS3 := Heap.get?_push_of_some { cls := .type "list", data := .seq (Z.toArray ++ z.toArray) } hS2
    have hn3 : (s2.heap.push { cls := .type "list", data := .seq (Z.toArray ++ z.toArray) }).get? s2.heap.objs.size = some { cls := .type "list", data := .seq (Z.toArray ++ z.toArray) } := Heap.get?_push_size _ rfl
    have old3 : ∀ b o, s2.heap.get? b = some o → (s2.heap.push { cls := .type "list", data := .seq (Z.toArray ++ z.toArray) }).get? b = some o := fun b o e => Heap.get?_push_of_some _ e
    generalize s2.heap.push { cls := .type "list", data := .seq (Z.toArray ++ z.toArray) } = h3 at hS3 hn3 old3 ⊢
    show wpAny _ A.in1 (updateSeq S (fun _ => #[.ref s2.heap.objs.size]) >>= _) _ _ _
    refine wpAny_bind (wpAny_updateSeq hS3 rfl ?_)
    have hS4 := Heap.get?_update_self (Obj.mapSeq fun _ => #[Value.ref s2.heap.objs.size]) hS3 rfl
    refine wpAny_bind (wpAny_letGo ?_)
    refine wpAny_bind (wpAny_updateSeq hS4 rfl (wpAny_pure ⟨plainId_quiet F.plain_sum_loop _, ?_⟩))
    have hS5 := Heap.get?_update_self (Obj.mapSeq fun _ => #[Value.ref s2.heap.objs.size]) hS4 rfl
    have two : ∀ b o, b ≠ S → h3.get? b = some o → ((h3.update S (Obj.mapSeq fun _ => #[Value.ref s2.heap.objs.size])).update S (Obj.mapSeq fun _ => #[Value.ref s2.heap.objs.size])).get? b = some o := fun b o ne e =>
      (Heap.get?_update_other _ _ (fun h : S = b => ne h.symm)).trans ((Heap.get?_update_other _ _ (fun h : S = b => ne h.symm)).trans e)
    generalize (h3.update S (Obj.mapSeq fun _ => #[Value.ref s2.heap.objs.size])).update S (Obj.mapSeq fun _ => #[Value.ref s2.heap.objs.size]) = h5 at hS5 two ⊢
    have nSz : s2.heap.objs.size ≠ S := Nat.ne_of_gt sS
    refine ih (i + 1) { s2 with heap := h5 } s2.heap.objs.size _ 0 (Z ++ z) (by omega) lt (hm.gens.trans e1) (hm.drawn.trans e2) (hm.os.trans e3) ?_ ?_ ?_ hS5 ?_ nSz (Nat.ne_of_gt sI) (.inr h0s) fl
    · exact hst.1.at fun o e => two _ _ nS.symm (old3 _ _ e)
    · exact hst.2.at fun o e => two _ _ (fun q => nSl q.symm) (old3 _ _ e)
    · intro b o e
      exact two _ _ (old e).2 (old3 _ _ (hm.heap b o (by simpa using (old e).1) (kp b o e)))
    · refine two _ _ nSz ?_
      rw [hn3]
      simp
end
section
variable {prog : Program} {w : World} {A : Around} {E : Value → Shared → Prop} {s : Shared}
theorem sum_lists {l st : Addr} {vs : Array Value} {zs : List (List Value)} {Y : List Value} {m : Nat} {Q : Value → Shared → Prop} (calm : A.handled = none) (la : s.heap.IsList l vs) (hs : IsL s.heap st Y.toArray m)
    (hz : ∀ (i : Nat) (v : Value), vs[i]? = some v → ∃ (b : Addr) (z : List Value) (n : Nat), v = .ref b ∧ zs[i]? = some z ∧ IsL s.heap b z.toArray n) (many : zs.length = vs.size) (room : (Y ++ zs.flatten).length ≤ sizeLine)
    (q : ∀ s' acc m, s'.gens = s.gens → s'.drawn = s.drawn → s'.os = s.os → (∀ b o, s.heap.get? b = some o → s'.heap.get? b = some o) → IsL s'.heap acc (Y ++ zs.flatten).toArray m → (vs.size = 0 ∧ acc = st) ∨ s.heap.objs.size ≤ acc → Q (.ref acc) s') :
    wpAny (model prog w) A (call (.builtin "sum") [.ref l, .ref st]) Q E s := by
  refine call_function_tree F.kind_sum F.plain_sum F.entry_sum (args_sum2 _ _) ?_
  unfold Builtin.«sum»
  simp only [List.length_cons, List.length_nil]
  rw [if_neg (by decide)]
  refine wpAny_bind (wpAny_of_eq (show Builtin.Builtins.bindParams "sum" ["start"] 0 ⟨[.ref st], []⟩ = pure [some (.ref st)] from rfl) ?_)
  refine wpAny_bind (wpAny_pyIter_list la ?_)
  refine wpAny_bind (wpAny_pure ?_)
  simp only [List.forIn_cons, List.forIn_nil]
  have ll : l < s.heap.objs.size := by
    obtain ⟨_, e, _⟩ := la
    exact Heap.lt_size e
  have ls : st < s.heap.objs.size := Heap.lt_size hs
  have hs1 := Heap.get?_push_of_some { cls := .type "list_iterator", data := .fields #[.ref l, .int 0 0] } hs
  have ty : Shared.TypeIs { s with heap := s.heap.push { cls := .type "list_iterator", data := .fields #[.ref l, .int 0 0] } } (.ref st) "list" := ⟨_, hs1, rfl⟩
  refine wpAny_bind (wpAny_bind (wpAny_bind (wpAny_isInstance (T := "list") (b := false) ty F.sub_list_str ?_)))
  simp only [Bool.false_eq_true, if_false]
  refine wpAny_pure (wpAny_bind (wpAny_bind (wpAny_isInstance (T := "list") (b := false) ty F.sub_list_bytes ?_)))
  simp only [Bool.false_eq_true, if_false]
  refine wpAny_pure (wpAny_bind (wpAny_bind (wpAny_isInstance (T := "list") (b := false) ty F.sub_list_bytearray ?_)))
  simp only [Bool.false_eq_true, if_false]
  refine wpAny_pure (wpAny_pure ?_)
  refine wpAny_bind (wpAny_newObj_type ?_)
  refine wpAny_pure ⟨plainId_quiet F.plain_sum_loop _, ?_⟩
  have z1 : (s.heap.push { cls := .type "list_iterator", data := .fields #[.ref l, .int 0 0] }).objs.size = s.heap.objs.size + 1 := Heap.size_push ..
  have k1 : ∀ b o, s.heap.get? b = some o → (s.heap.push { cls := .type "list_iterator", data := .fields #[.ref l, .int 0 0] }).get? b = some o := fun b o e => Heap.get?_push_of_some _ e
  have it1 : (s.heap.push { cls := .type "list_iterator", data := .fields #[.ref l, .int 0 0] }).IsListIter s.heap.objs.size l 0 := ⟨_, Heap.get?_push_size _ rfl, rfl, rfl⟩
  generalize s.heap.push { cls := .type "list_iterator", data := .fields #[.ref l, .int 0 0] } = h1 at z1 k1 it1 hs1 ⊢
  refine sum_loopL (I := s.heap.objs.size) (S := h1.objs.size) (l := l) (st := st) (vs := vs) (h0 := s.heap) (zs := zs) (total := Y ++ zs.flatten) (s0 := s) (by simp [calm]) (Nat.ne_of_lt ll) (by rw [z1]; exact Nat.ne_of_gt (Nat.lt_succ_self _)) (by rw [z1]; exact Nat.ne_of_gt (Nat.lt_succ_of_lt ll)) (Nat.le_refl _) (by rw [z1]; exact Nat.le_succ _) hz many room
    (fun s' acc m a b c d e f => q s' acc m a b c d e f) (vs.size - 0) 0 _ st 0 m Y rfl (Nat.zero_le _) rfl rfl rfl ?_ ?_ ?_ (Heap.get?_push_size _ rfl) ?_ (by rw [z1]; exact Nat.ne_of_lt (Nat.lt_succ_of_lt ls)) (Nat.ne_of_lt ls) (.inl ⟨rfl, rfl⟩) (by simp)
  · exact it1.at fun o e => Heap.get?_push_of_some _ e
  · exact la.at fun o e => Heap.get?_push_of_some _ (k1 _ _ e)
  · exact fun b o e => Heap.get?_push_of_some _ (k1 _ _ e)
  · exact Heap.get?_push_of_some _ hs1
end
def rSumL (K : PySem.W.Frag) : List V → Hp → VK → Prop := fun xs H Q => ∃ (a st : Addr) (as : List Addr) (zss : List (List V)) (ys : List V), xs = [.ref a, .ref st] ∧ H a = some (.lst (as.map V.ref)) ∧ H st = some (.lst ys) ∧ zss.length = as.length ∧
  (∀ (i : Nat) (b : Addr) (z : List V), as[i]? = some b → zss[i]? = some z → H b = some (.lst z)) ∧ (ys ++ zss.flatten).length ≤ sizeLine ∧ ∀ (p : Addr) (H' : Hp), Same H H' → H' p = some (.lst (ys ++ zss.flatten)) → Q (.ref p) H'
section
variable {X : Cx}
theorem vals_flat : ∀ {zss : List (List V)} {uss : List (List Value)}, Paired (fun z u => Vals z u) zss uss → Vals zss.flatten uss.flatten
  | _, _, .nil => .nil
  | _, _, .cons h t => by
    rw [List.flatten_cons, List.flatten_cons]
    exact h.append (vals_flat t)
theorem call_sumL (hc : X.calm = true) : CallR X (.builtin "sum") (rSumL X.K) := by
  intro pins s σ H xs us Q I r h
  obtain ⟨a, st, as, zss, ys, rfl, ha, hst, hl, hb, room, q⟩ := h
  obtain ⟨u1, u2, rfl, r1, r2⟩ := vals2 r
  cases r1
  cases r2
  obtain ⟨z, its, n, rv, hl1, e⟩ := I.lstM ha
  obtain ⟨z2, its2, n2, rv2, hl2, e2⟩ := I.lstM hst
  have ei := refs_at rv
  subst ei
  have inner : ∀ (as : List Addr) (zss : List (List V)), zss.length = as.length → (∀ (i : Nat) (b : Addr) (z : List V), as[i]? = some b → zss[i]? = some z → H b = some (.lst z)) → ∃ uss : List (List Value), Paired (fun z u => Vals z u) zss uss ∧ uss.length = as.length ∧
      ∀ (i : Nat) (b : Addr), as[i]? = some b → ∃ (z : List Value) (n : Nat), uss[i]? = some z ∧ IsL s.heap b z.toArray n := by
    intro as
    induction as with
    | nil =>
      intro zss hl _
      obtain rfl : zss = [] := List.eq_nil_of_length_eq_zero hl
      exact ⟨[], .nil, rfl, fun i b e => by simp at e⟩
    | cons b as ih =>
      intro zss hl hb
      match zss, hl, hb with
      | z :: zss, hl, hb =>
        obtain ⟨uss, p, l, f⟩ := ih zss (by simpa using hl) fun i b z e1 e2 => hb (i + 1) b z (by simpa using e1) (by simpa using e2)
        obtain ⟨_, it, n, rv, _, e⟩ := I.lstM (hb 0 b z rfl rfl)
        refine ⟨it :: uss, .cons rv p, by simp [l], fun i b' e' => ?_⟩
        cases i with
        | zero =>
          obtain rfl : b = b' := by simpa using e'
          exact ⟨it, n, rfl, e⟩
        | succ i => exact f i b' (by simpa using e')
  obtain ⟨uss, up, ul, uf⟩ := inner as zss hl hb
  have fl := rv2.append (vals_flat up)
  refine sum_lists (Y := its2) (zs := uss) (m := n2) (I.ok.hd hc) ⟨_, e, rfl, n, rfl⟩ e2 ?_ ?_ ?_ ?_
  · intro i v hv
    rw [List.getElem?_toArray, List.getElem?_map] at hv
    cases hq : as[i]? with
    | none =>
      rw [hq] at hv
      cases hv
    | some b =>
      rw [hq] at hv
      obtain ⟨z, n, e1, e2⟩ := uf i b hq
      exact ⟨b, z, n, (Option.some.inj hv).symm, e1, e2⟩
  · rw [List.size_toArray, List.length_map, ul]
  · rw [← fl.length]
    exact room
  · intro s' acc m g d o k hacc w
    have es : s' = { s with heap := s'.heap, toks := s'.toks } := by
      cases s'
      cases s
      cases g
      cases d
      cases o
      rfl
    rw [es]
    rcases w with ⟨w1, rfl⟩ | w
    · rw [List.size_toArray, List.length_map] at w1
      obtain rfl : zss = [] := List.eq_nil_of_length_eq_zero (hl.trans w1)
      exact ⟨.ref acc, H, I.kept (t' := s'.toks) k, rfl, q _ _ (Same.refl _) (by simpa using hst)⟩
    · exact ⟨.ref acc, upd H acc (.lst (ys ++ zss.flatten)), I.laid (t' := s'.toks) k w ⟨room, _, _, fl, hacc⟩, rfl, q _ _ (same_new (I.hok.fresh w)) upd_same⟩
end
end Cb
set_option Elab.async false
set_option linter.all false
set_option maxRecDepth 100000
set_option maxHeartbeats 4000000
namespace Cb
open PySem PySem.Spec PyProof.Rows L2
def topS (i : Nat) : Stmt := PySem.Challenge.pw_cellbills_k51_rows_of_moves_judged.main.body.getD i (.Pass ⟨0, 0, 0, 0⟩)
/-! ### small words -/
theorem ifNeI {i j : Int} {A B : Prop} (y : ¬ i = j → A) (n : i = j → B) : if (!decide (V.int i = V.int j)) = true then A else B := by
  by_cases h : i = j
  · rw [decide_eq_true (congrArg V.int h)]
    exact iteF (n h)
  · rw [decide_eq_false (fun e => h (V.int.inj e))]
    exact iteT (y h)
theorem ifEqI {i j : Int} {A B : Prop} (y : i = j → A) (n : ¬ i = j → B) : if decide (V.int i = V.int j) = true then A else B := by
  by_cases h : i = j
  · rw [decide_eq_true (congrArg V.int h)]
    exact iteT (y h)
  · rw [decide_eq_false (fun e => h (V.int.inj e))]
    exact iteF (n h)
theorem neN {x : V} {A B : Prop} (b : B) : if (!decide (x = x)) = true then A else B := by
  rw [decide_eq_true rfl]
  exact iteF b
theorem nin1 {a b : Addr} (h : a ≠ b) : a ∉ [b] := by simp [h]
theorem same_keep {S : List Addr} {H H' : Hp} (s : Same H H') : Keep S H H' := fun b o _ e => s b o e
theorem DTs.snoc {H : Hp} : ∀ {xs : List V} {ds : List PyData} {x : V} {d : PyData}, DTs H xs ds → DT H x d → DTs H (xs ++ [x]) (ds ++ [d])
  | _, [], _, _, h, a => by cases h; exact .cons a .nil
  | _, e :: ds, _, _, h, a => by
    cases h with
    | cons b r => exact .cons b (DTs.snoc (ds := ds) r a)
theorem DTs.app {H : Hp} : ∀ {xs ys : List V} {ds es : List PyData}, DTs H xs ds → DTs H ys es → DTs H (xs ++ ys) (ds ++ es)
  | _, _, [], _, h, a => by cases h; exact a
  | _, _, e :: ds, _, h, a => by
    cases h with
    | cons b r => exact .cons b (DTs.app (ds := ds) r a)
theorem DTs.two {H : Hp} {xs : List V} {ds : List PyData} (r : DTs H xs ds) (h : ds.length = 2) : ∃ x y a b, xs = [x, y] ∧ ds = [a, b] ∧ DT H x a ∧ DT H y b := by
  cases r with
  | nil => simp at h
  | cons ha r =>
    cases r with
    | nil => simp at h
    | cons hb r =>
      cases r with
      | nil => exact ⟨_, _, _, _, rfl, rfl, ha, hb⟩
      | cons _ _ =>
        simp only [List.length_cons] at h
        omega
theorem small1000' {n : Nat} (h : n ≤ 5000) : n < sizeLine := Nat.lt_of_le_of_lt h (by decide)
/-! ### registers, moves -/
def wholeD : PyData → Bool
  | .int _ => true
  | _ => false
def countD : PyData → Bool
  | .int i => decide (0 ≤ i)
  | _ => false
def placeD : PyData → Bool
  | .int i => decide (0 ≤ i) && decide (i < 100)
  | _ => false
def moveD : PyData → Bool
  | .tuple [a, b] => placeD a && placeD b
  | _ => false
theorem moveD_len {ds : List PyData} (h : ds.length ≠ 2) : moveD (.tuple ds) = false := by
  match ds, h with
  | [], _ => rfl
  | [_], _ => rfl
  | [_, _], h => exact absurd rfl h
  | _ :: _ :: _ :: _, _ => rfl
abbrev Pr := Int × Int
def pairD (p : Pr) : PyData := .tuple [.int p.1, .int p.2]
def InP (p : Pr) : Prop := (0 ≤ p.1 ∧ p.1 < 100) ∧ 0 ≤ p.2 ∧ p.2 < 100
theorem placeD_in {i : Int} : placeD (.int i) = true ↔ 0 ≤ i ∧ i < 100 := by simp [placeD]
theorem moveD_pair {p : Pr} (h : InP p) : moveD (pairD p) = true := by
  simp [moveD, pairD, placeD, h.1.1, h.1.2, h.2.1, h.2.2]
theorem moveD_inv {d : PyData} (h : moveD d = true) : ∃ p : Pr, d = pairD p ∧ InP p := by
  match d, h with
  | .tuple [a, b], h =>
    have h2 : placeD a = true ∧ placeD b = true := by simpa [moveD] using h
    match a, b, h2 with
    | .int i, .int j, h2 =>
      exact ⟨(i, j), rfl, placeD_in.mp h2.1, placeD_in.mp h2.2⟩
/-- what may be a shuffle -/
structure Shuf (ps : List Pr) : Prop where
  inp : ∀ p ∈ ps, InP p
  nd : (ps.map (·.1)).Nodup
  few : ps.length ≤ 40
abbrev s_is_whole : Stmt := topS 5
theorem sc_is_whole : FnScope ["value"] ["value"] (defScope s_is_whole) := ⟨rfl, rfl, rfl, by decide +kernel, rfl, by decide +kernel, by decide +kernel⟩
abbrev s_is_count : Stmt := topS 6
theorem sc_is_count : FnScope ["value"] ["value"] (defScope s_is_count) := ⟨rfl, rfl, rfl, by decide +kernel, rfl, by decide +kernel, by decide +kernel⟩
abbrev s_is_place : Stmt := topS 10
theorem sc_is_place : FnScope ["value"] ["value"] (defScope s_is_place) := ⟨rfl, rfl, rfl, by decide +kernel, rfl, by decide +kernel, by decide +kernel⟩
abbrev s_is_move : Stmt := topS 11
theorem sc_is_move : FnScope ["value"] ["value"] (defScope s_is_move) := ⟨rfl, rfl, rfl, by decide +kernel, rfl, by decide +kernel, by decide +kernel⟩
abbrev s_is_shuffle : Stmt := topS 12
theorem sc_is_shuffle : FnScope ["value", "pair"] ["value"] (defScope s_is_shuffle) := ⟨rfl, rfl, rfl, by decide +kernel, rfl, by decide +kernel, by decide +kernel⟩
abbrev s_ask_shuffle : Stmt := topS 13
theorem sc_ask_shuffle : FnScope ["shuffle"] ["shuffle"] (defScope s_ask_shuffle) := ⟨rfl, rfl, rfl, by decide +kernel, rfl, by decide +kernel, by decide +kernel⟩
abbrev s_ask_spare : Stmt := topS 14
theorem sc_ask_spare : FnScope ["shuffle", "spare", "pair"] ["shuffle", "spare"] (defScope s_ask_spare) := ⟨rfl, rfl, rfl, by decide +kernel, rfl, by decide +kernel, by decide +kernel⟩
abbrev s_is_moves : Stmt := topS 15
abbrev NIm : List Str := ["shuffle", "spare", "value", "held", "first", "other", "wanted", "pair", "own"]
theorem sc_is_moves : FnScope NIm ["shuffle", "spare", "value"] (defScope s_is_moves) := ⟨rfl, rfl, rfl, by decide +kernel, rfl, by decide +kernel, by decide +kernel⟩
structure TMov (K : PySem.W.Frag) (mg : Str → Option Value) : Prop where
  d_is_whole : Has K mg "is_whole" s_is_whole ["value"]
  d_is_count : Has K mg "is_count" s_is_count ["value"]
  d_is_place : Has K mg "is_place" s_is_place ["value"]
  d_is_move : Has K mg "is_move" s_is_move ["value"]
  d_is_shuffle : Has K mg "is_shuffle" s_is_shuffle ["value"]
  d_ask_shuffle : Has K mg "ask_shuffle" s_ask_shuffle ["shuffle"]
  d_ask_spare : Has K mg "ask_spare" s_ask_spare ["shuffle", "spare"]
  d_is_moves : Has K mg "is_moves" s_is_moves ["shuffle", "spare", "value"]
  k_is_moves : HasK K mg "is_moves" s_is_moves ["shuffle", "spare", "value"] ["value", "spare", "shuffle"] List.reverse
  b_isinstance : mg "isinstance" = none
  b_int : mg "int" = none
  b_bool : mg "bool" = none
  b_tuple : mg "tuple" = none
  b_list : mg "list" = none
  b_dict : mg "dict" = none
  b_len : mg "len" = none
  b_all : mg "all" = none
  b_any : mg "any" = none
  b_range : mg "range" = none
  g_MOST_TUPLES : ∃ t, mg "MOST_TUPLES" = some (.int 40 t)
  g_MOST_NUMBERS : ∃ t, mg "MOST_NUMBERS" = some (.int 100 t)
theorem kit_i : ∀ d : PyData, kitB (tyN d) "int" = some (match d with | .int _ => true | .bool _ => true | _ => false)
  | .none => by show kitB "NoneType" "int" = some false; decide +kernel
  | .bool _ => by show kitB "bool" "int" = some true; decide +kernel
  | .int _ => by show kitB "int" "int" = some true; decide +kernel
  | .str _ => by show kitB "str" "int" = some false; decide +kernel
  | .list _ => by show kitB "list" "int" = some false; decide +kernel
  | .tuple _ => by show kitB "tuple" "int" = some false; decide +kernel
  | .dict _ => by show kitB "dict" "int" = some false; decide +kernel
theorem kit_b : ∀ d : PyData, kitB (tyN d) "bool" = some (match d with | .bool _ => true | _ => false)
  | .none => by show kitB "NoneType" "bool" = some false; decide +kernel
  | .bool _ => by show kitB "bool" "bool" = some true; decide +kernel
  | .int _ => by show kitB "int" "bool" = some false; decide +kernel
  | .str _ => by show kitB "str" "bool" = some false; decide +kernel
  | .list _ => by show kitB "list" "bool" = some false; decide +kernel
  | .tuple _ => by show kitB "tuple" "bool" = some false; decide +kernel
  | .dict _ => by show kitB "dict" "bool" = some false; decide +kernel
section
variable {P : Program} {w : World} {K : PySem.W.Frag} {mg : Str → Option Value} {base : Heap}
/-- any data -/
def sp_any (f : PyData → Bool) : Sp := fun vs H Q _ => ∃ (v : V) (d : PyData), vs = [v] ∧ DT H v d ∧ Q (.bl (f d)) H
theorem c_is_whole (T : TMov K mg) : Says P w K mg base 1 "is_whole" ["value"] (sp_any wholeD) := by
  refine says T.d_is_whole sc_is_whole (fun vs H Q E h => ?_) (fun f cdv A outer s H vs Q E hr h => ?_)
  · obtain ⟨_, _, rfl, _⟩ := h; rfl
  · refine ⟨_, (pss_one (ps_ret (pe_and (pe_callB call_isi (by rfl) T.b_isinstance (by decide +kernel) (pa_cons (pv 0) (pa_cons (pe_bltn (v := .ty "int") (by rfl) T.b_int (by decide +kernel) rfl) pa_nil))) (pe_one (pe_not (pe_callB call_isi (by rfl) T.b_isinstance (by decide +kernel) (pa_cons (pv 0) (pa_cons (pe_bltn (v := .ty "bool") (by rfl) T.b_bool (by decide +kernel) rfl) pa_nil)))))))), ?_⟩
    obtain ⟨v, d, rfl, hd, q⟩ := h
    refine ⟨_, rfl, _, _, _, _, _, rfl, .ty _, hd.ty, kit_ty (kit_i d), _, rfl, ?_⟩
    cases d with
    | int i => exact iteT ⟨_, rfl, _, _, _, _, _, rfl, .ty _, hd.ty, kit_ty (kit_b _), _, rfl, q⟩
    | bool b => exact iteT ⟨_, rfl, _, _, _, _, _, rfl, .ty _, hd.ty, kit_ty (kit_b _), _, rfl, q⟩
    | none => exact iteF q
    | str z => exact iteF q
    | list ds => exact iteF q
    | tuple ds => exact iteF q
    | dict ds => exact iteF q
theorem c_is_count (T : TMov K mg) : Says P w K mg base 2 "is_count" ["value"] (sp_any countD) := by
  refine says T.d_is_count sc_is_count (fun vs H Q E h => ?_) (fun f cdv A outer s H vs Q E hr h => ?_)
  · obtain ⟨_, _, rfl, _⟩ := h; rfl
  · refine ⟨_, (pss_one (ps_ret (pe_and (pe_s (c_is_whole T) hr (pa_cons (pv 0) pa_nil)) (pe_one (pe_cmpR op_ge (pv 0) pe_int (nomark _)))))), ?_⟩
    obtain ⟨v, d, rfl, hd, q⟩ := h
    refine ⟨_, rfl, v, d, rfl, hd, _, rfl, ?_⟩
    cases d with
    | int i =>
      cases hd
      exact iteT ⟨_, rfl, _, _, rfl, rfl, q⟩
    | bool b => exact iteF q
    | none => exact iteF q
    | str z => exact iteF q
    | list ds => exact iteF q
    | tuple ds => exact iteF q
    | dict ds => exact iteF q
theorem c_is_place (T : TMov K mg) : Says P w K mg base 3 "is_place" ["value"] (sp_any placeD) := by
  obtain ⟨tm, gm⟩ := T.g_MOST_NUMBERS
  refine says T.d_is_place sc_is_place (fun vs H Q E h => ?_) (fun f cdv A outer s H vs Q E hr h => ?_)
  · obtain ⟨_, _, rfl, _⟩ := h; rfl
  · refine ⟨_, (pss_one (ps_ret (pe_and (pe_s (c_is_count T) hr (pa_cons (pv 0) pa_nil)) (pe_one (pe_cmpR op_lt (pv 0) (pe_glob (v := .int 100) rfl gm ⟨_, rfl⟩) (nomark _)))))), ?_⟩
    obtain ⟨v, d, rfl, hd, q⟩ := h
    refine ⟨_, rfl, v, d, rfl, hd, _, rfl, ?_⟩
    cases d with
    | int i =>
      cases hd
      have q : Q (.bl (decide (0 ≤ i) && decide (i < 100))) H := q
      show if decide (0 ≤ i) = true then _ else _
      by_cases h : 0 ≤ i
      · rw [decide_eq_true h] at q ⊢
        exact iteT ⟨_, rfl, _, _, rfl, rfl, q⟩
      · rw [decide_eq_false h] at q ⊢
        exact iteF q
    | bool b => exact iteF q
    | none => exact iteF q
    | str z => exact iteF q
    | list ds => exact iteF q
    | tuple ds => exact iteF q
    | dict ds => exact iteF q
theorem c_is_move (T : TMov K mg) : Says P w K mg base 4 "is_move" ["value"] (sp_any moveD) := by
  refine says T.d_is_move sc_is_move (fun vs H Q E h => ?_) (fun f cdv A outer s H vs Q E hr h => ?_)
  · obtain ⟨_, _, rfl, _⟩ := h; rfl
  refine ⟨_, (pss_cons (ps_if (PW.pt (pw_or (pt_not (pt_val (pe_callB call_isi (by rfl) T.b_isinstance (by decide +kernel) (pa_cons (pv 0) (pa_cons (pe_bltn (v := .ty "tuple") (by rfl) T.b_tuple (by decide +kernel) rfl) pa_nil))))) (pw_or1 (pt_cmpR op_ne (pe_callB call_len_seq (by rfl) T.b_len (by decide +kernel) (pa_cons (pv 0) pa_nil)) pe_int (nomark _)))))
        (pss_one (ps_ret pe_bl))
        pss_nil)
    (pss_one (ps_ret (pe_and (pe_s (c_is_place T) hr (pa_cons (pe_ix ix_tup (pv 0) pe_int (fun _ _ => rfl)) pa_nil)) (pe_one (pe_s (c_is_place T) hr (pa_cons (pe_ix ix_tup (pv 0) pe_int (fun _ _ => rfl)) pa_nil))))))), ?_⟩
  obtain ⟨v, d, rfl, hd, q⟩ := h
  refine ⟨_, rfl, _, _, _, _, _, rfl, .ty _, hd.ty, kit_ty (kit_t d), _, rfl, ?_⟩
  cases d with
  | tuple ds =>
    cases hd with
    | @tup p xs _ e r =>
      have lx := r.length
      refine iteF ?_
      refine ⟨_, rfl, p, xs, rfl, .inr (SqT.of e), rfl, _, rfl, ifNeI (fun h => ?_) (fun h => ?_)⟩
      · rw [moveD_len (ds := ds) (by omega)] at q
        exact q
      · obtain ⟨x, y, a, b, rfl, rfl, ha, hb⟩ := r.two (by omega)
        have q2 : Q (.bl (placeD a && placeD b)) H := q
        refine ⟨_, rfl, p, _, _, x, rfl, rfl, SqT.of e, rfl, x, a, rfl, ha, _, rfl, ?_⟩
        cases h1 : placeD a with
        | false =>
          rw [h1] at q2
          exact iteF q2
        | true =>
          rw [h1] at q2
          exact iteT ⟨_, rfl, p, _, _, y, rfl, rfl, SqT.of e, rfl, y, b, rfl, hb, q2⟩
  | _ => exact iteT q
end
end Cb
set_option Elab.async false
set_option linter.all false
set_option maxRecDepth 100000
set_option maxHeartbeats 4000000
namespace Cb
open PySem PySem.Spec PyProof.Rows L2
/-! ### pairs laid out -/
def kvP (p : Pr) : Key × V := (Sum.inl p.1, .int p.2)
theorem pairs_addr {K : PySem.W.Frag} {H : Hp} : ∀ {ps : List Pr} {vs : List V}, DTs H vs (ps.map pairD) → ∃ as : List Addr, vs = as.map V.ref ∧ as.length = ps.length ∧ Paired (fun p kv => SqT K H p [kV kv.1, kv.2]) as (ps.map kvP)
  | [], _, h => by
    cases h
    exact ⟨[], rfl, rfl, .nil⟩
  | p :: ps, _, h => by
    cases h with
    | cons a r =>
      obtain ⟨as, rfl, l, q⟩ := pairs_addr (K := K) (ps := ps) r
      cases a with
      | tup e r2 =>
        cases r2 with
        | cons b r2 =>
          cases b
          cases r2 with
          | cons c r2 =>
            cases c
            cases r2
            exact ⟨_ :: as, rfl, by simp [l], .cons (SqT.of e) q⟩
theorem pair_at {H : Hp} {ps : List Pr} {vs : List V} {i : Nat} {x : V} (d : DTs H vs (ps.map pairD)) (hx : vs[i]? = some x) : ∃ (p : Pr) (t : Addr), ps[i]? = some p ∧ x = .ref t ∧ H t = some (.tup [.int p.1, .int p.2]) := by
  have l := d.length
  rw [List.length_map] at l
  have hi : i < ps.length := by
    have := (List.getElem?_eq_some_iff.mp hx).1
    omega
  have a := d.get hx (show (ps.map pairD)[i]? = some (pairD ps[i]) by rw [List.getElem?_map, List.getElem?_eq_getElem hi]; rfl)
  cases a with
  | tup e r2 =>
    cases r2 with
    | cons b r2 =>
      cases b
      cases r2 with
      | cons c r2 =>
        cases c
        cases r2
        exact ⟨_, _, List.getElem?_eq_getElem hi, rfl, e⟩
theorem putK_new {kvs : List (Key × V)} {k : Key} {v : V} (h : k ∉ kvs.map (·.1)) : putK kvs k v = kvs ++ [(k, v)] := by
  unfold putK
  rw [if_neg]
  intro z
  obtain ⟨kv, hm, e⟩ := List.any_eq_true.mp z
  exact h (List.mem_map.mpr ⟨kv, hm, of_decide_eq_true e⟩)
theorem mergeK_nd : ∀ (kvs acc : List (Key × V)), ((acc ++ kvs).map (·.1)).Nodup → mergeK acc kvs = acc ++ kvs
  | [], acc, _ => by
    rw [List.append_nil]
    rfl
  | kv :: kvs, acc, h => by
    show mergeK (putK acc kv.1 kv.2) kvs = _
    have n : kv.1 ∉ acc.map (·.1) := by
      intro z
      rw [List.map_append, List.map_cons, List.nodup_append] at h
      exact h.2.2 _ z _ (List.mem_cons_self ..) rfl
    rw [putK_new n, mergeK_nd kvs _ (by rw [List.append_assoc]; exact h), List.append_assoc]
    rfl
theorem kvP_nd {ps : List Pr} (h : (ps.map (·.1)).Nodup) : ((ps.map kvP).map (·.1)).Nodup := by
  have e : (ps.map kvP).map (·.1) = (ps.map (·.1)).map (Sum.inl (β := Str)) := by
    rw [List.map_map, List.map_map]
    rfl
  rw [e]
  exact List.Pairwise.map _ (fun a b (ne : a ≠ b) z => ne (Sum.inl.inj z)) h
theorem dict_of {ps : List Pr} (h : (ps.map (·.1)).Nodup) : mergeK [] (ps.map kvP) = ps.map kvP := by
  rw [mergeK_nd _ [] (by simpa using kvP_nd h)]
  rfl
/-! ### what a register holds -/
def upF (f : Int → Int) (a b : Int) : Int → Int := fun x => if x = a then b else f x
def walkF (row : List Pr) (f : Int → Int) : Int → Int := row.foldl (fun f p => upF f p.1 (f p.2)) f
def toldF (ps : List Pr) (x : Int) : Int := ((ps.find? fun p => decide (p.1 = x)).map (·.2)).getD x
def cellsF (f : Int → Int) : List V := (List.range 100).map fun i => .int (f ((i : Nat) : Int))
theorem cells_len (f : Int → Int) : (cellsF f).length = 100 := by simp [cellsF]
theorem cells_at (f : Int → Int) {i : Int} (h : 0 ≤ i) (h2 : i < 100) : atI (cellsF f) i = some (.int (f i)) := by
  have e : ((i.toNat : Nat) : Int) = i := Int.toNat_of_nonneg h
  have := atI_nat (xs := cellsF f) (j := i.toNat) (v := .int (f i)) (by
    unfold cellsF
    rw [List.getElem?_map, List.getElem?_range (by omega)]
    show some (V.int (f ((i.toNat : Nat) : Int))) = _
    rw [e])
  rwa [e] at this
theorem cells_ix {i : Int} (f : Int → Int) (h : 0 ≤ i) (h2 : i < 100) : ixN (cellsF f).length i = some i.toNat := by
  rw [cells_len]
  unfold ixN
  rw [if_pos h, if_pos (by omega)]
theorem cells_set (f : Int → Int) {a : Int} (b : Int) (h : 0 ≤ a) (h2 : a < 100) : (cellsF f).set a.toNat (.int b) = cellsF (upF f a b) := by
  refine List.ext_getElem? fun j => ?_
  by_cases hj : j < 100
  · rw [List.getElem?_set]
    unfold cellsF
    rw [List.getElem?_map, List.getElem?_map, List.getElem?_range hj]
    by_cases e : a.toNat = j
    · rw [if_pos e, if_pos (by simp; omega)]
      show _ = some (V.int (upF f a b j))
      rw [upF, if_pos (by omega)]
    · rw [if_neg e]
      show some (V.int (f j)) = some (V.int (upF f a b j))
      rw [upF, if_neg (by omega)]
  · rw [List.getElem?_eq_none (by rw [List.length_set, cells_len]; omega), List.getElem?_eq_none (by rw [cells_len]; omega)]
theorem rg_cells : rgV 0 100 = cellsF (fun x => x) := by
  unfold rgV cellsF
  refine List.map_congr_left fun i _ => ?_
  show V.int (0 + (i : Int)) = _
  rw [Int.zero_add]
theorem walk_take {row : List Pr} {f : Int → Int} {i : Nat} {p : Pr} (h : row[i]? = some p) : walkF (row.take (i + 1)) f = upF (walkF (row.take i) f) p.1 (walkF (row.take i) f p.2) := by
  rw [List.take_add_one, h]
  unfold walkF
  rw [List.foldl_append]
  rfl
theorem told_val (ps : List Pr) (x : Int) : (valV (ps.map kvP) (Sum.inl x)).getD (.int x) = .int (toldF ps x) := by
  unfold toldF
  induction ps with
  | nil => rfl
  | cons p ps ih =>
    by_cases e : p.1 = x
    · rw [List.map_cons, valV_pos (show (kvP p).1 = Sum.inl x from congrArg Sum.inl e), List.find?_cons]
      simp [e]
      rfl
    · rw [List.map_cons, valV_neg (show ¬ (kvP p).1 = Sum.inl x from fun z => e (Sum.inl.inj z)), List.find?_cons]
      simp only [e, decide_false]
      exact ih
/-- a row does a shuffle -/
def doneB (ps : List Pr) (s : Int) (row : List Pr) : Bool := ((List.range 100).filter fun i => !decide (((i : Nat) : Int) = s)).all fun i => decide (walkF row (fun x => x) (i : Nat) = toldF ps (i : Nat))
def unP : PyData → Pr
  | .tuple [.int a, .int b] => (a, b)
  | _ => (0, 0)
def movesD (ps : List Pr) (s : Int) : PyData → Bool
  | .list ds => ds.all moveD && doneB ps s (ds.map unP)
  | _ => false
theorem unP_all : ∀ {ds : List PyData}, ds.all moveD = true → ds = (ds.map unP).map pairD ∧ ∀ p ∈ ds.map unP, InP p
  | [], _ => ⟨rfl, fun p hp => by cases hp⟩
  | d :: ds, h => by
    have h2 : moveD d = true ∧ ds.all moveD = true := by simpa using h
    obtain ⟨p, rfl, ip⟩ := moveD_inv h2.1
    obtain ⟨e, all⟩ := unP_all h2.2
    refine ⟨?_, fun q hq => ?_⟩
    · rw [List.map_cons, List.map_cons, ← e]
      rfl
    · rcases List.mem_cons.mp hq with rfl | hq
      · exact ip
      · exact all q hq
theorem movesD_pairs {ps row : List Pr} {s : Int} (h : ∀ p ∈ row, InP p) : movesD ps s (.list (row.map pairD)) = doneB ps s row := by
  have e : (row.map pairD).all moveD = true := by
    rw [List.all_eq_true]
    intro d hd
    obtain ⟨p, hp, rfl⟩ := List.mem_map.mp hd
    exact moveD_pair (h p hp)
  have e2 : (row.map pairD).map unP = row := by
    rw [List.map_map]
    exact List.map_id'' (fun _ => rfl) _
  show ((row.map pairD).all moveD && doneB ps s ((row.map pairD).map unP)) = _
  rw [e, e2, Bool.true_and]
/-- a spare register that doesn't stand in a shuffle -/
def Free (ps : List Pr) (s : Int) : Prop := (0 ≤ s ∧ s < 100) ∧ ∀ p ∈ ps, ¬ p.1 = s ∧ ¬ p.2 = s
section
variable {P : Program} {w : World} {K : PySem.W.Frag} {mg : Str → Option Value} {base : Heap}
def sp_shuffle (r : V) : Sp := fun vs H Q _ => ∃ (v : V) (ps : List Pr), vs = [v] ∧ DT H v (.list (ps.map pairD)) ∧ Shuf ps ∧ ∀ H', Same H H' → Q r H'
theorem c_is_shuffle (T : TMov K mg) : Says P w K mg base 5 "is_shuffle" ["value"] (sp_shuffle (.bl true)) := by
  obtain ⟨tm, gm⟩ := T.g_MOST_TUPLES
  refine says T.d_is_shuffle sc_is_shuffle (fun vs H Q E h => ?_) (fun f cdv A outer s H vs Q E hr h => ?_)
  · obtain ⟨_, _, rfl, _⟩ := h; rfl
  refine ⟨_, (pss_cons (ps_if (PW.pt (pw_or (pt_not (pt_val (pe_callB call_isi (by rfl) T.b_isinstance (by decide +kernel) (pa_cons (pv 0) (pa_cons (pe_bltn (v := .ty "list") (by rfl) T.b_list (by decide +kernel) rfl) pa_nil))))) (pw_or1 (pt_cmpR op_gt (pe_callB call_len_seq (by rfl) T.b_len (by decide +kernel) (pa_cons (pv 0) pa_nil)) (pe_glob (v := .int 40) rfl gm ⟨_, rfl⟩) (nomark _)))))
        (pss_one (ps_ret pe_bl))
        pss_nil)
    (pss_one (ps_ret (pe_and (pe_callB (cr_all rfl) (by rfl) T.b_all (by decide +kernel) (pa_cons (pe_lc (own := [("pair", 1)]) (g := gName 1) (tt := tYes) rfl sc_is_shuffle.nd (pi_list (pv 0)) (blkOk_by (N := ["value", "pair"]) (sc := defScope s_is_shuffle) (own := [("pair", 1)]) (by decide +kernel)) (fun _ _ _ _ _ => pg_name (i := 1) sc_is_shuffle.nd rfl (Or.inl rfl)) (fun _ _ _ _ _ => pts_nil) (fun _ _ _ _ _ => (pe_s (c_is_move T) hr (pa_cons (pv 1) pa_nil)))) pa_nil)) (pe_one (pe_cmpR op_eq (pe_callB call_lenD (by rfl) T.b_len (by decide +kernel) (pa_cons (pe_callTy (call_dictP rfl) (by rfl) T.b_dict (by decide +kernel) (pa_cons (pv 0) pa_nil)) pa_nil)) (pe_callB call_len_seq (by rfl) T.b_len (by decide +kernel) (pa_cons (pv 0) pa_nil)) (nomark _))))))), ?_⟩
  obtain ⟨v, ps, rfl, hd, S, q⟩ := h
  refine ⟨_, rfl, _, _, _, _, _, rfl, .ty _, hd.ty, kit_ty (kit_l _), _, rfl, ?_⟩
  cases hd with
  | @lst p xs _ e r =>
    have lx := r.length
    rw [List.length_map] at lx
    have few := S.few
    refine iteF ?_
    refine ⟨_, rfl, p, xs, rfl, .inl (SqL.of e), _, _, rfl, rfl, _, rfl, ?_⟩
    refine ite2 (fun z => absurd (of_decide_eq_true z) (by omega)) (fun _ => ?_)
    refine ⟨_, rfl, _, rfl, ⟨_, SqL.of e⟩, fun D hD => lc_mapW (walk_list (K := K) (a := p) (xs := xs)) (ys := ps.map fun p => V.bl true) (fun H' s' => SqL.of (s' _ _ e)) (fun j H x H' y => y.1) hD (by rw [List.length_map, lx]) (by omega) ?_ ?_⟩
    · rintro j x y H' Q' s1 ⟨_, hx⟩ hy q'
      obtain ⟨pr, t, hp, rfl, ht⟩ := pair_at r hx
      rw [List.getElem?_map, hp] at hy
      obtain rfl : V.bl true = y := Option.some.inj hy
      refine ⟨.ref t, rfl, .ref t, pairD pr, rfl, .tup (s1 _ _ ht) (.cons (.int _) (.cons (.int _) .nil)), ?_⟩
      rw [moveD_pair (S.inp _ (List.mem_of_getElem? hp))]
      exact q' _ (Same.refl _)
    · intro H' s1 hd2
      refine ⟨_, ps.map fun _ => true, rfl, ?_, _, rfl, ?_⟩
      · rw [List.map_map]
        exact SqL.of hd2
      · rw [show (ps.map fun _ => true).all id = true by simp]
        refine iteT ?_
        have r1 := r.same s1 _
        obtain ⟨as, rfl, la, pp⟩ := pairs_addr (K := K) r1
        refine ⟨_, rfl, p, as, _, rfl, SqL.of (s1 _ _ e), pp, fun dd ndd => ?_⟩
        rw [dict_of S.nd]
        refine ⟨dd, _, rfl, upd_same, _, rfl, p, _, rfl, .inl (SqL.of (same_new ndd _ _ (s1 _ _ e))), rfl, ?_⟩
        have e2 : (V.int ((ps.map kvP).length : Nat)) = V.int ((as.map V.ref).length : Nat) := by
          rw [List.length_map, List.length_map, la]
        rw [e2, decide_eq_true rfl]
        exact q _ (s1.trans (same_new ndd))
theorem c_ask_shuffle (T : TMov K mg) : Says P w K mg base 6 "ask_shuffle" ["shuffle"] (sp_shuffle .non) := by
  refine says T.d_ask_shuffle sc_ask_shuffle (fun vs H Q E h => ?_) (fun f cdv A outer s H vs Q E hr h => ?_)
  · obtain ⟨_, _, rfl, _⟩ := h; rfl
  refine ⟨_, (pss_one (ps_if (pt_not (pt_val (pe_s (c_is_shuffle T) hr (pa_cons (pv 0) pa_nil))))
        (pss_one ps_never)
        pss_nil)), ?_⟩
  obtain ⟨v, ps, rfl, hd, S, q⟩ := h
  exact ⟨_, rfl, v, ps, rfl, hd, S, fun H' s' => ⟨_, rfl, iteF (q H' s')⟩⟩
def sp_spare : Sp := fun vs H Q _ => ∃ (v : V) (ps : List Pr) (s : Int), vs = [v, .int s] ∧ DT H v (.list (ps.map pairD)) ∧ Shuf ps ∧ Free ps s ∧ ∀ H', Same H H' → Q .non H'
theorem c_ask_spare (T : TMov K mg) : Says P w K mg base 4 "ask_spare" ["shuffle", "spare"] sp_spare := by
  refine says T.d_ask_spare sc_ask_spare (fun vs H Q E h => ?_) (fun f cdv A outer s H vs Q E hr h => ?_)
  · obtain ⟨_, _, _, rfl, _⟩ := h; rfl
  refine ⟨_, (pss_one (ps_if (PW.pt (pw_or (pt_not (pt_val (pe_s (c_is_place T) hr (pa_cons (pv 1) pa_nil)))) (pw_or1 (pt_val (pe_callB (cr_any rfl) (by rfl) T.b_any (by decide +kernel) (pa_cons (pe_lc (own := [("pair", 2)]) (g := gName 2) (tt := tYes) rfl sc_ask_spare.nd (pi_list (pv 0)) (blkOk_by (N := ["shuffle", "spare", "pair"]) (sc := defScope s_ask_spare) (own := [("pair", 2)]) (by decide +kernel)) (fun _ _ _ _ _ => pg_name (i := 2) sc_ask_spare.nd rfl (Or.inl rfl)) (fun _ _ _ _ _ => pts_nil) (fun _ _ _ _ _ => (pe_cmpR (r := rIn K false) op_in_seq (pv 1) (pv 2) (by rfl)))) pa_nil))))))
        (pss_one ps_never)
        pss_nil)), ?_⟩
  obtain ⟨v, ps, sp, rfl, hd, S, F, q⟩ := h
  refine ⟨_, rfl, _, .int sp, rfl, .int _, _, rfl, ?_⟩
  rw [show placeD (.int sp) = true from placeD_in.mpr F.1]
  refine iteF ?_
  cases hd with
  | @lst p xs _ e r =>
    have lx := r.length
    rw [List.length_map] at lx
    have few := S.few
    refine ⟨_, rfl, _, rfl, ⟨_, SqL.of e⟩, fun D hD => lc_mapW (walk_list (K := K) (a := p) (xs := xs)) (ys := ps.map fun p => V.bl false) (fun H' s' => SqL.of (s' _ _ e)) (fun j H x H' y => y.1) hD (by rw [List.length_map, lx]) (by omega) ?_ ?_⟩
    · rintro j x y H' Q' s1 ⟨_, hx⟩ hy q'
      obtain ⟨pr, t, hp, rfl, ht⟩ := pair_at r hx
      rw [List.getElem?_map, hp] at hy
      obtain rfl : V.bl false = y := Option.some.inj hy
      refine ⟨_, rfl, _, rfl, t, _, rfl, .inr (SqT.of (s1 _ _ ht)), rfl, rfl, ?_⟩
      have f := F.2 _ (List.mem_of_getElem? hp)
      have e0 : inV (V.int sp) [V.int pr.1, V.int pr.2] = false := by
        simp [inV, eqV, f.1, f.2]
      show Q' (.bl (inV (V.int sp) [V.int pr.1, V.int pr.2])) H'
      rw [e0]
      exact q' _ (Same.refl _)
    · intro H' s1 hd2
      refine ⟨_, ps.map fun _ => false, rfl, ?_, _, rfl, ?_⟩
      · rw [List.map_map]
        exact SqL.of hd2
      · rw [show (ps.map fun _ => false).any id = false by simp]
        exact iteF (q _ s1)
end
end Cb
set_option Elab.async false
set_option linter.all false
set_option maxRecDepth 100000
set_option maxHeartbeats 4000000
namespace Cb
open PySem PySem.Spec PyProof.Rows L2
/-! ### is_moves -/
def bitsOf (ps : List Pr) (s : Int) (row : List Pr) (j : Nat) : List Bool := ((List.range j).filter fun i => !decide (((i : Nat) : Int) = s)).map fun i => decide (walkF row (fun x => x) (i : Nat) = toldF ps (i : Nat))
theorem bits_done (ps : List Pr) (s : Int) (row : List Pr) : (bitsOf ps s row 100).all id = doneB ps s row := by
  unfold bitsOf doneB
  rw [List.all_map]
  rfl
theorem bits_len (ps : List Pr) (s : Int) (row : List Pr) (j : Nat) : (bitsOf ps s row j).length ≤ j := by
  unfold bitsOf
  rw [List.length_map]
  exact Nat.le_trans (List.length_filter_le _ _) (by simp)
theorem bits_next {ps : List Pr} {s : Int} {row : List Pr} {j : Nat} : bitsOf ps s row (j + 1) = bitsOf ps s row j ++ (if ((j : Nat) : Int) = s then [] else [decide (walkF row (fun x => x) (j : Nat) = toldF ps (j : Nat))]) := by
  unfold bitsOf
  rw [List.range_succ, List.filter_append, List.map_append]
  congr 1
  by_cases h : ((j : Nat) : Int) = s
  · rw [if_pos h]
    simp [h]
  · rw [if_neg h]
    simp [h]
section
variable {P : Program} {w : World} {K : PySem.W.Frag} {mg : Str → Option Value} {base : Heap}
def sp_moves : Sp := fun vs H Q _ => ∃ (u v : V) (ps : List Pr) (s : Int) (d : PyData), vs = [u, .int s, v] ∧ DT H u (.list (ps.map pairD)) ∧ Shuf ps ∧ Free ps s ∧ DT H v d ∧ (∀ ds, d = .list ds → ds.length < 1000) ∧ ∀ H', Same H H' → Q (.bl (movesD ps s d)) H'
theorem b_is_moves (T : TMov K mg) : Body P w K mg base 6 "is_moves" s_is_moves NIm sp_moves := by
  obtain ⟨tm, gm⟩ := T.g_MOST_NUMBERS
  intro f cdv A outer st H vs Q E hr h
  refine ⟨_, (pss_cons (ps_expr (pe_s (c_ask_shuffle T) hr (pa_cons (pv 0) pa_nil)))
    (pss_cons (ps_expr (pe_s (c_ask_spare T) hr (pa_cons (pv 0) (pa_cons (pv 1) pa_nil))))
    (pss_cons (ps_if (PW.pt (pw_or (pt_not (pt_val (pe_callB call_isi (by rfl) T.b_isinstance (by decide +kernel) (pa_cons (pv 2) (pa_cons (pe_bltn (v := .ty "list") (by rfl) T.b_list (by decide +kernel) rfl) pa_nil))))) (pw_or1 (pt_not (pt_val (pe_callB (cr_all rfl) (by rfl) T.b_all (by decide +kernel) (pa_cons (pe_lc (own := [("pair", 7)]) (g := gName 7) (tt := tYes) rfl sc_is_moves.nd (pi_list (pv 2)) (blkOk_by (N := NIm) (sc := defScope s_is_moves) (own := [("pair", 7)]) (by decide +kernel)) (fun _ _ _ _ _ => pg_name (i := 7) sc_is_moves.nd rfl (Or.inl rfl)) (fun _ _ _ _ _ => pts_nil) (fun _ _ _ _ _ => (pe_s (c_is_move T) hr (pa_cons (pv 7) pa_nil)))) pa_nil)))))))
        (pss_one (ps_ret pe_bl))
        pss_nil)
    (pss_cons (ps_set (i := 3) sc_is_moves.nd rfl (.inr rfl) (pe_listRg rfl (by rfl) T.b_list (prg_1 (by rfl) T.b_range (pe_glob (v := .int 100) rfl gm ⟨_, rfl⟩))))
    (pss_cons (ps_for PassesOwn.never rfl (pi_list (pv 2)) (pg_tup rfl (pgs_cons (pg_name (i := 4) sc_is_moves.nd rfl (.inl rfl)) (pgs_cons (pg_name (i := 5) sc_is_moves.nd rfl (.inl rfl)) pgs_nil)))
        (pss_one (ps_asg (pe_ix ix_list (pv 3) (pv 5) (fun _ _ => rfl)) (pg_sub (pv 3) (pv 4) set_list))))
    (pss_cons (ps_set (i := 6) sc_is_moves.nd rfl (.inr rfl) (pe_callTy (call_dictP rfl) (by rfl) T.b_dict (by decide +kernel) (pa_cons (pv 0) pa_nil)))
    (pss_one (ps_ret (pe_callB (cr_all rfl) (by rfl) T.b_all (by decide +kernel) (pa_cons (pe_lc (own := [("own", 8)]) (g := gName 8) rfl sc_is_moves.nd (pi_range1 (by rfl) T.b_range (pa_cons (pe_glob (v := .int 100) rfl gm ⟨_, rfl⟩) pa_nil)) (blkOk_by (N := NIm) (sc := defScope s_is_moves) (own := [("own", 8)]) (by decide +kernel)) (fun _ _ _ _ _ => pg_name (i := 8) sc_is_moves.nd rfl (Or.inl rfl)) (fun _ _ _ _ _ => pts_one (pt_cmpR op_ne (pv 8) (pv 1) (nomark _))) (fun _ _ _ _ _ => (pe_cmpR op_eq (pe_ix (r := rIxL K) ix_list (pv 3) (pv 8) (fun _ _ => rfl)) (pe_dget2 (hu_of hr) (pv 6) (pv 8) (pv 8) ⟨rfl, rfl, rfl, rfl⟩) (nomark _)))) pa_nil)))))))))), ?_⟩
  obtain ⟨u, v, ps, s, d, rfl, hu, S, F, hv, sm, q⟩ := h
  refine ⟨_, rfl, u, ps, rfl, hu, S, fun H1 s1 => ?_⟩
  refine ⟨_, rfl, _, rfl, u, ps, s, rfl, hu.same s1 _, S, F, fun H2 s2' => ?_⟩
  have s2 := s1.trans s2'
  have hv2 := hv.same s2 _
  have hu2 := hu.same s2 _
  have q2 : ∀ H', Same H2 H' → Q (.bl (movesD ps s d)) H' := fun H' z => q H' (s2.trans z)
  clear q hv hu s1 s2' s2
  refine ⟨_, rfl, _, _, _, _, _, rfl, .ty _, hv2.ty, kit_ty (kit_l d), _, rfl, ?_⟩
  cases d with
  | list ds =>
    have sml := sm ds rfl
    cases hv2 with
    | @lst p xs _ e r =>
      have lx := r.length
      refine iteF ?_
      refine ⟨_, rfl, _, rfl, ⟨_, SqL.of e⟩, fun D hD => lc_mapW (walk_list (K := K) (a := p) (xs := xs)) (ys := ds.map fun d => V.bl (moveD d)) (fun H' s' => SqL.of (s' _ _ e)) (fun j H x H' y => y.1) hD (by rw [List.length_map, lx]) (by omega) ?_ ?_⟩
      · rintro j x y H' Q' s1 ⟨_, hx⟩ hy q'
        rw [List.getElem?_map] at hy
        cases hdj : ds[j]? with
        | none =>
          rw [hdj] at hy
          cases hy
        | some d =>
          rw [hdj] at hy
          obtain rfl : V.bl (moveD d) = y := Option.some.inj hy
          exact ⟨x, rfl, x, d, rfl, (r.get hx hdj).same s1 d, q' _ (Same.refl _)⟩
      · intro H3 s3 hd2
        refine ⟨_, ds.map moveD, rfl, ?_, _, rfl, ?_⟩
        · rw [List.map_map]
          exact SqL.of hd2
        rw [show (ds.map moveD).all id = ds.all moveD by rw [List.all_map]; rfl]
        cases hm : ds.all moveD with
        | false =>
          refine iteT ?_
          have := q2 H3 s3
          rwa [show movesD ps s (.list ds) = false by show (ds.all moveD && _) = false; rw [hm]; rfl] at this
        | true =>
          refine iteF ?_
          obtain ⟨eds, inp⟩ := unP_all hm
          have q3 : ∀ H', Same H3 H' → Q (.bl (doneB ps s (ds.map unP))) H' := fun H' z => by
            have := q2 H' (s3.trans z)
            rwa [show movesD ps s (.list ds) = doneB ps s (ds.map unP) by show (ds.all moveD && _) = _; rw [hm, Bool.true_and]] at this
          have r3 := r.same s3 _
          have e3 := s3 _ _ e
          have hu3 := hu2.same s3 _
          generalize ds.map unP = row at eds inp q3
          subst eds
          rw [List.length_map] at lx sml
          clear q2 s3 hd2 hu2 r e hm
          refine ⟨100, rfl, RgOk.of_le (by decide) (by decide) (by decide) (by decide), fun hp nhp => ?_⟩
          rw [rg_cells]
          refine ⟨_, rfl, _, rfl, ⟨_, SqL.of (same_new nhp _ _ e3)⟩, for_list (xs := xs) (fun i σ H' => (∃ x4 x5 : Option V, σ = [some u, some (.int s), some (.ref p), some (.ref hp), x4, x5, none, none, none]) ∧ H' = upd H3 hp (.lst (cellsF (walkF (row.take i) fun x => x))))
            ⟨⟨_, _, rfl⟩, rfl⟩ (fun i σ H' _ z => by rw [z.2]; exact SqL.of (same_new nhp _ _ e3)) ?_ ?_⟩
          · rintro i x σ H' hx ⟨⟨x4, x5, rfl⟩, rfl⟩
            obtain ⟨pr, t, hpi, rfl, ht⟩ := pair_at r3 hx
            have ip := inp _ (List.mem_of_getElem? hpi)
            refine ⟨t, _, rfl, SqT.of (same_new nhp _ _ ht), rfl, _, _, rfl, _, _, rfl, rfl, ?_⟩
            refine ⟨_, rfl, _, rfl, _, _, _, _, rfl, rfl, SqL.of upd_same, cells_at _ ip.2.1 ip.2.2, ?_⟩
            refine ⟨_, rfl, _, rfl, _, _, _, _, rfl, rfl, upd_same, cells_ix _ ip.1.1 ip.1.2, ?_⟩
            refine ⟨⟨_, _, rfl⟩, ?_⟩
            rw [upd_upd, cells_set _ _ ip.1.1 ip.1.2, walk_take hpi]
          · rintro σ H' ⟨⟨x4, x5, rfl⟩, rfl⟩
            rw [lx, List.take_length]
            have s4 := same_new (o := .lst (cellsF (walkF row fun x => x))) nhp
            have hc4 : (upd H3 hp (.lst (cellsF (walkF row fun x => x)))) hp = some (.lst (cellsF (walkF row fun x => x))) := upd_same
            generalize upd H3 hp (.lst (cellsF (walkF row fun x => x))) = H4 at s4 hc4 ⊢
            cases hu3 with
            | @lst p0 xs0 _ e0 r0 =>
              obtain ⟨as, rfl, la, pp⟩ := pairs_addr (K := K) (r0.same s4 _)
              refine ⟨_, rfl, p0, as, _, rfl, SqL.of (s4 _ _ e0), pp, fun dd ndd => ?_⟩
              rw [dict_of S.nd]
              have s5 := same_new (o := .dK (ps.map kvP)) ndd
              have hc5 := s5 _ _ hc4
              have hd5 : (upd H4 dd (.dK (ps.map kvP))) dd = some (.dK (ps.map kvP)) := upd_same
              generalize upd H4 dd (.dK (ps.map kvP)) = H5 at s5 hc5 hd5 ⊢
              refine ⟨100, rfl, by decide, by decide, fun D2 hD2 => ?_⟩
              refine lc_it walk_range (fun j H' => Same H5 H' ∧ H' D2 = some (.lst ((bitsOf ps s row j).map V.bl))) ⟨same_new hD2, upd_same⟩ (fun _ _ _ _ => trivial) ?_ ?_
              · rintro j x H6 H7 hj ⟨s6, hb⟩ ⟨rfl, ex⟩
                obtain rfl : x = V.int (j : Int) := ex.trans (congrArg V.int (Int.zero_add _))
                refine ⟨rfl, ?_⟩
                refine ⟨_, rfl, _, rfl, rfl, _, rfl, ?_⟩
                have hj2 : j < 100 := hj
                refine ifNeI (fun ne => ?_) (fun eq => ?_)
                · refine ⟨_, rfl, _, rfl, _, _, _, _, rfl, rfl, SqL.of (s6 _ _ hc5), cells_at _ (i := (j : Int)) (by omega) (by omega), ?_⟩
                  refine ⟨_, rfl, dd, rfl, .inl ⟨_, .inl (s6 _ _ hd5)⟩, _, rfl, _, rfl, _, DGet.k (k := Sum.inl (j : Int)) (s6 _ _ hd5), ?_⟩
                  rw [told_val]
                  refine ⟨rfl, _, hb, ?_, ?_, ?_⟩
                  · rw [List.length_map]
                    exact small1000' (Nat.le_trans (bits_len ..) (by omega))
                  · intro b o e
                    rw [upd_ne (ne_of_none e hD2)]
                    exact s6 _ _ e
                  · rw [upd_same, bits_next, if_neg ne, List.map_append]
                    have ed : decide (V.int (walkF row (fun x => x) (j : Int)) = V.int (toldF ps (j : Int))) = decide (walkF row (fun x => x) (j : Int) = toldF ps (j : Int)) := by
                      by_cases z : walkF row (fun x => x) (j : Int) = toldF ps (j : Int)
                      · rw [decide_eq_true z, decide_eq_true (congrArg V.int z)]
                      · rw [decide_eq_false z, decide_eq_false fun y => z (V.int.inj y)]
                    rw [ed]
                    rfl
                · refine ⟨s6, ?_⟩
                  rw [hb, bits_next, if_pos eq, List.append_nil]
              · rintro H6 ⟨s6, hb⟩
                refine ⟨_, _, rfl, SqL.of hb, ?_⟩
                show Q (.bl ((bitsOf ps s row 100).all id)) H6
                rw [bits_done]
                exact q3 _ ((s4.trans s5).trans s6)
  | _ => exact iteT (q2 _ (Same.refl _))
theorem c_is_moves (T : TMov K mg) : Says P w K mg base 7 "is_moves" ["shuffle", "spare", "value"] sp_moves := says T.d_is_moves sc_is_moves (fun vs H Q E h => by obtain ⟨_, _, _, _, _, rfl, _⟩ := h; rfl) (b_is_moves T)
theorem k_is_moves (T : TMov K mg) : SaysK P w K mg base 7 "is_moves" ["shuffle", "spare", "value"] ["value", "spare", "shuffle"] List.reverse sp_moves := saysK T.k_is_moves sc_is_moves (fun vs H Q E h => by obtain ⟨_, _, _, _, _, rfl, _⟩ := h; rfl) (b_is_moves T)
end
end Cb
set_option Elab.async false
set_option linter.all false
set_option maxRecDepth 100000
set_option maxHeartbeats 4000000
namespace Cb
open PySem PySem.Spec PyProof.Rows L2
/-! ### the law's own walk: `_law_due` -/
def entries (row : List Pr) : List Int := (row.map fun p => [p.1, p.2]).flatten
theorem mem_entries {row : List Pr} {x : Int} : x ∈ entries row ↔ ∃ p ∈ row, p.1 = x ∨ p.2 = x := by
  unfold entries
  rw [List.mem_flatten]
  constructor
  · rintro ⟨l, hl, hx⟩
    obtain ⟨p, hp, rfl⟩ := List.mem_map.mp hl
    simp only [List.mem_cons, List.not_mem_nil, or_false] at hx
    exact ⟨p, hp, by rcases hx with rfl | rfl <;> simp⟩
  · rintro ⟨p, hp, h⟩
    exact ⟨_, List.mem_map.mpr ⟨p, hp, rfl⟩, by rcases h with rfl | rfl <;> simp⟩
theorem walk_out {x : Int} : ∀ {row : List Pr} {f : Int → Int}, (∀ p ∈ row, ¬ p.1 = x) → walkF row f x = f x
  | [], _, _ => rfl
  | p :: row, f, h => by
    show walkF row (upF f p.1 (f p.2)) x = f x
    rw [walk_out fun q hq => h q (List.mem_cons_of_mem _ hq), upF, if_neg fun e => h p (List.mem_cons_self ..) e.symm]
theorem told_out {x : Int} {ps : List Pr} (h : ∀ p ∈ ps, ¬ p.1 = x) : toldF ps x = x := by
  unfold toldF
  rw [List.find?_eq_none.mpr fun p hp => by simpa using h p hp]
  rfl
def badF (ps : List Pr) (s : Int) (row : List Pr) (x : Int) : Bool := !decide (x = s) && !decide (walkF row (fun x => x) x = toldF ps x)
theorem due_done {ps row : List Pr} {s : Int} {ns : List Int} (hp : ∀ p ∈ ps, InP p) (hr : ∀ p ∈ row, InP p) (h : ∀ x, x ∈ ns ↔ x ∈ entries (ps ++ row)) : (ns.filter (badF ps s row)).isEmpty = doneB ps s row := by
  have key : (ns.filter (badF ps s row)).isEmpty = true ↔ doneB ps s row = true := by
    rw [List.isEmpty_iff, List.filter_eq_nil_iff]
    unfold doneB
    rw [List.all_eq_true]
    constructor
    · intro z i hi
      obtain ⟨hi, ne⟩ := List.mem_filter.mp hi
      by_cases m : ((i : Nat) : Int) ∈ ns
      · have := z _ m
        simp only [badF, Bool.and_eq_true, Bool.not_eq_true', decide_eq_false_iff_not, not_and, Decidable.not_not] at this
        exact decide_eq_true (this (by simpa using ne))
      · have out : ∀ p ∈ ps ++ row, ¬ p.1 = (i : Int) := fun p hp e => m ((h _).mpr (mem_entries.mpr ⟨p, hp, .inl e⟩))
        refine decide_eq_true ?_
        rw [walk_out fun p hp => out p (List.mem_append_right _ hp), told_out fun p hp => out p (List.mem_append_left _ hp)]
    · intro z x hx
      obtain ⟨p, hpm, e⟩ := mem_entries.mp ((h x).mp hx)
      have ip : InP p := by
        rcases List.mem_append.mp hpm with m | m
        · exact hp p m
        · exact hr p m
      have hx0 : 0 ≤ x ∧ x < 100 := by
        rcases e with rfl | rfl
        · exact ip.1
        · exact ip.2
      have ex : ((x.toNat : Nat) : Int) = x := Int.toNat_of_nonneg hx0.1
      simp only [badF, Bool.and_eq_true, Bool.not_eq_true', decide_eq_false_iff_not, not_and, Decidable.not_not]
      intro ne
      have := z x.toNat (List.mem_filter.mpr ⟨List.mem_range.mpr (by omega), by simpa [ex] using ne⟩)
      rw [ex] at this
      exact of_decide_eq_true this
  cases a : (ns.filter (badF ps s row)).isEmpty <;> cases b : doneB ps s row
  · rfl
  · rw [key.mpr b] at a
    exact nomatch a
  · rw [key.mp a] at b
    exact nomatch b
  · rfl
/-! ### a dict of what is held -/
def hk (ns : List Int) (f : Int → Int) : List (Key × V) := ns.map fun r => (Sum.inl r, .int (f r))
theorem hk_val {f : Int → Int} {b : Int} : ∀ {ns : List Int}, b ∈ ns → valV (hk ns f) (Sum.inl b) = some (.int (f b))
  | n :: ns, h => by
    show valV ((Sum.inl n, V.int (f n)) :: hk ns f) (Sum.inl b) = _
    by_cases e : n = b
    · rw [valV_pos (congrArg Sum.inl e), e]
    · rw [valV_neg fun z => e (Sum.inl.inj z), hk_val ((List.mem_cons.mp h).resolve_left fun z => e z.symm)]
theorem hk_put {ns : List Int} {f : Int → Int} {a b : Int} (h : a ∈ ns) : putK (hk ns f) (Sum.inl a) (.int b) = hk ns (upF f a b) := by
  unfold putK
  rw [if_pos]
  · unfold hk
    rw [List.map_map]
    refine List.map_congr_left fun n _ => ?_
    show (if (Sum.inl n : Key) = Sum.inl a then ((Sum.inl n : Key), V.int b) else (Sum.inl n, V.int (f n))) = (Sum.inl n, V.int (upF f a b n))
    by_cases e : n = a
    · rw [if_pos (congrArg Sum.inl e), upF, if_pos e]
    · rw [if_neg fun z => e (Sum.inl.inj z), upF, if_neg e]
  · refine List.any_eq_true.mpr ⟨(Sum.inl a, .int (f a)), List.mem_map.mpr ⟨a, h, rfl⟩, ?_⟩
    simp
theorem hk_nd {ns : List Int} {f : Int → Int} (h : ns.Nodup) : ((hk ns f).map (·.1)).Nodup := by
  have e : (hk ns f).map (·.1) = ns.map (Sum.inl (β := Str)) := by
    unfold hk
    rw [List.map_map]
    rfl
  rw [e]
  exact List.Pairwise.map _ (fun a b (ne : a ≠ b) z => ne (Sum.inl.inj z)) h
theorem hk_merge {ns : List Int} {f : Int → Int} (h : ns.Nodup) : mergeK [] (hk ns f) = hk ns f := by
  rw [mergeK_nd _ [] (by simpa using hk_nd h)]
  rfl
theorem filter_take' {α : Type} {xs : List α} {f : α → Bool} {i : Nat} {d : α} (h : xs[i]? = some d) : (xs.take (i + 1)).filter f = (xs.take i).filter f ++ (if f d = true then [d] else []) := by
  rw [List.take_add_one, h, List.filter_append]
  show _ ++ List.filter f [d] = _
  by_cases e : f d = true
  · rw [if_pos e, List.filter_cons_of_pos e, List.filter_nil]
  · rw [if_neg e, List.filter_cons_of_neg e, List.filter_nil]
theorem eqv_nil (ds : List PyData) : PyData.eqv (.list ds) (.list []) = ds.isEmpty := by
  cases ds with
  | nil => rfl
  | cons d ds => simp [PyData.eqv, PyData.eqvAll]
theorem paired_of {α β : Type} {R : α → β → Prop} : ∀ {as : List α} {bs : List β}, as.length = bs.length → (∀ (i : Nat) (a : α) (b : β), as[i]? = some a → bs[i]? = some b → R a b) → Paired R as bs
  | [], [], _, _ => .nil
  | [], _ :: _, h, _ => nomatch h
  | _ :: _, [], h, _ => nomatch h
  | a :: as, b :: bs, h, r => .cons (r 0 a b rfl rfl) (paired_of (by simpa using h) fun i a' b' h1 h2 => r (i + 1) a' b' (by simpa using h1) (by simpa using h2))
theorem ne_ho {H : Hp} {x y : Addr} {o o' : HO} (hx : H x = some o) (hy : H y = some o') (h : o ≠ o') : x ≠ y := fun e => h (Option.some.inj (hx.symm.trans (e ▸ hy)))
theorem okd_ints {ns : List Int} (h : ns.length < 1000) : OKd (.list (ns.map PyData.int)) := by
  refine ⟨?_, ?_⟩
  · simp only [Cb.good, List.length_map, h, decide_true, Bool.true_and]
    exact goods_of fun d hd => by
      obtain ⟨n, _, rfl⟩ := List.mem_map.mp hd
      rfl
  · have := depthAll_le (n := 0) (ds := ns.map PyData.int) fun d hd => by
      obtain ⟨n, _, rfl⟩ := List.mem_map.mp hd
      simp [PyData.depth]
    simp only [PyData.depth]
    omega
theorem dts_ints {H : Hp} : ∀ ns : List Int, DTs H (ns.map V.int) (ns.map PyData.int)
  | [] => .nil
  | n :: ns => .cons (.int n) (dts_ints ns)
def rLof (K : PySem.W.Frag) : List V → Hp → VK → Prop := fun xs H Q => ∃ p ys, xs = [.ref p] ∧ (SqL K H p ys ∨ SqT K H p ys) ∧ ∀ l, H l = none → Q (.ref l) (upd H l (.lst ys))
theorem call_lof {X : Cx} : CallR X (.type "list") (rLof X.K) := call_list_of
abbrev s_l_due : Stmt := topS 21
abbrev NDu : List Str := ["_law_shuffle_here", "_law_spare", "_law_row", "_law_registers", "_law_held", "_law_told", "_law_one", "_law_other", "_law_pair", "_law_spot"]
theorem sc_l_due : FnScope NDu ["_law_shuffle_here", "_law_spare", "_law_row"] (defScope s_l_due) := ⟨rfl, rfl, rfl, by decide +kernel, rfl, by decide +kernel, by decide +kernel⟩
structure TDue (K : PySem.W.Frag) (mg : Str → Option Value) : Prop where
  d_l_due : Has K mg "_law_due" s_l_due ["_law_shuffle_here", "_law_spare", "_law_row"]
  b_list : mg "list" = none
  b_dict : mg "dict" = none
  b_set : mg "set" = none
  b_sum : mg "sum" = none
  b_sorted : mg "sorted" = none
section
variable {P : Program} {w : World} {K : PySem.W.Frag} {mg : Str → Option Value} {base : Heap}
def sp_due : Sp := fun vs H Q _ => ∃ (u v : V) (ps row : List Pr) (s : Int), vs = [u, .int s, v] ∧ DT H u (.list (ps.map pairD)) ∧ DT H v (.list (row.map pairD)) ∧ Shuf ps ∧ (∀ p ∈ row, InP p) ∧ ps.length + row.length ≤ 31 ∧ ∀ H', Same H H' → Q (.bl (doneB ps s row)) H'
theorem c_l_due (T : TDue K mg) : Says P w K mg base 7 "_law_due" ["_law_shuffle_here", "_law_spare", "_law_row"] sp_due := by
  refine says T.d_l_due sc_l_due (fun vs H Q E h => ?_) (fun f cdv A outer st H vs Q E hr h => ?_)
  · obtain ⟨_, _, _, _, _, rfl, _⟩ := h; rfl
  refine ⟨_, (pss_cons (ps_set (i := 3) sc_l_due.nd rfl (.inl rfl) (pe_callB (cr_sortedSet rfl) (by rfl) T.b_sorted (by decide +kernel) (pa_cons (pe_callTy (call_setL rfl) (by rfl) T.b_set (by decide +kernel) (pa_cons (pe_callB (call_sumL rfl) (by rfl) T.b_sum (by decide +kernel) (pa_cons (pe_lc (own := [("_law_pair", 8)]) (g := gName 8) (tt := tYes) rfl sc_l_due.nd (pi_list (pe_op op_cat (pv 0) (pv 2))) (blkOk_by (N := NDu) (sc := defScope s_l_due) (own := [("_law_pair", 8)]) (by decide +kernel)) (fun _ _ _ _ _ => pg_name (i := 8) sc_l_due.nd rfl (Or.inl rfl)) (fun _ _ _ _ _ => pts_nil) (fun _ _ _ _ _ => (pe_callTy (T := "list") (r := rLof K) call_lof (by rfl) T.b_list (by decide +kernel) (pa_cons (pv 8) pa_nil)))) (pa_cons (pe_lst pa_nil) pa_nil))) pa_nil)) pa_nil)))
    (pss_cons (ps_asg (pe_tup (pa_cons (pe_callTy (call_dictP rfl) (by rfl) T.b_dict (by decide +kernel) (pa_cons (pe_lc (own := [("_law_spot", 9)]) (g := gName 9) (tt := tYes) rfl sc_l_due.nd (pi_list (pv 3)) (blkOk_by (N := NDu) (sc := defScope s_l_due) (own := [("_law_spot", 9)]) (by decide +kernel)) (fun _ _ _ _ _ => pg_name (i := 9) sc_l_due.nd rfl (Or.inl rfl)) (fun _ _ _ _ _ => pts_nil) (fun _ _ _ _ _ => (pe_tup (pa_cons (pv 9) (pa_cons (pv 9) pa_nil))))) pa_nil)) (pa_cons (pe_callTy (call_dictP rfl) (by rfl) T.b_dict (by decide +kernel) (pa_cons (pv 0) pa_nil)) pa_nil))) (pg_tup rfl (pgs_cons (pg_name (i := 4) sc_l_due.nd rfl (.inr rfl)) (pgs_cons (pg_name (i := 5) sc_l_due.nd rfl (.inr rfl)) pgs_nil))))
    (pss_cons (ps_for PassesOwn.never rfl (pi_list (pv 2)) (pg_tup rfl (pgs_cons (pg_name (i := 6) sc_l_due.nd rfl (.inl rfl)) (pgs_cons (pg_name (i := 7) sc_l_due.nd rfl (.inl rfl)) pgs_nil)))
        (pss_one (ps_dput (hu_of hr) (pv 4) (pv 6) (pe_dget (hu_of hr) (pv 4) (pv 7) (fun _ _ => rfl)) rfl)))
    (pss_one (ps_ret (pe_cmpR (op_eqD hr.units) (pe_lc (own := [("_law_spot", 9)]) (g := gName 9) rfl sc_l_due.nd (pi_list (pv 3)) (blkOk_by (N := NDu) (sc := defScope s_l_due) (own := [("_law_spot", 9)]) (by decide +kernel)) (fun _ _ _ _ _ => pg_name (i := 9) sc_l_due.nd rfl (Or.inl rfl)) (fun _ _ _ _ _ => pts_one (PW.pt (pw_and (pt_cmpR op_ne (pv 9) (pv 1) (nomark _)) (pw_and1 (pt_cmpR op_ne (pe_dget (hu_of hr) (pv 4) (pv 9) (fun _ _ => rfl)) (pe_dget2 (hu_of hr) (pv 5) (pv 9) (pv 9) ⟨rfl, rfl, rfl, rfl⟩) (nomark _)))))) (fun _ _ _ _ _ => (pv 9))) (pe_lst pa_nil) (nomark _))))))), ?_⟩
  obtain ⟨u, v, ps, row, s, rfl, hu, hv, S, R, few, q⟩ := h
  cases hu with
  | @lst a xs _ ea ra =>
  cases hv with
  | @lst b ys _ eb rb =>
  have lx := ra.length
  have ly := rb.length
  rw [List.length_map] at lx ly
  have rows_ip : ∀ p ∈ ps ++ row, InP p := fun p hp => (List.mem_append.mp hp).elim (S.inp p) (R p)
  have lr : (ps ++ row).length ≤ 31 := by rw [List.length_append]; exact few
  refine ⟨_, rfl, _, rfl, a, b, _, _, rfl, rfl, ea, eb, Nat.le_of_lt (small1000' (by omega)), fun c nc => ⟨_, rfl, ⟨_, SqL.of upd_same⟩, fun D hD => ?_⟩⟩
  have s1 := same_new (o := .lst (xs ++ ys)) nc
  have hc1 : (upd H c (.lst (xs ++ ys))) c = some (.lst (xs ++ ys)) := upd_same
  have r1 : DTs (upd H c (.lst (xs ++ ys))) (xs ++ ys) ((ps ++ row).map pairD) := by
    rw [List.map_append]
    exact DTs.app (ra.same s1 _) (rb.same s1 _)
  have ea1 := s1 _ _ ea
  have eb1 := s1 _ _ eb
  have ra1 := ra.same s1 _
  have rb1 := rb.same s1 _
  have q1 : ∀ H', Same (upd H c (.lst (xs ++ ys))) H' → Q (.bl (doneB ps s row)) H' := fun H' z => q H' (s1.trans z)
  generalize upd H c (.lst (xs ++ ys)) = H1 at hD s1 hc1 r1 ea1 eb1 ra1 rb1 q1 ⊢
  clear q ra rb ea eb nc s1
  refine lc_it (walk_list (K := K) (a := c) (xs := xs ++ ys)) (fun j H' => Same H1 H' ∧ ∃ as : List Addr, H' D = some (.lst (as.map V.ref)) ∧ as.length = j ∧ ∀ (i : Nat) (l : Addr) (p : Pr), as[i]? = some l → (ps ++ row)[i]? = some p → H' l = some (.lst [.int p.1, .int p.2]) ∧ l ≠ D)
    ⟨same_new hD, [], upd_same, rfl, fun i l p h => by simp at h⟩ (fun i H' _ z => SqL.of (z.1 _ _ hc1)) ?_ ?_
  · rintro j x H2 H3 hj ⟨s2, as, hD2, la, ha⟩ ⟨rfl, hx⟩
    obtain ⟨pr, t, hp, rfl, ht⟩ := pair_at r1 hx
    refine ⟨rfl, ?_⟩
    refine ⟨_, rfl, t, _, rfl, .inr (SqT.of (s2 _ _ ht)), fun l nl => ?_⟩
    have nlD : l ≠ D := (ne_of_none hD2 nl).symm
    refine ⟨_, same_new nl _ _ hD2, ?_, ?_, as ++ [l], ?_, ?_, ?_⟩
    · rw [List.length_map, la]
      exact small1000' (by rw [List.length_append] at hj; omega)
    · intro b' o e
      rw [upd_ne (ne_of_none e hD)]
      exact same_new nl _ _ (s2 _ _ e)
    · rw [upd_same, List.map_append]
      rfl
    · rw [List.length_append, la]
      rfl
    · intro i l' p' h1 h2
      by_cases hi : i < as.length
      · rw [List.getElem?_append_left hi] at h1
        obtain ⟨z1, z2⟩ := ha i l' p' h1 h2
        exact ⟨by rw [upd_ne z2]; exact same_new nl _ _ z1, z2⟩
      · rw [List.getElem?_append_right (by omega)] at h1
        have hi0 : i - as.length = 0 := by
          have := (List.getElem?_eq_some_iff.mp h1).1
          simp at this
          omega
        rw [hi0] at h1
        obtain rfl : l = l' := by simpa using h1
        obtain rfl : i = j := by omega
        obtain rfl : pr = p' := Option.some.inj (hp.symm.trans h2)
        exact ⟨by rw [upd_ne nlD]; exact upd_same, nlD⟩
  · rintro H2 ⟨s2, as, hD2, la, ha⟩
    have la2 : as.length = (ps ++ row).length := by rw [la, List.length_append, List.length_append, lx, ly]
    refine ⟨Nat.zero_le _, fun st nst => ?_⟩
    have s3 := same_new (o := .lst []) nst
    have fl : ([] : List V) ++ ((ps ++ row).map fun p => [V.int p.1, V.int p.2]).flatten = (entries (ps ++ row)).map V.int := by
      rw [List.nil_append, entries, List.map_flatten, List.map_map]
      rfl
    have le_ : ∀ l : List Pr, (entries l).length = 2 * l.length := by
      intro l
      induction l with
      | nil => rfl
      | cons p l ih =>
        show (p.1 :: p.2 :: entries l).length = _
        rw [List.length_cons, List.length_cons, ih, List.length_cons]
        omega
    have len := le_ (ps ++ row)
    refine ⟨D, st, as, (ps ++ row).map fun p => [V.int p.1, V.int p.2], [], rfl, s3 _ _ hD2, upd_same, by rw [List.length_map, la2], ?_, ?_, fun z H3 s4 hz => ?_⟩
    · intro i l z h1 h2
      rw [List.getElem?_map] at h2
      cases h3 : (ps ++ row)[i]? with
      | none =>
        rw [h3] at h2
        cases h2
      | some p =>
        rw [h3] at h2
        obtain rfl : [V.int p.1, V.int p.2] = z := Option.some.inj h2
        exact s3 _ _ (ha i l p h1 h3).1
    · rw [fl, List.length_map]
      exact Nat.le_of_lt (small1000' (by omega))
    rw [fl] at hz
    have s13 := (s2.trans s3).trans s4
    clear s2 s3 s4 ha la la2 hD2 nst
    refine ⟨z, entries (ps ++ row), rfl, SqL.of hz, by omega, fun sa n nsa le => ?_⟩
    generalize hso : SetO _ sa (fun j => decide (j ∈ entries (ps ++ row))) n = so
    refine ⟨sa, _, n, rfl, by rw [upd_same, ← hso] <;> rfl, by omega, fun ns q rise mem lenN nq => ?_⟩
    have s5 := s13.trans ((same_new (o := so) nsa).trans (same_new (o := .lst (ns.map V.int)) nq))
    have hq5 : (upd (upd H3 sa (so)) q (.lst (ns.map V.int))) q = some (.lst (ns.map V.int)) := upd_same
    generalize upd (upd H3 sa (so)) q (.lst (ns.map V.int)) = H5 at s5 hq5 ⊢
    have nd : ns.Nodup := rise.imp fun h => Int.ne_of_lt h
    have memb : ∀ x, x ∈ ns ↔ x ∈ entries (ps ++ row) := fun x => (mem x).trans (by simp)
    have small : ns.length ≤ 62 := by omega
    clear lenN le
    refine ⟨_, rfl, q, rfl, ⟨_, SqL.of hq5⟩, fun D2 hD2 => ?_⟩
    refine lc_it (walk_list (K := K) (a := q) (xs := ns.map V.int)) (fun j H' => Same H5 H' ∧ ∃ ts : List Addr, H' D2 = some (.lst (ts.map V.ref)) ∧ ts.length = j ∧ ∀ (i : Nat) (t : Addr) (r : Int), ts[i]? = some t → ns[i]? = some r → H' t = some (.tup [.int r, .int r]) ∧ t ≠ D2)
      ⟨same_new hD2, [], upd_same, rfl, fun i l p h => by simp at h⟩ (fun i H' _ z => SqL.of (z.1 _ _ hq5)) ?_ ?_
    · rintro j x H6 H7 hj ⟨s6, ts, hD3, la, ha⟩ ⟨rfl, hx⟩
      rw [List.length_map] at hj
      have hx2 : ns[j]? = some ns[j] := List.getElem?_eq_getElem hj
      rw [List.getElem?_map, hx2] at hx
      obtain rfl : V.int ns[j] = x := Option.some.inj hx
      refine ⟨rfl, ?_⟩
      refine ⟨_, rfl, _, rfl, (show 2 ≤ sizeLine by decide), fun l nl => ?_⟩
      have nlD : l ≠ D2 := (ne_of_none hD3 nl).symm
      refine ⟨_, same_new nl _ _ hD3, ?_, ?_, ts ++ [l], ?_, ?_, ?_⟩
      · rw [List.length_map, la]
        exact small1000' (by omega)
      · intro b' o e
        rw [upd_ne (ne_of_none e hD2)]
        exact same_new nl _ _ (s6 _ _ e)
      · rw [upd_same, List.map_append]
        rfl
      · rw [List.length_append, la]
        rfl
      · intro i l' p' h1 h2
        by_cases hi : i < ts.length
        · rw [List.getElem?_append_left hi] at h1
          obtain ⟨z1, z2⟩ := ha i l' p' h1 h2
          exact ⟨by rw [upd_ne z2]; exact same_new nl _ _ z1, z2⟩
        · rw [List.getElem?_append_right (by omega)] at h1
          have hi0 : i - ts.length = 0 := by
            have := (List.getElem?_eq_some_iff.mp h1).1
            simp at this
            omega
          rw [hi0] at h1
          obtain rfl : l = l' := by simpa using h1
          obtain rfl : i = j := by omega
          obtain rfl : ns[i] = p' := Option.some.inj (hx2.symm.trans h2)
          exact ⟨by rw [upd_ne nlD]; exact upd_same, nlD⟩
    · rintro H6 ⟨s6, ts, hD3, la, ha⟩
      rw [List.length_map] at la
      refine ⟨D2, ts, hk ns fun x => x, rfl, SqL.of hD3, ?_, fun dd ndd => ?_⟩
      · refine paired_of (by rw [la, hk, List.length_map]) fun i t kv h1 h2 => ?_
        rw [hk, List.getElem?_map] at h2
        cases h3 : ns[i]? with
        | none =>
          rw [h3] at h2
          cases h2
        | some r =>
          rw [h3] at h2
          obtain rfl := Option.some.inj h2
          exact SqT.of (ha i t r h1 h3).1
      rw [hk_merge nd]
      have s16 := s5.trans (s6.trans (same_new (o := .dK (hk ns fun x => x)) ndd))
      have hdd : (upd H6 dd (.dK (hk ns fun x => x))) dd = some (.dK (hk ns fun x => x)) := upd_same
      have hq6 := same_new (o := .dK (hk ns fun x => x)) ndd _ _ (s6 _ _ hq5)
      generalize upd H6 dd (.dK (hk ns fun x => x)) = H7 at s16 hdd hq6 ⊢
      have nd1 : H1 dd = none := (s5.trans s6).free ndd
      clear ha hD3 ndd s5 s6 hq5 la
      obtain ⟨as, rfl, la, pp⟩ := pairs_addr (K := K) (ra1.same s16 _)
      refine ⟨_, rfl, a, as, _, rfl, SqL.of (s16 _ _ ea1), pp, fun d2 nd2 => ?_⟩
      rw [dict_of S.nd]
      have s17 := s16.trans (same_new (o := .dK (ps.map kvP)) nd2)
      have hdd2 := same_new (o := .dK (ps.map kvP)) nd2 _ _ hdd
      have hq7 := same_new (o := .dK (ps.map kvP)) nd2 _ _ hq6
      have nedd : d2 ≠ dd := (ne_of_none hdd nd2).symm
      have hd2 : (upd H7 d2 (.dK (ps.map kvP))) d2 = some (.dK (ps.map kvP)) := upd_same
      generalize upd H7 d2 (.dK (ps.map kvP)) = H8 at s17 hdd2 hq7 hd2 ⊢
      refine ⟨(show 2 ≤ sizeLine by decide), fun t nt => ⟨t, _, rfl, SqT.of upd_same, rfl, _, _, rfl, _, _, rfl, rfl, ?_⟩⟩
      have s18 := s17.trans (same_new (o := .tup [.ref dd, .ref d2]) nt)
      have hdd9 := same_new (o := .tup [.ref dd, .ref d2]) nt _ _ hdd2
      have hd9 := same_new (o := .tup [.ref dd, .ref d2]) nt _ _ hd2
      have hq9 := same_new (o := .tup [.ref dd, .ref d2]) nt _ _ hq7
      generalize upd H8 t (.tup [.ref dd, .ref d2]) = H9 at s18 hdd9 hd9 hq9 ⊢
      clear s17 hdd2 hq7 hd2 s16 hdd hq6 nd2 nt pp
      have eb9 := s18 _ _ eb1
      have rb9 := rb1.same s18 _
      have nb : b ≠ dd := ne_ho eb9 hdd9 (by intro z; cases z)
      have nq : q ≠ dd := ne_ho hq9 hdd9 (by intro z; cases z)
      have hkl : ∀ f : Int → Int, (hk ns f).length < sizeLine := fun f => by
        rw [hk, List.length_map]
        exact small1000' (by omega)
      refine ⟨_, rfl, b, rfl, ⟨_, SqL.of eb9⟩, for_list (xs := ys) (fun i σ H' => (∃ x6 x7 : Option V, σ = [some (.ref a), some (.int s), some (.ref b), some (.ref q), some (.ref dd), some (.ref d2), x6, x7, none, none]) ∧ H' = upd H9 dd (.dK (hk ns (walkF (row.take i) fun x => x))))
        ⟨⟨_, _, rfl⟩, (upd_self hdd9).symm⟩ (fun i σ H' _ z => by rw [z.2]; exact SqL.of (by rw [upd_ne nb]; exact eb9)) ?_ ?_⟩
      · rintro i x σ H' hx ⟨⟨x6, x7, rfl⟩, rfl⟩
        obtain ⟨pr, t, hpi, rfl, ht⟩ := pair_at rb9 hx
        have mi := List.mem_of_getElem? hpi
        have m1 : pr.1 ∈ ns := (memb _).mpr (mem_entries.mpr ⟨pr, List.mem_append_right _ mi, .inl rfl⟩)
        have m2 : pr.2 ∈ ns := (memb _).mpr (mem_entries.mpr ⟨pr, List.mem_append_right _ mi, .inr rfl⟩)
        have nt : t ≠ dd := ne_ho ht hdd9 (by intro z; cases z)
        refine ⟨t, _, rfl, SqT.of (by rw [upd_ne nt]; exact ht), rfl, _, _, rfl, _, _, rfl, rfl, ?_⟩
        have g := DGet.k (H := upd H9 dd (.dK (hk ns (walkF (row.take i) fun x => x)))) (k := Sum.inl pr.2) upd_same
        rw [hk_val m2] at g
        refine ⟨_, rfl, _, rfl, dd, _, rfl, g, ?_⟩
        refine ⟨_, rfl, _, rfl, dd, _, rfl, DPut.k (k := Sum.inl pr.1) upd_same (hkl _), ?_⟩
        refine ⟨⟨_, _, rfl⟩, ?_⟩
        rw [upd_upd, hk_put m1, walk_take hpi]
      · rintro σ H' ⟨⟨x6, x7, rfl⟩, rfl⟩
        rw [ly, List.take_length]
        have hqX : (upd H9 dd (.dK (hk ns (walkF row fun x => x)))) q = some (.lst (ns.map V.int)) := by rw [upd_ne nq]; exact hq9
        have hdX : (upd H9 dd (.dK (hk ns (walkF row fun x => x)))) d2 = some (.dK (ps.map kvP)) := by rw [upd_ne nedd]; exact hd9
        have hcX : (upd H9 dd (.dK (hk ns (walkF row fun x => x)))) dd = some (.dK (hk ns (walkF row fun x => x))) := upd_same
        have sX : Same H1 (upd H9 dd (.dK (hk ns (walkF row fun x => x)))) := fun b' o e => by
          rw [upd_ne (ne_of_none e nd1)]
          exact s18 _ _ e
        generalize upd H9 dd (.dK (hk ns (walkF row fun x => x))) = HX at hqX hdX hcX sX ⊢
        refine ⟨_, rfl, q, rfl, ⟨_, SqL.of hqX⟩, fun D3 hD3 => ?_⟩
        refine lc_it (walk_list (K := K) (a := q) (xs := ns.map V.int)) (fun j H' => Same HX H' ∧ H' D3 = some (.lst (((ns.take j).filter (badF ps s row)).map V.int))) ⟨same_new hD3, upd_same⟩ (fun i H' _ z => SqL.of (z.1 _ _ hqX)) ?_ ?_
        · rintro j x H2 H3 hj ⟨s2, hb⟩ ⟨rfl, hx⟩
          rw [List.length_map] at hj
          have hx2 : ns[j]? = some ns[j] := List.getElem?_eq_getElem hj
          rw [List.getElem?_map, hx2] at hx
          obtain rfl : V.int ns[j] = x := Option.some.inj hx
          have mj : ns[j] ∈ ns := List.getElem_mem hj
          generalize ns[j] = y at hx2 mj
          have ft := filter_take' (f := badF ps s row) hx2
          refine ⟨rfl, ?_⟩
          refine ⟨_, rfl, _, rfl, rfl, _, rfl, ifNeI (fun ne => ?_) (fun eq => ?_)⟩
          · have g := DGet.k (k := Sum.inl y) (s2 _ _ hcX)
            rw [hk_val mj] at g
            refine ⟨_, rfl, _, rfl, dd, _, rfl, g, ?_⟩
            refine ⟨_, rfl, d2, rfl, .inl ⟨_, .inl (s2 _ _ hdX)⟩, _, rfl, _, rfl, _, DGet.k (k := Sum.inl y) (s2 _ _ hdX), ?_⟩
            rw [told_val]
            refine ⟨rfl, _, rfl, ifNeI (fun ne2 => ?_) (fun eq => ?_)⟩
            · refine ⟨_, rfl, _, hb, ?_, ?_, ?_⟩
              · rw [List.length_map]
                have := List.length_filter_le (badF ps s row) (ns.take j)
                rw [List.length_take] at this
                exact small1000' (by omega)
              · intro b' o e
                rw [upd_ne (ne_of_none e hD3)]
                exact s2 _ _ e
              · have eb : badF ps s row y = true := by simp [badF, ne, ne2]
                rw [upd_same, ft, if_pos eb, List.map_append]
                rfl
            · refine ⟨s2, ?_⟩
              have eb : badF ps s row y = false := by simp [badF, eq]
              rw [hb, ft, if_neg (by rw [eb]; decide), List.append_nil]
          · refine iteF ⟨s2, ?_⟩
            have eb : badF ps s row y = false := by simp [badF, eq]
            rw [hb, ft, if_neg (by rw [eb]; decide), List.append_nil]
        · rintro H2 ⟨s2, hb⟩
          rw [List.length_map, List.take_length] at hb
          refine ⟨Nat.zero_le _, fun e ne => ?_⟩
          have s3 := same_new (o := .lst []) ne
          have hl : (ns.filter (badF ps s row)).length < 1000 := by
            have := List.length_filter_le (badF ps s row) ns
            omega
          have ok := okd_ints hl
          refine ⟨.list ((ns.filter (badF ps s row)).map PyData.int), .list [], DT.dp (good_plain _ ok.good) (.lst (s3 _ _ hb) (dts_ints _)), .lst (SqL.of upd_same) .nil, ok.shaped, rfl, ?_⟩
          rw [eqv_nil]
          have e0 : ((ns.filter (badF ps s row)).map PyData.int).isEmpty = doneB ps s row := by
            rw [← due_done S.inp R memb]
            cases ns.filter (badF ps s row) <;> rfl
          rw [e0]
          exact q1 _ ((sX.trans s2).trans s3)
end
end Cb
set_option Elab.async false
set_option linter.all false
set_option maxRecDepth 100000
set_option maxHeartbeats 4000000
namespace Cb
open PySem PySem.Spec PyProof.Rows L2
abbrev s_l_hash : Stmt := topS 17
theorem sc_l_hash : FnScope ["_law_seed", "_law_index", "_law_mixed"] ["_law_seed", "_law_index"] (defScope s_l_hash) := ⟨rfl, rfl, rfl, by decide +kernel, rfl, by decide +kernel, by decide +kernel⟩
abbrev s_l_random : Stmt := topS 18
theorem sc_l_random : FnScope ["_law_generator_here", "_law_bound", "_law_drawn", "_law_turn"] ["_law_generator_here", "_law_bound"] (defScope s_l_random) := ⟨rfl, rfl, rfl, by decide +kernel, rfl, by decide +kernel, by decide +kernel⟩
abbrev s_l_cell : Stmt := topS 19
theorem sc_l_cell : FnScope ["_law_script", "_law_index"] ["_law_script", "_law_index"] (defScope s_l_cell) := ⟨rfl, rfl, rfl, by decide +kernel, rfl, by decide +kernel, by decide +kernel⟩
abbrev s_l_generator : Stmt := topS 20
theorem sc_l_generator : FnScope ["_law_script", "_law_index", "_law_seed"] ["_law_script", "_law_index"] (defScope s_l_generator) := ⟨rfl, rfl, rfl, by decide +kernel, rfl, by decide +kernel, by decide +kernel⟩
structure TGen (K : PySem.W.Frag) (mg : Str → Option Value) : Prop where
  d_l_hash : Has K mg "_law_hash" s_l_hash ["_law_seed", "_law_index"]
  d_l_random : Has K mg "_law_random" s_l_random ["_law_generator_here", "_law_bound"]
  d_l_cell : Has K mg "_law_cell" s_l_cell ["_law_script", "_law_index"]
  d_l_generator : Has K mg "_law_generator" s_l_generator ["_law_script", "_law_index"]
  b_int : mg "int" = none
  b_range : mg "range" = none
  b_len : mg "len" = none
  b_sum : mg "sum" = none
  b_max : mg "max" = none
/-- a generator: three numbers -/
def gen (a s t : Int) : HO := .lst [.int a, .int s, .int t]
local macro_rules | `(tactic| walk_at "rd1") => `(tactic| first
  | with_reducible_and_instances refine ⟨_, rfl, ?_⟩
  | refine ⟨_, rfl, ?_⟩
  | refine ⟨_, _, rfl, rfl, ?_⟩
  | refine .inl ⟨_, rfl, ?_⟩
  | (refine ⟨by first | decide | omega | exact .inl (by decide) | exact .inr (by decide) | exact .inl (by omega) | exact .inr (by omega) | exact ⟨by decide, by decide⟩, ?_⟩))
local macro_rules | `(tactic| walk_at "rd") => `(tactic| repeat walk_at "rd1")
section
variable {P : Program} {w : World} {K : PySem.W.Frag} {mg : Str → Option Value} {base : Heap}
def sp_l_hash : Sp := fun vs H Q _ => ∃ s i : Int, vs = [.int s, .int i] ∧ 0 ≤ i ∧ i < 2 ^ 63 ∧ ∀ r : Int, Q (.int r) H
theorem mod_in {m b : Int} (h : 0 < b) : 0 ≤ m % b ∧ m % b < b := ⟨Int.emod_nonneg _ (by omega), Int.emod_lt_of_pos _ h⟩
theorem cut_first (ns : List Int) : cutV (ns.map V.int) none (some 1) = (ns.take 1).map V.int := by
  unfold cutV
  rw [show HT.sIx (ns.map V.int).length 0 none = 0 from HT.sIx_none _ _, show HT.sIx (ns.map V.int).length (ns.map V.int).length (some 1) = min 1 (ns.map V.int).length from HT.sIx_nat _ _ 1]
  cases ns with
  | nil => rfl
  | cons x r => simp
theorem c_l_hash (T : TGen K mg) : Says P w K mg base 1 "_law_hash" ["_law_seed", "_law_index"] sp_l_hash := by
  refine says T.d_l_hash sc_l_hash (fun vs H Q E h => ?_) (fun f cdv A outer s H vs Q E hr h => ?_)
  · obtain ⟨_, _, rfl, _⟩ := h; rfl
  · refine ⟨_, (pss_cons (ps_set (i := 2) sc_l_hash.nd rfl (.inl rfl) (pe_op op_mod (pe_callTy call_int1 (by rfl) T.b_int (by decide +kernel) (pa_cons (pe_op op_add (pe_op op_add (pe_op op_add (pe_op op_mul (pv 0) pe_int) (pe_op op_mul (pe_op op_mul pe_int (pv 1)) (pv 1))) (pe_op op_mul pe_int (pv 1))) pe_int) pa_nil)) pe_int))
      (pss_cons (ps_set (i := 2) sc_l_hash.nd rfl (.inl rfl) (pe_op op_mod (pe_callTy call_int1 (by rfl) T.b_int (by decide +kernel) (pa_cons (pe_op op_add (pe_op op_add (pe_op op_mul (pv 2) (pv 2)) (pe_op op_mul pe_int (pv 1))) pe_int) pa_nil)) pe_int))
      (pss_one (ps_ret (pe_op op_mod (pe_callTy call_int1 (by rfl) T.b_int (by decide +kernel) (pa_cons (pe_op op_mul (pv 2) pe_int) pa_nil)) pe_int))))), ?_⟩
    obtain ⟨s, i, rfl, h0, h1, q⟩ := h
    walk_at "rd"
    have hm := @mod_in (s * 1140671 + 27644437 * i * i + 131 * i + 19) 2147483629 (by decide)
    generalize (s * 1140671 + 27644437 * i * i + 131 * i + 19) % 2147483629 = m at hm ⊢
    walk_at "rd"
    exact q _

/-- a draw: some number below the bound; the generator goes on -/
@[irreducible] def sp_l_random : Sp := fun vs H Q _ => ∃ (p : Addr) (a s t b : Int), vs = [.ref p, .int b] ∧ H p = some (gen a s t) ∧ 0 < b ∧ b.natAbs < 2 ^ 210 ∧ 0 ≤ t ∧ t < 2 ^ 62 ∧
  ∀ r a' t' : Int, 0 ≤ r → r < b → t ≤ t' → t' ≤ t + 8 → Q (.int r) (upd H p (gen a' s t'))
theorem c_l_random (T : TGen K mg) : Says P w K mg base 2 "_law_random" ["_law_generator_here", "_law_bound"] sp_l_random := by
  refine says T.d_l_random sc_l_random (fun vs H Q E h => ?_) (fun f cdv A outer s H vs Q E hr h => ?_) <;> unfold sp_l_random at h
  · obtain ⟨_, _, _, _, _, rfl, _⟩ := h; rfl
  · refine ⟨_, (pss_cons (ps_if (pt_cmpR op_gt (pe_ix ix_list (pv 0) pe_int (fun _ _ => rfl)) pe_int (nomark _))
        (pss_cons (ps_set (i := 2) sc_l_random.nd rfl (.inl rfl) (pe_op op_mod (pe_callTy call_int1 (by rfl) T.b_int (by decide +kernel) (pa_cons (pe_ix ix_list (pv 0) pe_int (fun _ _ => rfl)) pa_nil)) (pv 1)))
        (pss_cons (ps_asg (pe_op op_fdivA (pe_ix ix_list (pv 0) pe_int (fun _ _ => rfl)) (pv 1)) (pg_sub (pv 0) pe_int set_list))
        (pss_one (ps_ret (pv 2)))))
        pss_nil)
      (pss_cons (ps_set (i := 2) sc_l_random.nd rfl (.inl rfl) pe_int)
      (pss_cons (ps_for PassesOwn.never rfl (pi_range1 (by rfl) T.b_range (pa_cons (pe_op op_add pe_int (pe_op op_fdiv (pe_bits (pv 1)) pe_int)) pa_nil)) (pg_name (i := 3) sc_l_random.nd rfl (.inl rfl))
        (pss_cons (ps_asg (pe_op op_add (pe_ix ix_list (pv 0) pe_int (fun _ _ => rfl)) pe_int) (pg_sub (pv 0) pe_int set_list))
        (pss_one (ps_set (i := 2) sc_l_random.nd rfl (.inl rfl) (pe_op op_add (pe_op op_mul (pv 2) pe_int) (pe_s (c_l_hash T) hr (pa_cons (pe_ix ix_list (pv 0) pe_int (fun _ _ => rfl)) (pa_cons (pe_ix ix_list (pv 0) pe_int (fun _ _ => rfl)) pa_nil))))))))
      (pss_one (ps_ret (pe_op op_mod (pe_callTy call_int1 (by rfl) T.b_int (by decide +kernel) (pa_cons (pv 2) pa_nil)) (pv 1))))))), ?_⟩
    obtain ⟨p, a, s, t, b, rfl, hp, b0, b1, t0, t1, q⟩ := h
    have bl : Builtin.Int.intBits b ≤ 210 := PyProof.Rows.intBits_le b1
    refine ⟨_, rfl, _, _, _, _, rfl, rfl, SqL.of hp, rfl, _, _, rfl, rfl, _, rfl, ite2 (fun _ => ?_) (fun _ => ?_)⟩
    · refine ⟨_, rfl, _, _, _, _, rfl, rfl, SqL.of hp, rfl, .inl ⟨_, rfl, ?_⟩⟩
      refine ⟨_, rfl, _, _, rfl, rfl, b0, ?_⟩
      refine ⟨_, rfl, _, _, _, _, rfl, rfl, SqL.of hp, rfl, _, rfl, _, _, rfl, rfl, ⟨by omega, Nat.lt_of_lt_of_le (PySem.Flt.log2_lt_of (by decide) b1) (by decide)⟩, ?_⟩
      refine ⟨_, rfl, _, _, _, _, rfl, rfl, hp, rfl, ?_⟩
      refine ⟨_, rfl, ?_⟩
      exact q _ _ t (mod_in b0).1 (mod_in b0).2 (by omega) (by omega)
    · refine ⟨_, rfl, _, rfl, _, _, rfl, rfl, ⟨by decide, by decide⟩, _, _, rfl, rfl, _, rfl, ?_, ?_, ?_⟩
      · show -(2 ^ 62) ≤ 1 + ((Builtin.Int.intBits b : Nat) : Int) / 30
        omega
      · show 1 + ((Builtin.Int.intBits b : Nat) : Int) / 30 < 2 ^ 62
        omega
      · refine for_range (lo := 0) (fun i σ H' => ∃ (d t' : Int) (v : Option V), σ = [some (.ref p), some (.int b), some (.int d), v] ∧ t' = t + i ∧ H' = upd H p (gen a s t')) ⟨0, t, none, rfl, by omega, (upd_self hp).symm⟩ ?_ ?_
        · rintro i σ H' hi ⟨d, t', v, rfl, rfl, rfl⟩
          have hi8 : i < (1 + ((Builtin.Int.intBits b : Nat) : Int) / 30).toNat := hi
          refine ⟨_, rfl, _, _, _, _, rfl, rfl, SqL.of upd_same, rfl, _, _, rfl, rfl, ?_⟩
          refine ⟨_, rfl, _, _, _, _, rfl, rfl, upd_same, rfl, ?_⟩
          rw [upd_upd]
          refine ⟨_, rfl, _, _, rfl, rfl, .inr (by decide), ?_⟩
          refine ⟨_, rfl, _, _, _, _, rfl, rfl, SqL.of upd_same, rfl, _, rfl, _, _, _, _, rfl, rfl, SqL.of upd_same, rfl, ?_⟩
          refine ⟨_, _, rfl, by omega, by omega, fun r => ?_⟩
          refine ⟨_, _, rfl, rfl, ?_⟩
          exact ⟨_, t + i + 1, _, rfl, by omega, rfl⟩
        · rintro σ H' ⟨d, t', v, rfl, rfl, rfl⟩
          refine ⟨_, rfl, .inl ⟨_, rfl, ?_⟩⟩
          refine ⟨_, rfl, _, _, rfl, rfl, b0, ?_⟩
          have hn : ((1 + ((Builtin.Int.intBits b : Nat) : Int) / 30).toNat : Int) ≤ 8 := by omega
          exact q _ a _ (mod_in b0).1 (mod_in b0).2 (Int.le_add_of_nonneg_right (Int.natCast_nonneg _)) (Int.add_le_add_left hn t)
def sp_l_cell (K : PySem.W.Frag) : Sp := fun vs H Q _ => ∃ (p : Addr) (ns : List Int) (i : Int), vs = [.ref p, .int i] ∧ SqL K H p (ns.map V.int) ∧ 0 ≤ i ∧ ∀ (r : Int) (H' : Hp), Same H H' → Q (.int r) H'
theorem c_l_cell (T : TGen K mg) : Says P w K mg base 1 "_law_cell" ["_law_script", "_law_index"] (sp_l_cell K) := by
  refine says T.d_l_cell sc_l_cell (fun vs H Q E h => ?_) (fun f cdv A outer s H vs Q E hr h => ?_)
  · obtain ⟨_, _, _, rfl, _⟩ := h; rfl
  · refine ⟨_, (pss_cons (ps_if (pt_cmpR op_lt (pv 1) (pe_callB call_len_seq (by rfl) T.b_len (by decide +kernel) (pa_cons (pv 0) pa_nil)) (nomark _))
        (pss_one (ps_ret (pe_ix ix_list (pv 0) (pv 1) (fun _ _ => rfl))))
        pss_nil)
      (pss_one (ps_ret (pe_op op_mod (pe_callB (cr_sum rfl) (by rfl) T.b_sum (by decide +kernel) (pa_cons (pe_slice sl_list (pv 0) po_none (po_some pe_int)) pa_nil)) pe_int)))), ?_⟩
    obtain ⟨p, ns, i, rfl, hp, i0, q⟩ := h
    refine ⟨_, rfl, _, rfl, _, _, rfl, .inl hp, _, _, rfl, rfl, _, rfl, ite2 (fun lt => ?_) (fun _ => ?_)⟩
    · have lt2 : i < ((ns.map V.int).length : Int) := of_decide_eq_true lt
      rw [List.length_map] at lt2
      have e : atI (ns.map V.int) i = some (.int (ns[i.toNat]'(by omega))) := by
        have z := atI_nat (xs := ns.map V.int) (j := i.toNat) (v := .int (ns[i.toNat]'(by omega))) (by rw [List.getElem?_map, List.getElem?_eq_getElem (by omega)]; rfl)
        rwa [Int.toNat_of_nonneg i0] at z
      refine ⟨_, rfl, _, rfl, _, _, _, _, rfl, rfl, hp, e, ?_⟩
      exact q _ _ (Same.refl _)
    · refine ⟨_, rfl, 1, rfl, _, _, rfl, hp, fun l hl => ?_⟩
      refine ⟨_, (ns.take 1), rfl, ?_, ?_⟩
      · rw [← cut_first]
        exact SqL.of upd_same
      · refine ⟨_, _, rfl, rfl, (show (0 : Int) < 1000003 by decide), ?_⟩
        exact q _ _ (same_new hl)
/-- a new generator -/
def sp_l_generator (K : PySem.W.Frag) : Sp := fun vs H Q _ => ∃ (p : Addr) (ns : List Int) (i : Int), vs = [.ref p, .int i] ∧ SqL K H p (ns.map V.int) ∧ 0 ≤ i ∧ i < 1000 ∧
  ∀ (g : Addr) (a s : Int) (H' : Hp), H g = none → Same H H' → H' g = some (gen a s (1000 * i)) → Q (.ref g) H'
theorem c_l_generator (T : TGen K mg) : Says P w K mg base 2 "_law_generator" ["_law_script", "_law_index"] (sp_l_generator K) := by
  refine says T.d_l_generator sc_l_generator (fun vs H Q E h => ?_) (fun f cdv A outer s H vs Q E hr h => ?_)
  · obtain ⟨_, _, _, rfl, _⟩ := h; rfl
  · refine ⟨_, (pss_cons (ps_set (i := 2) sc_l_generator.nd rfl (.inl rfl) (pe_s (c_l_cell T) hr (pa_cons (pv 0) (pa_cons (pv 1) pa_nil))))
      (pss_one (ps_ret (pe_lst (pa_cons (pe_op op_mod (pe_callTy call_int1 (by rfl) T.b_int (by decide +kernel) (pa_cons (pe_callB (call_max2 rfl) (by rfl) T.b_max (by decide +kernel) (pa_cons (pe_op op_sub (pv 2) (pe_op op_powA pe_int pe_int)) (pa_cons pe_int pa_nil))) pa_nil)) (pe_op op_powA (pe_op op_powA pe_int pe_int) pe_int)) (pa_cons (pe_op op_mod (pe_callTy call_int1 (by rfl) T.b_int (by decide +kernel) (pa_cons (pv 2) pa_nil)) pe_int) (pa_cons (pe_op op_mul pe_int (pv 1)) pa_nil))))))), ?_⟩
    obtain ⟨p, ns, i, rfl, hp, i0, i1, q⟩ := h
    refine ⟨_, rfl, _, rfl, _, _, _, rfl, hp, i0, fun r H1 s1 => ?_⟩
    refine ⟨_, rfl, _, _, rfl, rfl, ⟨by decide, by decide +kernel⟩, _, _, rfl, rfl, ?_⟩
    refine ⟨_, _, rfl, .inl ⟨_, rfl, ?_⟩⟩
    refine ⟨_, _, rfl, rfl, ⟨by decide, by decide +kernel⟩, _, _, rfl, rfl, ⟨by decide, by decide +kernel⟩, ?_⟩
    refine ⟨_, _, rfl, rfl, (show (0 : Int) < ((10 ^ Int.toNat 60) ^ Int.toNat 10) by decide +kernel), ?_⟩
    refine ⟨_, rfl, .inl ⟨_, rfl, _, _, rfl, rfl, (show (0 : Int) < 2147483647 by decide), ?_⟩⟩
    refine ⟨_, rfl, _, _, rfl, rfl, .inl (by decide), ?_⟩
    refine ⟨(show 3 ≤ sizeLine by decide), fun g hg => ?_⟩
    exact q g _ _ _ (s1.free hg) (s1.trans (same_new hg)) upd_same
end
end Cb
set_option Elab.async false
set_option linter.all false
set_option maxRecDepth 100000
set_option maxHeartbeats 4000000
namespace Cb
open PySem PySem.Spec PyProof.Rows L2
abbrev s_l_shuffle : Stmt := topS 22
theorem sc_l_shuffle : FnScope ["_law_generator_here", "_law_left", "_law_found", "_law_turn"] ["_law_generator_here"] (defScope s_l_shuffle) := ⟨rfl, rfl, rfl, by decide +kernel, rfl, by decide +kernel, by decide +kernel⟩
/-! ### the generator goes on -/
def Gn (g : Addr) (s t0 : Int) (n : Nat) (H : Hp) : Prop := ∃ a t : Int, H g = some (gen a s t) ∧ t0 ≤ t ∧ t ≤ t0 + n
theorem Gn.mono {g : Addr} {s t0 : Int} {n m : Nat} {H : Hp} (G : Gn g s t0 n H) (h : n ≤ m) : Gn g s t0 m H := by
  obtain ⟨a, t, e, l1, l2⟩ := G
  exact ⟨a, t, e, l1, by omega⟩
theorem Gn.some {g : Addr} {s t0 : Int} {n : Nat} {H : Hp} (G : Gn g s t0 n H) {p : Addr} (h : H p = none) : p ≠ g := by
  obtain ⟨a, t, e, _⟩ := G
  exact (ne_of_none e h).symm
theorem Gn.new {g : Addr} {s t0 : Int} {n : Nat} {H : Hp} (G : Gn g s t0 n H) {p : Addr} {o : HO} (h : H p = none) : Gn g s t0 n (upd H p o) := by
  obtain ⟨a, t, e, l⟩ := G
  exact ⟨a, t, same_new h _ _ e, l⟩
theorem Gn.off {g : Addr} {s t0 : Int} {n : Nat} {H : Hp} (G : Gn g s t0 n H) {p : Addr} {o : HO} (h : g ≠ p) : Gn g s t0 n (upd H p o) := by
  obtain ⟨a, t, e, l⟩ := G
  exact ⟨a, t, (upd_ne h).trans e, l⟩
theorem Gn.same {g : Addr} {s t0 : Int} {n : Nat} {H H' : Hp} (G : Gn g s t0 n H) (k : Same H H') : Gn g s t0 n H' := by
  obtain ⟨a, t, e, l⟩ := G
  exact ⟨a, t, k _ _ e, l⟩
theorem draw {g : Addr} {s t0 : Int} {n : Nat} {H : Hp} {b : Int} {Q : VK} {E : XK} (G : Gn g s t0 n H) (h0 : 0 ≤ t0) (h1 : t0 + n < 2 ^ 62) (b0 : 0 < b) (b1 : b.natAbs < 2 ^ 210)
    (q : ∀ (r : Int) (H' : Hp), 0 ≤ r → r < b → Gn g s t0 (n + 8) H' → Keep [g] H H' → Q (.int r) H') : sp_l_random [.ref g, .int b] H Q E := by
  obtain ⟨a, t, e, l1, l2⟩ := G
  unfold sp_l_random
  refine ⟨g, a, s, t, b, rfl, e, b0, b1, by omega, by omega, fun r a' t' r0 r1 t2 t3 => ?_⟩
  exact q r _ r0 r1 ⟨a', t', upd_same, by omega, by omega⟩ (keep_upd (by simp))
theorem erase_map {α β : Type} (f : α → β) : ∀ (l : List α) (j : Nat), (l.map f).eraseIdx j = (l.eraseIdx j).map f
  | [], j => by simp
  | a :: r, 0 => by simp
  | a :: r, j + 1 => by simp [erase_map f r j]
theorem erase_out {α : Type} : ∀ {l : List α} {k : Nat} {y : α}, l.Nodup → l[k]? = some y → y ∉ l.eraseIdx k
  | [], k, y, _, h => by simp at h
  | a :: r, 0, y, n, h => by
    obtain rfl : a = y := by simpa using h
    exact (List.nodup_cons.mp n).1
  | a :: r, k + 1, y, n, h => by
    have n2 := List.nodup_cons.mp n
    have h2 : r[k]? = some y := by simpa using h
    rw [List.eraseIdx_cons_succ, List.mem_cons, not_or]
    exact ⟨fun e => n2.1 (e ▸ List.mem_of_getElem? h2), erase_out n2.2 h2⟩
structure TShu (K : PySem.W.Frag) (mg : Str → Option Value) : Prop where
  tg : TGen K mg
  d_l_shuffle : Has K mg "_law_shuffle" s_l_shuffle ["_law_generator_here"]
def Low (q : Pr) : Prop := (0 ≤ q.1 ∧ q.1 < 6) ∧ 0 ≤ q.2 ∧ q.2 < 6
section
variable {P : Program} {w : World} {K : PySem.W.Frag} {mg : Str → Option Value} {base : Heap}
def sp_l_shuffle : Sp := fun vs H Q _ => ∃ (g : Addr) (s t0 : Int) (n : Nat), vs = [.ref g] ∧ Gn g s t0 n H ∧ 0 ≤ t0 ∧ t0 + (n + 200 : Nat) < 2 ^ 62 ∧
  ∀ (p : Addr) (ps : List Pr) (H' : Hp), p ≠ g → DT (hid [g] H') (.ref p) (.list (ps.map pairD)) → (∀ q ∈ ps, Low q) → (ps.map (·.1)).Nodup → ps.length ≤ 6 → Gn g s t0 (n + 200) H' → Keep [g] H H' → Q (.ref p) H'
theorem c_l_shuffle (T : TShu K mg) : Says P w K mg base 3 "_law_shuffle" ["_law_generator_here"] sp_l_shuffle := by
  refine says T.d_l_shuffle sc_l_shuffle (fun vs H Q E h => ?_) (fun f cdv A outer st H vs Q E hr h => ?_)
  · obtain ⟨_, _, _, _, rfl, _⟩ := h; rfl
  refine ⟨_, (pss_cons (ps_par (i := 1) (j := 2) rfl sc_l_shuffle.nd rfl rfl (by decide) rfl rfl (pa_cons (pe_lst (pa_cons pe_int (pa_cons pe_int (pa_cons pe_int (pa_cons pe_int (pa_cons pe_int (pa_cons pe_int pa_nil))))))) (pa_cons (pe_lst pa_nil) pa_nil)) rfl)
    (pss_cons (ps_for PassesOwn.never rfl (pi_range1 (by rfl) T.tg.b_range (pa_cons (pe_s (c_l_random T.tg) hr (pa_cons (pv 0) (pa_cons pe_int pa_nil))) pa_nil)) (pg_name (i := 3) sc_l_shuffle.nd rfl (.inl rfl))
        (pss_one (ps_expr (pe_bm PySem.F.plainAttrs_list PySem.F.slot_list_append PySem.F.type_list_append mt_append (pv 2) (pa_cons (pe_tup (pa_cons (pe_bm PySem.F.plainAttrs_list PySem.F.slot_list_pop PySem.F.type_list_pop mt_popAt (pv 1) (pa_cons (pe_s (c_l_random T.tg) hr (pa_cons (pv 0) (pa_cons (pe_callB call_len_seq (by rfl) T.tg.b_len (by decide +kernel) (pa_cons (pv 1) pa_nil)) pa_nil))) pa_nil)) (pa_cons (pe_s (c_l_random T.tg) hr (pa_cons (pv 0) (pa_cons pe_int pa_nil))) pa_nil))) pa_nil)))))
    (pss_one (ps_ret (pv 2))))), ?_⟩
  obtain ⟨g, s0, t0, n, rfl, G, h0, h1, q⟩ := h
  refine ⟨(show 6 ≤ sizeLine by decide), fun L nL => ⟨(show 0 ≤ sizeLine by decide), fun D nD => ⟨_, _, rfl, ?_⟩⟩⟩
  have nLg : L ≠ g := G.some nL
  have nDg : D ≠ g := (G.new nL).some nD
  have nLD : L ≠ D := ne_of_none upd_same nD
  have s0' := (same_new (o := .lst [.int 0, .int 1, .int 2, .int 3, .int 4, .int 5]) nL).trans (same_new (o := .lst []) nD)
  have hL0 : (upd (upd H L (.lst [.int 0, .int 1, .int 2, .int 3, .int 4, .int 5])) D (.lst [])) L = some (.lst (([0, 1, 2, 3, 4, 5] : List Int).map V.int)) := same_new nD _ _ upd_same
  have hD0 : (upd (upd H L (.lst [.int 0, .int 1, .int 2, .int 3, .int 4, .int 5])) D (.lst [])) D = some (.lst []) := upd_same
  have nD' : H D = none := (same_new (o := .lst [.int 0, .int 1, .int 2, .int 3, .int 4, .int 5]) nL).free nD
  have G1 := G.same s0'
  generalize upd (upd H L (.lst [.int 0, .int 1, .int 2, .int 3, .int 4, .int 5])) D (.lst []) = H1 at s0' hL0 hD0 G1 ⊢
  clear nD
  refine ⟨_, rfl, draw G1 h0 (by omega) (by decide) (by decide) fun r H2 r0 r1 G2 k2 => ?_⟩
  have K2 : Keep [g] H H2 := (same_keep s0').trans k2
  refine ⟨r, rfl, by omega, by omega, for_range (n := r.toNat) (fun i σ H' => (∃ x3 : Option V, σ = [some (.ref g), some (.ref L), some (.ref D), x3]) ∧ Keep [g] H H' ∧ Gn g s0 t0 (n + 8 + 24 * i) H' ∧ ∃ (ns : List Int) (acc : List V) (ps : List Pr), H' L = some (.lst (ns.map V.int)) ∧ ns.length + i = 6 ∧ ns.Nodup ∧ (∀ x ∈ ns, 0 ≤ x ∧ x < 6) ∧
      H' D = some (.lst acc) ∧ DTs (hid [g, L, D] H') acc (ps.map pairD) ∧ ps.length = i ∧ (∀ q ∈ ps, Low q) ∧ (ps.map (·.1)).Nodup ∧ ∀ q ∈ ps, q.1 ∉ ns)
    ⟨⟨_, rfl⟩, K2, G2, [0, 1, 2, 3, 4, 5], [], [], k2 _ _ (nin1 nLg) hL0, rfl, by decide, by decide, k2 _ _ (nin1 nDg) hD0, .nil, rfl, fun q hq => (by cases hq), List.nodup_nil, fun q hq => (by cases hq)⟩ ?_ ?_⟩
  · rintro i σ H3 hi ⟨⟨x3, rfl⟩, k3, G3, ns, acc, ps, hL, ln, nd, inn, hD, da, lp, low, ndp, out⟩
    have hi6 : i < 6 := by omega
    refine ⟨_, rfl, .inl ⟨rfl, _, SqL.of hD⟩, _, rfl, .inl ⟨rfl, _, SqL.of hL⟩, _, rfl, _, rfl, L, _, rfl, .inl (SqL.of hL), ?_⟩
    have el : (((ns.map V.int).length : Nat) : Int) = (ns.length : Int) := by rw [List.length_map]
    refine draw G3 h0 (by omega) (by omega) (Nat.lt_of_lt_of_le (show ((((ns.map V.int).length : Nat) : Int)).natAbs < 2 ^ 11 by omega) (Nat.pow_le_pow_right (by decide) (by decide))) fun at_ H4 at0 at1 G4 k4 => ?_
    obtain ⟨k, rfl⟩ : ∃ k : Nat, at_ = (k : Int) := ⟨at_.toNat, (Int.toNat_of_nonneg at0).symm⟩
    have lk : k < ns.length := by omega
    have hk : ns[k]? = some ns[k] := List.getElem?_eq_getElem lk
    have hkm : ns[k] ∈ ns := List.getElem_mem lk
    generalize ns[k] = y at hk hkm
    have hL4 := k4 _ _ (nin1 nLg) hL
    have sq : seqIndex? (k : Int) (ns.map V.int).length = some k := (ixN_seq (by
      unfold ixN
      rw [if_pos (Int.natCast_nonneg _), if_pos (by omega)]
      rfl)).1
    refine ⟨L, _, (k : Int), k, .int y, rfl, rfl, hL4, by omega, by omega, sq, by rw [List.getElem?_map, hk]; rfl, ?_⟩
    have G5 : Gn g s0 t0 (n + 8 + 24 * i + 8) (upd H4 L (.lst ((ns.map V.int).eraseIdx k))) := G4.off (Ne.symm nLg)
    refine ⟨_, rfl, draw G5 h0 (by omega) (by decide) (by decide) fun z H6 z0 z1 G6 k6 => ?_⟩
    refine ⟨(show 2 ≤ sizeLine by decide), fun t nt => ?_⟩
    have ntg : t ≠ g := G6.some nt
    have hD6 := k6 _ _ (nin1 nDg) ((upd_ne (Ne.symm nLD)).trans (k4 _ _ (nin1 nDg) hD))
    have hL6 := k6 _ _ (nin1 nLg) upd_same
    have ntD : t ≠ D := (ne_of_none hD6 nt).symm
    have ntL : t ≠ L := (ne_of_none hL6 nt).symm
    have lac := da.length
    rw [List.length_map] at lac
    refine ⟨D, acc, _, rfl, rfl, same_new nt _ _ hD6, small1000' (by omega), ⟨_, rfl⟩, ?_, ?_, ns.eraseIdx k, acc ++ [.ref t], ps ++ [(y, z)], ?_, ?_, ?_, ?_, upd_same, ?_, ?_, ?_, ?_, ?_⟩
    · intro b o nb e
      rw [upd_ne (ne_of_none e nD')]
      refine same_new nt _ _ (k6 _ _ nb ?_)
      rw [upd_ne (ne_of_none e nL)]
      exact k4 _ _ nb (k3 _ _ nb e)
    · exact ((G6.new nt).off (Ne.symm nDg)).mono (by omega)
    · rw [upd_ne nLD, same_new nt _ _ hL6, erase_map]
    · rw [List.length_eraseIdx, if_pos lk]
      omega
    · exact nd.sublist (List.eraseIdx_sublist ns k)
    · exact fun x hx => inn x (List.mem_of_mem_eraseIdx hx)
    · rw [List.map_append]
      have kk : Keep [g, L, D] H3 (upd (upd H6 t (.tup [.int y, .int z])) D (.lst (acc ++ [.ref t]))) := by
        intro b o nb e
        have n1 : b ≠ g := fun e => nb (by simp [e])
        have n2 : b ≠ L := fun e => nb (by simp [e])
        have n3 : b ≠ D := fun e => nb (by simp [e])
        rw [upd_ne n3]
        refine same_new nt _ _ (k6 _ _ (nin1 n1) ?_)
        rw [upd_ne n2]
        exact k4 _ _ (nin1 n1) e
      refine DTs.snoc (da.same kk.hid _) (.tup (hid_at (by simp [ntg, ntL, ntD]) (by rw [upd_ne ntD]; exact upd_same)) (.cons (.int _) (.cons (.int _) .nil)))
    · rw [List.length_append, lp]
      rfl
    · intro q' hq'
      rcases List.mem_append.mp hq' with hq' | hq'
      · exact low _ hq'
      · rw [List.mem_singleton.mp hq']
        exact ⟨inn y hkm, z0, z1⟩
    · rw [List.map_append, List.nodup_append]
      refine ⟨ndp, by simp, ?_⟩
      rintro a ha b hb rfl
      obtain ⟨q', hq', rfl⟩ := List.mem_map.mp ha
      have hb2 : q'.1 = y := by simpa using hb
      exact out q' hq' (hb2 ▸ hkm)
    · intro q' hq' hm
      rcases List.mem_append.mp hq' with hq' | hq'
      · exact out q' hq' (List.mem_of_mem_eraseIdx hm)
      · rw [List.mem_singleton.mp hq'] at hm
        exact erase_out nd hk hm
  · rintro σ H3 ⟨⟨x3, rfl⟩, k3, G3, ns, acc, ps, hL, ln, nd, inn, hD, da, lp, low, ndp, out⟩
    refine ⟨_, rfl, ?_⟩
    refine q D ps H3 nDg (.lst (hid_at (nin1 nDg) hD) (da.same (hid_mono (by simp)) _)) low ndp (by omega) (G3.mono (by omega)) k3
end
end Cb
set_option Elab.async false
set_option linter.all false
set_option maxRecDepth 100000
set_option maxHeartbeats 4000000
namespace Cb
open PySem PySem.Spec PyProof.Rows L2
/-! ### the row of the rule: `_law_rule` -/
def freeB (lf : List Pr) (p : Pr) : Bool := !decide (p.1 ∈ lf.map (·.2))
def substP (one other : Int) (q : Pr) : Pr := (q.1, if q.2 = other then one else q.2)
def nextL (lf : List Pr) (one other : Int) (fe : Bool) : List Pr := (lf.filter fun q => fe || !decide (q.1 = one)).map (substP one other)
structure Lf (s : Int) (lf row : List Pr) : Prop where
  inp : ∀ p ∈ lf, InP p
  ns : ∀ p ∈ lf, ¬ p.1 = s
  rin : ∀ p ∈ row, InP p
  cnt : row.length + 2 * lf.length + (if lf ≠ [] ∧ lf.filter (freeB lf) = [] then 1 else 0) ≤ 13
  fin : row.length ≤ 12
theorem next_in {s : Int} {lf : List Pr} {one other : Int} {fe : Bool} (h1 : ∀ p ∈ lf, InP p) (h2 : ∀ p ∈ lf, ¬ p.1 = s) (ho : 0 ≤ one ∧ one < 100) : (∀ p ∈ nextL lf one other fe, InP p) ∧ ∀ p ∈ nextL lf one other fe, ¬ p.1 = s := by
  have key : ∀ p ∈ nextL lf one other fe, ∃ q ∈ lf, p = substP one other q := fun p hp => by
    obtain ⟨q, hq, rfl⟩ := List.mem_map.mp hp
    exact ⟨q, (List.mem_filter.mp hq).1, rfl⟩
  refine ⟨fun p hp => ?_, fun p hp => ?_⟩
  · obtain ⟨q, hq, rfl⟩ := key p hp
    have := h1 q hq
    refine ⟨this.1, ?_⟩
    unfold substP
    show 0 ≤ (if q.2 = other then one else q.2) ∧ (if q.2 = other then one else q.2) < 100
    split
    · exact ho
    · exact this.2
  · obtain ⟨q, hq, rfl⟩ := key p hp
    exact h2 q hq
theorem rin_add {row : List Pr} {p : Pr} (h : ∀ p ∈ row, InP p) (hp : InP p) : ∀ q ∈ row ++ [p], InP q := fun q hq => by
  rcases List.mem_append.mp hq with hq | hq
  · exact h q hq
  · rw [List.mem_singleton.mp hq]
    exact hp
theorem ifle (P : Prop) [Decidable P] : (if P then 1 else 0) ≤ 1 := by split <;> omega
theorem Lf.one {s : Int} {lf row r : List Pr} {p : Pr} (h : Lf s lf row) (e : lf.filter (freeB lf) = p :: r) : Lf s (nextL lf p.1 p.2 false) (row ++ [p]) := by
  have pm : p ∈ lf := (List.mem_filter.mp (by rw [e]; exact List.mem_cons_self ..)).1
  have ip := h.inp p pm
  obtain ⟨n1, n2⟩ := next_in (other := p.2) (fe := false) h.inp h.ns ip.1
  have c := h.cnt
  rw [if_neg (by rw [e]; simp)] at c
  have l0 : 0 < lf.length := List.length_pos_of_mem pm
  have lt : (nextL lf p.1 p.2 false).length < lf.length := by
    unfold nextL
    rw [List.length_map]
    refine List.length_filter_lt_length_iff_exists.mpr ⟨p, pm, ?_⟩
    simp
  have i1 := ifle (nextL lf p.1 p.2 false ≠ [] ∧ (nextL lf p.1 p.2 false).filter (freeB (nextL lf p.1 p.2 false)) = [])
  refine ⟨n1, n2, rin_add h.rin ip, ?_, ?_⟩
  · rw [List.length_append, List.length_singleton]
    omega
  · rw [List.length_append, List.length_singleton]
    omega
theorem Lf.two {s : Int} {lf row t : List Pr} {p : Pr} (h : Lf s lf row) (hs : 0 ≤ s ∧ s < 100) (e : lf.filter (freeB lf) = []) (el : lf = p :: t) : Lf s (nextL lf s p.1 true) (row ++ [(s, p.1)]) := by
  have pm : p ∈ lf := by rw [el]; exact List.mem_cons_self ..
  have ip := h.inp p pm
  obtain ⟨n1, n2⟩ := next_in (other := p.1) (fe := true) h.inp h.ns hs
  have c := h.cnt
  rw [if_pos ⟨by rw [el]; simp, e⟩] at c
  have l0 : 0 < lf.length := List.length_pos_of_mem pm
  have eq : nextL lf s p.1 true = lf.map (substP s p.1) := by
    unfold nextL
    rw [List.filter_eq_self.mpr fun q _ => by simp]
  have ln : (nextL lf s p.1 true).length = lf.length := by rw [eq, List.length_map]
  have fr : (nextL lf s p.1 true).filter (freeB (nextL lf s p.1 true)) ≠ [] := by
    intro z
    have m : substP s p.1 p ∈ nextL lf s p.1 true := by
      rw [eq]
      exact List.mem_map.mpr ⟨p, pm, rfl⟩
    have := List.filter_eq_nil_iff.mp z _ m
    refine this ?_
    unfold freeB
    rw [Bool.not_eq_true', decide_eq_false_iff_not]
    intro hm
    obtain ⟨q, hq, e2⟩ := List.mem_map.mp hm
    rw [eq] at hq
    obtain ⟨q0, hq0, rfl⟩ := List.mem_map.mp hq
    have e3 : (if q0.2 = p.1 then s else q0.2) = p.1 := e2
    by_cases z2 : q0.2 = p.1
    · rw [if_pos z2] at e3
      exact h.ns p pm e3.symm
    · rw [if_neg z2] at e3
      exact z2 e3
  refine ⟨n1, n2, rin_add h.rin ⟨hs, ip.1⟩, ?_, ?_⟩
  · rw [if_neg (fun z => fr z.2), List.length_append, List.length_singleton]
    omega
  · rw [List.length_append, List.length_singleton]
    omega
def pickP (s : Int) (lf : List Pr) : Pr := match lf.filter (freeB lf) with
  | p :: _ => p
  | [] => (s, (lf.headD (0, 0)).1)
theorem Lf.pick {s : Int} {lf row : List Pr} (h : Lf s lf row) (hs : 0 ≤ s ∧ s < 100) (ne : lf ≠ []) : Lf s (nextL lf (pickP s lf).1 (pickP s lf).2 (lf.filter (freeB lf)).isEmpty) (row ++ [pickP s lf]) := by
  unfold pickP
  cases e : lf.filter (freeB lf) with
  | cons p r => exact h.one e
  | nil =>
    cases el : lf with
    | nil => exact absurd el ne
    | cons p t =>
      have := h.two hs e el
      rwa [el] at this
theorem inV_ints {a : Int} : ∀ {ns : List Int}, inV (.int a) (ns.map V.int) = decide (a ∈ ns)
  | [] => rfl
  | n :: ns => by
    have ih := inV_ints (a := a) (ns := ns)
    unfold inV at ih ⊢
    rw [List.map_cons, List.any_cons, ih]
    show ((n == a) || decide (a ∈ ns)) = decide (a ∈ n :: ns)
    by_cases e : n = a
    · subst e
      simp
    · simp [e, Ne.symm e]
theorem flat_ints : ∀ ns : List Int, (ns.map V.int).all flatV = true := fun ns => by
  rw [List.all_map, List.all_eq_true]
  exact fun _ _ => rfl
theorem okd_pairs {ps : List Pr} (h : ps.length < 1000) : OKd (.list (ps.map pairD)) := by
  refine ⟨?_, ?_⟩
  · simp only [Cb.good, List.length_map, h, decide_true, Bool.true_and]
    exact goods_of fun d hd => by
      obtain ⟨n, _, rfl⟩ := List.mem_map.mp hd
      rfl
  · have := depthAll_le (n := 1) (ds := ps.map pairD) fun d hd => by
      obtain ⟨n, _, rfl⟩ := List.mem_map.mp hd
      simp [pairD, PyData.depth, PyData.depthAll]
    simp only [PyData.depth]
    omega
theorem map_isEmpty {α β : Type} (f : α → β) (l : List α) : (l.map f).isEmpty = l.isEmpty := by cases l <;> rfl
/-- xs == [], xs != [] of a list of pairs -/
theorem cmp_nil {K : PySem.W.Frag} {H : Hp} {a e : Addr} {ps : List Pr} (d : DT H (.ref a) (.list (ps.map pairD))) (he : H e = some (.lst [])) (l : ps.length < 1000) :
    ∃ x y : PyData, Dp K H (.ref a) x ∧ Dp K H (.ref e) y ∧ SeqAt.shaped x = true ∧ SeqAt.shaped y = true ∧ PyData.eqv x y = ps.isEmpty := by
  have ok := okd_pairs l
  exact ⟨_, .list [], d.dp (good_plain _ ok.good), .lst (SqL.of he) .nil, ok.shaped, rfl, by rw [eqv_nil, map_isEmpty]⟩
def WRu (a D : Addr) (s : Int) (H : Hp) (m : Nat) (σ : L2.St) (H' : Hp) : Prop := ∃ (x4 x5 x6 x7 : Option V) (L : Addr) (lf row : List Pr), σ = [some (.ref a), some (.int s), some (.ref L), some (.ref D), x4, x5, x6, x7, none] ∧ m = 13 - row.length ∧ Lf s lf row ∧
  DT (hid [D] H') (.ref L) (.list (lf.map pairD)) ∧ (∃ racc, H' D = some (.lst racc) ∧ DTs (hid [D] H') racc (row.map pairD)) ∧ Same H H'
abbrev s_l_rule : Stmt := topS 23
abbrev NRu : List Str := ["_law_shuffle_here", "_law_spare", "_law_left", "_law_found", "_law_read", "_law_free", "_law_one", "_law_other", "_law_pair"]
theorem sc_l_rule : FnScope NRu ["_law_shuffle_here", "_law_spare"] (defScope s_l_rule) := ⟨rfl, rfl, rfl, by decide +kernel, rfl, by decide +kernel, by decide +kernel⟩
structure TRul (K : PySem.W.Frag) (mg : Str → Option Value) : Prop where
  d_l_rule : Has K mg "_law_rule" s_l_rule ["_law_shuffle_here", "_law_spare"]
section
variable {P : Program} {w : World} {K : PySem.W.Frag} {mg : Str → Option Value} {base : Heap}
def sp_l_rule : Sp := fun vs H Q _ => ∃ (u : V) (ps : List Pr) (s : Int), vs = [u, .int s] ∧ DT H u (.list (ps.map pairD)) ∧ Shuf ps ∧ Free ps s ∧ ps.length ≤ 6 ∧
  ∀ (p : Addr) (row : List Pr) (H' : Hp), H p = none → DT H' (.ref p) (.list (row.map pairD)) → (∀ q ∈ row, InP q) → row.length ≤ 12 → Same H H' → Q (.ref p) H'
theorem c_l_rule (T : TRul K mg) : Says P w K mg base 1 "_law_rule" ["_law_shuffle_here", "_law_spare"] sp_l_rule := by
  refine says T.d_l_rule sc_l_rule (fun vs H Q E h => ?_) (fun f cdv A outer st H vs Q E hr h => ?_)
  · obtain ⟨_, _, _, rfl, _⟩ := h; rfl
  refine ⟨_, (pss_cons (ps_par (i := 2) (j := 3) rfl sc_l_rule.nd rfl rfl (by decide) rfl rfl (pa_cons (pe_lc (own := [("_law_pair", 8)]) (g := gName 8) rfl sc_l_rule.nd (pi_list (pv 0)) (blkOk_by (N := NRu) (sc := defScope s_l_rule) (own := [("_law_pair", 8)]) (by decide +kernel)) (fun _ _ _ _ _ => pg_name (i := 8) sc_l_rule.nd rfl (Or.inl rfl)) (fun _ _ _ _ _ => pts_one (pt_cmpR op_ne (pe_ix (r := rIxT K) ix_tup (pv 8) pe_int (fun _ _ => rfl)) (pe_ix (r := rIxT K) ix_tup (pv 8) pe_int (fun _ _ => rfl)) (nomark _))) (fun _ _ _ _ _ => (pv 8))) (pa_cons (pe_lst pa_nil) pa_nil)) rfl)
    (pss_cons (ps_while PassesOwn.never (pt_cmpR (op_neD hr.units) (pv 2) (pe_lst pa_nil) (nomark _))
        (pss_cons (ps_set (i := 4) sc_l_rule.nd rfl (.inr rfl) (pe_lc (own := [("_law_pair", 8)]) (g := gName 8) (tt := tYes) rfl sc_l_rule.nd (pi_list (pv 2)) (blkOk_by (N := NRu) (sc := defScope s_l_rule) (own := [("_law_pair", 8)]) (by decide +kernel)) (fun _ _ _ _ _ => pg_name (i := 8) sc_l_rule.nd rfl (Or.inl rfl)) (fun _ _ _ _ _ => pts_nil) (fun _ _ _ _ _ => (pe_ix (r := rIxT K) ix_tup (pv 8) pe_int (fun _ _ => rfl)))))
        (pss_cons (ps_set (i := 5) sc_l_rule.nd rfl (.inr rfl) (pe_lc (own := [("_law_pair", 8)]) (g := gName 8) rfl sc_l_rule.nd (pi_list (pv 2)) (blkOk_by (N := NRu) (sc := defScope s_l_rule) (own := [("_law_pair", 8)]) (by decide +kernel)) (fun _ _ _ _ _ => pg_name (i := 8) sc_l_rule.nd rfl (Or.inl rfl)) (fun _ _ _ _ _ => pts_one (pt_cmpR (r := rIn K true) op_notIn_seq (pe_ix (r := rIxT K) ix_tup (pv 8) pe_int (fun _ _ => rfl)) (pv 4) (by rfl))) (fun _ _ _ _ _ => (pv 8))))
        (pss_cons (ps_asg (pe_ifExp (pt_cmpR (op_neD hr.units) (pv 5) (pe_lst pa_nil) (nomark _)) (pe_ix ix_list (pv 5) pe_int (fun _ _ => rfl)) (pe_tup (pa_cons (pv 1) (pa_cons (pe_ix ix_tup (pe_ix ix_list (pv 2) pe_int (fun _ _ => rfl)) pe_int (fun _ _ => rfl)) pa_nil)))) (pg_tup rfl (pgs_cons (pg_name (i := 6) sc_l_rule.nd rfl (.inr rfl)) (pgs_cons (pg_name (i := 7) sc_l_rule.nd rfl (.inr rfl)) pgs_nil))))
        (pss_cons (ps_expr (pe_bm PySem.F.plainAttrs_list PySem.F.slot_list_append PySem.F.type_list_append mt_append (pv 3) (pa_cons (pe_tup (pa_cons (pv 6) (pa_cons (pv 7) pa_nil))) pa_nil)))
        (pss_one (ps_setLc (i := 2) (own := [("_law_pair", 8)]) (g := gName 8) rfl sc_l_rule.nd rfl rfl (sw_true rfl rfl rfl (by decide +kernel)) (pi_list (pv 2)) (blkOk_by (N := NRu) (sc := defScope s_l_rule) (own := [("_law_pair", 8)]) (by decide +kernel)) (fun _ _ _ _ _ => pg_name (i := 8) sc_l_rule.nd rfl (Or.inl rfl)) (fun _ _ _ _ _ => pts_one (PW.pt (pw_or (pt_cmpR (r := rEqD K) (op_eqD hr.units) (pv 5) (pe_lst pa_nil) (nomark _)) (pw_or1 (pt_cmpR op_ne (pe_ix (r := rIxT K) ix_tup (pv 8) pe_int (fun _ _ => rfl)) (pv 6) (nomark _)))))) (fun _ _ _ _ _ => (pe_tup (pa_cons (pe_ix (r := rIxT K) ix_tup (pv 8) pe_int (fun _ _ => rfl)) (pa_cons (pe_ifExp (pt_cmpR op_eq (pe_ix (r := rIxT K) ix_tup (pv 8) pe_int (fun _ _ => rfl)) (pv 7) (nomark _)) (pv 6) (pe_ix (r := rIxT K) ix_tup (pv 8) pe_int (fun _ _ => rfl))) pa_nil)))))))))))
    (pss_one (ps_ret (pv 3))))), ?_⟩
  obtain ⟨u, ps, s, rfl, hu, S, F, l6, q⟩ := h
  cases hu with
  | @lst a xs _ ea ra =>
  have lx := ra.length
  rw [List.length_map] at lx
  refine ⟨_, rfl, _, rfl, ⟨_, SqL.of ea⟩, fun L nL => ?_⟩
  refine lc_it (walk_list (K := K) (a := a) (xs := xs)) (fun j H' => Same H H' ∧ ∃ acc, H' L = some (.lst acc) ∧ DTs H acc (((ps.take j).filter fun p => !decide (p.1 = p.2)).map pairD)) ⟨same_new nL, [], upd_same, .nil⟩ (fun i H' _ z => SqL.of (z.1 _ _ ea)) ?_ ?_
  · rintro j x H2 H3 hj ⟨s2, acc, hb, da⟩ ⟨rfl, hx⟩
    obtain ⟨pr, t, hp, rfl, ht⟩ := pair_at ra hx
    have ft := filter_take' (f := fun p : Pr => !decide (p.1 = p.2)) hp
    have dx := ra.get hx (show (ps.map pairD)[j]? = some (pairD pr) by rw [List.getElem?_map, hp]; rfl)
    refine ⟨rfl, ?_⟩
    refine ⟨_, rfl, t, _, 0, _, rfl, rfl, SqT.of (s2 _ _ ht), rfl, _, rfl, t, _, 1, _, rfl, rfl, SqT.of (s2 _ _ ht), rfl, rfl, _, rfl, ifNeI (fun ne => ?_) (fun eq => ?_)⟩
    · refine ⟨_, rfl, acc, hb, ?_, ?_, _, upd_same, ?_⟩
      · have := da.length
        have l2 := List.length_filter_le (fun p : Pr => !decide (p.1 = p.2)) (ps.take j)
        rw [List.length_map] at this
        rw [List.length_take] at l2
        exact small1000' (by omega)
      · intro b o e
        rw [upd_ne (ne_of_none e nL)]
        exact s2 _ _ e
      · rw [ft, if_pos (by simp [ne]), List.map_append]
        exact da.snoc dx
    · refine ⟨s2, acc, hb, ?_⟩
      rw [ft, if_neg (by simp [eq]), List.append_nil]
      exact da
  · rintro H2 ⟨s2, acc, hb, da⟩
    rw [lx, List.take_length] at da
    have daH2 := da.same s2 _
    generalize hlf : (ps.filter fun p => !decide (p.1 = p.2)) = lf0 at da daH2
    have sub : ∀ p ∈ lf0, p ∈ ps := fun p hp => by
      rw [← hlf] at hp
      exact (List.mem_filter.mp hp).1
    have l0 : lf0.length ≤ 6 := by
      rw [← hlf]
      exact Nat.le_trans (List.length_filter_le _ _) l6
    refine ⟨Nat.zero_le _, fun D nD => ⟨_, _, rfl, ?_⟩⟩
    have nDH : H D = none := s2.free nD
    have nLD : L ≠ D := ne_of_none hb nD
    refine ⟨WRu a D s H, ⟨13, none, none, none, none, L, lf0, [], rfl, rfl, ?_, ?_, ?_, s2.trans (same_new nD)⟩, ?_⟩
    · refine ⟨fun p hp => S.inp p (sub p hp), fun p hp => (F.2 p (sub p hp)).1, fun p hp => (by cases hp), ?_, Nat.zero_le _⟩
      have := ifle (lf0 ≠ [] ∧ lf0.filter (freeB lf0) = [])
      rw [List.length_nil]
      omega
    · refine .lst (hid_at (nin1 nLD) (same_new nD _ _ hb)) (daH2.same ?_ _)
      intro b o e
      exact hid_at (nin1 (ne_of_none e nD)) (same_new nD _ _ e)
    · exact ⟨[], upd_same, .nil⟩
    clear hb da daH2 s2 sub l0 hlf nL nLD
    rintro m σ H3 ⟨x4, x5, x6, x7, L', lf, row, rfl, rfl, lfI, dL, ⟨racc, hD, dr⟩, s3⟩
    have c13 := lfI.cnt
    have f12 := lfI.fin
    have l6' : lf.length ≤ 6 := by omega
    cases dL with
    | @lst _ lv _ eL rL =>
    obtain ⟨nLD, hL⟩ := hid_out eL
    refine ⟨_, rfl, Nat.zero_le _, fun e ne => ?_⟩
    have g3 := same_new (o := .lst []) ne
    have rLH : DTs H3 lv (lf.map pairD) := rL.same hid_same _
    obtain ⟨x, y, dx, dy, sx, sy, ev⟩ := cmp_nil (K := K) (H := upd H3 e (.lst [])) (e := e) (DT.lst (g3 _ _ hL) (rLH.same g3 _)) upd_same (show lf.length < 1000 by omega)
    refine ⟨x, y, dx, dy, sx, sy, _, rfl, ?_⟩
    rw [ev]
    clear dx dy sx sy ev
    have hD3 := g3 _ _ hD
    have dr3 : DTs (hid [D] (upd H3 e (.lst []))) racc (row.map pairD) := dr.same (Keep.hid (same_keep g3)) _
    have rL3 : DTs (hid [D] (upd H3 e (.lst []))) lv (lf.map pairD) := rL.same (Keep.hid (same_keep g3)) _
    have hL3 := g3 _ _ hL
    have s33 := s3.trans g3
    generalize upd H3 e (.lst []) = H4 at hD3 dr3 rL3 hL3 s33 ⊢
    by_cases el : lf = []
    · subst el
      refine iteF ?_
      exact ⟨_, rfl, q D row H4 nDH (.lst hD3 (dr3.same hid_same _)) lfI.rin f12 s33⟩
    · have ee : lf.isEmpty = false := by
        cases lf with
        | nil => exact absurd rfl el
        | cons _ _ => rfl
      rw [ee]
      refine iteT ⟨WRu a D s H (13 - (row.length + 1)), fun σ' H' z => ⟨_, by omega, z⟩, ?_⟩
      have lv6 := rL3.length
      rw [List.length_map] at lv6
      -- what is read
      refine ⟨_, rfl, _, rfl, ⟨_, SqL.of hL3⟩, fun R nR => lc_mapW (walk_list (K := K) (a := L') (xs := lv)) (ys := lf.map fun p => V.int p.2) (fun H' s' => SqL.of (s' _ _ hL3)) (fun j H x H' y => y.1) nR (by rw [List.length_map, lv6]) (by omega) ?_ ?_⟩
      · rintro j x y H' Q' s1 ⟨_, hx⟩ hy q'
        obtain ⟨pr, t, hp, rfl, ht⟩ := pair_at (rL3.same hid_same _) hx
        rw [List.getElem?_map, hp] at hy
        obtain rfl : V.int pr.2 = y := Option.some.inj hy
        exact ⟨_, rfl, t, _, 1, _, rfl, rfl, SqT.of (s1 _ _ ht), rfl, q' _ (Same.refl _)⟩
      intro H5 g5 hR
      have hD5 := g5 _ _ hD3
      have dr5 : DTs (hid [D] H5) racc (row.map pairD) := dr3.same (Keep.hid (same_keep g5)) _
      have rL5 : DTs (hid [D] H5) lv (lf.map pairD) := rL3.same (Keep.hid (same_keep g5)) _
      have hL5 := g5 _ _ hL3
      have s35 := s33.trans g5
      clear hD3 dr3 rL3 hL3 s33 g5 nR rLH rL hL hD dr s3
      -- what is free
      refine ⟨_, rfl, _, rfl, ⟨_, SqL.of hL5⟩, fun Fr nF => ?_⟩
      refine lc_it (walk_list (K := K) (a := L') (xs := lv)) (fun j H' => Same H5 H' ∧ ∃ acc, H' Fr = some (.lst acc) ∧ DTs (hid [D] H5) acc (((lf.take j).filter (freeB lf)).map pairD)) ⟨same_new nF, [], upd_same, .nil⟩ (fun i H' _ z => SqL.of (z.1 _ _ hL5)) ?_ ?_
      · rintro j x H2' H6 hj ⟨s2, acc, hb, da⟩ ⟨rfl, hx⟩
        obtain ⟨pr, t, hp, rfl, ht⟩ := pair_at (rL5.same hid_same _) hx
        have ft := filter_take' (f := freeB lf) hp
        have dx := rL5.get hx (show (lf.map pairD)[j]? = some (pairD pr) by rw [List.getElem?_map, hp]; rfl)
        refine ⟨rfl, ?_⟩
        refine ⟨_, rfl, t, _, 0, _, rfl, rfl, SqT.of (s2 _ _ ht), rfl, _, rfl, R, lf.map fun p => V.int p.2, rfl, .inl (SqL.of (s2 _ _ hR)), rfl, ?_, _, rfl, ?_⟩
        · have := flat_ints (lf.map (·.2))
          rwa [List.map_map] at this
        have e1 : inV (.int pr.1) (lf.map fun p => V.int p.2) = decide (pr.1 ∈ lf.map (·.2)) := by
          have := inV_ints (a := pr.1) (ns := lf.map (·.2))
          rwa [List.map_map] at this
        show if (!inV (.int pr.1) (lf.map fun p => V.int p.2)) = true then _ else _
        rw [e1]
        refine ifB (fun hb1 => ?_) (fun hb1 => ?_)
        · refine ⟨_, rfl, acc, hb, ?_, ?_, _, upd_same, ?_⟩
          · have := da.length
            have l2 := List.length_filter_le (freeB lf) (lf.take j)
            rw [List.length_map] at this
            rw [List.length_take] at l2
            exact small1000' (by omega)
          · intro b o e
            rw [upd_ne (ne_of_none e nF)]
            exact s2 _ _ e
          · rw [ft, if_pos (show freeB lf pr = true from hb1), List.map_append]
            exact da.snoc dx
        · refine ⟨s2, acc, hb, ?_⟩
          rw [ft, if_neg (fun z => by rw [show freeB lf pr = false from hb1] at z; cases z), List.append_nil]
          exact da
      rintro H6 ⟨g6, fv, hF, dF⟩
      rw [lv6, List.take_length] at dF
      have hD6 := g6 _ _ hD5
      have k6 : Same (hid [D] H5) (hid [D] H6) := Keep.hid (same_keep g6)
      have dr6 := dr5.same k6 _
      have rL6 := rL5.same k6 _
      have hL6 := g6 _ _ hL5
      have s36 := s35.trans g6
      have dF6 := dF.same k6 _
      have nFD : Fr ≠ D := (ne_of_none hD5 nF).symm
      clear hD5 dr5 rL5 hL5 s35 g6 hR dF k6
      have lF := dF6.length
      rw [List.length_map] at lF
      have lF2 := List.length_filter_le (freeB lf) lf
      have pk := lfI.pick F.1 el
      -- the one that is done
      refine ⟨_, rfl, Nat.zero_le _, fun e2 ne2 => ?_⟩
      have g7 := same_new (o := .lst []) ne2
      obtain ⟨x, y, dx, dy, sx, sy, ev⟩ := cmp_nil (K := K) (H := upd H6 e2 (.lst [])) (e := e2) (DT.lst (g7 _ _ hF) ((dF6.same hid_same _).same g7 _)) upd_same (show (lf.filter (freeB lf)).length < 1000 by omega)
      refine ⟨x, y, dx, dy, sx, sy, _, rfl, ?_⟩
      rw [ev]
      clear dx dy sx sy ev
      have hD7 := g7 _ _ hD6
      have k7 : Same (hid [D] H6) (hid [D] (upd H6 e2 (.lst []))) := Keep.hid (same_keep g7)
      have dr7 := dr6.same k7 _
      have rL7 := rL6.same k7 _
      have hL7 := g7 _ _ hL6
      have s37 := s36.trans g7
      have dF7 := dF6.same k7 _
      have hF7 := g7 _ _ hF
      generalize upd H6 e2 (.lst []) = H7 at hD7 dr7 rL7 hL7 s37 dF7 hF7 ⊢
      clear k7 dr6 rL6 hD6 hL6 s36 dF6 hF g7 ne2
      have ep : ∀ p r, lf.filter (freeB lf) = p :: r → pickP s lf = p := fun p r e => by
        unfold pickP
        rw [e]
      have en : ∀ h t, lf.filter (freeB lf) = [] → lf = h :: t → pickP s lf = (s, h.1) := fun h t e e2 => by
        unfold pickP
        rw [e, e2]
        rfl
      generalize pickP s lf = one at pk ep en
      generalize lf.filter (freeB lf) = fl at pk ep en dF7 lF lF2
      cases hfl : fl
      case' cons p r =>
        have eo := ep p r hfl
        obtain ⟨x0, hx0⟩ : ∃ x, fv[0]? = some x := ⟨_, List.getElem?_eq_getElem (by rw [lF, hfl]; exact Nat.succ_pos _)⟩
        obtain ⟨p', t, h1, rfl, ht⟩ := pair_at dF7 hx0
        obtain rfl : p = p' := by
          rw [hfl] at h1
          exact Option.some.inj h1
        have ht7 := (hid_out ht).2
        rw [← eo] at ht7
        refine iteT ⟨_, rfl, Fr, fv, 0, .ref t, rfl, rfl, SqL.of hF7, atI_nat (j := 0) hx0, t, [.int one.1, .int one.2], rfl, SqT.of ht7, rfl, _, _, rfl, _, _, rfl, rfl, ?_⟩
        obtain ⟨H8, e8, g8⟩ : ∃ H8, H8 = H7 ∧ Same H7 H8 := ⟨_, rfl, Same.refl _⟩
        rw [← e8]
        clear e8
      case' nil =>
        obtain ⟨x0, hx0⟩ : ∃ x, lv[0]? = some x := ⟨_, List.getElem?_eq_getElem (by rw [lv6]; exact List.length_pos_iff.mpr el)⟩
        obtain ⟨p', t, h1, rfl, ht⟩ := pair_at (rL7.same hid_same _) hx0
        obtain ⟨h', t', elf⟩ : ∃ h t, lf = h :: t := by
          cases lf with
          | nil => exact absurd rfl el
          | cons h t => exact ⟨h, t, rfl⟩
        obtain rfl : h' = p' := by
          rw [elf] at h1
          exact Option.some.inj h1
        have eo := en h' t' hfl elf
        refine iteF ⟨_, rfl, _, rfl, L', lv, 0, .ref t, rfl, rfl, SqL.of hL7, atI_nat (j := 0) hx0, t, _, 0, _, rfl, rfl, SqT.of ht, rfl, (show 2 ≤ sizeLine by decide), fun tt ntt => ⟨tt, [.int one.1, .int one.2], rfl, SqT.of (by rw [eo]; exact upd_same), rfl, _, _, rfl, _, _, rfl, rfl, ?_⟩⟩
        have g8 := same_new (o := .tup [.int s, .int h'.1]) ntt
        generalize upd H7 tt (.tup [.int s, .int h'.1]) = H8 at g8 ⊢
      all_goals
        have hD8 := g8 _ _ hD7
        have k8 : Same (hid [D] H7) (hid [D] H8) := Keep.hid (same_keep g8)
        have dr8 := dr7.same k8 _
        have rL8 := rL7.same k8 _
        have hL8 := g8 _ _ hL7
        have s38 := s37.trans g8
        have dF8 := dF7.same k8 _
        have hF8 := g8 _ _ hF7
        clear eo ht hx0 hD7 dr7 rL7 hL7 s37 dF7 hF7 g8 k8
        have lr := dr8.length
        rw [List.length_map] at lr
        refine ⟨_, rfl, .inl ⟨rfl, _, SqL.of hD8⟩, _, rfl, _, rfl, (show 2 ≤ sizeLine by decide), fun tt ntt => ?_⟩
        refine ⟨D, racc, _, rfl, rfl, same_new ntt _ _ hD8, small1000' (by omega), ?_⟩
        have ntD : tt ≠ D := (ne_of_none hD8 ntt).symm
        have k9 : Keep [D] H8 (upd (upd H8 tt (.tup [.int one.1, .int one.2])) D (.lst (racc ++ [.ref tt]))) := by
          intro b o nb e
          rw [upd_ne (fun z => nb (by simp [z]))]
          exact same_new ntt _ _ e
        have s39 : Same H (upd (upd H8 tt (.tup [.int one.1, .int one.2])) D (.lst (racc ++ [.ref tt]))) := fun b o e => by
          rw [upd_ne (ne_of_none e nDH)]
          exact same_new ntt _ _ (s38 _ _ e)
        have dr9 : DTs (hid [D] (upd (upd H8 tt (.tup [.int one.1, .int one.2])) D (.lst (racc ++ [.ref tt])))) (racc ++ [.ref tt]) ((row ++ [one]).map pairD) := by
          rw [List.map_append]
          exact DTs.snoc (dr8.same k9.hid _) (.tup (hid_at (nin1 ntD) (by rw [upd_ne ntD]; exact upd_same)) (.cons (.int _) (.cons (.int _) .nil)))
        have rL9 := rL8.same k9.hid _
        have dF9 := dF8.same k9.hid _
        have hL9 := k9 _ _ nLD hL8
        have hF9 := k9 _ _ (nin1 nFD) hF8
        have hD9 : (upd (upd H8 tt (.tup [.int one.1, .int one.2])) D (.lst (racc ++ [.ref tt]))) D = some (.lst (racc ++ [.ref tt])) := upd_same
        generalize upd (upd H8 tt (.tup [.int one.1, .int one.2])) D (.lst (racc ++ [.ref tt])) = H9 at s39 dr9 rL9 dF9 hL9 hF9 hD9 ⊢
        clear k9 ntt ntD dr8 rL8 dF8 hL8 hF8 hD8 s38
        refine ⟨_, rfl, _, rfl, ⟨_, SqL.of hL9⟩, fun L2 nL2 => ?_⟩
        have n2D : L2 ≠ D := (ne_of_none hD9 nL2).symm
        obtain ⟨kf, hkf⟩ : ∃ kf : Pr → Bool, kf = fun q => fl.isEmpty || !decide (q.1 = one.1) := ⟨_, rfl⟩
        refine lc_it (walk_list (K := K) (a := L') (xs := lv)) (fun j H' => Same H9 H' ∧ ∃ acc, H' L2 = some (.lst acc) ∧ DTs (hid [D, L2] H') acc ((((lf.take j).filter kf).map (substP one.1 one.2)).map pairD)) ⟨same_new nL2, [], upd_same, .nil⟩ (fun i H' _ z => SqL.of (z.1 _ _ hL9)) ?_ ?_
        · rintro j x H2' H10 hj ⟨s2, acc, hb, da⟩ ⟨rfl, hx⟩
          obtain ⟨pr, t, hp, rfl, ht⟩ := pair_at (rL9.same hid_same _) hx
          have ft := filter_take' (f := kf) hp
          have lac := da.length
          have l2 := List.length_filter_le kf (lf.take j)
          rw [List.length_map, List.length_map] at lac
          rw [List.length_take] at l2
          have kept : ∀ (H11 : Hp) (tt : Addr) (v2 : Int), Same H10 H11 → H11 tt = none → v2 = (if pr.2 = one.2 then one.1 else pr.2) → kf pr = true →
              ∃ acc', (upd H11 tt (.tup [.int pr.1, .int v2])) L2 = some (.lst acc') ∧ acc'.length < sizeLine ∧ Same H9 (upd (upd H11 tt (.tup [.int pr.1, .int v2])) L2 (.lst (acc' ++ [.ref tt]))) ∧
                ∃ acc, (upd (upd H11 tt (.tup [.int pr.1, .int v2])) L2 (.lst (acc' ++ [.ref tt]))) L2 = some (.lst acc) ∧ DTs (hid [D, L2] (upd (upd H11 tt (.tup [.int pr.1, .int v2])) L2 (.lst (acc' ++ [.ref tt])))) acc ((((lf.take (j + 1)).filter kf).map (substP one.1 one.2)).map pairD) := by
            intro H11 tt v2 s11 ntt ev hk
            have hb11 := s11 _ _ hb
            have nt2 : tt ≠ L2 := (ne_of_none hb11 ntt).symm
            have ntD : tt ≠ D := (ne_of_none (s11 _ _ (s2 _ _ hD9)) ntt).symm
            refine ⟨acc, same_new ntt _ _ hb11, small1000' (by omega), ?_, _, upd_same, ?_⟩
            · intro b o e
              rw [upd_ne (ne_of_none e nL2)]
              exact same_new ntt _ _ (s11 _ _ (s2 _ _ e))
            · rw [ft, if_pos hk, List.map_append, List.map_append]
              have kk : Keep [D, L2] H10 (upd (upd H11 tt (.tup [.int pr.1, .int v2])) L2 (.lst (acc ++ [.ref tt]))) := by
                intro b o nb e
                rw [upd_ne (fun z => nb (by simp [z]))]
                exact same_new ntt _ _ (s11 _ _ e)
              refine DTs.snoc (da.same kk.hid _) (.tup (hid_at (by simp [nt2, ntD]) (by rw [upd_ne nt2]; exact upd_same)) (.cons (.int _) (.cons ?_ .nil)))
              show DT _ (.int v2) (.int (if pr.2 = one.2 then one.1 else pr.2))
              rw [← ev]
              exact .int _
          refine ⟨rfl, ?_⟩
          refine ⟨_, rfl, Nat.zero_le _, fun e ne => ?_⟩
          have g11 := same_new (o := .lst []) ne
          obtain ⟨x, y, dx, dy, sx, sy, ev⟩ := cmp_nil (K := K) (H := upd H10 e (.lst [])) (e := e) (DT.lst (g11 _ _ (s2 _ _ hF9)) (((dF9.same hid_same _).same s2 _).same g11 _)) upd_same (show fl.length < 1000 by omega)
          refine ⟨x, y, dx, dy, sx, sy, _, rfl, ?_⟩
          rw [ev]
          clear dx dy sx sy ev
          have ht10 := g11 _ _ (s2 _ _ ht)
          generalize upd H10 e (.lst []) = H11 at g11 ht10 ⊢
          have sT : SqT K H11 t [.int pr.1, .int pr.2] := SqT.of ht10
          cases hfe : fl.isEmpty
          case' false =>
            refine iteF ⟨_, rfl, t, _, 0, _, rfl, rfl, sT, rfl, _, rfl, rfl, _, rfl, ifNeI (fun ne => ?_) (fun eq => ⟨s2.trans g11, acc, g11 _ _ hb, by
            rw [ft, if_neg (by rw [hkf]; simp [hfe, eq]), List.append_nil]
            exact da.same (Keep.hid (same_keep g11)) _⟩)⟩
            have hk : kf pr = true := by
              rw [hkf]
              show (fl.isEmpty || !decide (pr.1 = one.1)) = true
              rw [hfe, decide_eq_false ne]
              rfl
          case' true =>
            refine iteT ?_
            have hk : kf pr = true := by
              rw [hkf]
              show (fl.isEmpty || !decide (pr.1 = one.1)) = true
              rw [hfe]
              rfl
          all_goals
            refine ⟨_, rfl, t, _, 0, _, rfl, rfl, sT, rfl, _, rfl, t, _, 1, _, rfl, rfl, sT, rfl, _, rfl, rfl, _, rfl, ifEqI (fun eq => ?_) (fun ne => ?_)⟩
            · refine ⟨_, rfl, (show 2 ≤ sizeLine by decide), fun tt ntt => ?_⟩
              exact kept H11 tt _ g11 ntt (by rw [if_pos eq]) hk
            · refine ⟨_, rfl, t, _, 1, _, rfl, rfl, sT, rfl, (show 2 ≤ sizeLine by decide), fun tt ntt => ?_⟩
              exact kept H11 tt _ g11 ntt (by rw [if_neg ne]) hk
        · rintro H10 ⟨s2, acc, hb, da⟩
          rw [lv6, List.take_length] at da
          refine ⟨some (.ref R), some (.ref Fr), some (.int one.1), some (.int one.2), L2, nextL lf one.1 one.2 fl.isEmpty, row ++ [one], rfl, by rw [List.length_append, List.length_singleton], pk, ?_, ?_, s39.trans s2⟩
          · rw [hkf] at da
            exact .lst (hid_at (nin1 n2D) hb) (da.same (hid_mono (by simp)) _)
          · exact ⟨_, s2 _ _ hD9, dr9.same (Keep.hid (same_keep s2)) _⟩
end
end Cb
set_option Elab.async false
set_option linter.all false
set_option maxRecDepth 100000
set_option maxHeartbeats 4000000
namespace Cb
open PySem PySem.Spec PyProof.Rows L2
/-! ### new things, where the generator is hidden -/
def rowD (r : List Pr) : PyData := .list (r.map pairD)
theorem hidS {S : List Addr} {H H' : Hp} (s : Same H H') : Same (hid S H) (hid S H') := Keep.hid (same_keep s)
theorem new_g {g z : Addr} {H : Hp} (hg : ∃ o, H g = some o) (nz : H z = none) : z ≠ g := by
  obtain ⟨o, e⟩ := hg
  exact (ne_of_none e nz).symm
theorem dt_lst {g z : Addr} {H : Hp} {xs : List V} {ds : List PyData} (hg : ∃ o, H g = some o) (nz : H z = none) (d : DTs (hid [g] H) xs ds) : Same H (upd H z (.lst xs)) ∧ DT (hid [g] (upd H z (.lst xs))) (.ref z) (.list ds) := by
  have s := same_new (o := .lst xs) nz
  exact ⟨s, .lst (hid_at (nin1 (new_g hg nz)) upd_same) (d.same (hidS s) _)⟩
theorem dt_tup {g z : Addr} {H : Hp} {xs : List V} {ds : List PyData} (hg : ∃ o, H g = some o) (nz : H z = none) (d : DTs (hid [g] H) xs ds) : Same H (upd H z (.tup xs)) ∧ DT (hid [g] (upd H z (.tup xs))) (.ref z) (.tuple ds) := by
  have s := same_new (o := .tup xs) nz
  exact ⟨s, .tup (hid_at (nin1 (new_g hg nz)) upd_same) (d.same (hidS s) _)⟩
theorem ex_same {g : Addr} {H H' : Hp} (hg : ∃ o, H g = some o) (s : Same H H') : ∃ o, H' g = some o := by
  obtain ⟨o, e⟩ := hg
  exact ⟨o, s _ _ e⟩
/-- [.., x] put behind a list -/
theorem dt_app {g z l : Addr} {H : Hp} {xs ys : List V} {ds es : List PyData} (hg : ∃ o, H g = some o) (dr : DTs (hid [g] H) xs ds) (dy : DTs (hid [g] H) ys es) (nl : H l = none) (nz : (upd H l (.lst ys)) z = none) :
    Same H (upd (upd H l (.lst ys)) z (.lst (xs ++ ys))) ∧ DT (hid [g] (upd (upd H l (.lst ys)) z (.lst (xs ++ ys)))) (.ref z) (.list (ds ++ es)) := by
  have s := same_new (o := .lst ys) nl
  obtain ⟨s2, d2⟩ := dt_lst (ex_same hg s) nz ((DTs.app dr dy).same (hidS s) _)
  exact ⟨s.trans s2, d2⟩
theorem dt_ahead {g z l : Addr} {H : Hp} {xs ys : List V} {ds es : List PyData} (hg : ∃ o, H g = some o) (dr : DTs (hid [g] H) xs ds) (dy : DTs (hid [g] H) ys es) (nl : H l = none) (nz : (upd H l (.lst ys)) z = none) :
    Same H (upd (upd H l (.lst ys)) z (.lst (ys ++ xs))) ∧ DT (hid [g] (upd (upd H l (.lst ys)) z (.lst (ys ++ xs)))) (.ref z) (.list (es ++ ds)) := by
  have s := same_new (o := .lst ys) nl
  obtain ⟨s2, d2⟩ := dt_lst (ex_same hg s) nz ((DTs.app dy dr).same (hidS s) _)
  exact ⟨s.trans s2, d2⟩
theorem dt_pair {g t : Addr} {H : Hp} {a b : Int} (hg : ∃ o, H g = some o) (nt : H t = none) : Same H (upd H t (.tup [.int a, .int b])) ∧ DTs (hid [g] (upd H t (.tup [.int a, .int b]))) [.ref t] ([(a, b)].map pairD) := by
  obtain ⟨s, d⟩ := dt_tup (ds := [.int a, .int b]) hg nt (.cons (.int _) (.cons (.int _) .nil))
  exact ⟨s, .cons d .nil⟩
theorem dt_cat1 {g t l z : Addr} {H : Hp} {xs : List V} {r : List Pr} {a b : Int} (hg : ∃ o, H g = some o) (dr : DTs (hid [g] H) xs (r.map pairD)) (nt : H t = none) (nl : (upd H t (.tup [.int a, .int b])) l = none) (nz : (upd (upd H t (.tup [.int a, .int b])) l (.lst [.ref t])) z = none) :
    Same H (upd (upd (upd H t (.tup [.int a, .int b])) l (.lst [.ref t])) z (.lst (xs ++ [.ref t]))) ∧ DT (hid [g] (upd (upd (upd H t (.tup [.int a, .int b])) l (.lst [.ref t])) z (.lst (xs ++ [.ref t])))) (.ref z) (rowD (r ++ [(a, b)])) := by
  obtain ⟨s1, d1⟩ := dt_pair (a := a) (b := b) hg nt
  obtain ⟨s2, d2⟩ := dt_app (ex_same hg s1) (dr.same (hidS s1) _) d1 nl nz
  exact ⟨s1.trans s2, by rw [rowD, List.map_append]; exact d2⟩
theorem dt_1cat {g t l z : Addr} {H : Hp} {xs : List V} {r : List Pr} {a b : Int} (hg : ∃ o, H g = some o) (dr : DTs (hid [g] H) xs (r.map pairD)) (nt : H t = none) (nl : (upd H t (.tup [.int a, .int b])) l = none) (nz : (upd (upd H t (.tup [.int a, .int b])) l (.lst [.ref t])) z = none) :
    Same H (upd (upd (upd H t (.tup [.int a, .int b])) l (.lst [.ref t])) z (.lst ([.ref t] ++ xs))) ∧ DT (hid [g] (upd (upd (upd H t (.tup [.int a, .int b])) l (.lst [.ref t])) z (.lst ([.ref t] ++ xs)))) (.ref z) (rowD ((a, b) :: r)) := by
  obtain ⟨s1, d1⟩ := dt_pair (a := a) (b := b) hg nt
  obtain ⟨s2, d2⟩ := dt_ahead (ex_same hg s1) (dr.same (hidS s1) _) d1 nl nz
  exact ⟨s1.trans s2, d2⟩
theorem DTs.rev {H : Hp} : ∀ {xs : List V} {ds : List PyData}, DTs H xs ds → DTs H xs.reverse ds.reverse
  | _, [], h => by cases h; exact .nil
  | _, d :: ds, h => by
    cases h with
    | cons a r =>
      rw [List.reverse_cons, List.reverse_cons]
      exact DTs.snoc (DTs.rev (ds := ds) r) a
theorem DTs.dropd {H : Hp} : ∀ {xs : List V} {ds : List PyData} (n : Nat), DTs H xs ds → DTs H (xs.drop n) (ds.drop n)
  | _, _, 0, h => h
  | _, [], _ + 1, h => by cases h; exact .nil
  | _, d :: ds, n + 1, h => by
    cases h with
    | cons a r => exact DTs.dropd (ds := ds) n r
theorem DTs.taked {H : Hp} : ∀ {xs : List V} {ds : List PyData} (n : Nat), DTs H xs ds → DTs H (xs.take n) (ds.take n)
  | _, _, 0, _ => .nil
  | _, [], _ + 1, h => by cases h; exact .nil
  | _, d :: ds, n + 1, h => by
    cases h with
    | cons a r => exact .cons a (DTs.taked (ds := ds) n r)
theorem cut_d1 (xs : List V) : cutV xs (some 1) none = xs.drop 1 := by
  unfold cutV
  rw [show HT.sIx xs.length 0 (some 1) = min 1 xs.length from HT.sIx_nat _ _ 1, show HT.sIx xs.length xs.length none = xs.length from HT.sIx_none _ _]
  cases xs with
  | nil => rfl
  | cons x r => simp
theorem cut_l1 (xs : List V) : cutV xs none (some (-1)) = xs.take (xs.length - 1) := by
  unfold cutV
  rw [show HT.sIx xs.length 0 none = 0 from HT.sIx_none _ _]
  have e : HT.sIx xs.length xs.length (some (-1)) = xs.length - 1 := by
    show (if (-1 : Int) < 0 then ((-1 : Int) + (xs.length : Int)).toNat else min (-1 : Int).toNat xs.length) = _
    rw [if_pos (by decide)]
    omega
  rw [e]
  simp
/-- pairs are no generators -/
theorem dt_hide {g a : Addr} {H : Hp} {o : HO} {r : List Pr} (hg : H g = some o) (no : ∀ xs, o ≠ .tup xs) (na : a ≠ g) (d : DT H (.ref a) (rowD r)) : DT (hid [g] H) (.ref a) (rowD r) := by
  cases d with
  | lst e x =>
    refine .lst (hid_at (nin1 na) e) ?_
    clear e
    revert x
    generalize ‹List V› = xs
    induction r generalizing xs with
    | nil =>
      intro x
      cases x
      exact .nil
    | cons p r ih =>
      intro x
      cases x with
      | cons b x =>
        refine .cons ?_ (ih _ x)
        cases b with
        | tup e2 x2 =>
          refine .tup (hid_at (nin1 ?_) e2) ?_
          · intro z
            rw [z, hg] at e2
            exact no _ (Option.some.inj e2)
          · cases x2 with
            | cons b2 x2 =>
              cases b2
              cases x2 with
              | cons b3 x2 =>
                cases b3
                cases x2
                exact .cons (.int _) (.cons (.int _) .nil)
theorem DT.lst' {H : Hp} {a : Addr} {ds : List PyData} (h : DT H (.ref a) (.list ds)) : ∃ xs, H a = some (.lst xs) ∧ DTs H xs ds := by
  cases h with
  | lst e r => exact ⟨_, e, r⟩
theorem dt_dct {g z : Addr} {H : Hp} (hg : ∃ o, H g = some o) (nz : H z = none) : Same H (upd H z (.dK [])) ∧ DT (hid [g] (upd H z (.dK []))) (.ref z) (.dict []) :=
  ⟨same_new nz, .dct (hid_at (nin1 (new_g hg nz)) upd_same)⟩
theorem DT.refl' {H : Hp} {x : V} {ds : List PyData} (h : DT H x (.list ds)) : ∃ a xs, x = .ref a ∧ H a = some (.lst xs) ∧ DTs H xs ds := by
  cases h with
  | lst e r => exact ⟨_, _, rfl, e, r⟩
theorem rowD_good {r : List Pr} (h : r.length < 1000) : good (rowD r) = true := (okd_pairs h).good
theorem okd_two {r p : List Pr} (h : r.length < 1000) (h2 : p.length < 1000) : OKd (.list [rowD r, rowD p]) := by
  refine ⟨?_, ?_⟩
  · simp only [Cb.good, goods, rowD_good h, rowD_good h2, List.length_cons, List.length_nil]
    rfl
  · have a1 := (okd_pairs h).dep
    have a2 := (okd_pairs h2).dep
    have d1 : ∀ l : List Pr, (rowD l).depth ≤ 2 := fun l => by
      have := depthAll_le (n := 1) (ds := l.map pairD) fun d hd => by
        obtain ⟨n, _, rfl⟩ := List.mem_map.mp hd
        simp [pairD, PyData.depth, PyData.depthAll]
      simp only [rowD, PyData.depth]
      omega
    have b1 := d1 r
    have b2 := d1 p
    simp only [PyData.depth, PyData.depthAll]
    omega
theorem eqv_ok {d : PyData} (h : OKd d) : PyData.eqv d d = true := SeqAt.eqv_refl d (good_can d h.good)
theorem neD {d : PyData} {A B : Prop} (h : OKd d) (b : B) : if (!PyData.eqv d d) = true then A else B := by
  rw [eqv_ok h]
  exact iteF b
theorem fits_bool (b : Bool) : Fits [2] (.bool b) := fits_of [2] (by decide) _ rfl
instance (p : Pr) : Decidable (InP p) := by unfold InP; infer_instance
theorem lit1 {H : Hp} {t l : Addr} {a b : Int} (nt : H t = none) (nl : (upd H t (.tup [.int a, .int b])) l = none) : Same H (upd (upd H t (.tup [.int a, .int b])) l (.lst [.ref t])) ∧ DT (upd (upd H t (.tup [.int a, .int b])) l (.lst [.ref t])) (.ref l) (rowD [(a, b)]) :=
  ⟨(same_new nt).trans (same_new nl), .lst upd_same (.cons (.tup (same_new nl _ _ upd_same) (.cons (.int _) (.cons (.int _) .nil))) .nil)⟩
theorem lit2 {H : Hp} {t u l : Addr} {a b c d : Int} (nt : H t = none) (nu : (upd H t (.tup [.int a, .int b])) u = none) (nl : (upd (upd H t (.tup [.int a, .int b])) u (.tup [.int c, .int d])) l = none) :
    Same H (upd (upd (upd H t (.tup [.int a, .int b])) u (.tup [.int c, .int d])) l (.lst [.ref t, .ref u])) ∧ DT (upd (upd (upd H t (.tup [.int a, .int b])) u (.tup [.int c, .int d])) l (.lst [.ref t, .ref u])) (.ref l) (rowD [(a, b), (c, d)]) :=
  ⟨((same_new nt).trans (same_new nu)).trans (same_new nl), .lst upd_same (.cons (.tup (same_new nl _ _ (same_new nu _ _ upd_same)) (.cons (.int _) (.cons (.int _) .nil))) (.cons (.tup (same_new nl _ _ upd_same) (.cons (.int _) (.cons (.int _) .nil))) .nil))⟩
theorem lit0 {H : Hp} {l : Addr} (nl : H l = none) : Same H (upd H l (.lst [])) ∧ DT (upd H l (.lst [])) (.ref l) (rowD []) := ⟨same_new nl, .lst upd_same .nil⟩
theorem dts_rep {H : Hp} {x : V} {d : PyData} (h : DT H x d) : ∀ n : Nat, DTs H (List.replicate n [x]).flatten (List.replicate n d)
  | 0 => .nil
  | n + 1 => by
    rw [List.replicate_succ, List.replicate_succ, List.flatten_cons]
    exact .cons h (dts_rep h n)
theorem shuf01 : Shuf [(0, 1)] := ⟨by decide +kernel, by decide +kernel, by decide +kernel⟩
theorem shuf0 : Shuf [] := ⟨fun p hp => (by cases hp), List.nodup_nil, Nat.zero_le _⟩
theorem shuf2 : Shuf [(0, 1), (1, 0)] := ⟨by decide +kernel, by decide +kernel, by decide +kernel⟩
theorem free01 : Free [(0, 1)] 9 := ⟨by decide, by decide +kernel⟩
theorem free0 : Free [] 9 := ⟨by decide, fun p hp => (by cases hp)⟩
theorem free2 : Free [(0, 1), (1, 0)] 9 := ⟨by decide, by decide +kernel⟩
theorem fm1 : movesD [(0, 1)] 9 (rowD [(0, 1), (1, 1)]) = true := by decide +kernel
theorem fm2 : movesD [] 9 (rowD [(9, 0)]) = true := by decide +kernel
theorem fm3 : movesD [] 9 (rowD [(8, 0)]) = false := by decide +kernel
theorem fm4 : movesD [(0, 1), (1, 0)] 9 (rowD [(0, 1), (1, 0)]) = false := by decide +kernel
theorem fm5 : movesD [(0, 1)] 9 (.list (List.replicate 300 (pairD (0, 1)))) = true := by decide +kernel
theorem row_small {r : List Pr} (h : r.length < 1000) : ∀ ds, rowD r = .list ds → ds.length < 1000 := fun ds e => by
  rw [← PyData.list.inj e, List.length_map]
  exact h
def flipP (p : Pr) : Pr := (99 - p.1, 99 - p.2)
theorem flip_shuf {ps : List Pr} (low : ∀ q ∈ ps, Low q) (nd : (ps.map (·.1)).Nodup) (l6 : ps.length ≤ 6) : Shuf (ps.map flipP) := by
  refine ⟨fun p hp => ?_, ?_, by rw [List.length_map]; omega⟩
  · obtain ⟨q, hq, rfl⟩ := List.mem_map.mp hp
    have := low q hq
    unfold Low at this
    show (0 ≤ 99 - q.1 ∧ 99 - q.1 < 100) ∧ 0 ≤ 99 - q.2 ∧ 99 - q.2 < 100
    omega
  · have e : (ps.map flipP).map (·.1) = (ps.map (·.1)).map fun x => 99 - x := by
      rw [List.map_map, List.map_map]
      rfl
    rw [e]
    refine List.Pairwise.map _ (fun a b (ne : a ≠ b) z => ne ?_) nd
    omega
theorem flip_free {ps : List Pr} {s : Int} (low : ∀ q ∈ ps, Low q) (h : 0 ≤ s ∧ s < 90) : Free (ps.map flipP) s := by
  refine ⟨⟨h.1, by omega⟩, fun p hp => ?_⟩
  obtain ⟨q, hq, rfl⟩ := List.mem_map.mp hp
  have := low q hq
  unfold Low at this
  show ¬ 99 - q.1 = s ∧ ¬ 99 - q.2 = s
  omega
theorem low_shuf {ps : List Pr} (low : ∀ q ∈ ps, Low q) (nd : (ps.map (·.1)).Nodup) (l6 : ps.length ≤ 6) : Shuf ps := by
  refine ⟨fun p hp => ?_, nd, by omega⟩
  have := low p hp
  unfold Low at this
  unfold InP
  omega
theorem low_free {ps : List Pr} {s : Int} (low : ∀ q ∈ ps, Low q) (h : 6 ≤ s ∧ s < 96) : Free ps s := by
  refine ⟨by omega, fun p hp => ?_⟩
  have := low p hp
  unfold Low at this
  omega
theorem bad_false {ps r : List Pr} {s : Int} {d : PyData} (h : moveD d = false) : movesD ps s (.list (r.map pairD ++ [d])) = false := by
  show ((r.map pairD ++ [d]).all moveD && _) = false
  rw [List.all_append]
  simp [h]
end Cb
set_option Elab.async false
set_option linter.all false
set_option maxRecDepth 100000
set_option maxHeartbeats 8000000
namespace Cb
open PySem PySem.Spec PyProof.Rows L2
abbrev s_law : Stmt := topS 24
abbrev NLw : List Str := ["_law_script", "_law_generator_here", "_law_shuffle_here", "_law_spare", "_law_row", "_law_one", "_law_rows", "_law_drawn", "_law_turn", "_law_value", "_law_due_here", "_law_kept", "_law_given", "_law_odds", "_law_odd", "_law_low", "_law_high"]
theorem sc_law : FnScope NLw ["_law_script"] (defScope s_law) := ⟨rfl, rfl, rfl, by decide +kernel, rfl, by decide +kernel, by decide +kernel⟩
structure TLaw (K : PySem.W.Frag) (mg : Str → Option Value) : Prop where
  tm : TMov K mg
  td : TDue K mg
  ts : TShu K mg
  tr : TRul K mg
  b_repr : mg "repr" = none
section
variable {P : Program} {w : World} {K : PySem.W.Frag} {mg : Str → Option Value} {base : Heap}
def sp_law (K : PySem.W.Frag) : Sp := fun vs H Q _ => ∃ (p : Addr) (ns : List Int), vs = [.ref p] ∧ SqL K H p (ns.map V.int) ∧ ∀ H', Q (.bl true) H'
theorem c_law (T : TLaw K mg) {fl : Addr} {fdl : FuncData} (F : Fun K "law" "law" s_law fl fdl) : FnG P w K mg base CX0 12 fl fdl ["_law_script"] (sp_law K) := by
  refine fnG F sc_law (fun vs H Q E h => ?_) (fun f cdv A outer st H vs Q E ga hr h => ?_)
  · obtain ⟨_, _, rfl, _⟩ := h; rfl
  refine ⟨_, (pss_cons (ps_set (i := 1) sc_law.nd rfl (.inl rfl) (pe_s (c_l_generator T.ts.tg) hr (pa_cons (pv 0) (pa_cons pe_int pa_nil))))
    (pss_cons (ps_par (i := 2) (j := 3) rfl sc_law.nd rfl rfl (by decide) rfl rfl (pa_cons (pe_s (c_l_shuffle T.ts) hr (pa_cons (pv 1) pa_nil)) (pa_cons (pe_op op_add pe_int (pe_s (c_l_random T.ts.tg) hr (pa_cons (pv 1) (pa_cons pe_int pa_nil)))) pa_nil)) rfl)
    (pss_cons (ps_if (pt_cmpR op_eq (pe_s (c_l_random T.ts.tg) hr (pa_cons (pv 1) (pa_cons pe_int pa_nil))) pe_int (nomark _))
        (pss_one (ps_par (i := 2) (j := 3) rfl sc_law.nd rfl rfl (by decide) rfl rfl (pa_cons (pe_lc (own := [("_law_low", 15), ("_law_high", 16)]) (g := gTup K 2 (gCons (gName 15) (gCons (gName 16) gNil))) (tt := tYes) rfl sc_law.nd (pi_list (pv 2)) (blkOk_by (N := NLw) (sc := defScope s_law) (own := [("_law_low", 15), ("_law_high", 16)]) (by decide +kernel)) (fun _ _ _ _ _ => pg_tup rfl (pgs_cons (pg_name (i := 15) sc_law.nd rfl (.inl rfl)) (pgs_cons (pg_name (i := 16) sc_law.nd rfl (.inl rfl)) pgs_nil))) (fun _ _ _ _ _ => pts_nil) (fun _ _ _ _ _ => (pe_tup (pa_cons (pe_op op_sub pe_int (pv 15)) (pa_cons (pe_op op_sub pe_int (pv 16)) pa_nil))))) (pa_cons (pe_s (c_l_random T.ts.tg) hr (pa_cons (pv 1) (pa_cons pe_int pa_nil))) pa_nil)) rfl))
        pss_nil)
    (pss_cons (ps_par (i := 4) (j := 5) rfl sc_law.nd rfl rfl (by decide) rfl rfl (pa_cons (pe_s (c_l_rule T.tr) hr (pa_cons (pv 2) (pa_cons (pv 3) pa_nil))) (pa_cons (pe_s (c_l_random T.ts.tg) hr (pa_cons (pv 1) (pa_cons pe_int pa_nil))) pa_nil)) rfl)
    (pss_cons (ps_set (i := 6) sc_law.nd rfl (.inl rfl) (pe_lst (pa_cons (pv 4) (pa_cons (pe_revL (pv 4)) (pa_cons (pe_slice sl_list (pv 4) (po_some pe_int) po_none) (pa_cons (pe_slice sl_list (pv 4) po_none (po_some (pe_un un_neg pe_int))) (pa_cons (pe_op op_cat (pv 4) (pe_lst (pa_cons (pe_tup (pa_cons (pv 5) (pa_cons (pv 5) pa_nil))) pa_nil))) (pa_cons (pe_op op_cat (pe_lst (pa_cons (pe_tup (pa_cons (pv 3) (pa_cons (pv 5) pa_nil))) pa_nil)) (pv 4)) (pa_cons (pe_op op_cat (pv 4) (pe_lst (pa_cons (pe_tup (pa_cons (pv 3) (pa_cons (pv 5) pa_nil))) pa_nil))) (pa_cons (pe_op op_cat (pe_lst (pa_cons (pe_tup (pa_cons pe_int (pa_cons (pv 5) pa_nil))) pa_nil)) (pv 4)) (pa_cons (pe_op op_cat (pv 4) (pe_lst (pa_cons (pe_tup (pa_cons (pv 5) (pa_cons pe_int pa_nil))) pa_nil))) (pa_cons (pe_lst pa_nil) (pa_cons (pe_op op_cat (pv 4) (pv 4)) pa_nil)))))))))))))
    (pss_cons (ps_set (i := 7) sc_law.nd rfl (.inl rfl) (pe_lst pa_nil))
    (pss_cons (ps_for PassesOwn.never rfl (pi_range1 (by rfl) T.ts.tg.b_range (pa_cons pe_int pa_nil)) (pg_name (i := 8) sc_law.nd rfl (.inl rfl))
        (pss_one (ps_expr (pe_bm PySem.F.plainAttrs_list PySem.F.slot_list_append PySem.F.type_list_append mt_append (pv 7) (pa_cons (pe_tup (pa_cons (pe_s (c_l_random T.ts.tg) hr (pa_cons (pv 1) (pa_cons pe_int pa_nil))) (pa_cons (pe_s (c_l_random T.ts.tg) hr (pa_cons (pv 1) (pa_cons pe_int pa_nil))) pa_nil))) pa_nil)))))
    (pss_cons (ps_set (i := 6) sc_law.nd rfl (.inl rfl) (pe_op op_cat (pv 6) (pe_lst (pa_cons (pv 7) (pa_cons (pe_op op_cat (pv 4) (pv 7)) (pa_cons (pe_op op_cat (pe_op op_cat (pe_lst (pa_cons (pe_tup (pa_cons pe_int (pa_cons (pv 5) pa_nil))) (pa_cons (pe_tup (pa_cons (pv 5) (pa_cons pe_int pa_nil))) pa_nil))) (pv 4)) (pe_lst (pa_cons (pe_tup (pa_cons pe_int (pa_cons pe_int pa_nil))) pa_nil))) pa_nil))))))
    (pss_cons (ps_for PassesOwn.never rfl (pi_list (pv 6)) (pg_name (i := 9) sc_law.nd rfl (.inl rfl))
        (pss_cons (ps_par3 (i := 10) (j := 11) (l := 12) rfl sc_law.nd rfl rfl rfl (by decide) (by decide) (by decide) rfl rfl rfl (pa_cons (pe_s (c_l_due T.td) hr (pa_cons (pv 2) (pa_cons (pv 3) (pa_cons (pv 9) pa_nil)))) (pa_cons (pe_callTy call_list_of (by rfl) T.td.b_list (by decide +kernel) (pa_cons (pv 9) pa_nil)) (pa_cons (pe_callTy call_list_of (by rfl) T.td.b_list (by decide +kernel) (pa_cons (pv 2) pa_nil)) pa_nil))) rfl)
        (pss_one (ps_if (PW.pt (pw_or (pt_cmpR op_ne (pe_callB (call_repr ga) (by rfl) T.b_repr (by decide +kernel) (pa_cons (pe_s (c_is_moves T.tm) hr (pa_cons (pv 12) (pa_cons (pv 3) (pa_cons (pv 9) pa_nil)))) pa_nil)) (pe_callB (call_repr ga) (by rfl) T.b_repr (by decide +kernel) (pa_cons (pv 10) pa_nil)) (nomark _)) (pw_or (pt_cmpR op_ne (pe_k0 (k_is_moves T.tm) hr (pk_cons (pv 9) (pk_cons (pv 3) (pk_cons (pv 12) pk_nil)))) (pv 10) (nomark _)) (pw_or1 (pt_cmpR (op_neD hr.units) (pe_lst (pa_cons (pv 9) (pa_cons (pv 12) pa_nil))) (pe_lst (pa_cons (pv 11) (pa_cons (pv 2) pa_nil))) (nomark _))))))
            (pss_one (ps_ret pe_bl))
            pss_nil))))
    (pss_cons (ps_set (i := 13) sc_law.nd rfl (.inl rfl) (pe_lst (pa_cons pe_non (pa_cons (pe_callTy call_tuple_of (by rfl) T.tm.b_tuple (by decide +kernel) (pa_cons (pv 4) pa_nil)) (pa_cons pe_str (pa_cons pe_dnewK (pa_cons (pe_op op_cat (pv 4) (pe_lst (pa_cons pe_non pa_nil))) (pa_cons (pe_op op_cat (pv 4) (pe_lst (pa_cons (pe_lst (pa_cons pe_int (pa_cons pe_int pa_nil))) pa_nil))) (pa_cons (pe_op op_cat (pv 4) (pe_lst (pa_cons (pe_tup (pa_cons pe_int pa_nil)) pa_nil))) (pa_cons (pe_op op_cat (pv 4) (pe_lst (pa_cons (pe_tup (pa_cons pe_int (pa_cons pe_int (pa_cons pe_int pa_nil)))) pa_nil))) (pa_cons (pe_op op_cat (pv 4) (pe_lst (pa_cons (pe_tup (pa_cons pe_int (pa_cons pe_bl pa_nil))) pa_nil))) (pa_cons (pe_op op_cat (pv 4) (pe_lst (pa_cons (pe_tup (pa_cons (pe_un un_neg pe_int) (pa_cons pe_int pa_nil))) pa_nil))) pa_nil))))))))))))
    (pss_cons (ps_for PassesOwn.never rfl (pi_list (pe_op op_cat (pv 13) (pe_lst (pa_cons (pe_op op_cat (pv 4) (pe_lst (pa_cons (pe_tup (pa_cons pe_int (pa_cons pe_int pa_nil))) pa_nil))) (pa_cons (pe_op op_cat (pv 4) (pe_lst (pa_cons (pe_tup (pa_cons pe_str (pa_cons pe_int pa_nil))) pa_nil))) (pa_cons (pe_op op_cat (pv 4) (pe_lst (pa_cons (pe_tup (pa_cons (pe_lst pa_nil) (pa_cons pe_int pa_nil))) pa_nil))) (pa_cons (pe_op op_cat (pv 4) (pe_lst (pa_cons (pe_tup (pa_cons pe_int (pa_cons pe_dnewK pa_nil))) pa_nil))) pa_nil))))))) (pg_name (i := 14) sc_law.nd rfl (.inl rfl))
        (pss_one (ps_if (pt_cmpR op_notBl (pe_s (c_is_moves T.tm) hr (pa_cons (pv 2) (pa_cons (pv 3) (pa_cons (pv 14) pa_nil)))) pe_bl (nomark _))
            (pss_one (ps_ret pe_bl))
            pss_nil)))
    (pss_cons (ps_if (PW.pt (pw_or (pt_cmpR op_notBl (pe_s (c_is_moves T.tm) hr (pa_cons (pe_lst (pa_cons (pe_tup (pa_cons pe_int (pa_cons pe_int pa_nil))) pa_nil)) (pa_cons pe_int (pa_cons (pe_lst (pa_cons (pe_tup (pa_cons pe_int (pa_cons pe_int pa_nil))) (pa_cons (pe_tup (pa_cons pe_int (pa_cons pe_int pa_nil))) pa_nil))) pa_nil)))) pe_bl (nomark _)) (pw_or (pt_cmpR op_notBl (pe_s (c_is_moves T.tm) hr (pa_cons (pe_lst pa_nil) (pa_cons pe_int (pa_cons (pe_lst (pa_cons (pe_tup (pa_cons pe_int (pa_cons pe_int pa_nil))) pa_nil)) pa_nil)))) pe_bl (nomark _)) (pw_or1 (pt_cmpR op_notBl (pe_s (c_is_moves T.tm) hr (pa_cons (pe_lst pa_nil) (pa_cons pe_int (pa_cons (pe_lst (pa_cons (pe_tup (pa_cons pe_int (pa_cons pe_int pa_nil))) pa_nil)) pa_nil)))) pe_bl (nomark _))))))
        (pss_one (ps_ret pe_bl))
        pss_nil)
    (pss_one (ps_ret (pe_and (pe_cmpR op_isBl (pe_s (c_is_moves T.tm) hr (pa_cons (pe_lst (pa_cons (pe_tup (pa_cons pe_int (pa_cons pe_int pa_nil))) (pa_cons (pe_tup (pa_cons pe_int (pa_cons pe_int pa_nil))) pa_nil))) (pa_cons pe_int (pa_cons (pe_lst (pa_cons (pe_tup (pa_cons pe_int (pa_cons pe_int pa_nil))) (pa_cons (pe_tup (pa_cons pe_int (pa_cons pe_int pa_nil))) pa_nil))) pa_nil)))) pe_bl (nomark _)) (pe_one (pe_cmpR op_isBl (pe_s (c_is_moves T.tm) hr (pa_cons (pe_lst (pa_cons (pe_tup (pa_cons pe_int (pa_cons pe_int pa_nil))) pa_nil)) (pa_cons pe_int (pa_cons (pe_op op_rep (pe_lst (pa_cons (pe_tup (pa_cons pe_int (pa_cons pe_int pa_nil))) pa_nil)) pe_int) pa_nil)))) pe_bl (nomark _)))))))))))))))))), ?_⟩
  obtain ⟨p, ns, rfl, hp, q⟩ := h
  have hu' : (A.deeper (envOfC "law" (defScope s_law) st.heap.objs.size f cdv)).units + 200 < cLine := by
    have := hr.un
    omega
  refine ⟨_, rfl, p, ns, 0, rfl, hp, by decide, by decide, fun g a0 sd H1 ng s1 hg => ?_⟩
  have G1 : Gn g sd 0 0 H1 := ⟨a0, _, hg, by decide, by decide⟩
  refine ⟨_, rfl, g, sd, 0, 0, rfl, G1, by decide, by decide, fun sh ps H2 nsh dsh low nd l6 G2 k2 => ?_⟩
  refine ⟨_, rfl, draw G2 (by decide) (by decide) (by decide) (by decide) fun r1 H3 r10 r11 G3 k3 => ⟨_, _, rfl, rfl, _, _, rfl, ?_⟩⟩
  have dsh3 := dsh.same k3.hid _
  refine ⟨_, rfl, draw G3 (by decide) (by decide) (by decide) (by decide) fun r2 H4 r20 r21 G4 k4 => ⟨rfl, _, rfl, ?_⟩⟩
  have dsh4 := dsh3.same k4.hid _
  clear dsh dsh3 k2 k3 k4 G1 G2 G3 s1 ng hg hp
  by_cases e0 : r2 = 0
  case' pos =>
    subst e0
    rw [decide_eq_true rfl]
    refine iteT ?_
    obtain ⟨xs, esh, rsh⟩ := DT.lst' dsh4
    have hsh := (hid_out esh).2
    have lx := rsh.length
    rw [List.length_map] at lx
    refine ⟨_, rfl, _, rfl, ⟨_, SqL.of hsh⟩, fun L nL => ?_⟩
    have nLg : L ≠ g := G4.some nL
    refine lc_it (walk_list (K := K) (a := sh) (xs := xs)) (fun j H' => Same H4 H' ∧ ∃ acc, H' L = some (.lst acc) ∧ DTs (hid [g, L] H') acc (((ps.take j).map flipP).map pairD)) ⟨same_new nL, [], upd_same, .nil⟩ (fun i H' _ z => SqL.of (z.1 _ _ hsh)) ?_ ?_
    · rintro j x H5 H6 hj ⟨s5, acc, hb, da⟩ ⟨rfl, hx⟩
      obtain ⟨pr, t, hp, rfl, ht⟩ := pair_at rsh hx
      have ht5 := s5 _ _ (hid_out ht).2
      have lac := da.length
      rw [List.length_map, List.length_map, List.length_take] at lac
      refine ⟨t, _, rfl, SqT.of ht5, rfl, _, _, rfl, _, _, rfl, rfl, rfl, ?_⟩
      refine ⟨_, rfl, _, _, rfl, rfl, _, rfl, _, _, rfl, rfl, (show 2 ≤ sizeLine by decide), fun tt ntt => ?_⟩
      have ntL : tt ≠ L := (ne_of_none hb ntt).symm
      have ntg : tt ≠ g := (G4.same s5).some ntt
      refine ⟨acc, same_new ntt _ _ hb, small1000' (by omega), ?_, _, upd_same, ?_⟩
      · intro b o e
        rw [upd_ne (ne_of_none e nL)]
        exact same_new ntt _ _ (s5 _ _ e)
      · have e1 : (ps.take (j + 1)) = ps.take j ++ [pr] := by rw [List.take_add_one, hp]; rfl
        rw [e1, List.map_append, List.map_append]
        have kk : Keep [g, L] H6 (upd (upd H6 tt (.tup [.int (99 - pr.1), .int (99 - pr.2)])) L (.lst (acc ++ [.ref tt]))) := by
          intro b o nb e
          rw [upd_ne (fun z => nb (by simp [z]))]
          exact same_new ntt _ _ e
        exact DTs.snoc (da.same kk.hid _) (.tup (hid_at (by simp [ntL, ntg]) (by rw [upd_ne ntL]; exact upd_same)) (.cons (.int _) (.cons (.int _) .nil)))
    rintro H5 ⟨s5, acc, hb, da⟩
    rw [lx, List.take_length] at da
    have dL : DT (hid [g] H5) (.ref L) (rowD (ps.map flipP)) := .lst (hid_at (nin1 nLg) hb) (da.same (hid_mono (by simp)) _)
    refine ⟨_, rfl, draw (G4.same s5) (by decide) (by decide) (by decide) (by decide) fun r3 H6 r30 r31 G6 k6 => ⟨_, _, rfl, ?_⟩⟩
    have dsh' := dL.same k6.hid _
    have S := flip_shuf low nd l6
    have Fr := flip_free low ⟨r30, r31⟩
    have l6' : (ps.map flipP).length ≤ 6 := by rw [List.length_map]; exact l6
    have G6 := G6.mono (show _ ≤ 1000 by omega)
    clear dsh4 esh rsh hsh lx nL nLg s5 hb da dL k6
    generalize ps.map flipP = ps' at dsh' S Fr l6'
    generalize r3 = s at Fr ⊢
    generalize L = sh' at dsh' ⊢
  case' neg =>
    rw [decide_eq_false (fun z => e0 (V.int.inj z))]
    refine iteF ?_
    have S := low_shuf low nd l6
    have Fr := low_free (s := 6 + r1) low (by omega)
    have l6' := l6
    have dsh' := dsh4
    have G6 := G4.mono (show _ ≤ 1000 by omega)
    obtain ⟨H6, e6⟩ : ∃ H6, H6 = H4 := ⟨_, rfl⟩
    rw [← e6] at G6 dsh' ⊢
    obtain ⟨ps', ep⟩ : ∃ ps', ps' = ps := ⟨_, rfl⟩
    rw [← ep] at S Fr l6' dsh'
    dsimp only
    generalize 6 + r1 = s at Fr ⊢
    generalize sh = sh' at dsh' ⊢
  all_goals
    have nl6 := l6'
    refine ⟨_, rfl, _, rfl, .ref sh', ps', s, rfl, dsh'.same hid_same _, S, Fr, l6', fun rw row H7 nrw drw inp l12 s7 => ?_⟩
    have nrg : rw ≠ g := G6.some nrw
    have G7 := G6.same s7
    have drw7 : DT (hid [g] H7) (.ref rw) (rowD row) := by
      obtain ⟨a1, t1, eg, _⟩ := G7
      exact dt_hide eg (fun xs z => by cases z) nrg drw
    have dsh7 := dsh'.same (hidS s7) _
    refine ⟨_, rfl, draw G7 (by decide) (by decide) (by decide) (by decide) fun o H8 o0 o1 G8 k8 => ⟨_, _, rfl, ?_⟩⟩
    have dsh8 := dsh7.same k8.hid _
    obtain ⟨racc, erw, dr8⟩ := DT.lst' (drw7.same k8.hid _)
    have hr8 := (hid_out erw).2
    have lr8 := dr8.length
    rw [List.length_map] at lr8
    have g8 : ∃ o, H8 g = some o := by
      obtain ⟨a1, t1, eg, _⟩ := G8
      exact ⟨_, eg⟩
    clear dsh' dsh7 drw drw7 nrw G6 G7 k8 s7 erw
    refine ⟨_, rfl, ?_⟩
    refine ⟨_, rfl, rw, _, rfl, SqL.of hr8, fun z9 n9 => ?_⟩
    generalize e9 : upd _ z9 _ = H9
    obtain ⟨s9, d9⟩ := dt_lst g8 n9 dr8.rev
    rw [e9] at s9 d9
    clear e9 n9
    have hr9 := s9 _ _ hr8
    have dr9 := dr8.same (hidS s9) _
    have g9 := ex_same g8 s9
    refine ⟨_, rfl, 1, rfl, rw, _, rfl, SqL.of hr9, fun z10 n10 => ?_⟩
    rw [cut_d1]
    generalize e10 : upd _ z10 _ = H10
    obtain ⟨s10, d10⟩ := dt_lst g9 n10 (dr9.dropd 1)
    rw [e10] at s10 d10
    clear e10 n10
    have hr10 := s10 _ _ hr9
    have dr10 := dr9.same (hidS s10) _
    have g10 := ex_same g9 s10
    refine ⟨_, rfl, _, rfl, _, rfl, rw, _, rfl, SqL.of hr10, fun z11 n11 => ?_⟩
    rw [show -(1 : Int) = -1 from rfl, cut_l1]
    generalize e11 : upd _ z11 _ = H11
    obtain ⟨s11, d11⟩ := dt_lst g10 n11 (dr10.taked _)
    rw [e11] at s11 d11
    clear e11 n11
    have hr11 := s11 _ _ hr10
    have dr11 := dr10.same (hidS s11) _
    have g11 := ex_same g10 s11
    refine ⟨_, rfl, _, rfl, _, rfl, (show 2 ≤ sizeLine by decide), fun t nt => ⟨(show 1 ≤ sizeLine by decide), fun l nl => ⟨rw, l, racc, _, rfl, rfl, same_new nl _ _ (same_new nt _ _ hr11), upd_same, Nat.le_of_lt (small1000' (by simp only [List.length_append, List.length_cons, List.length_nil]; omega)), fun z12 n12 => ?_⟩⟩⟩
    generalize e12 : upd _ z12 _ = H12
    obtain ⟨s12, d12⟩ := dt_cat1 g11 dr11 nt nl n12
    rw [e12] at s12 d12
    clear e12 n12
    have hr12 := s12 _ _ hr11
    have dr12 := dr11.same (hidS s12) _
    have g12 := ex_same g11 s12
    refine ⟨_, rfl, _, rfl, (show 2 ≤ sizeLine by decide), fun t nt => ⟨(show 1 ≤ sizeLine by decide), fun l nl => ⟨_, rfl, l, rw, _, racc, rfl, rfl, upd_same, same_new nl _ _ (same_new nt _ _ hr12), Nat.le_of_lt (small1000' (by simp only [List.length_append, List.length_cons, List.length_nil]; omega)), fun z13 n13 => ?_⟩⟩⟩
    generalize e13 : upd _ z13 _ = H13
    obtain ⟨s13, d13⟩ := dt_1cat g12 dr12 nt nl n13
    rw [e13] at s13 d13
    clear e13 n13
    have hr13 := s13 _ _ hr12
    have dr13 := dr12.same (hidS s13) _
    have g13 := ex_same g12 s13
    refine ⟨_, rfl, _, rfl, _, rfl, (show 2 ≤ sizeLine by decide), fun t nt => ⟨(show 1 ≤ sizeLine by decide), fun l nl => ⟨rw, l, racc, _, rfl, rfl, same_new nl _ _ (same_new nt _ _ hr13), upd_same, Nat.le_of_lt (small1000' (by simp only [List.length_append, List.length_cons, List.length_nil]; omega)), fun z14 n14 => ?_⟩⟩⟩
    generalize e14 : upd _ z14 _ = H14
    obtain ⟨s14, d14⟩ := dt_cat1 g13 dr13 nt nl n14
    rw [e14] at s14 d14
    clear e14 n14
    have hr14 := s14 _ _ hr13
    have dr14 := dr13.same (hidS s14) _
    have g14 := ex_same g13 s14
    refine ⟨_, rfl, (show 2 ≤ sizeLine by decide), fun t nt => ⟨(show 1 ≤ sizeLine by decide), fun l nl => ⟨_, rfl, l, rw, _, racc, rfl, rfl, upd_same, same_new nl _ _ (same_new nt _ _ hr14), Nat.le_of_lt (small1000' (by simp only [List.length_append, List.length_cons, List.length_nil]; omega)), fun z15 n15 => ?_⟩⟩⟩
    generalize e15 : upd _ z15 _ = H15
    obtain ⟨s15, d15⟩ := dt_1cat g14 dr14 nt nl n15
    rw [e15] at s15 d15
    clear e15 n15
    have hr15 := s15 _ _ hr14
    have dr15 := dr14.same (hidS s15) _
    have g15 := ex_same g14 s15
    refine ⟨_, rfl, _, rfl, (show 2 ≤ sizeLine by decide), fun t nt => ⟨(show 1 ≤ sizeLine by decide), fun l nl => ⟨rw, l, racc, _, rfl, rfl, same_new nl _ _ (same_new nt _ _ hr15), upd_same, Nat.le_of_lt (small1000' (by simp only [List.length_append, List.length_cons, List.length_nil]; omega)), fun z16 n16 => ?_⟩⟩⟩
    generalize e16 : upd _ z16 _ = H16
    obtain ⟨s16, d16⟩ := dt_cat1 g15 dr15 nt nl n16
    rw [e16] at s16 d16
    clear e16 n16
    have hr16 := s16 _ _ hr15
    have dr16 := dr15.same (hidS s16) _
    have g16 := ex_same g15 s16
    refine ⟨Nat.zero_le _, fun z17 n17 => ?_⟩
    generalize e17 : upd _ z17 _ = H17
    obtain ⟨s17, d17⟩ := dt_lst (ds := []) g16 n17 .nil
    rw [e17] at s17 d17
    clear e17 n17
    have hr17 := s17 _ _ hr16
    have dr17 := dr16.same (hidS s17) _
    have g17 := ex_same g16 s17
    refine ⟨_, rfl, _, rfl, rw, rw, racc, racc, rfl, rfl, hr17, hr17, Nat.le_of_lt (small1000' (by omega)), fun z18 n18 => ?_⟩
    generalize e18 : upd _ z18 _ = H18
    obtain ⟨s18, d18⟩ := dt_lst g17 n18 (DTs.app dr17 dr17)
    rw [e18] at s18 d18
    clear e18 n18
    have hr18 := s18 _ _ hr17
    have dr18 := dr17.same (hidS s18) _
    have g18 := ex_same g17 s18
    refine ⟨(show 11 ≤ sizeLine by decide), fun rl nrl => ?_⟩
    have u9 : Same H9 H18 := ((((((((s10).trans s11).trans s12).trans s13).trans s14).trans s15).trans s16).trans s17).trans s18
    have u10 : Same H10 H18 := (((((((s11).trans s12).trans s13).trans s14).trans s15).trans s16).trans s17).trans s18
    have u11 : Same H11 H18 := ((((((s12).trans s13).trans s14).trans s15).trans s16).trans s17).trans s18
    have u12 : Same H12 H18 := (((((s13).trans s14).trans s15).trans s16).trans s17).trans s18
    have u13 : Same H13 H18 := ((((s14).trans s15).trans s16).trans s17).trans s18
    have u14 : Same H14 H18 := (((s15).trans s16).trans s17).trans s18
    have u15 : Same H15 H18 := ((s16).trans s17).trans s18
    have u16 : Same H16 H18 := (s17).trans s18
    have u17 : Same H17 H18 := s18
    obtain ⟨rs, ers⟩ : ∃ rs : List (List Pr), rs = [row, row.reverse, row.drop 1, row.take (racc.length - 1), row ++ [(o, o)], (s, o) :: row, row ++ [(s, o)], (98, o) :: row, row ++ [(o, 98)], [], row ++ row] := ⟨_, rfl⟩
    have drs : DTs (hid [g] H18) [.ref rw, .ref z9, .ref z10, .ref z11, .ref z12, .ref z13, .ref z14, .ref z15, .ref z16, .ref z17, .ref z18] (rs.map rowD) := by
      rw [ers]
      have e9 : rowD row.reverse = .list (row.map pairD).reverse := by rw [rowD, List.map_reverse]
      have e10 : rowD (row.drop 1) = .list ((row.map pairD).drop 1) := by rw [rowD, List.map_drop]
      have e11 : rowD (row.take (racc.length - 1)) = .list ((row.map pairD).take (racc.length - 1)) := by rw [rowD, List.map_take]
      have e18 : rowD (row ++ row) = .list (row.map pairD ++ row.map pairD) := by rw [rowD, List.map_append]
      simp only [List.map_cons, List.map_nil, e9, e10, e11, e18]
      exact .cons (.lst (hid_at (nin1 nrg) hr18) dr18) (.cons (d9.same (hidS u9) _) (.cons (d10.same (hidS u10) _) (.cons (d11.same (hidS u11) _) (.cons (d12.same (hidS u12) _) (.cons (d13.same (hidS u13) _) (.cons (d14.same (hidS u14) _) (.cons (d15.same (hidS u15) _) (.cons (d16.same (hidS u16) _) (.cons (d17.same (hidS u17) _) (.cons d18 .nil))))))))))
    have s818 : Same H8 H18 := (((((((((s9).trans s10).trans s11).trans s12).trans s13).trans s14).trans s15).trans s16).trans s17).trans s18
    have G18 := G8.same s818
    have dsh18 := dsh8.same (hidS s818) _
    have rsin : ∀ r ∈ rs, (∀ p ∈ r, InP p) ∧ r.length ≤ 24 := by
      have io : InP (o, o) := ⟨⟨o0, by show o < 100; omega⟩, o0, by show o < 100; omega⟩
      have iso : InP (s, o) := ⟨Fr.1, o0, by show o < 100; omega⟩
      have i8o : InP (98, o) := ⟨⟨(show (0 : Int) ≤ 98 by decide), (show (98 : Int) < 100 by decide)⟩, o0, by show o < 100; omega⟩
      have io8 : InP (o, 98) := ⟨⟨o0, by show o < 100; omega⟩, (show (0 : Int) ≤ 98 by decide), (show (98 : Int) < 100 by decide)⟩
      have cn : ∀ (q : Pr), InP q → ∀ p ∈ q :: row, InP p := fun q hq p hp => (List.mem_cons.mp hp).elim (fun e => e ▸ hq) (inp p)
      intro r hr
      rw [ers] at hr
      simp only [List.mem_cons, List.not_mem_nil, or_false] at hr
      rcases hr with rfl | rfl | rfl | rfl | rfl | rfl | rfl | rfl | rfl | rfl | rfl
      · exact ⟨inp, by omega⟩
      · exact ⟨fun p hp => inp p (List.mem_reverse.mp hp), by rw [List.length_reverse]; omega⟩
      · exact ⟨fun p hp => inp p (List.mem_of_mem_drop hp), by rw [List.length_drop]; omega⟩
      · exact ⟨fun p hp => inp p (List.mem_of_mem_take hp), by rw [List.length_take]; omega⟩
      · exact ⟨rin_add inp io, by rw [List.length_append, List.length_singleton]; omega⟩
      · exact ⟨cn _ iso, by rw [List.length_cons]; omega⟩
      · exact ⟨rin_add inp iso, by rw [List.length_append, List.length_singleton]; omega⟩
      · exact ⟨cn _ i8o, by rw [List.length_cons]; omega⟩
      · exact ⟨rin_add inp io8, by rw [List.length_append, List.length_singleton]; omega⟩
      · exact ⟨fun p hp => (by cases hp), Nat.zero_le _⟩
      · exact ⟨fun p hp => (List.mem_append.mp hp).elim (inp p) (inp p), by rw [List.length_append]; omega⟩
    have lrs : rs.length = 11 := by rw [ers]; rfl
    clear ers u9 u10 u11 u12 u13 u14 u15 u16 u17 d9 d10 d11 d12 d13 d14 d15 d16 d17 d18 hr8 hr9 hr10 hr11 hr12 hr13 hr14 hr15 hr16 hr17 dr8 dr9 dr10 dr11 dr12 dr13 dr14 dr15 dr16 dr17 g8 g9 g10 g11 g12 g13 g14 g15 g16 g17 dsh8 G8 s818
    have nrlg : rl ≠ g := new_g g18 nrl
    have s19 := same_new (o := .lst [.ref rw, .ref z9, .ref z10, .ref z11, .ref z12, .ref z13, .ref z14, .ref z15, .ref z16, .ref z17, .ref z18]) nrl
    have hrl : (upd H18 rl (.lst [.ref rw, .ref z9, .ref z10, .ref z11, .ref z12, .ref z13, .ref z14, .ref z15, .ref z16, .ref z17, .ref z18])) rl = some (.lst [.ref rw, .ref z9, .ref z10, .ref z11, .ref z12, .ref z13, .ref z14, .ref z15, .ref z16, .ref z17, .ref z18]) := upd_same
    generalize erv : ([.ref rw, .ref z9, .ref z10, .ref z11, .ref z12, .ref z13, .ref z14, .ref z15, .ref z16, .ref z17, .ref z18] : List V) = rv at drs s19 hrl ⊢
    generalize upd H18 rl (.lst rv) = H19 at s19 hrl ⊢
    have drs19 := drs.same (hidS s19) _
    have G19 := G18.same s19
    have dsh19 := dsh18.same (hidS s19) _
    have hr19 := s19 _ _ hr18
    have dr19 := dr18.same (hidS s19) _
    clear erv drs G18 dsh18 hr18 dr18 g18 s19 nrl s9 s10 s11 s12 s13 s14 s15 s16 s17 s18
    refine ⟨Nat.zero_le _, fun dl ndl => ?_⟩
    have ndg : dl ≠ g := G19.some ndl
    have s20 := same_new (o := .lst []) ndl
    refine ⟨4, rfl, by decide, by decide, for_range (n := 4) (fun i σ H' => (∃ x8 : Option V, σ = [some (.ref p), some (.ref g), some (.ref sh'), some (.int s), some (.ref rw), some (.int o), some (.ref rl), some (.ref dl), x8, none, none, none, none, none, none, none, none]) ∧ Keep [g] H19 H' ∧ Gn g sd 0 (2000 + 16 * i) H' ∧ ∃ (acc : List V) (ds : List Pr), H' dl = some (.lst acc) ∧ DTs (hid [g, dl] H') acc (ds.map pairD) ∧ ds.length = i ∧ ∀ q ∈ ds, Low q)
      ⟨⟨_, rfl⟩, same_keep s20, (G19.same s20).mono (by omega), [], [], upd_same, .nil, rfl, fun q hq => (by cases hq)⟩ ?_ ?_⟩
    · rintro i σ H20 hi ⟨⟨x8, rfl⟩, k20, G20, acc, ds, hdl, da, ld, lw⟩
      refine ⟨_, rfl, .inl ⟨rfl, _, SqL.of hdl⟩, ?_⟩
      refine ⟨_, rfl, draw G20 (by decide) (by omega) (by decide) (by decide) fun x H21 x0 x1 G21 k21 => ?_⟩
      refine ⟨_, rfl, draw G21 (by decide) (by omega) (by decide) (by decide) fun y H22 y0 y1 G22 k22 => ?_⟩
      refine ⟨(show 2 ≤ sizeLine by decide), fun t nt => ?_⟩
      have k02 := k21.trans k22
      have hdl2 := k02 _ _ (nin1 ndg) hdl
      have ntg : t ≠ g := G22.some nt
      have ntd : t ≠ dl := (ne_of_none hdl2 nt).symm
      have lac := da.length
      rw [List.length_map] at lac
      refine ⟨dl, acc, _, rfl, rfl, same_new nt _ _ hdl2, small1000' (by omega), ⟨_, rfl⟩, ?_, ?_, acc ++ [.ref t], ds ++ [(x, y)], upd_same, ?_, ?_, ?_⟩
      · intro b o nb e
        rw [upd_ne (ne_of_none e ndl)]
        exact same_new nt _ _ (k02 _ _ nb (k20 _ _ nb e))
      · exact ((G22.new nt).off (Ne.symm ndg)).mono (by omega)
      · rw [List.map_append]
        have kk : Keep [g, dl] H20 (upd (upd H22 t (.tup [.int x, .int y])) dl (.lst (acc ++ [.ref t]))) := by
          intro b o nb e
          rw [upd_ne (fun z => nb (by simp [z]))]
          exact same_new nt _ _ (k02 _ _ (nin1 (fun z => nb (by simp [z]))) e)
        exact DTs.snoc (da.same kk.hid _) (.tup (hid_at (by simp [ntg, ntd]) (by rw [upd_ne ntd]; exact upd_same)) (.cons (.int _) (.cons (.int _) .nil)))
      · rw [List.length_append, ld]
        rfl
      · intro q' hq'
        rcases List.mem_append.mp hq' with hq' | hq'
        · exact lw _ hq'
        · rw [List.mem_singleton.mp hq']
          exact ⟨⟨x0, x1⟩, y0, y1⟩
    rintro σ H20 ⟨⟨x8, rfl⟩, k20, G20, dacc, ds, hdl, dd, ld, lw⟩
    have drs20 := drs19.same k20.hid _
    have dsh20 := (dsh19.same k20.hid _).same hid_same _
    have hr20 := k20 _ _ (nin1 nrg) hr19
    have dr20 := dr19.same k20.hid _
    have hrl20 := k20 _ _ (nin1 nrlg) hrl
    have dd20 : DTs (hid [g] H20) dacc (ds.map pairD) := dd.same (hid_mono (by simp)) _
    have g20 : ∃ o, H20 g = some o := by
      obtain ⟨a1, t1, eg, _⟩ := G20
      exact ⟨_, eg⟩
    have ldd := dd20.length
    rw [List.length_map] at ldd
    clear drs19 dsh19 hr19 dr19 hrl k20 G20 dd s20 G19 ndl
    refine ⟨_, rfl, _, rfl, ?_⟩
    refine ⟨_, rfl, _, rfl, rw, dl, racc, dacc, rfl, rfl, hr20, hdl, Nat.le_of_lt (small1000' (by omega)), fun z21 n21 => ?_⟩
    generalize e21 : upd _ z21 _ = H21
    obtain ⟨s21, d21⟩ := dt_lst g20 n21 (DTs.app dr20 dd20)
    rw [e21] at s21 d21
    clear e21 n21
    have hr21 := s21 _ _ hr20
    have dr21 := dr20.same (hidS s21) _
    have g21 := ex_same g20 s21
    refine ⟨_, rfl, (show 2 ≤ sizeLine by decide), fun t1 nt1 => ?_⟩
    generalize e22 : upd _ t1 _ = H22
    obtain ⟨s22, d22⟩ := dt_pair (a := 98) (b := o) g21 nt1
    rw [e22] at s22 d22
    clear e22
    have hr22 := s22 _ _ hr21
    have dr22 := dr21.same (hidS s22) _
    have g22 := ex_same g21 s22
    refine ⟨_, rfl, (show 2 ≤ sizeLine by decide), fun t2 nt2 => ?_⟩
    generalize e23 : upd _ t2 _ = H23
    obtain ⟨s23, d23⟩ := dt_pair (a := o) (b := 98) g22 nt2
    rw [e23] at s23 d23
    clear e23
    have hr23 := s23 _ _ hr22
    have dr23 := dr22.same (hidS s23) _
    have g23 := ex_same g22 s23
    refine ⟨(show 2 ≤ sizeLine by decide), fun l1 nl1 => ⟨_, rfl, l1, rw, _, racc, rfl, rfl, upd_same, same_new nl1 _ _ hr23, Nat.le_of_lt (small1000' (by simp only [List.length_cons, List.length_nil]; omega)), fun z24 n24 => ?_⟩⟩
    generalize e24 : upd _ z24 _ = H24
    obtain ⟨s24, d24⟩ := dt_ahead (ys := [.ref t1, .ref t2]) g23 dr23 (DTs.app (d22.same (hidS s23) _) d23) nl1 n24
    rw [e24] at s24 d24
    clear e24
    have hr24 := s24 _ _ hr23
    have dr24 := dr23.same (hidS s24) _
    have g24 := ex_same g23 s24
    obtain ⟨zacc, ez, dz⟩ := DT.lst' d24
    have hz24 := (hid_out ez).2
    have lz := dz.length
    rw [List.length_append, List.length_append, List.length_map, List.length_map, List.length_map, List.length_singleton, List.length_singleton] at lz
    refine ⟨(show 2 ≤ sizeLine by decide), fun t3 nt3 => ⟨(show 1 ≤ sizeLine by decide), fun l2 nl2 => ⟨z24, l2, zacc, _, rfl, rfl, same_new nl2 _ _ (same_new nt3 _ _ hz24), upd_same, Nat.le_of_lt (small1000' (by simp only [List.length_cons, List.length_nil]; omega)), fun z25 n25 => ?_⟩⟩⟩
    generalize e25 : upd _ z25 _ = H25
    obtain ⟨s25, d25⟩ := dt_cat1 (r := (98, o) :: (o, 98) :: row) g24 dz nt3 nl2 n25
    rw [e25] at s25 d25
    clear e25
    have hr25 := s25 _ _ hr24
    have dr25 := dr24.same (hidS s25) _
    have g25 := ex_same g24 s25
    have s2025 := (((s21.trans s22).trans s23).trans s24).trans s25
    have lrv := drs20.length
    rw [List.length_map, lrs] at lrv
    refine ⟨(show 3 ≤ sizeLine by decide), fun l3 nl3 => ⟨rl, l3, rv, _, rfl, rfl, same_new nl3 _ _ (s2025 _ _ hrl20), upd_same, Nat.le_of_lt (small1000' (by simp only [List.length_cons, List.length_nil]; omega)), fun rl2 n26 => ?_⟩⟩
    generalize e26 : upd _ rl2 _ = H26
    obtain ⟨s26, d26⟩ := dt_app (es := [rowD ds, .list (row.map pairD ++ ds.map pairD), rowD ((98, o) :: (o, 98) :: row ++ [(98, 98)])]) g25 (drs20.same (hidS s2025) _) (.cons (.lst (hid_at (nin1 ndg) (s2025 _ _ hdl)) (dd20.same (hidS s2025) _)) (.cons (d21.same (hidS (((s22.trans s23).trans s24).trans s25)) _) (.cons d25 .nil))) nl3 n26
    rw [e26] at s26 d26
    clear e26
    have hr26 := s26 _ _ hr25
    have dr26 := dr25.same (hidS s26) _
    have g26 := ex_same g25 s26
    obtain ⟨rs2, ers⟩ : ∃ rs2 : List (List Pr), rs2 = rs ++ [ds, row ++ ds, (98, o) :: (o, 98) :: row ++ [(98, 98)]] := ⟨_, rfl⟩
    have rs2in : ∀ r ∈ rs2, (∀ p ∈ r, InP p) ∧ r.length ≤ 24 := by
      have i8o : InP (98, o) := ⟨⟨(show (0 : Int) ≤ 98 by decide), (show (98 : Int) < 100 by decide)⟩, o0, by show o < 100; omega⟩
      have io8 : InP (o, 98) := ⟨⟨o0, by show o < 100; omega⟩, (show (0 : Int) ≤ 98 by decide), (show (98 : Int) < 100 by decide)⟩
      have i88 : InP (98, 98) := ⟨⟨(show (0 : Int) ≤ 98 by decide), (show (98 : Int) < 100 by decide)⟩, (show (0 : Int) ≤ 98 by decide), (show (98 : Int) < 100 by decide)⟩
      have ids : ∀ p ∈ ds, InP p := fun p hp => by
        have := lw p hp
        unfold Low at this
        unfold InP
        omega
      intro r hr
      rw [ers] at hr
      rcases List.mem_append.mp hr with hr | hr
      · exact rsin r hr
      simp only [List.mem_cons, List.not_mem_nil, or_false] at hr
      rcases hr with rfl | rfl | rfl
      · exact ⟨ids, by omega⟩
      · exact ⟨fun p hp => (List.mem_append.mp hp).elim (inp p) (ids p), by rw [List.length_append]; omega⟩
      · refine ⟨rin_add (fun p hp => ?_) i88, by simp only [List.length_append, List.length_cons, List.length_nil]; omega⟩
        rcases List.mem_cons.mp hp with rfl | hp
        · exact i8o
        · exact (List.mem_cons.mp hp).elim (fun e => e ▸ io8) (inp p)
    have drl : DT (hid [g] H26) (.ref rl2) (.list (rs2.map rowD)) := by
      rw [ers, List.map_append]
      have e1 : rowD (row ++ ds) = .list (row.map pairD ++ ds.map pairD) := by rw [rowD, List.map_append]
      simp only [List.map_cons, List.map_nil, e1]
      exact d26
    obtain ⟨rv2, erl, drv⟩ := DT.lst' drl
    have hrl2 := (hid_out erl).2
    have drv := drv.same hid_same _
    have s2026 := s2025.trans s26
    have dsh26 := dsh20.same s2026 _
    have lrs2 : rs2.length = 14 := by
      rw [ers, List.length_append, lrs]
      rfl
    have lrv2 := drv.length
    rw [List.length_map, lrs2] at lrv2
    clear ers drl erl d21 d22 d23 d24 d25 d26 dr20 dr21 dr22 dr23 dr24 dr25 hr20 hr21 hr22 hr23 hr24 hr25 g20 g21 g22 g23 g24 g25 s21 s22 s23 s24 s25 s26 s2025 s2026 drs20 dsh20 ez dz hz24 hrl20 hdl dd20
    refine ⟨_, rfl, _, rfl, ⟨_, SqL.of hrl2⟩, for_list (xs := rv2) (fun i σ H' => (∃ x8 x9 x10 x11 x12 : Option V, σ = [some (.ref p), some (.ref g), some (.ref sh'), some (.int s), some (.ref rw), some (.int o), some (.ref rl2), some (.ref dl), x8, x9, x10, x11, x12, none, none, none, none]) ∧ Same H26 H')
      ⟨⟨_, _, _, _, _, rfl⟩, Same.refl _⟩ (fun i σ H' _ z => SqL.of (z.2 _ _ hrl2)) ?_ ?_⟩
    · rintro i x σ H27 hx ⟨⟨x8, x9, x10, x11, x12, rfl⟩, s27⟩
      have hi := (List.getElem?_eq_some_iff.mp hx).1
      have hri : rs2[i]? = some (rs2[i]'(by omega)) := List.getElem?_eq_getElem (by omega)
      have hrm : rs2[i]'(by omega) ∈ rs2 := List.getElem_mem _
      have dx := drv.get hx (show (rs2.map rowD)[i]? = some (rowD (rs2[i]'(by omega))) by rw [List.getElem?_map, hri]; rfl)
      generalize rs2[i]'(by omega) = r at hri hrm dx
      obtain ⟨inr, lr24⟩ := rs2in r hrm
      obtain ⟨v, vacc, rfl, hv, dv⟩ := DT.refl' dx
      obtain ⟨shacc, hsh, dsha⟩ := DT.lst' dsh26
      have hv27 := s27 _ _ hv
      have dv27 := dv.same s27 _
      have hsh27 := s27 _ _ hsh
      have dsh27 := dsha.same s27 _
      refine ⟨_, rfl, _, rfl, _, rfl, .ref sh', .ref v, ps', r, s, rfl, .lst hsh27 dsh27, .lst hv27 dv27, S, inr, by omega, fun H28 s28 => ?_⟩
      refine ⟨_, rfl, v, vacc, rfl, .inl (SqL.of (s28 _ _ hv27)), fun kp nkp => ?_⟩
      have s29 := same_new (o := .lst vacc) nkp
      refine ⟨_, rfl, sh', shacc, rfl, .inl (SqL.of (s29 _ _ (s28 _ _ hsh27))), fun gv ngv => ⟨_, _, _, rfl, ?_⟩⟩
      have s30 := same_new (o := .lst shacc) ngv
      have sA := (s28.trans s29).trans s30
      have hkp := s30 _ _ (upd_same (H := H28) (a := kp) (o := .lst vacc))
      have hgv : (upd (upd H28 kp (.lst vacc)) gv (.lst shacc)) gv = some (.lst shacc) := upd_same
      generalize upd (upd H28 kp (.lst vacc)) gv (.lst shacc) = H30 at sA hkp hgv ⊢
      have dv30 : DT H30 (.ref v) (rowD r) := .lst (sA _ _ hv27) (dv27.same sA _)
      have dk30 : DT H30 (.ref kp) (rowD r) := .lst hkp (dv27.same sA _)
      have ds30 : DT H30 (.ref sh') (rowD ps') := .lst (sA _ _ hsh27) (dsh27.same sA _)
      have dg30 : DT H30 (.ref gv) (rowD ps') := .lst hgv (dsh27.same sA _)
      have s2630 := s27.trans sA
      have em : movesD ps' s (rowD r) = doneB ps' s r := movesD_pairs inr
      have sml : ∀ ds, rowD r = .list ds → ds.length < 1000 := fun ds e => by
        have := PyData.list.inj e
        rw [← this, List.length_map]
        omega
      refine ⟨_, rfl, _, rfl, _, rfl, .ref gv, .ref v, ps', s, rowD r, rfl, dg30, S, Fr, dv30, sml, fun H31 s31 => ?_⟩
      rw [em]
      refine r_fits (.bl _) (fits_bool _) (by decide) (by decide) hu' ⟨_, rfl, r_fits (.bl _) (fits_bool _) (by decide) (by decide) hu' ⟨rfl, _, rfl, neN ?_⟩⟩
      refine ⟨_, rfl, _, rfl, _, rfl, .ref gv, .ref v, ps', s, rowD r, rfl, dg30.same s31 _, S, Fr, dv30.same s31 _, sml, fun H32 s32 => ?_⟩
      rw [em]
      refine ⟨_, rfl, rfl, _, rfl, neN ?_⟩
      have s3032 := s31.trans s32
      refine ⟨_, rfl, _, rfl, (show 2 ≤ sizeLine by decide), fun a1 m1 => ⟨_, rfl, _, rfl, (show 2 ≤ sizeLine by decide), fun a2 m2 => ?_⟩⟩
      have s33 := same_new (o := .lst [.ref v, .ref gv]) m1
      have s34 := same_new (o := .lst [.ref kp, .ref sh']) m2
      have ok := okd_two (r := r) (p := ps') (by omega) (by omega)
      have sB := (s3032.trans s33).trans s34
      refine ⟨.list [rowD r, rowD ps'], .list [rowD r, rowD ps'], DT.dp (good_plain _ ok.good) (.lst (s34 _ _ upd_same) (.cons (dv30.same sB _) (.cons (dg30.same sB _) .nil))), DT.dp (good_plain _ ok.good) (.lst upd_same (.cons (dk30.same sB _) (.cons (ds30.same sB _) .nil))), ok.shaped, ok.shaped, _, rfl, neD ok ?_⟩
      exact ⟨⟨_, _, _, _, _, rfl⟩, s2630.trans sB⟩
    rintro σ H27 ⟨⟨x8, x9, x10, x11, x12, rfl⟩, s27⟩
    have dsh27 := dsh26.same s27 _
    have hr27 := s27 _ _ hr26
    have dr27 := dr26.same (hidS s27) _
    have g27 := ex_same g26 s27
    clear drv rs2in hrl2 lrs2 lrv2 s27 hr26 dr26 g26 dsh26 rsin
    skip
    refine ⟨_, rfl, rw, racc, rfl, .inl ⟨SqL.of hr27, fun z28 n28 => ?_⟩⟩
    generalize e28 : upd _ z28 _ = H28
    obtain ⟨s28, d28⟩ := dt_tup g27 n28 dr27
    rw [e28] at s28 d28
    clear e28
    have hr28 := s28 _ _ hr27
    have dr28 := dr27.same (hidS s28) _
    have g28 := ex_same g27 s28
    refine fun z29 n29 => ?_
    generalize e29 : upd _ z29 _ = H29
    obtain ⟨s29, d29⟩ := dt_dct g28 n29
    rw [e29] at s29 d29
    clear e29
    have hr29 := s29 _ _ hr28
    have dr29 := dr28.same (hidS s29) _
    have g29 := ex_same g28 s29
    refine ⟨_, rfl, (show 1 ≤ sizeLine by decide), fun l nl => ⟨rw, l, racc, _, rfl, rfl, same_new nl _ _ hr29, upd_same, Nat.le_of_lt (small1000' (by simp only [List.length_cons, List.length_nil]; omega)), fun z30 n30 => ?_⟩⟩
    generalize e30 : upd _ z30 _ = H30
    obtain ⟨s30, d30⟩ := dt_app (ys := [.non]) (es := [.none]) g29 dr29 (.cons .non .nil) nl n30
    rw [e30] at s30 d30
    clear e30
    have hr30 := s30 _ _ hr29
    have dr30 := dr29.same (hidS s30) _
    have g30 := ex_same g29 s30
    refine ⟨_, rfl, (show 2 ≤ sizeLine by decide), fun t nt => ?_⟩
    generalize e31 : upd _ t _ = H31
    obtain ⟨s31, d31⟩ := dt_lst (ds := [.int 0, .int 0]) g30 nt (.cons (.int _) (.cons (.int _) .nil))
    rw [e31] at s31 d31
    clear e31
    have hr31 := s31 _ _ hr30
    have dr31 := dr30.same (hidS s31) _
    have g31 := ex_same g30 s31
    refine ⟨(show 1 ≤ sizeLine by decide), fun l nl => ⟨rw, l, racc, _, rfl, rfl, same_new nl _ _ hr31, upd_same, Nat.le_of_lt (small1000' (by simp only [List.length_cons, List.length_nil]; omega)), fun z32 n32 => ?_⟩⟩
    generalize e32 : upd _ z32 _ = H32
    obtain ⟨s32, d32⟩ := dt_app (ys := [.ref t]) (es := [.list [.int 0, .int 0]]) g31 dr31 (.cons d31 .nil) nl n32
    rw [e32] at s32 d32
    clear e32
    have hr32 := s32 _ _ hr31
    have dr32 := dr31.same (hidS s32) _
    have g32 := ex_same g31 s32
    refine ⟨_, rfl, (show 1 ≤ sizeLine by decide), fun t nt => ?_⟩
    generalize e33 : upd _ t _ = H33
    obtain ⟨s33, d33⟩ := dt_tup (ds := [.int 0]) g32 nt (.cons (.int _) .nil)
    rw [e33] at s33 d33
    clear e33
    have hr33 := s33 _ _ hr32
    have dr33 := dr32.same (hidS s33) _
    have g33 := ex_same g32 s33
    refine ⟨(show 1 ≤ sizeLine by decide), fun l nl => ⟨rw, l, racc, _, rfl, rfl, same_new nl _ _ hr33, upd_same, Nat.le_of_lt (small1000' (by simp only [List.length_cons, List.length_nil]; omega)), fun z34 n34 => ?_⟩⟩
    generalize e34 : upd _ z34 _ = H34
    obtain ⟨s34, d34⟩ := dt_app (ys := [.ref t]) (es := [.tuple [.int 0]]) g33 dr33 (.cons d33 .nil) nl n34
    rw [e34] at s34 d34
    clear e34
    have hr34 := s34 _ _ hr33
    have dr34 := dr33.same (hidS s34) _
    have g34 := ex_same g33 s34
    refine ⟨_, rfl, (show 3 ≤ sizeLine by decide), fun t nt => ?_⟩
    generalize e35 : upd _ t _ = H35
    obtain ⟨s35, d35⟩ := dt_tup (ds := [.int 0, .int 0, .int 0]) g34 nt (.cons (.int _) (.cons (.int _) (.cons (.int _) .nil)))
    rw [e35] at s35 d35
    clear e35
    have hr35 := s35 _ _ hr34
    have dr35 := dr34.same (hidS s35) _
    have g35 := ex_same g34 s35
    refine ⟨(show 1 ≤ sizeLine by decide), fun l nl => ⟨rw, l, racc, _, rfl, rfl, same_new nl _ _ hr35, upd_same, Nat.le_of_lt (small1000' (by simp only [List.length_cons, List.length_nil]; omega)), fun z36 n36 => ?_⟩⟩
    generalize e36 : upd _ z36 _ = H36
    obtain ⟨s36, d36⟩ := dt_app (ys := [.ref t]) (es := [.tuple [.int 0, .int 0, .int 0]]) g35 dr35 (.cons d35 .nil) nl n36
    rw [e36] at s36 d36
    clear e36
    have hr36 := s36 _ _ hr35
    have dr36 := dr35.same (hidS s36) _
    have g36 := ex_same g35 s36
    refine ⟨_, rfl, (show 2 ≤ sizeLine by decide), fun t nt => ?_⟩
    generalize e37 : upd _ t _ = H37
    obtain ⟨s37, d37⟩ := dt_tup (ds := [.int 0, .bool true]) g36 nt (.cons (.int _) (.cons (.bl _) .nil))
    rw [e37] at s37 d37
    clear e37
    have hr37 := s37 _ _ hr36
    have dr37 := dr36.same (hidS s37) _
    have g37 := ex_same g36 s37
    refine ⟨(show 1 ≤ sizeLine by decide), fun l nl => ⟨rw, l, racc, _, rfl, rfl, same_new nl _ _ hr37, upd_same, Nat.le_of_lt (small1000' (by simp only [List.length_cons, List.length_nil]; omega)), fun z38 n38 => ?_⟩⟩
    generalize e38 : upd _ z38 _ = H38
    obtain ⟨s38, d38⟩ := dt_app (ys := [.ref t]) (es := [.tuple [.int 0, .bool true]]) g37 dr37 (.cons d37 .nil) nl n38
    rw [e38] at s38 d38
    clear e38
    have hr38 := s38 _ _ hr37
    have dr38 := dr37.same (hidS s38) _
    have g38 := ex_same g37 s38
    refine ⟨_, rfl, _, rfl, (show 2 ≤ sizeLine by decide), fun t nt => ?_⟩
    generalize e39 : upd _ t _ = H39
    obtain ⟨s39, d39⟩ := dt_tup (ds := [.int (-1), .int 0]) g38 nt (.cons (.int _) (.cons (.int _) .nil))
    rw [e39] at s39 d39
    clear e39
    have hr39 := s39 _ _ hr38
    have dr39 := dr38.same (hidS s39) _
    have g39 := ex_same g38 s39
    refine ⟨(show 1 ≤ sizeLine by decide), fun l nl => ⟨rw, l, racc, _, rfl, rfl, same_new nl _ _ hr39, upd_same, Nat.le_of_lt (small1000' (by simp only [List.length_cons, List.length_nil]; omega)), fun z40 n40 => ?_⟩⟩
    generalize e40 : upd _ z40 _ = H40
    obtain ⟨s40, d40⟩ := dt_app (ys := [.ref t]) (es := [.tuple [.int (-1), .int 0]]) g39 dr39 (.cons d39 .nil) nl n40
    rw [e40] at s40 d40
    clear e40
    have hr40 := s40 _ _ hr39
    have dr40 := dr39.same (hidS s40) _
    have g40 := ex_same g39 s40
    have u28_40 : Same H28 H40 := (((((((((((s29).trans s30).trans s31).trans s32).trans s33).trans s34).trans s35).trans s36).trans s37).trans s38).trans s39).trans s40
    have u29_40 : Same H29 H40 := ((((((((((s30).trans s31).trans s32).trans s33).trans s34).trans s35).trans s36).trans s37).trans s38).trans s39).trans s40
    have u30_40 : Same H30 H40 := (((((((((s31).trans s32).trans s33).trans s34).trans s35).trans s36).trans s37).trans s38).trans s39).trans s40
    have u32_40 : Same H32 H40 := (((((((s33).trans s34).trans s35).trans s36).trans s37).trans s38).trans s39).trans s40
    have u34_40 : Same H34 H40 := (((((s35).trans s36).trans s37).trans s38).trans s39).trans s40
    have u36_40 : Same H36 H40 := (((s37).trans s38).trans s39).trans s40
    have u38_40 : Same H38 H40 := (s39).trans s40
    have d10 : DTs (hid [g] H40) [.non, .ref z28, .str "01", .ref z29, .ref z30, .ref z32, .ref z34, .ref z36, .ref z38, .ref z40] [.none, .tuple (row.map pairD), .str "01", .dict [], .list (row.map pairD ++ [.none]), .list (row.map pairD ++ [.list [.int 0, .int 0]]), .list (row.map pairD ++ [.tuple [.int 0]]), .list (row.map pairD ++ [.tuple [.int 0, .int 0, .int 0]]), .list (row.map pairD ++ [.tuple [.int 0, .bool true]]), .list (row.map pairD ++ [.tuple [.int (-1), .int 0]])] :=
      .cons .non (.cons (d28.same (hidS u28_40) _) (.cons (.str _) (.cons (d29.same (hidS u29_40) _) (.cons (d30.same (hidS u30_40) _) (.cons (d32.same (hidS u32_40) _) (.cons (d34.same (hidS u34_40) _) (.cons (d36.same (hidS u36_40) _) (.cons (d38.same (hidS u38_40) _) (.cons d40 .nil)))))))))
    clear d28 d29 d30 d31 d32 d33 d34 d35 d36 d37 d38 d39 d40 u28_40 u29_40 u30_40 u32_40 u34_40 u36_40 u38_40
    refine ⟨(show 10 ≤ sizeLine by decide), fun od nod => ?_⟩
    generalize e41 : upd _ od _ = H41
    obtain ⟨s41, d41⟩ := dt_lst g40 nod d10
    rw [e41] at s41 d41
    clear e41 nod d10
    have hr41 := s41 _ _ hr40
    have dr41 := dr40.same (hidS s41) _
    have g41 := ex_same g40 s41
    obtain ⟨oacc, eod, dod⟩ := DT.lst' d41
    have hod := (hid_out eod).2
    have lod := dod.length
    clear d41 eod
    have dsh41 := dsh27.same ((((((((((((((s28).trans s29).trans s30).trans s31).trans s32).trans s33).trans s34).trans s35).trans s36).trans s37).trans s38).trans s39).trans s40).trans s41) _
    clear s28 hr28 dr28 g28
    clear s29 hr29 dr29 g29
    clear s30 hr30 dr30 g30
    clear s31 hr31 dr31 g31
    clear s32 hr32 dr32 g32
    clear s33 hr33 dr33 g33
    clear s34 hr34 dr34 g34
    clear s35 hr35 dr35 g35
    clear s36 hr36 dr36 g36
    clear s37 hr37 dr37 g37
    clear s38 hr38 dr38 g38
    clear s39 hr39 dr39 g39
    clear s40 hr40 dr40 g40
    refine ⟨_, rfl, ?_⟩
    refine ⟨_, rfl, (show 2 ≤ sizeLine by decide), fun t nt => ?_⟩
    generalize e42 : upd _ t _ = H42
    obtain ⟨s42, d42⟩ := dt_tup (ds := [.int 0, .int 100]) g41 nt (.cons (.int _) (.cons (.int _) .nil))
    rw [e42] at s42 d42
    clear e42
    have hr42 := s42 _ _ hr41
    have dr42 := dr41.same (hidS s42) _
    have g42 := ex_same g41 s42
    refine ⟨(show 1 ≤ sizeLine by decide), fun l nl => ⟨rw, l, racc, _, rfl, rfl, same_new nl _ _ hr42, upd_same, Nat.le_of_lt (small1000' (by simp only [List.length_cons, List.length_nil]; omega)), fun z43 n43 => ?_⟩⟩
    generalize e43 : upd _ z43 _ = H43
    obtain ⟨s43, d43⟩ := dt_app (ys := [.ref t]) (es := [.tuple [.int 0, .int 100]]) g42 dr42 (.cons d42 .nil) nl n43
    rw [e43] at s43 d43
    clear e43
    have hr43 := s43 _ _ hr42
    have dr43 := dr42.same (hidS s43) _
    have g43 := ex_same g42 s43
    refine ⟨_, rfl, (show 2 ≤ sizeLine by decide), fun t nt => ?_⟩
    generalize e44 : upd _ t _ = H44
    obtain ⟨s44, d44⟩ := dt_tup (ds := [.str "0", .int 0]) g43 nt (.cons (.str _) (.cons (.int _) .nil))
    rw [e44] at s44 d44
    clear e44
    have hr44 := s44 _ _ hr43
    have dr44 := dr43.same (hidS s44) _
    have g44 := ex_same g43 s44
    refine ⟨(show 1 ≤ sizeLine by decide), fun l nl => ⟨rw, l, racc, _, rfl, rfl, same_new nl _ _ hr44, upd_same, Nat.le_of_lt (small1000' (by simp only [List.length_cons, List.length_nil]; omega)), fun z45 n45 => ?_⟩⟩
    generalize e45 : upd _ z45 _ = H45
    obtain ⟨s45, d45⟩ := dt_app (ys := [.ref t]) (es := [.tuple [.str "0", .int 0]]) g44 dr44 (.cons d44 .nil) nl n45
    rw [e45] at s45 d45
    clear e45
    have hr45 := s45 _ _ hr44
    have dr45 := dr44.same (hidS s45) _
    have g45 := ex_same g44 s45
    refine ⟨_, rfl, Nat.zero_le _, fun z46 nt => ?_⟩
    generalize e46 : upd _ z46 _ = H46
    obtain ⟨s46, d46⟩ := dt_lst (ds := []) g45 nt .nil
    rw [e46] at s46 d46
    clear e46
    have hr46 := s46 _ _ hr45
    have dr46 := dr45.same (hidS s46) _
    have g46 := ex_same g45 s46
    refine ⟨(show 2 ≤ sizeLine by decide), fun t nt => ?_⟩
    generalize e47 : upd _ t _ = H47
    obtain ⟨s47, d47⟩ := dt_tup (ds := [.list [], .int 0]) g46 nt (.cons d46 (.cons (.int _) .nil))
    rw [e47] at s47 d47
    clear e47
    have hr47 := s47 _ _ hr46
    have dr47 := dr46.same (hidS s47) _
    have g47 := ex_same g46 s47
    refine ⟨(show 1 ≤ sizeLine by decide), fun l nl => ⟨rw, l, racc, _, rfl, rfl, same_new nl _ _ hr47, upd_same, Nat.le_of_lt (small1000' (by simp only [List.length_cons, List.length_nil]; omega)), fun z48 n48 => ?_⟩⟩
    generalize e48 : upd _ z48 _ = H48
    obtain ⟨s48, d48⟩ := dt_app (ys := [.ref t]) (es := [.tuple [.list [], .int 0]]) g47 dr47 (.cons d47 .nil) nl n48
    rw [e48] at s48 d48
    clear e48
    have hr48 := s48 _ _ hr47
    have dr48 := dr47.same (hidS s48) _
    have g48 := ex_same g47 s48
    refine ⟨_, rfl, fun z49 nt => ?_⟩
    generalize e49 : upd _ z49 _ = H49
    obtain ⟨s49, d49⟩ := dt_dct g48 nt
    rw [e49] at s49 d49
    clear e49
    have hr49 := s49 _ _ hr48
    have dr49 := dr48.same (hidS s49) _
    have g49 := ex_same g48 s49
    refine ⟨(show 2 ≤ sizeLine by decide), fun t nt => ?_⟩
    generalize e50 : upd _ t _ = H50
    obtain ⟨s50, d50⟩ := dt_tup (ds := [.int 0, .dict []]) g49 nt (.cons (.int _) (.cons d49 .nil))
    rw [e50] at s50 d50
    clear e50
    have hr50 := s50 _ _ hr49
    have dr50 := dr49.same (hidS s50) _
    have g50 := ex_same g49 s50
    refine ⟨(show 1 ≤ sizeLine by decide), fun l nl => ⟨rw, l, racc, _, rfl, rfl, same_new nl _ _ hr50, upd_same, Nat.le_of_lt (small1000' (by simp only [List.length_cons, List.length_nil]; omega)), fun z51 n51 => ?_⟩⟩
    generalize e51 : upd _ z51 _ = H51
    obtain ⟨s51, d51⟩ := dt_app (ys := [.ref t]) (es := [.tuple [.int 0, .dict []]]) g50 dr50 (.cons d50 .nil) nl n51
    rw [e51] at s51 d51
    clear e51
    have hr51 := s51 _ _ hr50
    have dr51 := dr50.same (hidS s51) _
    have g51 := ex_same g50 s51
    have u41_51 : Same H41 H51 := (((((((((s42).trans s43).trans s44).trans s45).trans s46).trans s47).trans s48).trans s49).trans s50).trans s51
    have u43_51 : Same H43 H51 := (((((((s44).trans s45).trans s46).trans s47).trans s48).trans s49).trans s50).trans s51
    have u45_51 : Same H45 H51 := (((((s46).trans s47).trans s48).trans s49).trans s50).trans s51
    have u48_51 : Same H48 H51 := ((s49).trans s50).trans s51
    have hod51 := u41_51 _ _ hod
    have dod51 := dod.same (hidS u41_51) _
    rw [show ([PyData.none, .tuple (row.map pairD), .str "01", .dict [], .list (row.map pairD ++ [.none]), .list (row.map pairD ++ [.list [.int 0, .int 0]]), .list (row.map pairD ++ [.tuple [.int 0]]), .list (row.map pairD ++ [.tuple [.int 0, .int 0, .int 0]]), .list (row.map pairD ++ [.tuple [.int 0, .bool true]]), .list (row.map pairD ++ [.tuple [.int (-1), .int 0]])]).length = 10 from rfl] at lod
    refine ⟨(show 4 ≤ sizeLine by decide), fun l nl => ⟨od, l, oacc, _, rfl, rfl, same_new nl _ _ hod51, upd_same, Nat.le_of_lt (small1000' (by simp only [List.length_cons, List.length_nil]; omega)), fun z52 n52 => ?_⟩⟩
    generalize e52 : upd _ z52 _ = H52
    obtain ⟨s52, d52⟩ := dt_app (ys := [.ref z43, .ref z45, .ref z48, .ref z51]) (es := [.list (row.map pairD ++ [.tuple [.int 0, .int 100]]), .list (row.map pairD ++ [.tuple [.str "0", .int 0]]), .list (row.map pairD ++ [.tuple [.list [], .int 0]]), .list (row.map pairD ++ [.tuple [.int 0, .dict []]])]) g51 dod51 (.cons (d43.same (hidS u43_51) _) (.cons (d45.same (hidS u45_51) _) (.cons (d48.same (hidS u48_51) _) (.cons d51 .nil)))) nl n52
    rw [e52] at s52 d52
    clear e52
    have hr52 := s52 _ _ hr51
    have dr52 := dr51.same (hidS s52) _
    have g52 := ex_same g51 s52
    have dsh52 := dsh41.same (u41_51.trans s52) _
    obtain ⟨ods, eods⟩ : ∃ ods : List PyData, ods = [PyData.none, .tuple (row.map pairD), .str "01", .dict [], .list (row.map pairD ++ [.none]), .list (row.map pairD ++ [.list [.int 0, .int 0]]), .list (row.map pairD ++ [.tuple [.int 0]]), .list (row.map pairD ++ [.tuple [.int 0, .int 0, .int 0]]), .list (row.map pairD ++ [.tuple [.int 0, .bool true]]), .list (row.map pairD ++ [.tuple [.int (-1), .int 0]])] ++ [.list (row.map pairD ++ [.tuple [.int 0, .int 100]]), .list (row.map pairD ++ [.tuple [.str "0", .int 0]]), .list (row.map pairD ++ [.tuple [.list [], .int 0]]), .list (row.map pairD ++ [.tuple [.int 0, .dict []]])] := ⟨_, rfl⟩
    rw [← eods] at d52
    have bad : ∀ d ∈ ods, movesD ps' s d = false ∧ ∀ ds, d = .list ds → ds.length < 1000 := by
      have key : ∀ b : PyData, moveD b = false → movesD ps' s (.list (row.map pairD ++ [b])) = false ∧ ∀ ds, PyData.list (row.map pairD ++ [b]) = .list ds → ds.length < 1000 := fun b hb => ⟨bad_false hb, fun ds e => by
        rw [← PyData.list.inj e, List.length_append, List.length_map, List.length_singleton]
        omega⟩
      intro d hd
      rw [eods] at hd
      simp only [List.mem_append, List.mem_cons, List.not_mem_nil, or_false] at hd
      rcases hd with (rfl | rfl | rfl | rfl | rfl | rfl | rfl | rfl | rfl | rfl) | rfl | rfl | rfl | rfl
      · exact ⟨rfl, fun ds e => nomatch e⟩
      · exact ⟨rfl, fun ds e => nomatch e⟩
      · exact ⟨rfl, fun ds e => nomatch e⟩
      · exact ⟨rfl, fun ds e => nomatch e⟩
      · exact key _ (by decide)
      · exact key _ (by decide)
      · exact key _ (by decide)
      · exact key _ (by decide)
      · exact key _ (by decide)
      · exact key _ (by decide)
      · exact key _ (by decide)
      · exact key _ (by decide)
      · exact key _ (by decide)
      · exact key _ (by decide)
    obtain ⟨bacc, ebd, dbd⟩ := DT.lst' d52
    have hbd := (hid_out ebd).2
    have dbd := dbd.same hid_same _
    have lbd := dbd.length
    clear eods d52 ebd dod51 hod51 hod dod lod dsh41 dsh27 d42 d43 d44 d45 d46 d47 d48 d49 d50 d51 u41_51 u43_51 u45_51 u48_51
    clear s42 hr42 dr42 g42
    clear s43 hr43 dr43 g43
    clear s44 hr44 dr44 g44
    clear s45 hr45 dr45 g45
    clear s46 hr46 dr46 g46
    clear s47 hr47 dr47 g47
    clear s48 hr48 dr48 g48
    clear s49 hr49 dr49 g49
    clear s50 hr50 dr50 g50
    clear s51 hr51 dr51 g51
    clear s52 hr52 dr52 g52
    refine ⟨_, rfl, ⟨_, SqL.of hbd⟩, for_list (xs := bacc) (fun i σ H' => (∃ x14 : Option V, σ = [some (.ref p), some (.ref g), some (.ref sh'), some (.int s), some (.ref rw), some (.int o), some (.ref rl2), some (.ref dl), x8, x9, x10, x11, x12, some (.ref od), x14, none, none]) ∧ Same H52 H')
      ⟨⟨_, rfl⟩, Same.refl _⟩ (fun i σ H' _ z => SqL.of (z.2 _ _ hbd)) ?_ ?_⟩
    · rintro i x σ H53 hx ⟨⟨x14, rfl⟩, s53⟩
      have hi := (List.getElem?_eq_some_iff.mp hx).1
      have hri : ods[i]? = some (ods[i]'(by omega)) := List.getElem?_eq_getElem (by omega)
      have hrm : ods[i]'(by omega) ∈ ods := List.getElem_mem _
      have dx := dbd.get hx hri
      generalize ods[i]'(by omega) = d at hri hrm dx
      obtain ⟨b1, b2⟩ := bad d hrm
      refine ⟨_, rfl, _, rfl, _, rfl, .ref sh', x, ps', s, d, rfl, dsh52.same s53 _, S, Fr, dx.same s53 _, b2, fun H54 s54 => ?_⟩
      rw [b1]
      exact ⟨_, _, rfl, rfl, _, rfl, iteF ⟨⟨_, rfl⟩, s53.trans s54⟩⟩
    rintro σ H53 ⟨⟨x14, rfl⟩, s53⟩
    clear dbd bad hbd dsh52 s53 lbd S Fr l6' nl6
    refine ⟨(show 2 ≤ sizeLine by decide), fun t nt => ⟨(show 1 ≤ sizeLine by decide), fun l1 nl => ?_⟩⟩
    obtain ⟨sl1, dl1⟩ := lit1 nt nl
    generalize upd _ l1 _ = HL1 at sl1 dl1 ⊢
    clear nl nt
    refine ⟨(show 2 ≤ sizeLine by decide), fun t nt => ⟨(show 2 ≤ sizeLine by decide), fun u nu => ⟨(show 2 ≤ sizeLine by decide), fun l2 nl => ?_⟩⟩⟩
    obtain ⟨sl2, dl2⟩ := lit2 nt nu nl
    generalize upd _ l2 _ = HL2 at sl2 dl2 ⊢
    clear nl nt nu
    refine ⟨.ref l1, .ref l2, [(0, 1)], 9, _, rfl, dl1.same sl2 _, shuf01, free01, dl2, row_small (by decide), fun HA3 sa3 => ?_⟩
    rw [fm1]
    refine ⟨_, _, rfl, rfl, _, rfl, iteF ?_⟩
    refine ⟨Nat.zero_le _, fun l4 nl => ?_⟩
    obtain ⟨sl4, dl4⟩ := lit0 nl
    generalize upd _ l4 _ = HL4 at sl4 dl4 ⊢
    clear nl
    refine ⟨(show 2 ≤ sizeLine by decide), fun t nt => ⟨(show 1 ≤ sizeLine by decide), fun l5 nl => ?_⟩⟩
    obtain ⟨sl5, dl5⟩ := lit1 nt nl
    generalize upd _ l5 _ = HL5 at sl5 dl5 ⊢
    clear nl nt
    refine ⟨.ref l4, .ref l5, [], 9, _, rfl, dl4.same sl5 _, shuf0, free0, dl5, row_small (by decide), fun HA6 sa6 => ?_⟩
    rw [fm2]
    refine ⟨_, _, rfl, rfl, _, rfl, iteF ?_⟩
    refine ⟨Nat.zero_le _, fun l7 nl => ?_⟩
    obtain ⟨sl7, dl7⟩ := lit0 nl
    generalize upd _ l7 _ = HL7 at sl7 dl7 ⊢
    clear nl
    refine ⟨(show 2 ≤ sizeLine by decide), fun t nt => ⟨(show 1 ≤ sizeLine by decide), fun l8 nl => ?_⟩⟩
    obtain ⟨sl8, dl8⟩ := lit1 nt nl
    generalize upd _ l8 _ = HL8 at sl8 dl8 ⊢
    clear nl nt
    refine ⟨.ref l7, .ref l8, [], 9, _, rfl, dl7.same sl8 _, shuf0, free0, dl8, row_small (by decide), fun HA9 sa9 => ?_⟩
    rw [fm3]
    refine ⟨_, _, rfl, rfl, _, rfl, iteF ?_⟩
    refine ⟨(show 2 ≤ sizeLine by decide), fun t nt => ⟨(show 2 ≤ sizeLine by decide), fun u nu => ⟨(show 2 ≤ sizeLine by decide), fun l10 nl => ?_⟩⟩⟩
    obtain ⟨sl10, dl10⟩ := lit2 nt nu nl
    generalize upd _ l10 _ = HL10 at sl10 dl10 ⊢
    clear nl nt nu
    refine ⟨(show 2 ≤ sizeLine by decide), fun t nt => ⟨(show 2 ≤ sizeLine by decide), fun u nu => ⟨(show 2 ≤ sizeLine by decide), fun l11 nl => ?_⟩⟩⟩
    obtain ⟨sl11, dl11⟩ := lit2 nt nu nl
    generalize upd _ l11 _ = HL11 at sl11 dl11 ⊢
    clear nl nt nu
    refine ⟨.ref l10, .ref l11, [(0, 1), (1, 0)], 9, _, rfl, dl10.same sl11 _, shuf2, free2, dl11, row_small (by decide), fun HA12 sa12 => ?_⟩
    rw [fm4]
    refine ⟨_, _, rfl, rfl, _, rfl, iteT ?_⟩
    refine ⟨(show 2 ≤ sizeLine by decide), fun t nt => ⟨(show 1 ≤ sizeLine by decide), fun l13 nl => ?_⟩⟩
    obtain ⟨sl13, dl13⟩ := lit1 nt nl
    generalize upd _ l13 _ = HL13 at sl13 dl13 ⊢
    clear nl nt
    refine ⟨(show 2 ≤ sizeLine by decide), fun t nt => ⟨(show 1 ≤ sizeLine by decide), fun lr nl => ⟨lr, 300, [.ref t], rfl, rfl, upd_same, by decide, by decide, (show 1 * 300 ≤ sizeLine by decide), fun zr nz => ?_⟩⟩⟩
    have st := ((same_new (o := .tup [.int 0, .int 1]) nt).trans (same_new (o := .lst [.ref t]) nl)).trans (same_new (o := .lst (List.replicate (Int.toNat 300) [V.ref t]).flatten) nz)
    have hz : (upd (upd (upd HL13 t (.tup [.int 0, .int 1])) lr (.lst [.ref t])) zr (.lst (List.replicate (Int.toNat 300) [V.ref t]).flatten)) zr = some (.lst (List.replicate (Int.toNat 300) [V.ref t]).flatten) := upd_same
    have ht := same_new (o := .lst (List.replicate (Int.toNat 300) [V.ref t]).flatten) nz _ _ (same_new (o := .lst [.ref t]) nl _ _ (upd_same (H := HL13) (a := t) (o := .tup [.int 0, .int 1])))
    generalize upd _ zr _ = HZ at st hz ht ⊢
    have dz : DT HZ (.ref zr) (.list (List.replicate 300 (pairD (0, 1)))) := .lst hz (dts_rep (.tup ht (.cons (.int _) (.cons (.int _) .nil))) 300)
    refine ⟨.ref l13, .ref zr, [(0, 1)], 9, _, rfl, dl13.same st _, shuf01, free01, dz, fun ds e => (by rw [← PyData.list.inj e, List.length_replicate]; decide), fun HB sb => ?_⟩
    rw [fm5]
    exact ⟨_, _, rfl, rfl, q _⟩
end
end Cb
set_option Elab.async false
set_option linter.all false
set_option maxRecDepth 100000
set_option maxHeartbeats 4000000
namespace Cb
open PySem PySem.Spec PyProof.Rows L2
theorem kb3 {K : PySem.W.Frag} {fd : FuncData} {p q r : Str} (h : ∀ u v x : Value, bindArgs fd ⟨[], [(r, u), (q, v), (p, x)]⟩ = pure [(p, x), (q, v), (r, u)]) : KBinds K fd [p, q, r] [r, q, p] (kOnly List.reverse) (kOnly List.reverse) where
  to := fun s us ws _ hl => match us, ws, hl with
    | [], [u, v, x], _ => .of_eq (h u v x)
    | [], [], hl => nomatch hl
    | [], [_], hl => nomatch hl
    | [], [_, _], hl => nomatch hl
    | [], _ :: _ :: _ :: _ :: _, hl => by
      have z : (List.reverse (_ :: _ :: _ :: _ :: _) : List Value).length = 3 := hl
      rw [List.length_reverse] at z
      simp at z
  rel := fun {vs us zs ws} r1 r2 => by
    cases r1 with
    | nil => exact vals_rev r2
    | cons _ _ => exact .nil
theorem num_mk {K : PySem.W.Frag} {mg : Str → Option Value} {h : Heap} {x : Str} {i : Int} {t : PySem.Tok} (X : K.In h) (G : h.Ns mainGlobals mg) (e : PySem.W.nsIn K mainGlobals x = some (some (.int i t))) : ∃ t : PySem.Tok, mg x = some (.int i t) := ⟨t, PySem.W.mg_of X G e⟩
section
variable {w : World} {K : PySem.W.Frag} {mg : Str → Option Value}
theorem mk_law (tm : TMov K mg) (td : TDue K mg) (tg : TGen K mg) (ds : Has K mg "_law_shuffle" s_l_shuffle ["_law_generator_here"]) (dr : Has K mg "_law_rule" s_l_rule ["_law_shuffle_here", "_law_spare"]) (br : mg "repr" = none) : TLaw K mg :=
  ⟨tm, td, ⟨tg, ds⟩, ⟨dr⟩, br⟩
theorem ends {l : PySem.W.OpenLaw} {fa : Addr} (hfa : mg "law" = some (.ref fa)) (T : TLaw K mg) (dl : Has K mg "law" s_law ["_law_script"]) :
    ∃ fd : FuncData, (∀ (s : Shared) (u : Value), BindsTo s fd ⟨[u], []⟩ [("_law_script", u)]) ∧ ∀ base : Heap, K.In base → base.Ns mainGlobals mg → FnG l.prog w K mg base CX0 12 fa fd ["_law_script"] (sp_law K) := by
  obtain ⟨f, fd, F, hm, _⟩ := dl
  obtain rfl : f = fa := Value.ref.inj (Option.some.inj (hm.symm.trans hfa))
  refine ⟨fd, ?_, fun base _ _ => c_law T F⟩
  obtain ⟨oc, od, kV, doc, pm, an, cdv, ct, osl, rfl, lk, hcd⟩ := F.ex
  exact fun s u => .of_eq rfl
end
end Cb
set_option Elab.async false
set_option maxRecDepth 100000
open PySem PySem.W PyProof.Rows
set_option maxHeartbeats 0 in
theorem PySem.Challenge.cw_cellbills_k51_rows_of_moves_judged_holds : PySem.Challenge.rw_cellbills_k51_rows_of_moves_judged.Holds := by
  w_on; o_law; k_head; (case hw => w_witness2)
  k_fill
  refine Cb.walk_g (l := PySem.Challenge.rw_cellbills_k51_rows_of_moves_judged) (n := 63) (k := 12) (x := "_law_script") (sp := fun K => Cb.sp_law K) rfl (by decide) rfl ⟨rfl, by decide, by decide⟩ (fun w h Y => PySem.W.kIn_of Y) ?F ?pr
  case pr => exact fun K H a ns _ _ hS => ⟨a, ns, rfl, hS, fun _ => rfl⟩
  case F =>
    intro w mg fa h KX G hmg
    refine' Cb.ends hmg ?T ?dl
    case dl =>
      refine' Cb.has KX G ?a ?l ?c ?k ?b
      (case a => k_is); (case l => k_is); (case c => k_is); (case k => k_is); (case b => exact fun _ _ _ _ _ _ us hl => match us, hl with | [_], _ => rfl)
    case T =>
      refine' Cb.mk_law ?tm ?td ?tg ?ds ?dr ?br
      case ds =>
        refine' Cb.has KX G ?a ?l ?c ?k ?b
        (case a => k_is); (case l => k_is); (case c => k_is); (case k => k_is); (case b => exact fun _ _ _ _ _ _ us hl => match us, hl with | [_], _ => rfl)
      case dr =>
        refine' Cb.has KX G ?a ?l ?c ?k ?b
        (case a => k_is); (case l => k_is); (case c => k_is); (case k => k_is); (case b => exact fun _ _ _ _ _ _ us hl => match us, hl with | [_, _], _ => rfl)
      case br => refine' PySem.W.mg_none_of KX G ?z; (case z => k_is)
      case tg =>
        refine' ⟨?a1, ?a2, ?a3, ?a4, ?z1, ?z2, ?z3, ?z4, ?z5⟩
        case a1 =>
          refine' Cb.has KX G ?a ?l ?c ?k ?b
          (case a => k_is); (case l => k_is); (case c => k_is); (case k => k_is); (case b => exact fun _ _ _ _ _ _ us hl => match us, hl with | [_, _], _ => rfl)
        case a2 =>
          refine' Cb.has KX G ?a ?l ?c ?k ?b
          (case a => k_is); (case l => k_is); (case c => k_is); (case k => k_is); (case b => exact fun _ _ _ _ _ _ us hl => match us, hl with | [_, _], _ => rfl)
        case a3 =>
          refine' Cb.has KX G ?a ?l ?c ?k ?b
          (case a => k_is); (case l => k_is); (case c => k_is); (case k => k_is); (case b => exact fun _ _ _ _ _ _ us hl => match us, hl with | [_, _], _ => rfl)
        case a4 =>
          refine' Cb.has KX G ?a ?l ?c ?k ?b
          (case a => k_is); (case l => k_is); (case c => k_is); (case k => k_is); (case b => exact fun _ _ _ _ _ _ us hl => match us, hl with | [_, _], _ => rfl)
        case z1 => refine' PySem.W.mg_none_of KX G ?z; (case z => k_is)
        case z2 => refine' PySem.W.mg_none_of KX G ?z; (case z => k_is)
        case z3 => refine' PySem.W.mg_none_of KX G ?z; (case z => k_is)
        case z4 => refine' PySem.W.mg_none_of KX G ?z; (case z => k_is)
        case z5 => refine' PySem.W.mg_none_of KX G ?z; (case z => k_is)
      case td =>
        refine' ⟨?d1, ?y1, ?y2, ?y3, ?y4, ?y5⟩
        case d1 =>
          refine' Cb.has KX G ?a ?l ?c ?k ?b
          (case a => k_is); (case l => k_is); (case c => k_is); (case k => k_is); (case b => exact fun _ _ _ _ _ _ us hl => match us, hl with | [_, _, _], _ => rfl)
        case y1 => refine' PySem.W.mg_none_of KX G ?z; (case z => k_is)
        case y2 => refine' PySem.W.mg_none_of KX G ?z; (case z => k_is)
        case y3 => refine' PySem.W.mg_none_of KX G ?z; (case z => k_is)
        case y4 => refine' PySem.W.mg_none_of KX G ?z; (case z => k_is)
        case y5 => refine' PySem.W.mg_none_of KX G ?z; (case z => k_is)
      case tm =>
        refine' ⟨?f1, ?f2, ?f3, ?f4, ?f5, ?f6, ?f7, ?f8, ?fk, ?w1, ?w2, ?w3, ?w4, ?w5, ?w6, ?w7, ?w8, ?w9, ?w10, ?g1, ?g2⟩
        case f1 =>
          refine' Cb.has KX G ?a ?l ?c ?k ?b
          (case a => k_is); (case l => k_is); (case c => k_is); (case k => k_is); (case b => exact fun _ _ _ _ _ _ us hl => match us, hl with | [_], _ => rfl)
        case f2 =>
          refine' Cb.has KX G ?a ?l ?c ?k ?b
          (case a => k_is); (case l => k_is); (case c => k_is); (case k => k_is); (case b => exact fun _ _ _ _ _ _ us hl => match us, hl with | [_], _ => rfl)
        case f3 =>
          refine' Cb.has KX G ?a ?l ?c ?k ?b
          (case a => k_is); (case l => k_is); (case c => k_is); (case k => k_is); (case b => exact fun _ _ _ _ _ _ us hl => match us, hl with | [_], _ => rfl)
        case f4 =>
          refine' Cb.has KX G ?a ?l ?c ?k ?b
          (case a => k_is); (case l => k_is); (case c => k_is); (case k => k_is); (case b => exact fun _ _ _ _ _ _ us hl => match us, hl with | [_], _ => rfl)
        case f5 =>
          refine' Cb.has KX G ?a ?l ?c ?k ?b
          (case a => k_is); (case l => k_is); (case c => k_is); (case k => k_is); (case b => exact fun _ _ _ _ _ _ us hl => match us, hl with | [_], _ => rfl)
        case f6 =>
          refine' Cb.has KX G ?a ?l ?c ?k ?b
          (case a => k_is); (case l => k_is); (case c => k_is); (case k => k_is); (case b => exact fun _ _ _ _ _ _ us hl => match us, hl with | [_], _ => rfl)
        case f7 =>
          refine' Cb.has KX G ?a ?l ?c ?k ?b
          (case a => k_is); (case l => k_is); (case c => k_is); (case k => k_is); (case b => exact fun _ _ _ _ _ _ us hl => match us, hl with | [_, _], _ => rfl)
        case f8 =>
          refine' Cb.has KX G ?a ?l ?c ?k ?b
          (case a => k_is); (case l => k_is); (case c => k_is); (case k => k_is); (case b => exact fun _ _ _ _ _ _ us hl => match us, hl with | [_, _, _], _ => rfl)
        case fk =>
          refine' Cb.hasK KX G ?a ?l ?c ?k (Cb.kb3 ?kb)
          (case a => k_is); (case l => k_is); (case c => k_is); (case k => k_is); (case kb => exact fun _ _ _ => rfl)
        case w1 => refine' PySem.W.mg_none_of KX G ?z; (case z => k_is)
        case w2 => refine' PySem.W.mg_none_of KX G ?z; (case z => k_is)
        case w3 => refine' PySem.W.mg_none_of KX G ?z; (case z => k_is)
        case w4 => refine' PySem.W.mg_none_of KX G ?z; (case z => k_is)
        case w5 => refine' PySem.W.mg_none_of KX G ?z; (case z => k_is)
        case w6 => refine' PySem.W.mg_none_of KX G ?z; (case z => k_is)
        case w7 => refine' PySem.W.mg_none_of KX G ?z; (case z => k_is)
        case w8 => refine' PySem.W.mg_none_of KX G ?z; (case z => k_is)
        case w9 => refine' PySem.W.mg_none_of KX G ?z; (case z => k_is)
        case w10 => refine' PySem.W.mg_none_of KX G ?z; (case z => k_is)
        case g1 => refine' Cb.num_mk KX G ?e; (case e => k_is)
        case g2 => refine' Cb.num_mk KX G ?e; (case e => k_is)
