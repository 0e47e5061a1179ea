"""Point 50: a single change is known to all behind its bound."""

import random

from livingroll.bounds import quick_bound
from livingroll.calm import change_bound, names_held, settle_bound, settled
from livingroll.errors import DeedRefused
from livingroll.losses import FairLosses
from livingroll.setting import Setting
from livingroll.world import World
from tests.helpers import Case


class Bound(Case):
    def test_the_five_kinds(self):
        for setting in (Setting(1, 1, 4), Setting(2, 3, 4, grace=9), Setting(3, 2, 8), Setting(8, 6, 64, grace=200)):
            quick = quick_bound(setting)
            for names in (1, 2, 7):
                told = [change_bound(kind, setting, names) for kind in ("put", "leave", "join", "revive", "crash")]
                turn = names * setting.patience
                self.assertEqual([quick, quick, setting.patience + quick, turn, turn + setting.grace], told)

    def test_another_text(self):
        for kind in ("", "tick", "Put", "puts", "cut", "heal", " put", "alive"):
            self.assert_refused(DeedRefused, (kind,), change_bound, kind, Setting(2, 1, 4), 3)


class Changes(Case):
    def settled_world(self, draw, bits):
        """A world that was settled by a fair stretch, some of its seats down or gone, and the losses of the stretch."""
        patience = draw.randrange(1, 4)
        setting = Setting(bits, patience, 1 << bits, grace=draw.randrange(1, 8), helpers=draw.randrange(4))
        group = sorted(draw.sample(range(setting.seats), draw.randrange(2, setting.seats)))
        world = World(setting, group)
        for seat in draw.sample(group, draw.randrange(len(group) - 1)):
            draw.choice((world.crash, world.leave, lambda seat: world.put(seat, "p")))(seat)
        while world.up() != world.living():
            world.tick()
        digits = [draw.choice((0, 1, 1, 2, 3)) for _ in range(draw.randrange(1, 40))]
        losses = FairLosses(digits, patience)
        for _ in range(settle_bound(setting, names_held(world), len(world.living())) + draw.randrange(2 * bits)):
            world.tick(losses)
        self.assertTrue(settled(world))
        self.assertEqual(1, len({world.beat_of(seat) for seat in world.living()}))
        return world, losses

    def follow(self, world, losses, kind, seat, held):
        """Tick until the bound; then all that lived and live hold the change, and nothing else changed."""
        lived = world.living()
        books = {other: world.book_of(other) for other in lived}
        for _ in range(change_bound(kind, world.setting, len(world.used()))):
            world.tick(losses)
        for other in lived:
            if other in world.living():
                book = world.book_of(other)
                self.assertEqual(held, book.of(seat)[:len(held)])
                if kind != "revive":
                    self.assertEqual([row for row in books[other].rows() if row[0] != seat],
                                     [row for row in book.rows() if row[0] != seat])
        return world.book_of(lived[0]) if lived[0] in world.up() else None

    def many(self, kind, function):
        draw = random.Random("50" + kind)
        done = 0
        while done < 25:
            world, losses = self.settled_world(draw, draw.choice((2, 3, 3)))
            done += function(draw, world, losses)

    def test_put(self):
        def put(draw, world, losses):
            seat = draw.choice(world.living())
            life = world.life_of(seat)
            world.put(seat, "new")
            self.follow(world, losses, "put", seat, (seat, life + 1, "alive", "new"))
            return 1

        self.many("put", put)

    def test_leave(self):
        def leave(draw, world, losses):
            if len(world.living()) < 2:
                return 0
            seat = draw.choice(world.living())
            life = world.life_of(seat)
            world.leave(seat)
            self.follow(world, losses, "leave", seat, (seat, life, "left"))
            return 1

        self.many("leave", leave)

    def test_join(self):
        def join(draw, world, losses):
            free = [seat for seat in range(world.setting.seats) if seat not in world.used()]
            seat = draw.choice(free)
            world.admit(seat, draw.choice(world.living()))
            # The joiner itself is among those that are looked at, and its book equals the others.
            lived = [other for other in world.living() if other != seat]
            books = {other: world.book_of(other) for other in lived}
            for _ in range(change_bound("join", world.setting, len(world.used()))):
                world.tick(losses)
            for other in lived:
                book = world.book_of(other)
                self.assertEqual((seat, 1, "alive", ""), book.of(seat))
                self.assertEqual(books[other].rows(), [row for row in book.rows() if row[0] != seat])
                self.assertEqual(book, world.book_of(seat))
            return 1

        self.many("join", join)

    def test_revive(self):
        def revive(draw, world, losses):
            down = [seat for seat in world.used() if world.state_of(seat) == "down"]
            down = [seat for seat in down if seat in world.book_of(world.living()[0])]
            if not down:
                return 0
            seat = draw.choice(down)
            world.revive(seat)
            self.follow(world, losses, "revive", seat, (seat, world.life_of(seat), "alive", world.worth_of(seat)))
            return 1

        self.many("revive", revive)

    def test_crash(self):
        def crash(draw, world, losses):
            if len(world.living()) < 2:
                return 0
            seat = draw.choice(world.living())
            life = world.life_of(seat)
            world.crash(seat)
            self.follow(world, losses, "crash", seat, (seat, life, "dead"))
            return 1

        self.many("crash", crash)
